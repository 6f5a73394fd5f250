/- The document's numbers: what Mul reckons with. -/
import Derived.Test.YtkbkjbnfkgncdaaDoorTickRSum
namespace Go.Proofs.YtkbkjbnfkgncdaaDoor.TickW
open Go.RowKit
theorem val_set : ∀ (rs : List Nat) (k d v : Nat), rs[k]? = some d → val (rs.set k v) + d * 65536 ^ k = val rs + v * 65536 ^ k := by
  intro rs
  induction rs with
  | nil => intro k d v h; simp at h
  | cons r rs ih =>
    intro k d v h
    cases k with
    | zero =>
      simp only [List.getElem?_cons_zero, Option.some.injEq] at h
      subst h
      simp only [List.set_cons_zero, val]
      omega
    | succ k =>
      rw [List.getElem?_cons_succ] at h
      have := ih k d v h
      simp only [List.set_cons_succ, val, Nat.pow_succ]
      have e1 : d * (65536 ^ k * 65536) = 65536 * (d * 65536 ^ k) := by rw [← Nat.mul_assoc, Nat.mul_comm]
      have e2 : v * (65536 ^ k * 65536) = 65536 * (v * 65536 ^ k) := by rw [← Nat.mul_assoc, Nat.mul_comm]
      rw [e1, e2]
      omega
theorem mul_step (V V' X0 di yd d cy Bi Bj yj s : Nat) (hs : s = di * yd + d + cy) (h : V + cy * (Bi * Bj) = X0 + di * (yj * Bi)) (hv : V' + d * (Bi * Bj) = V + (s % 65536) * (Bi * Bj)) :
    V' + (s / 65536) * (Bi * (Bj * 65536)) = X0 + di * ((yj + yd * Bj) * Bi) := by
  have e1 : (s / 65536) * (Bi * (Bj * 65536)) = (s / 65536 * 65536) * (Bi * Bj) := by rw [← Nat.mul_assoc Bi, Nat.mul_comm (Bi * Bj) 65536, ← Nat.mul_assoc]
  have e2 : s * (Bi * Bj) = (s % 65536) * (Bi * Bj) + (s / 65536 * 65536) * (Bi * Bj) := by
    rw [← Nat.add_mul]
    congr 1
    omega
  have e3 : s * (Bi * Bj) = di * yd * (Bi * Bj) + d * (Bi * Bj) + cy * (Bi * Bj) := by rw [hs, Nat.add_mul, Nat.add_mul]
  have e4 : di * ((yj + yd * Bj) * Bi) = di * (yj * Bi) + di * yd * (Bi * Bj) := by
    rw [Nat.add_mul, Nat.mul_add]
    congr 1
    ac_rfl
  rw [e1, e4]
  generalize (s / 65536 * 65536) * (Bi * Bj) = a1 at *
  generalize (s % 65536) * (Bi * Bj) = a2 at *
  generalize s * (Bi * Bj) = a3 at *
  generalize di * yd * (Bi * Bj) = a4 at *
  generalize d * (Bi * Bj) = a5 at *
  generalize cy * (Bi * Bj) = a6 at *
  generalize di * (yj * Bi) = a7 at *
  omega
theorem mod_pow_succ (x i : Nat) : x % 65536 ^ (i + 1) = x % 65536 ^ i + x / 65536 ^ i % 65536 * 65536 ^ i := by
  rw [Nat.pow_succ, Nat.mod_mul, Nat.mul_comm (65536 ^ i)]
theorem mul_row (x y i : Nat) : x % 65536 ^ i * y + x / 65536 ^ i % 65536 * (y * 65536 ^ i) = x % 65536 ^ (i + 1) * y := by
  rw [mod_pow_succ, Nat.add_mul]
  congr 1
  ac_rfl
theorem mul_bound (x y : Nat) : x * y < 65536 ^ ((dl x).length + (dl y).length) := by
  rw [Nat.pow_add]
  exact Nat.mul_lt_mul'' (lt_pow_len x) (lt_pow_len y)
theorem mul_index {x y i j V cy : Nat} (h : V + cy * (65536 ^ i * 65536 ^ j) = x % 65536 ^ i * y + x / 65536 ^ i % 65536 * (y % 65536 ^ j * 65536 ^ i)) (hc : 0 < cy) : i + j < (dl x).length + (dl y).length := by
  have h1 : x / 65536 ^ i % 65536 * (y % 65536 ^ j * 65536 ^ i) ≤ x / 65536 ^ i % 65536 * (y * 65536 ^ i) := Nat.mul_le_mul_left _ (Nat.mul_le_mul_right _ (Nat.mod_le _ _))
  have h2 := mul_row x y i
  have h3 : x % 65536 ^ (i + 1) * y ≤ x * y := Nat.mul_le_mul_right _ (Nat.mod_le _ _)
  have h4 := mul_bound x y
  have h5 : 65536 ^ (i + j) ≤ cy * (65536 ^ i * 65536 ^ j) := by
    rw [Nat.pow_add]
    exact Nat.le_mul_of_pos_left _ hc
  have h6 : 65536 ^ (i + j) < 65536 ^ ((dl x).length + (dl y).length) := by
    generalize 65536 ^ (i + j) = a0 at *
    generalize 65536 ^ ((dl x).length + (dl y).length) = a1 at *
    generalize cy * (65536 ^ i * 65536 ^ j) = a2 at *
    generalize x / 65536 ^ i % 65536 * (y % 65536 ^ j * 65536 ^ i) = a3 at *
    generalize x / 65536 ^ i % 65536 * (y * 65536 ^ i) = a4 at *
    generalize x % 65536 ^ (i + 1) * y = a5 at *
    generalize x % 65536 ^ i * y = a6 at *
    generalize x * y = a7 at *
    omega
  exact (Nat.pow_lt_pow_iff_right (by decide)).1 h6
theorem u32s_set (rs : List Nat) (k v : Nat) : (u32s rs).toArray.setIfInBounds k (.int .u32 (v : Int)) = (u32s (rs.set k v)).toArray := by
  rw [List.setIfInBounds_toArray]
  unfold u32s
  rw [List.map_set]
theorem row_get {w : World} {g : Nat} {rs : List Nat} (h : w.heap[g]? = some (.cells (u32s rs).toArray 54 (0, 0))) {k d : Nat} (hk : rs[k]? = some d) : w.cell? ⟨g, k, none⟩ = some (.int .u32 (d : Int)) := by
  rw [cell_of_row w g k _ _ _ h, List.getElem?_toArray]
  unfold u32s
  rw [List.getElem?_map, hk]
  rfl
theorem row_dl {w : World} {g : Nat} {rs : List Nat} (h : w.heap[g]? = some (.cells (u32s rs).toArray 54 (0, 0))) : DL w (some ⟨g, 0, none⟩) rs := by
  intro k d hk
  refine ⟨_, rfl, ?_⟩
  have ha : (⟨g, 0, none⟩ : Addr).add k = ⟨g, k, none⟩ := by unfold Addr.add; split <;> simp_all
  rw [ha]
  exact row_get h hk
theorem made_u32 (n : Nat) : madeCells #[.int .u32 0] n = (u32s (List.replicate n 0)).toArray := by
  apply Array.toList_inj.1
  rw [toList_madeCells_one]
  unfold u32s
  simp
theorem val_zeros (n : Nat) : val (List.replicate n 0) = 0 := by
  induction n with
  | zero => rfl
  | succ n ih => rw [List.replicate_succ, val, ih]
theorem u64_small {n : Nat} (h : n ≤ 4294967295) : IntKind.u64.wrap (n : Int) = (n : Int) := by rw [IntKind.wrap_u64]; omega
theorem u64_chain (d yd d0 c0 : Nat) (h1 : d < 65536) (h2 : yd < 65536) (h3 : d0 < 65536) (h4 : c0 < 65536) : IntKind.u64.wrap (IntKind.u64.wrap (IntKind.u64.wrap (IntKind.u64.wrap (d : Int) * IntKind.u64.wrap (yd : Int)) + IntKind.u64.wrap (d0 : Int)) + IntKind.u64.wrap (c0 : Int)) = ((d * yd + d0 + c0 : Nat) : Int) := by
  have hm : d * yd ≤ 65535 * 65535 := Nat.mul_le_mul (by omega) (by omega)
  rw [u64_small (n := d) (by omega), u64_small (n := yd) (by omega), u64_small (n := d0) (by omega), u64_small (n := c0) (by omega), ← Int.natCast_mul]
  generalize d * yd = m at *
  rw [u64_small (n := m) (by omega), ← Int.natCast_add, u64_small (n := m + d0) (by omega), ← Int.natCast_add, u64_small (n := m + d0 + c0) (by omega)]
end Go.Proofs.YtkbkjbnfkgncdaaDoor.TickW
