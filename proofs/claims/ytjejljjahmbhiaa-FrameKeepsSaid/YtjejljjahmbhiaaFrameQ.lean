/- One bit of a frame is another: it is no frame. -/
import Derived.Test.YtjejljjahmbhiaaFrameEq
namespace Go.Proofs.Ytjejljjahmbhiaa.FrameW
open Go.RowKit
theorem rc_not {l : List Int} (h : ¬ okC l) : rcE l ≠ 0 ∧ rcV l = CV 0 0 0 0 0 := by
  by_cases hk : chk l 1 34 34 = 0
  · obtain ⟨a, b⟩ := rc_bad hk h
    exact ⟨by rw [a]; decide, b⟩
  · obtain ⟨a, b⟩ := rc_no hk
    exact ⟨by rw [a]; exact hk, b⟩
theorem rd_not {l : List Int} (h : ¬ okD l) : rdE l ≠ 0 ∧ rdV l = DZ := by
  by_cases hk : chk l 2 64 1518 = 0
  · obtain ⟨a, b⟩ := rd_bad hk h
    exact ⟨by rw [a]; decide, b⟩
  · obtain ⟨a, b⟩ := rd_no hk
    exact ⟨by rw [a]; exact hk, b⟩
theorem be_inj {k a b : Nat} (ha : a < 256 ^ k) (hb : b < 256 ^ k) (h : be k a = be k b) : a = b := by rw [← val_be k a ha, ← val_be k b hb, h]
/-- A sealed row in which one byte is another is not sealed. -/
theorem flip_sealed {B : List Int} (hB : By B) {j : Nat} {x y : Int} (hx : (sealed B)[j]? = some x) (hy : 0 ≤ y ∧ y < 256) (hne : y ≠ x) (C : List Int) (hC : (sealed B).set j y = sealed C) : False := by
  have hl : B.length = C.length := by
    have := congrArg List.length hC
    rw [List.length_set, sealed_len, sealed_len] at this
    omega
  have hj : j < (sealed B).length := by
    rcases Nat.lt_or_ge j (sealed B).length with h | h
    · exact h
    · rw [List.getElem?_eq_none h] at hx; cases hx
  by_cases hjB : j < B.length
  · have e1 : (B ++ be 4 (crc B)).set j y = B.set j y ++ be 4 (crc B) := List.set_append_left _ _ hjB
    have e2 : B.set j y ++ be 4 (crc B) = C ++ be 4 (crc C) := e1.symm.trans hC
    obtain ⟨e3, e4⟩ := List.append_inj e2 (by rw [List.length_set]; exact hl)
    have e5 : crc B = crc C := be_inj (Nat.lt_of_lt_of_le (crc_lt B) (by decide)) (Nat.lt_of_lt_of_le (crc_lt C) (by decide)) e4
    have hxB : B[j]? = some x := by
      have : (B ++ be 4 (crc B))[j]? = some x := hx
      rwa [List.getElem?_append_left hjB] at this
    have sp : B = B.take j ++ x :: B.drop (j + 1) := by
      conv => lhs; rw [← List.take_append_drop j B]
      rw [List.drop_eq_getElem_cons hjB]
      rw [List.getElem?_eq_getElem hjB] at hxB
      rw [Option.some.inj hxB]
    have sp2 : C = B.take j ++ y :: B.drop (j + 1) := by
      rw [← e3, List.set_eq_take_append_cons_drop, if_pos hjB]
    have h1 : By (B.take j ++ x :: B.drop (j + 1)) := by rw [← sp]; exact hB
    have h2 : By (B.take j ++ y :: B.drop (j + 1)) := by
      refine (hB.take j).append ?_
      intro z hz
      rcases List.mem_cons.1 hz with rfl | hz
      · exact hy
      · exact hB.drop _ z hz
    have h3 : crc (B.take j ++ x :: B.drop (j + 1)) = crc (B.take j ++ y :: B.drop (j + 1)) := by rw [← sp, ← sp2]; exact e5
    exact hne (crc_other h1 h2 h3).symm
  · have e1 : (B ++ be 4 (crc B)).set j y = B ++ (be 4 (crc B)).set (j - B.length) y := List.set_append_right _ _ (by omega)
    have e2 : B ++ (be 4 (crc B)).set (j - B.length) y = C ++ be 4 (crc C) := e1.symm.trans hC
    obtain ⟨e3, -⟩ := List.append_inj e2 hl
    rw [← e3] at hC
    have h1 : ((sealed B).set j y)[j]? = (sealed B)[j]? := by rw [hC]
    rw [List.getElem?_set_self hj, hx] at h1
    exact hne (Option.some.inj h1)
theorem set_by {l : List Int} (h : By l) (j : Nat) {y : Int} (hy : 0 ≤ y ∧ y < 256) : By (l.set j y) := by
  intro z hz
  rcases List.mem_or_eq_of_mem_set hz with h1 | h1
  · exact h z h1
  · rw [h1]; exact hy
theorem flip_ctl {k f cy cr cl : Int} {j : Nat} {x y : Int} (hx : (ctl k f cy cr cl)[j]? = some x) (hy : 0 ≤ y ∧ y < 256) (hne : y ≠ x) : rcE ((ctl k f cy cr cl).set j y) ≠ 0 ∧ rcV ((ctl k f cy cr cl).set j y) = CV 0 0 0 0 0 := by
  refine rc_not (fun o => ?_)
  obtain ⟨h1, -, -, h4⟩ := chk_ok.1 o.1
  have h5 := sum_tail (set_by (ctl_by k f cy cr cl) j hy) (by omega) h4
  exact flip_sealed (ctlB_by k f cy cr cl) hx hy hne _ h5
theorem flip_dat {c l n : Int} {p : List Int} {s : Int} (hp : By p) {j : Nat} {x y : Int} (hx : (dat c l n p s)[j]? = some x) (hy : 0 ≤ y ∧ y < 256) (hne : y ≠ x) : rdE ((dat c l n p s).set j y) ≠ 0 ∧ rdV ((dat c l n p s).set j y) = DZ := by
  refine rd_not (fun o => ?_)
  obtain ⟨h1, -, -, h4⟩ := chk_ok.1 o.1
  have h5 := sum_tail (set_by (dat_by c l n hp s) j hy) (by omega) h4
  exact flip_sealed (datB_by c l n hp s) hx hy hne _ h5
/-- A store into a row of our own. -/
theorem OB.store {w : World} {base g m c : Nat} {xs : List Int} (h : OB w base (.slice (some ⟨g, 0, none⟩) m c) xs) (hm : m = xs.length) (j : Nat) {y : Int} (hy : 0 ≤ y ∧ y < 256) : OB (w.setCell ⟨g, j, none⟩ (.int .u8 y)) base (.slice (some ⟨g, 0, none⟩) m c) (xs.set j y) := by
  subst hm
  have h2 := (World.ownsRow.stored h.1 j (.int .u8 y)).1
  refine ⟨?_, set_by h.2 j hy⟩
  rw [List.length_set]
  have e : u8s (xs.set j y) = (u8s xs).set j (.int .u8 y) := by unfold u8s; rw [List.map_set]
  rw [e]
  exact h2
theorem OB.addr {w : World} {base m c : Nat} {A : Option Addr} {xs : List Int} (h : OB w base (.slice A m c) xs) (hl : 0 < xs.length) : ∃ g, A = some ⟨g, 0, none⟩ ∧ m = xs.length ∧ base ≤ g := by
  obtain ⟨h1, h2⟩ := h
  rcases h1.2 with ⟨hv, h0⟩ | ⟨g, cap, cur, hv, hb, -⟩
  · omega
  · injection hv with e1 e2 e3
    exact ⟨g, e1, e2, hb⟩
theorem OB.cell {w : World} {base g m c : Nat} {xs : List Int} (h : OB w base (.slice (some ⟨g, 0, none⟩) m c) xs) (hm : m = xs.length) {j : Nat} {x : Int} (hx : xs[j]? = some x) : w.cell? ⟨g, j, none⟩ = some (.int .u8 x) ∧ w.frozen? ⟨g, j, none⟩ = false := by
  subst hm
  have hj : j < xs.length := by
    rcases Nat.lt_or_ge j xs.length with h | h
    · exact h
    · rw [List.getElem?_eq_none h] at hx; cases hx
  refine ⟨?_, World.ownsRow.frozenAt h.1 j⟩
  rw [World.ownsRow.cellAt h.1 j (by omega)]
  unfold u8s
  rw [List.getElem?_map, hx]
  rfl
/-- The bit that is turned. -/
theorem flip_byte {x : Int} (h0 : 0 ≤ x) (h1 : x < 256) {t : Nat} (ht : t < 8) : 0 ≤ bits .xor .u8 x ((2 ^ t : Nat) : Int) ∧ bits .xor .u8 x ((2 ^ t : Nat) : Int) < 256 ∧ bits .xor .u8 x ((2 ^ t : Nat) : Int) ≠ x := by
  obtain ⟨n, rfl⟩ := Int.eq_ofNat_of_zero_le h0
  have hb : 2 ^ t < 256 := Nat.lt_of_lt_of_le (Nat.pow_lt_pow_right (by decide) ht) (by decide)
  have hn : n < 256 := by omega
  rw [u8_xor_nat n (2 ^ t) hn hb]
  have hx : n ^^^ 2 ^ t < 2 ^ 8 := Nat.xor_lt_two_pow (by omega) (by omega)
  refine ⟨by omega, by omega, fun e => ?_⟩
  have e2 : n ^^^ 2 ^ t = n ^^^ 0 := by rw [Nat.xor_zero]; omega
  have e3 := xor_right e2
  have := Nat.two_pow_pos t
  omega
theorem shl_run (t : Nat) (y : Int) (hy : y = (t : Int)) (ht : t < 8) (w : World) : (Op.shift .shl .u8 1 .u64 y).run Try.prog w = .ok (.int .u8 ((2 ^ t : Nat) : Int)) w := by
  subst hy
  have hb : 2 ^ t < 256 := Nat.lt_of_lt_of_le (Nat.pow_lt_pow_right (by decide) ht) (by decide)
  rw [shift_shl_any .u8 .u64 _ _ (by omega), Sem.run_pure]
  congr 2
  rw [IntKind.wrap_u8', show min ((t : Nat) : Int).toNat IntKind.u8.bits = t by show min ((t : Nat) : Int).toNat 8 = t; omega, Int.one_mul, show (2 : Int) ^ t = ((2 ^ t : Nat) : Int) by rw [Int.natCast_pow]; rfl]
  generalize 2 ^ t = z at *
  omega
end Go.Proofs.Ytjejljjahmbhiaa.FrameW
