/- tick.MulDiv, Sum's reckoning, Half, Clamp. -/
import Derived.Test.YtkbkjbnfkgncdaaDoorTickAdd
namespace Go.Proofs.YtkbkjbnfkgncdaaDoor.TickW
open Go.RowKit
set_option maxHeartbeats 1000000 in
theorem muldiv_reckon (p q r : Addr) (a b c : Int) (ha0 : -9223372036854775808 ≤ a) (ha1 : a ≤ 9223372036854775807) (hb0 : -9223372036854775808 ≤ b) (hb1 : b ≤ 9223372036854775807) (hc0 : 0 < c) (hc1 : c ≤ 9223372036854775807) (w : World)
    (hp : w.cell? p = some (.int .i64 a)) (hq : w.cell? q = some (.int .i64 b)) (hr : w.cell? r = some (.int .i64 c)) :
    Calls Tryd.prog 43 #[.pointer (some p), .pointer (some q), .pointer (some r)] w fun e w' => e = .returned (wv (a * b / c)) ∧ Below w.heap.size w w' := by
  have hm := mul_bounds a b ha0 ha1 hb0 hb1
  have Ha := fun W => product_any a b ha0 ha1 hb0 hb1 W
  have Hp := fun W => over_any (a * b) c hm.1 hm.2 hc0 hc1 W
  have ec : IntKind.u64.wrap c = c := by rw [IntKind.wrap_u64]; omega
  obtain ⟨s1, s0, hs⟩ : ∃ s1 s0 : Int, wv (a * b / c) = .agg #[.int .u64 s1, .int .u64 s0] := ⟨_, _, rfl⟩
  rw [hs] at Hp ⊢
  clear ha0 ha1 hb0 hb1 hs hm hc0 hc1
  generalize a * b = m at *
  have LP := Lib.hid (Lib.lt_of_cell hp)
  have LQ := Lib.hid (Lib.lt_of_cell hq)
  have LR := Lib.hid (Lib.lt_of_cell hr)
  have P := Lib.hid hp
  have Q := Lib.hid hq
  have R := Lib.hid hr
  clear hp hq hr
  go_enter Tryd.func43, Tryd.ntmps43
  go_wp2_with fail
  have hb := al (Below.refl w.heap.size w) (Obj.cells #[.int .u64 0, .int .u64 0] 49)
  have c0 := heap_alloc_new w (Obj.cells #[.int .u64 0, .int .u64 0] 49)
  generalize w.alloc (Obj.cells #[.int .u64 0, .int .u64 0] 49) = W at *
  have P1 := Lib.hid (cell_keep P.out hb)
  have Q1 := Lib.hid (cell_keep Q.out hb)
  have R1 := Lib.hid (cell_keep R.out hb)
  have HB := Lib.hid hb
  have HC := Lib.hid c0
  clear hb c0
  go_region_held3 (fun w' => w'.cell? p = some (.int .i64 a) ∧ w'.cell? q = some (.int .i64 b) ∧ w'.cell? r = some (.int .i64 c)) (first | exact ⟨P1.out, Q1.out, R1.out⟩ | exact ⟨g2.out, h2.out, i2.out⟩ | exact ⟨g4.out, h4.out, i4.out⟩ | exact ⟨set2_keep g4.out LP.out _ _, set2_keep h4.out LQ.out _ _, set2_keep i4.out LR.out _ _⟩) (first
    | (go_at_call 37; (with_reducible refine (Ha _).mono ?_); rintro e w1 ⟨rfl, b1⟩; have g2 := Lib.hid (cell_keep (show W.drew.cell? _ = some _ from P1.out) b1); have h2 := Lib.hid (cell_keep (show W.drew.cell? _ = some _ from Q1.out) b1); have i2 := Lib.hid (cell_keep (show W.drew.cell? _ = some _ from R1.out) b1); have r2 := Lib.hid (row_below b1 (show W.drew.heap[w.heap.size]? = _ from HC.out)); have k2 := Lib.hid (HB.out.trans ((of_drew b1).mono HB.out.size)); clear b1)
    | (go_at_call 44; (with_reducible refine (Hp _).mono ?_); rintro e w3 ⟨rfl, b3⟩; have g4 := Lib.hid (cell_keep g2.out b3); have h4 := Lib.hid (cell_keep h2.out b3); have i4 := Lib.hid (cell_keep i2.out b3); have r4 := Lib.hid (row_below b3 r2.out); have k4 := Lib.hid (k2.out.trans (b3.mono k2.out.size)); have z0 : w3.cell? ⟨w.heap.size, 0, none⟩ = some (.int .u64 0) := cell_of_row w3 w.heap.size 0 _ _ _ r4.out; have z1 : w3.cell? ⟨w.heap.size, 1, none⟩ = some (.int .u64 0) := cell_of_row w3 w.heap.size 1 _ _ _ r4.out; have fr0 := frozen_of_row w3 w.heap.size 0 _ _ r4.out; have fr1 := frozen_of_row w3 w.heap.size 1 _ _ r4.out; clear b3))
  go_wp2
  exact ret_wide_set rfl rfl r4.out ⟨rfl, (k4.out.setCell (Nat.le_refl _) _).setCell (Nat.le_refl _) _⟩
theorem div_bounds (a b c : Int) (ha0 : -9223372036854775808 ≤ a) (ha1 : a ≤ 9223372036854775807) (hb0 : -9223372036854775808 ≤ b) (hb1 : b ≤ 9223372036854775807) : -170141183460469231731687303715884105728 ≤ a * b / c ∧ a * b / c < 170141183460469231731687303715884105728 := by
  have h0 : (a * b).natAbs ≤ 9223372036854775808 * 9223372036854775808 := by
    rw [Int.natAbs_mul]
    exact Nat.mul_le_mul (by omega) (by omega)
  generalize a * b = z at *
  have e := Int.natAbs_ediv_le_natAbs z c
  generalize z / c = q at *
  omega
theorem muldiv_any (a b c : Int) (ha0 : -9223372036854775808 ≤ a) (ha1 : a ≤ 9223372036854775807) (hb0 : -9223372036854775808 ≤ b) (hb1 : b ≤ 9223372036854775807) (hc0 : 0 < c) (hc1 : c ≤ 9223372036854775807) (w : World) :
    Calls Tryd.prog 19 #[.int .i64 a, .int .i64 b, .int .i64 c] w fun e w' => e = .returned (ansV (a * b / c)) ∧ Below w.heap.size w w' := by
  have hmf : ∀ (fn : Fn) (first cap : Array Value) (w : World), (Instr.makeFunc fn first cap).run Tryd.prog w = .ok (.func fn first cap) w := fun _ _ _ _ => rfl
  have kc : ¬ c ≤ 0 := by omega
  go_enter Tryd.func19, Tryd.ntmps19
  go_wp2_with fail
  have hb := al (al (al (Below.refl w.heap.size w) (Obj.cells #[.int .i64 a] 2)) (Obj.cells #[.int .i64 b] 2)) (Obj.cells #[.int .i64 c] 2)
  have c0 := (Below.heap_alloc ((w.alloc (Obj.cells #[.int .i64 a] 2)).alloc (Obj.cells #[.int .i64 b] 2)) (Obj.cells #[.int .i64 c] 2) w.heap.size (by simp; omega)).trans (heap_alloc2_old w (Obj.cells #[.int .i64 a] 2) (Obj.cells #[.int .i64 b] 2))
  have c1 := (Below.heap_alloc ((w.alloc (Obj.cells #[.int .i64 a] 2)).alloc (Obj.cells #[.int .i64 b] 2)) (Obj.cells #[.int .i64 c] 2) (w.heap.size + 1) (by simp)).trans (heap_alloc2_new w (Obj.cells #[.int .i64 a] 2) (Obj.cells #[.int .i64 b] 2))
  have c2 : (((w.alloc (Obj.cells #[.int .i64 a] 2)).alloc (Obj.cells #[.int .i64 b] 2)).alloc (Obj.cells #[.int .i64 c] 2)).heap[w.heap.size + 1 + 1]? = some (Obj.cells #[.int .i64 c] 2) := heap_at (by simp) _
  generalize ((w.alloc (Obj.cells #[.int .i64 a] 2)).alloc (Obj.cells #[.int .i64 b] 2)).alloc (Obj.cells #[.int .i64 c] 2) = W at *
  refine (answer_any 43 (fun args w => enters_of Tryd.func43 (by kernel_rfl) rfl args w) _ (a * b / c) (div_bounds a b c ha0 ha1 hb0 hb1).1 (div_bounds a b c ha0 ha1 hb0 hb1).2 W (fun W2 b2 => muldiv_reckon _ _ _ a b c ha0 ha1 hb0 hb1 hc0 hc1 W2 (cell_of_row W2 _ 0 _ _ _ (row_below b2 c0)) (cell_of_row W2 _ 0 _ _ _ (row_below b2 c1)) (cell_of_row W2 _ 0 _ _ _ (row_below b2 c2)))).mono ?_
  rintro e w2 ⟨rfl, b2⟩
  obtain ⟨n, k, hk⟩ := ansV_tuple (a * b / c)
  rw [hk]
  go_wp2
  go_ret2
  exact ⟨by rw [hk]; rfl, hb.trans (b2.mono hb.size)⟩
theorem muldiv_arg (a b c : Int) (hc : c ≤ 0) (w : World) :
    Calls Tryd.prog 19 #[.int .i64 a, .int .i64 b, .int .i64 c] w fun e w' => e = .returned (.tuple #[.int .i64 0, .int .i64 1]) ∧ Below w.heap.size w w' := by
  go_enter Tryd.func19, Tryd.ntmps19
  go_wp2
  go_ret2
  exact ⟨rfl, al (al (al (Below.refl _ _) _) _) _⟩
theorem clamp_any (n lo hi : Int) (w : World) :
    Calls Tryd.prog 29 #[.int .i64 n, .int .i64 lo, .int .i64 hi] w fun e w' => e = .returned (.int .i64 (if n < lo then lo else if hi < n then hi else n)) ∧ w = w' := by
  by_cases h1 : n < lo
  · rw [if_pos h1]
    go_enter Tryd.func29, Tryd.ntmps29
    go_wp2
    go_ret
    exact ⟨rfl, rfl⟩
  · rw [if_neg h1]
    by_cases h2 : hi < n
    · rw [if_pos h2]
      go_enter Tryd.func29, Tryd.ntmps29
      go_wp2
      go_ret
      exact ⟨rfl, rfl⟩
    · rw [if_neg h2]
      go_enter Tryd.func29, Tryd.ntmps29
      go_wp2
      go_ret
      exact ⟨rfl, rfl⟩
theorem half_raw (a b : Int) (w : World) :
    Calls Tryd.prog 21 #[.int .i64 a, .int .i64 b] w fun e w' => e = .returned (.int .i64 (wrap64 (bits .and .i64 a b + bits .xor .i64 a b / 2))) ∧ w = w' := by
  go_enter Tryd.func21, Tryd.ntmps21
  go_wp2
  go_ret
  exact ⟨rfl, rfl⟩
theorem nat_and_xor : ∀ (n a b : Nat), a < 2 ^ n → b < 2 ^ n → 2 * (a &&& b) + (a ^^^ b) = a + b := by
  intro n
  induction n with
  | zero => intro a b ha hb; have : a = 0 := by omega
            have : b = 0 := by omega
            subst_vars; rfl
  | succ n ih =>
    intro a b ha hb
    have h := ih (a / 2) (b / 2) (by rw [Nat.pow_succ] at ha; omega) (by rw [Nat.pow_succ] at hb; omega)
    have e1 : (a &&& b) / 2 = a / 2 &&& b / 2 := Nat.and_div_two
    have e2 : (a ^^^ b) / 2 = a / 2 ^^^ b / 2 := Nat.xor_div_two
    have e3 : (a &&& b) % 2 = if a % 2 = 1 ∧ b % 2 = 1 then 1 else 0 := by
      have := @Nat.and_mod_two_pow a b 1
      rw [Nat.pow_one] at this
      rw [this]
      rcases Nat.mod_two_eq_zero_or_one a with h1 | h1 <;> rcases Nat.mod_two_eq_zero_or_one b with h2 | h2 <;> rw [h1, h2] <;> decide
    have e4 : (a ^^^ b) % 2 = if a % 2 = b % 2 then 0 else 1 := by
      have := @Nat.xor_mod_two_pow a b 1
      rw [Nat.pow_one] at this
      rw [this]
      rcases Nat.mod_two_eq_zero_or_one a with h1 | h1 <;> rcases Nat.mod_two_eq_zero_or_one b with h2 | h2 <;> rw [h1, h2] <;> decide
    rw [← e1, ← e2] at h
    generalize a &&& b = u at *
    generalize a ^^^ b = v at *
    split at e3 <;> split at e4 <;> omega
theorem top_and (A B : Nat) : (A &&& B) / 9223372036854775808 = (A / 9223372036854775808) &&& (B / 9223372036854775808) := by
  have := @Nat.and_div_two_pow A B 63
  rw [show (2 : Nat) ^ 63 = 9223372036854775808 from by decide] at this
  exact this
theorem top_xor (A B : Nat) : (A ^^^ B) / 9223372036854775808 = (A / 9223372036854775808) ^^^ (B / 9223372036854775808) := by
  have := @Nat.xor_div_two_pow A B 63
  rw [show (2 : Nat) ^ 63 = 9223372036854775808 from by decide] at this
  exact this
theorem half_nums (a b : Int) (A B u v p q r s : Nat) (hs : 2 * u + v = A + B) (hA : (A : Int) = a + 18446744073709551616 * p) (hB : (B : Int) = b + 18446744073709551616 * q)
    (hu : u / 9223372036854775808 = r) (hv : v / 9223372036854775808 = s) (h : 2 * r + s = p + q) (hr : r ≤ 1) (hs1 : s ≤ 1)
    (ha0 : -9223372036854775808 ≤ a) (ha1 : a ≤ 9223372036854775807) (hb0 : -9223372036854775808 ≤ b) (hb1 : b ≤ 9223372036854775807) :
    wrap64 (wrap64 (u : Int) + wrap64 (v : Int) / 2) = (a + b) / 2 := by
  have e1 : wrap64 (u : Int) = (u : Int) - 18446744073709551616 * r := by clear hs hA hB hv h; unfold wrap64; omega
  have e2 : wrap64 (v : Int) = (v : Int) - 18446744073709551616 * s := by clear hs hA hB hu h e1; unfold wrap64; omega
  rw [e1, e2]
  have e3 : (u : Int) - 18446744073709551616 * r + ((v : Int) - 18446744073709551616 * s) / 2 = (a + b) / 2 := by clear hu hv e1 e2; omega
  rw [e3]
  clear e1 e2 e3 hs hA hB hu hv h
  unfold wrap64
  omega
theorem half_eq (a b : Int) (ha0 : -9223372036854775808 ≤ a) (ha1 : a ≤ 9223372036854775807) (hb0 : -9223372036854775808 ≤ b) (hb1 : b ≤ 9223372036854775807) :
    wrap64 (bits .and .i64 a b + bits .xor .i64 a b / 2) = (a + b) / 2 := by
  have e1 : bits .and .i64 a b = IntKind.i64.wrap ((BitVec.ofInt 64 a &&& BitVec.ofInt 64 b).toNat : Int) := rfl
  have e2 : bits .xor .i64 a b = IntKind.i64.wrap ((BitVec.ofInt 64 a ^^^ BitVec.ofInt 64 b).toNat : Int) := rfl
  have w64 : ∀ n : Int, IntKind.i64.wrap n = wrap64 n := fun n => by unfold wrap64; exact IntKind.wrap_i64 n
  rw [e1, e2, BitVec.toNat_and, BitVec.toNat_xor, w64, w64]
  have lt1 := (BitVec.ofInt 64 a).isLt
  have lt2 := (BitVec.ofInt 64 b).isLt
  have F : ∀ x : Int, -9223372036854775808 ≤ x → x ≤ 9223372036854775807 → ∃ p : Nat, p ≤ 1 ∧ ((BitVec.ofInt 64 x).toNat : Int) = x + 18446744073709551616 * p ∧ (BitVec.ofInt 64 x).toNat / 9223372036854775808 = p := by
    intro x h0 h1
    have t : (BitVec.ofInt 64 x).toNat = (x % 18446744073709551616).toNat := by rw [BitVec.toNat_ofInt]; rfl
    rw [t]
    rcases Int.lt_or_le x 0 with h | h
    · exact ⟨1, by decide, by omega, by omega⟩
    · exact ⟨0, by decide, by omega, by omega⟩
  obtain ⟨p, hp1, hp2, hp3⟩ := F a ha0 ha1
  obtain ⟨q, hq1, hq2, hq3⟩ := F b hb0 hb1
  have hsum := nat_and_xor 64 _ _ lt1 lt2
  have d1 := top_and (BitVec.ofInt 64 a).toNat (BitVec.ofInt 64 b).toNat
  have d2 := top_xor (BitVec.ofInt 64 a).toNat (BitVec.ofInt 64 b).toNat
  rw [hp3, hq3] at d1 d2
  have G : ∀ p q : Nat, p ≤ 1 → q ≤ 1 → 2 * (p &&& q) + (p ^^^ q) = p + q ∧ (p &&& q) ≤ 1 ∧ (p ^^^ q) ≤ 1 := by
    intro p q h1 h2
    rcases (show p = 0 ∨ p = 1 by omega) with rfl | rfl <;> rcases (show q = 0 ∨ q = 1 by omega) with rfl | rfl <;> decide
  obtain ⟨g1, g2, g3⟩ := G p q hp1 hq1
  clear lt1 lt2 F G hp3 hq3
  generalize (BitVec.ofInt 64 a).toNat = A at *
  generalize (BitVec.ofInt 64 b).toNat = B at *
  generalize A &&& B = u at *
  generalize A ^^^ B = v at *
  generalize p &&& q = r at *
  generalize p ^^^ q = t at *
  have H := half_nums a b A B u v p q r t hsum hp2 hq2 d1 d2 g1 g2 g3 ha0 ha1 hb0 hb1
  exact H
theorem half_any (a b : Int) (ha0 : -9223372036854775808 ≤ a) (ha1 : a ≤ 9223372036854775807) (hb0 : -9223372036854775808 ≤ b) (hb1 : b ≤ 9223372036854775807) (w : World) :
    Calls Tryd.prog 21 #[.int .i64 a, .int .i64 b] w fun e w' => e = .returned (.int .i64 ((a + b) / 2)) ∧ w = w' := by
  rw [← half_eq a b ha0 ha1 hb0 hb1]
  exact half_raw a b w
end Go.Proofs.YtkbkjbnfkgncdaaDoor.TickW
