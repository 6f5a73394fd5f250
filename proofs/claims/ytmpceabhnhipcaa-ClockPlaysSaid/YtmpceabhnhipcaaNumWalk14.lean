/- Walks of the document's Int where a part is cut off. -/
import Derived.Test.YtmpceabhnhipcaaNumWalk13
namespace Go.Proofs.Ytmpceabhnhipcaa.NumW
open Go.RowKit NumP
/-- What the document's Int reckons with where a part is cut off. -/
structure Low (E f d n0 t rest half : Nat) : Prop where
  h1 : E + d = 1075
  h2 : 1 ≤ d ∧ d ≤ 53
  h3 : n0 ≤ 4503599627370496
  g1 : (4503599627370496 + f) / 2 ^ d = n0
  g2 : t = n0 * 2 ^ d
  g3 : (4503599627370496 + f) % 2 ^ d = rest
  g4 : t + rest = 4503599627370496 + f
  gn : (4503599627370496 + (f : Int)) / 2 ^ d = (n0 : Int)
  gt : IntKind.u64.wrap ((n0 : Int) * 2 ^ d) = (t : Int)
  gr : IntKind.u64.wrap (4503599627370496 + (f : Int) - (t : Int)) = (rest : Int)
  gh : IntKind.u64.wrap (2 ^ (d - 1)) = (half : Int)
  ghp : 2 * half = 2 ^ d
theorem low_of (E f : Nat) (hf : f < 4503599627370496) (h1 : 1022 ≤ E) (h2 : E ≤ 1074) : ∃ d n0 t rest half, Low E f d n0 t rest half := by
  have hd : 1 ≤ 1075 - E ∧ 1075 - E ≤ 53 := by omega
  generalize hde : 1075 - E = d at *
  have hp : 0 < 2 ^ d := Nat.two_pow_pos _
  have h2d : 2 ≤ 2 ^ d := by have := Nat.pow_le_pow_right (n := 2) (by decide) hd.1; simpa using this
  have hhalf : 2 * 2 ^ (d - 1) = 2 ^ d := by rw [Nat.mul_comm, ← Nat.pow_succ, Nat.succ_eq_add_one, Nat.sub_add_cancel hd.1]
  have hle : (2 : Nat) ^ (d - 1) ≤ 2 ^ 52 := Nat.pow_le_pow_right (by decide) (by omega)
  have hsum := Nat.div_add_mod (4503599627370496 + f) (2 ^ d)
  rw [Nat.mul_comm] at hsum
  have hn : (4503599627370496 + f) / 2 ^ d ≤ (4503599627370496 + f) / 2 := Nat.div_le_div_left h2d (by decide)
  refine ⟨d, (4503599627370496 + f) / 2 ^ d, (4503599627370496 + f) / 2 ^ d * 2 ^ d, (4503599627370496 + f) % 2 ^ d, 2 ^ (d - 1), by omega, hd, by omega, rfl, rfl, rfl, hsum, ?_, ?_, ?_, ?_, hhalf⟩
  · rw [Int.natCast_ediv, Int.natCast_pow]; rfl
  · have e : ((((4503599627370496 + f) / 2 ^ d : Nat) : Int) * 2 ^ d) = (((4503599627370496 + f) / 2 ^ d * 2 ^ d : Nat) : Int) := by rw [Int.natCast_mul, Int.natCast_pow]; rfl
    rw [e, IntWalk.u64_in _ (by omega)]
  · rw [IntWalk.u64_in _ (by omega)]; omega
  · have e : (2 : Int) ^ (d - 1) = ((2 ^ (d - 1) : Nat) : Int) := by rw [Int.natCast_pow]; rfl
    rw [e, IntWalk.u64_in _ (by omega)]
set_option maxHeartbeats 1000000 in
set_option maxRecDepth 100000 in
theorem refInt_lowuppos (x : Nat) (hx : x < 18446744073709551616) (h9 : kind x ≠ 9) (hi : mag x < 9218868437227405312) (E f : Nat) (hE : mag x / 4503599627370496 = E) (hf : mag x % 4503599627370496 = f) (d n0 t rest half : Nat) (h1 : 1022 ≤ E) (h2 : E ≤ 1074) (L : Low E f d n0 t rest half) (hs : x < 9223372036854775808) (hc : half < rest) (w : World) :
    Calls Try.prog 36 #[.float .f64 x] w fun e w' => e = .returned (intVal (intAns x)) ∧ w = w' := by
  have HO := Lib.hid (one_num x (fun z => h9 ((kind9_iff x).2 z)))
  have k9 : (kind x == 9) = false := by rw [beq_eq_false_iff_ne]; exact h9
  have k1 : (kind x == 1) = false := by rw [beq_eq_false_iff_ne]; exact (kind_fin x hi).1
  have k8 : (kind x == 8) = false := by rw [beq_eq_false_iff_ne]; exact (kind_fin x hi).2
  have ex := expo x hx
  have fr := frac x hx
  have HX := Lib.hid hx
  have d1 : decide ((9223372036854775808 : Int) ≤ (x : Int)) = false := by rw [decide_eq_false_iff_not]; omega
  obtain ⟨hd1, hd2, hd3, g1', g2', g3', g4', gn, gt, gr, gh, ghp⟩ := L
  have hw : wm (mag x) = near (4503599627370496 + f) d := by rw [wm_low (mag x) (by omega) (by omega), hf, show 1075 - mag x / 4503599627370496 = d by omega]
  have dd : (-((E : Int) - 1075)).toNat = d := by omega
  have hnear : wm (mag x) = n0 + (if half < rest ∨ (half = rest ∧ n0 % 2 = 1) then 1 else 0) := by
    rw [hw]; unfold near
    rw [g1', g3', ← ghp]
    congr 1
    by_cases z : half < rest ∨ (half = rest ∧ n0 % 2 = 1)
    · rw [if_pos z, if_pos (by omega)]
    · rw [if_neg z, if_neg (by omega)]
  have hb : wm (mag x) ≤ 4503599627370497 := by rw [hnear]; split <;> omega
  have hn := intN_pos x hs
  have HA := Lib.hid (ans_ok x h9 hi (by rw [hn]; omega) (by rw [hn]; omega))
  have HF : Hid (((n0 : Int) + 1 : Int) = intN x) := Lib.hid (by rw [hn, hnear]; rw [if_pos (Or.inl hc)]; omega)
  have c1 : decide (half < rest) = true := by rw [decide_eq_true_eq]; exact hc
  have G1 : (4503599627370496 + (f : Int)) / 2 ^ d = (n0 : Int) := gn
  have G2 : IntKind.u64.wrap ((n0 : Int) * 2 ^ d) = (t : Int) := gt
  have G3 : IntKind.u64.wrap (4503599627370496 + (f : Int) - (t : Int)) = (rest : Int) := gr
  have G4 : IntKind.u64.wrap (2 ^ (d - 1)) = (half : Int) := gh
  have b0 : n0 ≤ 4503599627370496 := hd3
  clear hnear hb hn hw g1' g2' g3' g4' gn gt gr gh ghp hd3 hc
  rw [hE] at ex
  rw [hf] at fr
  have hm : f < 4503599627370496 := by omega
  clear hE hf hi h9 hx hs
  go_enter Try.func36, Try.ntmps36
  go_wp2_with (first | (go_at_call 47; refine (refOne_any _ HX.out _).mono ?_; rintro e w' ⟨rfl, rfl⟩; rw [HO.out]) | (go_at_call 48; refine (refKind_any _ HX.out _).mono ?_; rintro e w' ⟨rfl, rfl⟩))
  go_ret2
  exact ⟨(ret2 HF.out).trans (by rw [HA.out]), rfl⟩
set_option maxHeartbeats 1000000 in
set_option maxRecDepth 100000 in
theorem refInt_lowdownpos (x : Nat) (hx : x < 18446744073709551616) (h9 : kind x ≠ 9) (hi : mag x < 9218868437227405312) (E f : Nat) (hE : mag x / 4503599627370496 = E) (hf : mag x % 4503599627370496 = f) (d n0 t rest half : Nat) (h1 : 1022 ≤ E) (h2 : E ≤ 1074) (L : Low E f d n0 t rest half) (hs : x < 9223372036854775808) (hc : rest < half) (w : World) :
    Calls Try.prog 36 #[.float .f64 x] w fun e w' => e = .returned (intVal (intAns x)) ∧ w = w' := by
  have HO := Lib.hid (one_num x (fun z => h9 ((kind9_iff x).2 z)))
  have k9 : (kind x == 9) = false := by rw [beq_eq_false_iff_ne]; exact h9
  have k1 : (kind x == 1) = false := by rw [beq_eq_false_iff_ne]; exact (kind_fin x hi).1
  have k8 : (kind x == 8) = false := by rw [beq_eq_false_iff_ne]; exact (kind_fin x hi).2
  have ex := expo x hx
  have fr := frac x hx
  have HX := Lib.hid hx
  have d1 : decide ((9223372036854775808 : Int) ≤ (x : Int)) = false := by rw [decide_eq_false_iff_not]; omega
  obtain ⟨hd1, hd2, hd3, g1', g2', g3', g4', gn, gt, gr, gh, ghp⟩ := L
  have hw : wm (mag x) = near (4503599627370496 + f) d := by rw [wm_low (mag x) (by omega) (by omega), hf, show 1075 - mag x / 4503599627370496 = d by omega]
  have dd : (-((E : Int) - 1075)).toNat = d := by omega
  have hnear : wm (mag x) = n0 + (if half < rest ∨ (half = rest ∧ n0 % 2 = 1) then 1 else 0) := by
    rw [hw]; unfold near
    rw [g1', g3', ← ghp]
    congr 1
    by_cases z : half < rest ∨ (half = rest ∧ n0 % 2 = 1)
    · rw [if_pos z, if_pos (by omega)]
    · rw [if_neg z, if_neg (by omega)]
  have hb : wm (mag x) ≤ 4503599627370497 := by rw [hnear]; split <;> omega
  have hn := intN_pos x hs
  have HA := Lib.hid (ans_ok x h9 hi (by rw [hn]; omega) (by rw [hn]; omega))
  have HF : Hid (((n0 : Int) : Int) = intN x) := Lib.hid (by rw [hn, hnear]; rw [if_neg (by omega)]; omega)
  have c1 : decide (half < rest) = false := by rw [decide_eq_false_iff_not]; omega
  have c2 : ((rest : Int) == (half : Int)) = false := by rw [beq_eq_false_iff_ne]; omega
  have G1 : (4503599627370496 + (f : Int)) / 2 ^ d = (n0 : Int) := gn
  have G2 : IntKind.u64.wrap ((n0 : Int) * 2 ^ d) = (t : Int) := gt
  have G3 : IntKind.u64.wrap (4503599627370496 + (f : Int) - (t : Int)) = (rest : Int) := gr
  have G4 : IntKind.u64.wrap (2 ^ (d - 1)) = (half : Int) := gh
  have b0 : n0 ≤ 4503599627370496 := hd3
  clear hnear hb hn hw g1' g2' g3' g4' gn gt gr gh ghp hd3 hc
  rw [hE] at ex
  rw [hf] at fr
  have hm : f < 4503599627370496 := by omega
  clear hE hf hi h9 hx hs
  go_enter Try.func36, Try.ntmps36
  go_wp2_with (first | (go_at_call 47; refine (refOne_any _ HX.out _).mono ?_; rintro e w' ⟨rfl, rfl⟩; rw [HO.out]) | (go_at_call 48; refine (refKind_any _ HX.out _).mono ?_; rintro e w' ⟨rfl, rfl⟩))
  go_ret2
  exact ⟨(ret2 HF.out).trans (by rw [HA.out]), rfl⟩
set_option maxHeartbeats 1000000 in
set_option maxRecDepth 100000 in
theorem refInt_lowoddpos (x : Nat) (hx : x < 18446744073709551616) (h9 : kind x ≠ 9) (hi : mag x < 9218868437227405312) (E f : Nat) (hE : mag x / 4503599627370496 = E) (hf : mag x % 4503599627370496 = f) (d n0 t rest half : Nat) (h1 : 1022 ≤ E) (h2 : E ≤ 1074) (L : Low E f d n0 t rest half) (hs : x < 9223372036854775808) (hc : rest = half) (ho : n0 % 2 = 1) (w : World) :
    Calls Try.prog 36 #[.float .f64 x] w fun e w' => e = .returned (intVal (intAns x)) ∧ w = w' := by
  have HO := Lib.hid (one_num x (fun z => h9 ((kind9_iff x).2 z)))
  have k9 : (kind x == 9) = false := by rw [beq_eq_false_iff_ne]; exact h9
  have k1 : (kind x == 1) = false := by rw [beq_eq_false_iff_ne]; exact (kind_fin x hi).1
  have k8 : (kind x == 8) = false := by rw [beq_eq_false_iff_ne]; exact (kind_fin x hi).2
  have ex := expo x hx
  have fr := frac x hx
  have HX := Lib.hid hx
  have d1 : decide ((9223372036854775808 : Int) ≤ (x : Int)) = false := by rw [decide_eq_false_iff_not]; omega
  obtain ⟨hd1, hd2, hd3, g1', g2', g3', g4', gn, gt, gr, gh, ghp⟩ := L
  have hw : wm (mag x) = near (4503599627370496 + f) d := by rw [wm_low (mag x) (by omega) (by omega), hf, show 1075 - mag x / 4503599627370496 = d by omega]
  have dd : (-((E : Int) - 1075)).toNat = d := by omega
  have hnear : wm (mag x) = n0 + (if half < rest ∨ (half = rest ∧ n0 % 2 = 1) then 1 else 0) := by
    rw [hw]; unfold near
    rw [g1', g3', ← ghp]
    congr 1
    by_cases z : half < rest ∨ (half = rest ∧ n0 % 2 = 1)
    · rw [if_pos z, if_pos (by omega)]
    · rw [if_neg z, if_neg (by omega)]
  have hb : wm (mag x) ≤ 4503599627370497 := by rw [hnear]; split <;> omega
  have hn := intN_pos x hs
  have HA := Lib.hid (ans_ok x h9 hi (by rw [hn]; omega) (by rw [hn]; omega))
  have HF : Hid (((n0 : Int) + 1 : Int) = intN x) := Lib.hid (by rw [hn, hnear]; rw [if_pos (Or.inr ⟨hc.symm, ho⟩)]; omega)
  have c1 : decide (half < rest) = false := by rw [decide_eq_false_iff_not]; omega
  have c2 : ((rest : Int) == (half : Int)) = true := by rw [beq_iff_eq]; omega
  have c3 : (n0 % 2 == 1) = true := by rw [beq_iff_eq]; exact ho
  have c4 : ((n0 : Int) % 2 == 1) = true := by rw [beq_iff_eq]; omega
  have G1 : (4503599627370496 + (f : Int)) / 2 ^ d = (n0 : Int) := gn
  have G2 : IntKind.u64.wrap ((n0 : Int) * 2 ^ d) = (t : Int) := gt
  have G3 : IntKind.u64.wrap (4503599627370496 + (f : Int) - (t : Int)) = (rest : Int) := gr
  have G4 : IntKind.u64.wrap (2 ^ (d - 1)) = (half : Int) := gh
  have b0 : n0 ≤ 4503599627370496 := hd3
  clear hnear hb hn hw g1' g2' g3' g4' gn gt gr gh ghp hd3 hc ho
  rw [hE] at ex
  rw [hf] at fr
  have hm : f < 4503599627370496 := by omega
  clear hE hf hi h9 hx hs
  go_enter Try.func36, Try.ntmps36
  go_wp2_with (first | (go_at_call 47; refine (refOne_any _ HX.out _).mono ?_; rintro e w' ⟨rfl, rfl⟩; rw [HO.out]) | (go_at_call 48; refine (refKind_any _ HX.out _).mono ?_; rintro e w' ⟨rfl, rfl⟩))
  go_ret2
  exact ⟨(ret2 HF.out).trans (by rw [HA.out]), rfl⟩
set_option maxHeartbeats 1000000 in
set_option maxRecDepth 100000 in
theorem refInt_lowevenpos (x : Nat) (hx : x < 18446744073709551616) (h9 : kind x ≠ 9) (hi : mag x < 9218868437227405312) (E f : Nat) (hE : mag x / 4503599627370496 = E) (hf : mag x % 4503599627370496 = f) (d n0 t rest half : Nat) (h1 : 1022 ≤ E) (h2 : E ≤ 1074) (L : Low E f d n0 t rest half) (hs : x < 9223372036854775808) (hc : rest = half) (ho : n0 % 2 = 0) (w : World) :
    Calls Try.prog 36 #[.float .f64 x] w fun e w' => e = .returned (intVal (intAns x)) ∧ w = w' := by
  have HO := Lib.hid (one_num x (fun z => h9 ((kind9_iff x).2 z)))
  have k9 : (kind x == 9) = false := by rw [beq_eq_false_iff_ne]; exact h9
  have k1 : (kind x == 1) = false := by rw [beq_eq_false_iff_ne]; exact (kind_fin x hi).1
  have k8 : (kind x == 8) = false := by rw [beq_eq_false_iff_ne]; exact (kind_fin x hi).2
  have ex := expo x hx
  have fr := frac x hx
  have HX := Lib.hid hx
  have d1 : decide ((9223372036854775808 : Int) ≤ (x : Int)) = false := by rw [decide_eq_false_iff_not]; omega
  obtain ⟨hd1, hd2, hd3, g1', g2', g3', g4', gn, gt, gr, gh, ghp⟩ := L
  have hw : wm (mag x) = near (4503599627370496 + f) d := by rw [wm_low (mag x) (by omega) (by omega), hf, show 1075 - mag x / 4503599627370496 = d by omega]
  have dd : (-((E : Int) - 1075)).toNat = d := by omega
  have hnear : wm (mag x) = n0 + (if half < rest ∨ (half = rest ∧ n0 % 2 = 1) then 1 else 0) := by
    rw [hw]; unfold near
    rw [g1', g3', ← ghp]
    congr 1
    by_cases z : half < rest ∨ (half = rest ∧ n0 % 2 = 1)
    · rw [if_pos z, if_pos (by omega)]
    · rw [if_neg z, if_neg (by omega)]
  have hb : wm (mag x) ≤ 4503599627370497 := by rw [hnear]; split <;> omega
  have hn := intN_pos x hs
  have HA := Lib.hid (ans_ok x h9 hi (by rw [hn]; omega) (by rw [hn]; omega))
  have HF : Hid (((n0 : Int) : Int) = intN x) := Lib.hid (by rw [hn, hnear]; rw [if_neg (by omega)]; omega)
  have c1 : decide (half < rest) = false := by rw [decide_eq_false_iff_not]; omega
  have c2 : ((rest : Int) == (half : Int)) = true := by rw [beq_iff_eq]; omega
  have c3 : (n0 % 2 == 1) = false := by rw [beq_eq_false_iff_ne]; omega
  have c4 : ((n0 : Int) % 2 == 1) = false := by rw [beq_eq_false_iff_ne]; omega
  have G1 : (4503599627370496 + (f : Int)) / 2 ^ d = (n0 : Int) := gn
  have G2 : IntKind.u64.wrap ((n0 : Int) * 2 ^ d) = (t : Int) := gt
  have G3 : IntKind.u64.wrap (4503599627370496 + (f : Int) - (t : Int)) = (rest : Int) := gr
  have G4 : IntKind.u64.wrap (2 ^ (d - 1)) = (half : Int) := gh
  have b0 : n0 ≤ 4503599627370496 := hd3
  clear hnear hb hn hw g1' g2' g3' g4' gn gt gr gh ghp hd3 hc ho
  rw [hE] at ex
  rw [hf] at fr
  have hm : f < 4503599627370496 := by omega
  clear hE hf hi h9 hx hs
  go_enter Try.func36, Try.ntmps36
  go_wp2_with (first | (go_at_call 47; refine (refOne_any _ HX.out _).mono ?_; rintro e w' ⟨rfl, rfl⟩; rw [HO.out]) | (go_at_call 48; refine (refKind_any _ HX.out _).mono ?_; rintro e w' ⟨rfl, rfl⟩))
  go_ret2
  exact ⟨(ret2 HF.out).trans (by rw [HA.out]), rfl⟩
set_option maxHeartbeats 1000000 in
set_option maxRecDepth 100000 in
theorem refInt_lowupneg (x : Nat) (hx : x < 18446744073709551616) (h9 : kind x ≠ 9) (hi : mag x < 9218868437227405312) (E f : Nat) (hE : mag x / 4503599627370496 = E) (hf : mag x % 4503599627370496 = f) (d n0 t rest half : Nat) (h1 : 1022 ≤ E) (h2 : E ≤ 1074) (L : Low E f d n0 t rest half) (hs : 9223372036854775808 ≤ x) (hc : half < rest) (w : World) :
    Calls Try.prog 36 #[.float .f64 x] w fun e w' => e = .returned (intVal (intAns x)) ∧ w = w' := by
  have HO := Lib.hid (one_num x (fun z => h9 ((kind9_iff x).2 z)))
  have k9 : (kind x == 9) = false := by rw [beq_eq_false_iff_ne]; exact h9
  have k1 : (kind x == 1) = false := by rw [beq_eq_false_iff_ne]; exact (kind_fin x hi).1
  have k8 : (kind x == 8) = false := by rw [beq_eq_false_iff_ne]; exact (kind_fin x hi).2
  have ex := expo x hx
  have fr := frac x hx
  have HX := Lib.hid hx
  have d1 : decide ((9223372036854775808 : Int) ≤ (x : Int)) = true := by rw [decide_eq_true_eq]; omega
  obtain ⟨hd1, hd2, hd3, g1', g2', g3', g4', gn, gt, gr, gh, ghp⟩ := L
  have hw : wm (mag x) = near (4503599627370496 + f) d := by rw [wm_low (mag x) (by omega) (by omega), hf, show 1075 - mag x / 4503599627370496 = d by omega]
  have dd : (-((E : Int) - 1075)).toNat = d := by omega
  have hnear : wm (mag x) = n0 + (if half < rest ∨ (half = rest ∧ n0 % 2 = 1) then 1 else 0) := by
    rw [hw]; unfold near
    rw [g1', g3', ← ghp]
    congr 1
    by_cases z : half < rest ∨ (half = rest ∧ n0 % 2 = 1)
    · rw [if_pos z, if_pos (by omega)]
    · rw [if_neg z, if_neg (by omega)]
  have hb : wm (mag x) ≤ 4503599627370497 := by rw [hnear]; split <;> omega
  have hn := intN_neg x hx hs
  have HA := Lib.hid (ans_ok x h9 hi (by rw [hn]; omega) (by rw [hn]; omega))
  have HF : Hid ((-((n0 : Int) + 1) : Int) = intN x) := Lib.hid (by rw [hn, hnear]; rw [if_pos (Or.inl hc)]; omega)
  have c1 : decide (half < rest) = true := by rw [decide_eq_true_eq]; exact hc
  have G1 : (4503599627370496 + (f : Int)) / 2 ^ d = (n0 : Int) := gn
  have G2 : IntKind.u64.wrap ((n0 : Int) * 2 ^ d) = (t : Int) := gt
  have G3 : IntKind.u64.wrap (4503599627370496 + (f : Int) - (t : Int)) = (rest : Int) := gr
  have G4 : IntKind.u64.wrap (2 ^ (d - 1)) = (half : Int) := gh
  have b0 : n0 ≤ 4503599627370496 := hd3
  clear hnear hb hn hw g1' g2' g3' g4' gn gt gr gh ghp hd3 hc
  rw [hE] at ex
  rw [hf] at fr
  have hm : f < 4503599627370496 := by omega
  clear hE hf hi h9 hx hs
  go_enter Try.func36, Try.ntmps36
  go_wp2_with (first | (go_at_call 47; refine (refOne_any _ HX.out _).mono ?_; rintro e w' ⟨rfl, rfl⟩; rw [HO.out]) | (go_at_call 48; refine (refKind_any _ HX.out _).mono ?_; rintro e w' ⟨rfl, rfl⟩))
  go_ret2
  exact ⟨(ret2 HF.out).trans (by rw [HA.out]), rfl⟩
set_option maxHeartbeats 1000000 in
set_option maxRecDepth 100000 in
theorem refInt_lowdownneg (x : Nat) (hx : x < 18446744073709551616) (h9 : kind x ≠ 9) (hi : mag x < 9218868437227405312) (E f : Nat) (hE : mag x / 4503599627370496 = E) (hf : mag x % 4503599627370496 = f) (d n0 t rest half : Nat) (h1 : 1022 ≤ E) (h2 : E ≤ 1074) (L : Low E f d n0 t rest half) (hs : 9223372036854775808 ≤ x) (hc : rest < half) (w : World) :
    Calls Try.prog 36 #[.float .f64 x] w fun e w' => e = .returned (intVal (intAns x)) ∧ w = w' := by
  have HO := Lib.hid (one_num x (fun z => h9 ((kind9_iff x).2 z)))
  have k9 : (kind x == 9) = false := by rw [beq_eq_false_iff_ne]; exact h9
  have k1 : (kind x == 1) = false := by rw [beq_eq_false_iff_ne]; exact (kind_fin x hi).1
  have k8 : (kind x == 8) = false := by rw [beq_eq_false_iff_ne]; exact (kind_fin x hi).2
  have ex := expo x hx
  have fr := frac x hx
  have HX := Lib.hid hx
  have d1 : decide ((9223372036854775808 : Int) ≤ (x : Int)) = true := by rw [decide_eq_true_eq]; omega
  obtain ⟨hd1, hd2, hd3, g1', g2', g3', g4', gn, gt, gr, gh, ghp⟩ := L
  have hw : wm (mag x) = near (4503599627370496 + f) d := by rw [wm_low (mag x) (by omega) (by omega), hf, show 1075 - mag x / 4503599627370496 = d by omega]
  have dd : (-((E : Int) - 1075)).toNat = d := by omega
  have hnear : wm (mag x) = n0 + (if half < rest ∨ (half = rest ∧ n0 % 2 = 1) then 1 else 0) := by
    rw [hw]; unfold near
    rw [g1', g3', ← ghp]
    congr 1
    by_cases z : half < rest ∨ (half = rest ∧ n0 % 2 = 1)
    · rw [if_pos z, if_pos (by omega)]
    · rw [if_neg z, if_neg (by omega)]
  have hb : wm (mag x) ≤ 4503599627370497 := by rw [hnear]; split <;> omega
  have hn := intN_neg x hx hs
  have HA := Lib.hid (ans_ok x h9 hi (by rw [hn]; omega) (by rw [hn]; omega))
  have HF : Hid ((-((n0 : Int)) : Int) = intN x) := Lib.hid (by rw [hn, hnear]; rw [if_neg (by omega)]; omega)
  have c1 : decide (half < rest) = false := by rw [decide_eq_false_iff_not]; omega
  have c2 : ((rest : Int) == (half : Int)) = false := by rw [beq_eq_false_iff_ne]; omega
  have G1 : (4503599627370496 + (f : Int)) / 2 ^ d = (n0 : Int) := gn
  have G2 : IntKind.u64.wrap ((n0 : Int) * 2 ^ d) = (t : Int) := gt
  have G3 : IntKind.u64.wrap (4503599627370496 + (f : Int) - (t : Int)) = (rest : Int) := gr
  have G4 : IntKind.u64.wrap (2 ^ (d - 1)) = (half : Int) := gh
  have b0 : n0 ≤ 4503599627370496 := hd3
  clear hnear hb hn hw g1' g2' g3' g4' gn gt gr gh ghp hd3 hc
  rw [hE] at ex
  rw [hf] at fr
  have hm : f < 4503599627370496 := by omega
  clear hE hf hi h9 hx hs
  go_enter Try.func36, Try.ntmps36
  go_wp2_with (first | (go_at_call 47; refine (refOne_any _ HX.out _).mono ?_; rintro e w' ⟨rfl, rfl⟩; rw [HO.out]) | (go_at_call 48; refine (refKind_any _ HX.out _).mono ?_; rintro e w' ⟨rfl, rfl⟩))
  go_ret2
  exact ⟨(ret2 HF.out).trans (by rw [HA.out]), rfl⟩
set_option maxHeartbeats 1000000 in
set_option maxRecDepth 100000 in
theorem refInt_lowoddneg (x : Nat) (hx : x < 18446744073709551616) (h9 : kind x ≠ 9) (hi : mag x < 9218868437227405312) (E f : Nat) (hE : mag x / 4503599627370496 = E) (hf : mag x % 4503599627370496 = f) (d n0 t rest half : Nat) (h1 : 1022 ≤ E) (h2 : E ≤ 1074) (L : Low E f d n0 t rest half) (hs : 9223372036854775808 ≤ x) (hc : rest = half) (ho : n0 % 2 = 1) (w : World) :
    Calls Try.prog 36 #[.float .f64 x] w fun e w' => e = .returned (intVal (intAns x)) ∧ w = w' := by
  have HO := Lib.hid (one_num x (fun z => h9 ((kind9_iff x).2 z)))
  have k9 : (kind x == 9) = false := by rw [beq_eq_false_iff_ne]; exact h9
  have k1 : (kind x == 1) = false := by rw [beq_eq_false_iff_ne]; exact (kind_fin x hi).1
  have k8 : (kind x == 8) = false := by rw [beq_eq_false_iff_ne]; exact (kind_fin x hi).2
  have ex := expo x hx
  have fr := frac x hx
  have HX := Lib.hid hx
  have d1 : decide ((9223372036854775808 : Int) ≤ (x : Int)) = true := by rw [decide_eq_true_eq]; omega
  obtain ⟨hd1, hd2, hd3, g1', g2', g3', g4', gn, gt, gr, gh, ghp⟩ := L
  have hw : wm (mag x) = near (4503599627370496 + f) d := by rw [wm_low (mag x) (by omega) (by omega), hf, show 1075 - mag x / 4503599627370496 = d by omega]
  have dd : (-((E : Int) - 1075)).toNat = d := by omega
  have hnear : wm (mag x) = n0 + (if half < rest ∨ (half = rest ∧ n0 % 2 = 1) then 1 else 0) := by
    rw [hw]; unfold near
    rw [g1', g3', ← ghp]
    congr 1
    by_cases z : half < rest ∨ (half = rest ∧ n0 % 2 = 1)
    · rw [if_pos z, if_pos (by omega)]
    · rw [if_neg z, if_neg (by omega)]
  have hb : wm (mag x) ≤ 4503599627370497 := by rw [hnear]; split <;> omega
  have hn := intN_neg x hx hs
  have HA := Lib.hid (ans_ok x h9 hi (by rw [hn]; omega) (by rw [hn]; omega))
  have HF : Hid ((-((n0 : Int) + 1) : Int) = intN x) := Lib.hid (by rw [hn, hnear]; rw [if_pos (Or.inr ⟨hc.symm, ho⟩)]; omega)
  have c1 : decide (half < rest) = false := by rw [decide_eq_false_iff_not]; omega
  have c2 : ((rest : Int) == (half : Int)) = true := by rw [beq_iff_eq]; omega
  have c3 : (n0 % 2 == 1) = true := by rw [beq_iff_eq]; exact ho
  have c4 : ((n0 : Int) % 2 == 1) = true := by rw [beq_iff_eq]; omega
  have G1 : (4503599627370496 + (f : Int)) / 2 ^ d = (n0 : Int) := gn
  have G2 : IntKind.u64.wrap ((n0 : Int) * 2 ^ d) = (t : Int) := gt
  have G3 : IntKind.u64.wrap (4503599627370496 + (f : Int) - (t : Int)) = (rest : Int) := gr
  have G4 : IntKind.u64.wrap (2 ^ (d - 1)) = (half : Int) := gh
  have b0 : n0 ≤ 4503599627370496 := hd3
  clear hnear hb hn hw g1' g2' g3' g4' gn gt gr gh ghp hd3 hc ho
  rw [hE] at ex
  rw [hf] at fr
  have hm : f < 4503599627370496 := by omega
  clear hE hf hi h9 hx hs
  go_enter Try.func36, Try.ntmps36
  go_wp2_with (first | (go_at_call 47; refine (refOne_any _ HX.out _).mono ?_; rintro e w' ⟨rfl, rfl⟩; rw [HO.out]) | (go_at_call 48; refine (refKind_any _ HX.out _).mono ?_; rintro e w' ⟨rfl, rfl⟩))
  go_ret2
  exact ⟨(ret2 HF.out).trans (by rw [HA.out]), rfl⟩
set_option maxHeartbeats 1000000 in
set_option maxRecDepth 100000 in
theorem refInt_lowevenneg (x : Nat) (hx : x < 18446744073709551616) (h9 : kind x ≠ 9) (hi : mag x < 9218868437227405312) (E f : Nat) (hE : mag x / 4503599627370496 = E) (hf : mag x % 4503599627370496 = f) (d n0 t rest half : Nat) (h1 : 1022 ≤ E) (h2 : E ≤ 1074) (L : Low E f d n0 t rest half) (hs : 9223372036854775808 ≤ x) (hc : rest = half) (ho : n0 % 2 = 0) (w : World) :
    Calls Try.prog 36 #[.float .f64 x] w fun e w' => e = .returned (intVal (intAns x)) ∧ w = w' := by
  have HO := Lib.hid (one_num x (fun z => h9 ((kind9_iff x).2 z)))
  have k9 : (kind x == 9) = false := by rw [beq_eq_false_iff_ne]; exact h9
  have k1 : (kind x == 1) = false := by rw [beq_eq_false_iff_ne]; exact (kind_fin x hi).1
  have k8 : (kind x == 8) = false := by rw [beq_eq_false_iff_ne]; exact (kind_fin x hi).2
  have ex := expo x hx
  have fr := frac x hx
  have HX := Lib.hid hx
  have d1 : decide ((9223372036854775808 : Int) ≤ (x : Int)) = true := by rw [decide_eq_true_eq]; omega
  obtain ⟨hd1, hd2, hd3, g1', g2', g3', g4', gn, gt, gr, gh, ghp⟩ := L
  have hw : wm (mag x) = near (4503599627370496 + f) d := by rw [wm_low (mag x) (by omega) (by omega), hf, show 1075 - mag x / 4503599627370496 = d by omega]
  have dd : (-((E : Int) - 1075)).toNat = d := by omega
  have hnear : wm (mag x) = n0 + (if half < rest ∨ (half = rest ∧ n0 % 2 = 1) then 1 else 0) := by
    rw [hw]; unfold near
    rw [g1', g3', ← ghp]
    congr 1
    by_cases z : half < rest ∨ (half = rest ∧ n0 % 2 = 1)
    · rw [if_pos z, if_pos (by omega)]
    · rw [if_neg z, if_neg (by omega)]
  have hb : wm (mag x) ≤ 4503599627370497 := by rw [hnear]; split <;> omega
  have hn := intN_neg x hx hs
  have HA := Lib.hid (ans_ok x h9 hi (by rw [hn]; omega) (by rw [hn]; omega))
  have HF : Hid ((-((n0 : Int)) : Int) = intN x) := Lib.hid (by rw [hn, hnear]; rw [if_neg (by omega)]; omega)
  have c1 : decide (half < rest) = false := by rw [decide_eq_false_iff_not]; omega
  have c2 : ((rest : Int) == (half : Int)) = true := by rw [beq_iff_eq]; omega
  have c3 : (n0 % 2 == 1) = false := by rw [beq_eq_false_iff_ne]; omega
  have c4 : ((n0 : Int) % 2 == 1) = false := by rw [beq_eq_false_iff_ne]; omega
  have G1 : (4503599627370496 + (f : Int)) / 2 ^ d = (n0 : Int) := gn
  have G2 : IntKind.u64.wrap ((n0 : Int) * 2 ^ d) = (t : Int) := gt
  have G3 : IntKind.u64.wrap (4503599627370496 + (f : Int) - (t : Int)) = (rest : Int) := gr
  have G4 : IntKind.u64.wrap (2 ^ (d - 1)) = (half : Int) := gh
  have b0 : n0 ≤ 4503599627370496 := hd3
  clear hnear hb hn hw g1' g2' g3' g4' gn gt gr gh ghp hd3 hc ho
  rw [hE] at ex
  rw [hf] at fr
  have hm : f < 4503599627370496 := by omega
  clear hE hf hi h9 hx hs
  go_enter Try.func36, Try.ntmps36
  go_wp2_with (first | (go_at_call 47; refine (refOne_any _ HX.out _).mono ?_; rintro e w' ⟨rfl, rfl⟩; rw [HO.out]) | (go_at_call 48; refine (refKind_any _ HX.out _).mono ?_; rintro e w' ⟨rfl, rfl⟩))
  go_ret2
  exact ⟨(ret2 HF.out).trans (by rw [HA.out]), rfl⟩
set_option maxHeartbeats 1000000 in
set_option maxRecDepth 100000 in
theorem refInt_nan (x : Nat) (hx : x < 18446744073709551616) (h9 : kind x = 9) (w : World) :
    Calls Try.prog 36 #[.float .f64 x] w fun e w' => e = .returned (intVal (intAns x)) ∧ w = w' := by
  have k9 : (kind x == 9) = true := by rw [beq_iff_eq]; exact h9
  have HA : Hid (intVal (intAns x) = .tuple #[.int .i64 0, .int .i64 3]) := Lib.hid (by unfold intAns intVal; rw [if_pos h9])
  have HX := Lib.hid hx
  clear hx h9
  go_enter Try.func36, Try.ntmps36
  go_wp2_with (first | (go_at_call 47; refine (refOne_any _ HX.out _).mono ?_; rintro e w' ⟨rfl, rfl⟩) | (go_at_call 48; refine (refKind_any _ HX.out _).mono ?_; rintro e w' ⟨rfl, rfl⟩))
  go_ret2
  exact ⟨congrArg Ending.returned HA.out.symm, rfl⟩
theorem kind_inf (x : Nat) (h : mag x = 9218868437227405312) : kind x = 1 ∨ kind x = 8 := by
  unfold kind
  rw [if_neg (by omega), if_pos h]
  split
  · exact Or.inr rfl
  · exact Or.inl rfl
set_option maxHeartbeats 1000000 in
set_option maxRecDepth 100000 in
theorem refInt_inf (x : Nat) (hx : x < 18446744073709551616) (h9 : kind x ≠ 9) (hi : mag x = 9218868437227405312) (w : World) :
    Calls Try.prog 36 #[.float .f64 x] w fun e w' => e = .returned (intVal (intAns x)) ∧ w = w' := by
  have k9 : (kind x == 9) = false := by rw [beq_eq_false_iff_ne]; exact h9
  have HA : Hid (intVal (intAns x) = .tuple #[.int .i64 0, .int .i64 4]) := Lib.hid (by unfold intAns intVal; rw [if_neg h9, if_pos hi])
  have HX := Lib.hid hx
  rcases kind_inf x hi with h | h
  · have k1 : (kind x == 1) = true := by rw [beq_iff_eq]; exact h
    clear hx h9 hi h
    go_enter Try.func36, Try.ntmps36
    go_wp2_with (first | (go_at_call 47; refine (refOne_any _ HX.out _).mono ?_; rintro e w' ⟨rfl, rfl⟩) | (go_at_call 48; refine (refKind_any _ HX.out _).mono ?_; rintro e w' ⟨rfl, rfl⟩))
    go_ret2
    exact ⟨congrArg Ending.returned HA.out.symm, rfl⟩
  · have k1 : (kind x == 1) = false := by rw [beq_eq_false_iff_ne]; omega
    have k8 : (kind x == 8) = true := by rw [beq_iff_eq]; exact h
    clear hx h9 hi h
    go_enter Try.func36, Try.ntmps36
    go_wp2_with (first | (go_at_call 47; refine (refOne_any _ HX.out _).mono ?_; rintro e w' ⟨rfl, rfl⟩) | (go_at_call 48; refine (refKind_any _ HX.out _).mono ?_; rintro e w' ⟨rfl, rfl⟩))
    go_ret2
    exact ⟨congrArg Ending.returned HA.out.symm, rfl⟩
theorem refInt_any (x : Nat) (hx : x < 18446744073709551616) (w : World) : Calls Try.prog 36 #[.float .f64 x] w fun e w' => e = .returned (intVal (intAns x)) ∧ w = w' := by
  by_cases h9 : kind x = 9
  · exact refInt_nan x hx h9 w
  by_cases hi : mag x = 9218868437227405312
  · exact refInt_inf x hx h9 hi w
  have hlt : mag x < 9218868437227405312 := by
    rcases Nat.lt_or_ge 9218868437227405312 (mag x) with z | z
    · exact absurd ((kind9_iff x).2 z) h9
    · omega
  have hE2 : mag x / 4503599627370496 ≤ 2046 := by omega
  have hf : mag x % 4503599627370496 < 4503599627370496 := Nat.mod_lt _ (by decide)
  by_cases a1 : mag x / 4503599627370496 ≤ 1021
  · exact refInt_tiny x hx h9 hlt _ _ rfl rfl a1 w
  by_cases a2 : 1087 ≤ mag x / 4503599627370496
  · exact refInt_huge x hx h9 hlt _ _ rfl rfl a2 hE2 w
  by_cases a3 : mag x / 4503599627370496 = 1086
  · by_cases hs : x < 9223372036854775808
    · exact refInt_11pos x hx h9 hlt _ a3 rfl hs w
    · by_cases hf0 : mag x % 4503599627370496 = 0
      · exact refInt_11least x hx h9 hlt a3 hf0 (by omega) w
      · exact refInt_11neg x hx h9 hlt _ a3 rfl hf0 (by omega) w
  by_cases a4 : 1075 ≤ mag x / 4503599627370496
  · by_cases hs : x < 9223372036854775808
    · exact refInt_pos x hx h9 hlt _ _ rfl rfl a4 (by omega) hs w
    · exact refInt_neg x hx h9 hlt _ _ rfl rfl a4 (by omega) (by omega) w
  obtain ⟨d, n0, t, rest, half, L⟩ := low_of (mag x / 4503599627370496) (mag x % 4503599627370496) hf (by omega) (by omega)
  by_cases hs : x < 9223372036854775808
  · rcases Nat.lt_trichotomy half rest with hc | hc | hc
    · exact refInt_lowuppos x hx h9 hlt _ _ rfl rfl d n0 t rest half (by omega) (by omega) L hs hc w
    · by_cases ho : n0 % 2 = 1
      · exact refInt_lowoddpos x hx h9 hlt _ _ rfl rfl d n0 t rest half (by omega) (by omega) L hs hc.symm ho w
      · exact refInt_lowevenpos x hx h9 hlt _ _ rfl rfl d n0 t rest half (by omega) (by omega) L hs hc.symm (by omega) w
    · exact refInt_lowdownpos x hx h9 hlt _ _ rfl rfl d n0 t rest half (by omega) (by omega) L hs hc w
  · have hs' : 9223372036854775808 ≤ x := by omega
    rcases Nat.lt_trichotomy half rest with hc | hc | hc
    · exact refInt_lowupneg x hx h9 hlt _ _ rfl rfl d n0 t rest half (by omega) (by omega) L hs' hc w
    · by_cases ho : n0 % 2 = 1
      · exact refInt_lowoddneg x hx h9 hlt _ _ rfl rfl d n0 t rest half (by omega) (by omega) L hs' hc.symm ho w
      · exact refInt_lowevenneg x hx h9 hlt _ _ rfl rfl d n0 t rest half (by omega) (by omega) L hs' hc.symm (by omega) w
    · exact refInt_lowdownneg x hx h9 hlt _ _ rfl rfl d n0 t rest half (by omega) (by omega) L hs' hc w
end Go.Proofs.Ytmpceabhnhipcaa.NumW

