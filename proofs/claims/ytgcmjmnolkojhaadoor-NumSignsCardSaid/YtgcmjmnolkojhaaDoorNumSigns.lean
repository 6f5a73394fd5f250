/- tocsinlaw01.NumSigns: for every two float64 the call returns true and leaves its arguments: a number and its opposite stand on opposite sides of the zeros, and in the opposite order. No condition but the row's own: the listed package-level variables hold what the text lays (the card ties them). -/
import Derived.Test.YtgcmjmnolkojhaaDoorNumLay
namespace Go.Proofs.YtgcmjmnolkojhaaDoor.NumC.Signs
open Go.ChangeShapes Go.WideShapes Go.ChangeAt Go.RowKit NumP NumW
/-- The opposite number's bits. -/
def opp (x : Nat) : Nat := if 9223372036854775808 ≤ x then x - 9223372036854775808 else x + 9223372036854775808
theorem xor_top (y : Nat) (h : y < 9223372036854775808) : y ^^^ 2 ^ 63 = 2 ^ 63 + y := by
  have h' : y < 2 ^ 63 := by omega
  apply Nat.eq_of_testBit_eq
  intro i
  rw [Nat.testBit_xor, Nat.testBit_two_pow]
  rcases Nat.lt_trichotomy i 63 with h1 | h1 | h1
  · rw [Nat.testBit_two_pow_add_gt h1, decide_eq_false (by omega), Bool.xor_false]
  · subst h1
    rw [Nat.testBit_two_pow_add_eq, decide_eq_true rfl, Bool.xor_true]
  · have e1 : y.testBit i = false := Nat.testBit_lt_two_pow (Nat.lt_of_lt_of_le h' (Nat.pow_le_pow_right (by decide) (by omega)))
    have e2 : (2 ^ 63 + y).testBit i = false := Nat.testBit_lt_two_pow (Nat.lt_of_lt_of_le (show 2 ^ 63 + y < 2 ^ 64 by omega) (Nat.pow_le_pow_right (by decide) (by omega)))
    rw [e1, e2, decide_eq_false (by omega)]; rfl
theorem neg_opp (x : Nat) (h : x < 18446744073709551616) : Op.negFloat .f64 x = opp x := by
  show x ^^^ 2 ^ 63 = opp x
  unfold opp
  by_cases h1 : 9223372036854775808 ≤ x
  · have e := xor_top (x - 9223372036854775808) (by omega)
    have e2 : 2 ^ 63 + (x - 9223372036854775808) = x := by omega
    rw [e2] at e
    rw [if_pos h1]
    conv => lhs; rw [← e]
    rw [Nat.xor_assoc, Nat.xor_self, Nat.xor_zero]
  · rw [if_neg h1, xor_top x (by omega), Nat.add_comm]
theorem opp_lt (x : Nat) (h : x < 18446744073709551616) : opp x < 18446744073709551616 := by unfold opp; split <;> omega
theorem opp_opp (x : Nat) (h : x < 18446744073709551616) : opp (opp x) = x := by unfold opp; split <;> split <;> omega
theorem opp_mag (x : Nat) (h : x < 18446744073709551616) : mag (opp x) = mag x := by unfold opp mag; split <;> omega
theorem opp_kind (x : Nat) (h : x < 18446744073709551616) (hn : kind x ≠ 9) : kind (opp x) = 9 - kind x := by
  have hm := opp_mag x h
  have e : (opp x = mag x) ↔ ¬ (x = mag x) := by unfold opp mag; split <;> omega
  unfold kind at *
  rw [hm]
  by_cases h1 : 9218868437227405312 < mag x
  · rw [if_pos h1] at hn; exact absurd rfl hn
  · rw [if_neg h1, if_neg h1]
    by_cases hs : x = mag x
    · have hs' : ¬ opp x = mag x := fun z => e.1 z hs
      simp only [if_pos hs, if_neg hs']
      (repeat' split) <;> omega
    · have hs' : opp x = mag x := e.2 hs
      simp only [if_neg hs, if_pos hs']
      (repeat' split) <;> omega
theorem opp_kind9 (x : Nat) (h : x < 18446744073709551616) (hn : kind x = 9) : kind (opp x) = 9 := by
  have h1 : 9218868437227405312 < mag x := by
    rcases Nat.lt_or_ge 9218868437227405312 (mag x) with h1 | h1
    · exact h1
    · have := kind_num x (by omega); omega
  exact kind_nan _ (by rw [opp_mag x h]; exact h1)
theorem opp_rank (x : Nat) (h : x < 18446744073709551616) (hn : kind x ≠ 9) : rank (opp x) + rank x = 18446744073709551615 := by
  have h1 : ¬ 9218868437227405312 < mag x := num_mag x hn
  have h2 : ¬ 9218868437227405312 < mag (opp x) := by rw [opp_mag x h]; exact h1
  unfold rank
  rw [if_neg h1, if_neg h2]
  unfold opp
  (repeat' split) <;> omega
theorem opp_cmp (a b : Nat) (ha : a < 18446744073709551616) (hb : b < 18446744073709551616) (na : kind a ≠ 9) (nb : kind b ≠ 9) : cmpN (opp a) (opp b) = cmpN b a := by
  have h1 := opp_rank a ha na
  have h2 := opp_rank b hb nb
  unfold cmpN
  (repeat' split) <;> omega
theorem run_neg (x : Nat) (h : x < 18446744073709551616) (w : World) : (Op.unary .neg (.float .f64 x)).run Tryd.prog w = .ok (.float .f64 (opp x)) w := by
  have e : Op.unary .neg (.float .f64 x) = pure (.float .f64 (Op.negFloat .f64 x)) := rfl
  rw [e, neg_opp x h]; rfl
set_option maxHeartbeats 1000000 in
set_option maxRecDepth 100000 in
theorem walk_nan1 (a b : Nat) (ha : a < 18446744073709551616) (hb : b < 18446744073709551616) (na : kind a = 9) (w : World) (hT : Tz w) (hE : Es w) :
    Calls Tryd.prog 10 #[.float .f64 a, .float .f64 b] w fun e w' => e = .returned (.bool true) ∧ Below w.heap.size w w' := by
  have k : (kind a == 9) = true := by rw [beq_iff_eq]; exact na
  have k2 : (kind (opp a) == 9) = true := by rw [beq_iff_eq]; exact opp_kind9 a ha na
  have ua := opp_lt a ha
  have ub := opp_lt b hb
  have na1 := run_neg a ha
  have nb1 := run_neg b hb
  have HT := Lib.hid hT
  have HE := Lib.hid hE
  clear hT hE na
  go_enter Tryd.func10, Tryd.ntmps10
  go_wp2_with fail
  refine (fixed_any _ HT.out HE.out).mono ?_
  rintro e w1 ⟨rfl, hb1⟩
  go_wp2_with (first | (go_at_call 13; refine (kind_any _ (by assumption) _).mono ?_; rintro e w' ⟨rfl, rfl⟩) | (go_at_call 18; refine (cmp_any _ _ (by assumption) (by assumption) _).mono ?_; rintro e w' ⟨rfl, rfl⟩) | (go_at_call 15; refine (bits_any _ _).mono ?_; rintro e w' ⟨rfl, rfl⟩))
  go_ret
  exact ⟨rfl, hb1⟩
set_option maxHeartbeats 1000000 in
set_option maxRecDepth 100000 in
theorem walk_nan2 (a b : Nat) (ha : a < 18446744073709551616) (hb : b < 18446744073709551616) (na : kind a ≠ 9) (nb : kind b = 9) (w : World) (hT : Tz w) (hE : Es w) :
    Calls Tryd.prog 10 #[.float .f64 a, .float .f64 b] w fun e w' => e = .returned (.bool true) ∧ Below w.heap.size w w' := by
  have k : (kind a == 9) = false := by rw [beq_eq_false_iff_ne]; exact na
  have k1 : (kind b == 9) = true := by rw [beq_iff_eq]; exact nb
  have k2 : (kind (opp a) == 9) = false := by rw [beq_eq_false_iff_ne, opp_kind a ha na]; have := kind_bd a; omega
  have k3 : (kind (opp b) == 9) = true := by rw [beq_iff_eq]; exact opp_kind9 b hb nb
  have ua := opp_lt a ha
  have ub := opp_lt b hb
  have na1 := run_neg a ha
  have nb1 := run_neg b hb
  have HT := Lib.hid hT
  have HE := Lib.hid hE
  clear hT hE na nb
  go_enter Tryd.func10, Tryd.ntmps10
  go_wp2_with fail
  refine (fixed_any _ HT.out HE.out).mono ?_
  rintro e w1 ⟨rfl, hb1⟩
  go_wp2_with (first | (go_at_call 13; refine (kind_any _ (by assumption) _).mono ?_; rintro e w' ⟨rfl, rfl⟩) | (go_at_call 18; refine (cmp_any _ _ (by assumption) (by assumption) _).mono ?_; rintro e w' ⟨rfl, rfl⟩) | (go_at_call 15; refine (bits_any _ _).mono ?_; rintro e w' ⟨rfl, rfl⟩))
  go_ret
  exact ⟨rfl, hb1⟩
set_option maxHeartbeats 1000000 in
set_option maxRecDepth 100000 in
theorem walk_num (a b : Nat) (ha : a < 18446744073709551616) (hb : b < 18446744073709551616) (na : kind a ≠ 9) (nb : kind b ≠ 9) (w : World) (hT : Tz w) (hE : Es w) :
    Calls Tryd.prog 10 #[.float .f64 a, .float .f64 b] w fun e w' => e = .returned (.bool true) ∧ Below w.heap.size w w' := by
  have k : (kind a == 9) = false := by rw [beq_eq_false_iff_ne]; exact na
  have k1 : (kind b == 9) = false := by rw [beq_eq_false_iff_ne]; exact nb
  have k2 : (kind (opp a) == 9 - kind a) = true := by rw [beq_iff_eq]; exact opp_kind a ha na
  have k4 : (cmpN (opp a) (opp b) == cmpN b a) = true := by rw [beq_iff_eq]; exact opp_cmp a b ha hb na nb
  have kb1 := (kind_bd a).1
  have kb2 := (kind_bd a).2
  have k5 : opp (opp a) = a := opp_opp a ha
  have na2 := run_neg (opp a) (opp_lt a ha)
  rw [k5] at na2
  clear k5
  have ua := opp_lt a ha
  have ub := opp_lt b hb
  have na1 := run_neg a ha
  have nb1 := run_neg b hb
  have HT := Lib.hid hT
  have HE := Lib.hid hE
  clear hT hE na nb
  go_enter Tryd.func10, Tryd.ntmps10
  go_wp2_with fail
  refine (fixed_any _ HT.out HE.out).mono ?_
  rintro e w1 ⟨rfl, hb1⟩
  go_wp2_with (first | (go_at_call 13; refine (kind_any _ (by assumption) _).mono ?_; rintro e w' ⟨rfl, rfl⟩) | (go_at_call 18; refine (cmp_any _ _ (by assumption) (by assumption) _).mono ?_; rintro e w' ⟨rfl, rfl⟩) | (go_at_call 15; refine (bits_any _ _).mono ?_; rintro e w' ⟨rfl, rfl⟩))
  go_ret
  exact ⟨rfl, hb1⟩
theorem walk (a b : Nat) (ha : a < 18446744073709551616) (hb : b < 18446744073709551616) (w : World) (hT : Tz w) (hE : Es w) :
    Calls Tryd.prog 10 #[.float .f64 a, .float .f64 b] w fun e w' => e = .returned (.bool true) ∧ Below w.heap.size w w' := by
  by_cases na : kind a = 9
  · exact walk_nan1 a b ha hb na w hT hE
  · by_cases nb : kind b = 9
    · exact walk_nan2 a b ha hb na nb w hT hE
    · exact walk_num a b ha hb na nb w hT hE
set_option maxRecDepth 100000 in
/-- What the walk gives, for every argument and every world. -/
theorem contract (H : Type) (enc : TypeId × Value → H) (W : World) (base : Nat) (args : Array Value) (ds gs : List (DataW H)) (before : List MemPlace)
    (hval : ∀ (j : Nat) t v, Tryd.f10.params[j]? = some t → args[j]? = some v → Value.okWide Tryd.prog W .any base t v)
    (hW : DataW.Whole enc Tryd.prog Tryd.f10.params.toList Rows.numSignsSpec.vars false W args.toList ds gs before) (hL : laidMetH Tryd.prog Rows.numSignsRow.laid W) : 
    Calls Tryd.prog 10 args W fun e W' => ∃ v, e = .returned v ∧ Rows.numSignsSpec.post enc Tryd.prog Tryd.f10 false true false false W args v W' := by
  have hW' := hW
  obtain ⟨p, q, hA0, hV, rfl, hfz, hnd⟩ := hW
  have hA : DataW.TrodAll enc Tryd.prog W 0 (fun _ => true) true Tryd.f10.params.toList args.toList ds p := hA0
  rw [Tryd.params10] at hA hval
  obtain ⟨v0, vs0, d0, ds0, p0, q0, hargs, rfl, rfl, h0, r0⟩ := trodAll_cons hA
  obtain ⟨v1, vs1, d1, ds1, p1, q1, rfl, rfl, rfl, h1, r1⟩ := trodAll_cons r0
  obtain ⟨rfl, rfl, rfl⟩ := trodAll_nil r1
  obtain rfl : args = #[v0, v1] := by cases args; simp_all
  obtain ⟨rfl, rfl⟩ := trodVars_none hV
  obtain ⟨a, rfl, rfl, rfl, w0⟩ := open_float Tryd.underlying22 (hval 0 22 v0 rfl rfl) h0
  have b0 : a < 18446744073709551616 := Shell.f64_lt w0
  obtain ⟨b, rfl, rfl, rfl, w1⟩ := open_float Tryd.underlying22 (hval 1 22 v1 rfl rfl) h1
  have b1 : b < 18446744073709551616 := Shell.f64_lt w1
  refine (walk a b b0 b1 W (tz_of hL) (es_of hL)).mono fun e W' ⟨he, hb⟩ => ?_
  exact ⟨_, he, Shell.post_law laidOut (by kernel_rfl) rfl Tryd.underlying4 rfl hW' rfl hb⟩
theorem reads (os : Os) {H : Type} (enc : TypeId × Value → H) : ∃ places, DataW.whole enc Tryd.prog ((laidWorld os).forCall (fun _ _ => 0) ⟨#[], #[.float .f64 0, .float .f64 0], []⟩).memory Tryd.f10.params.toList Rows.numSignsSpec.vars false (#[Value.float .f64 0, Value.float .f64 0]).toList 8 = some ([.lit (.float .f64 0), .lit (.float .f64 0)], [], places) :=
  ⟨[], by kernel_rfl⟩
set_option maxRecDepth 100000 in
theorem lifted (os : Os) (started : os.Started) (H : Type) (enc : TypeId × Value → H) (F : Stop.Interp) :
    ReturnsInHanded {} Tryd.checked os 10 .any ((OpenSpec.ofChange Rows.numSignsSpec).preRow enc Tryd.prog Tryd.f10 Rows.numSignsRow.domain false Rows.numSignsRow.laid) (((OpenSpec.ofChange Rows.numSignsSpec).at F).post enc Tryd.prog Tryd.f10 false true false false) := by
  obtain ⟨places, hx⟩ := reads os enc
  refine returnsInHanded_of_row (C := Tryd.checked) (s := OpenSpec.ofChange Rows.numSignsSpec) own started (by kernel_rfl) Tryd.func10
    (witness_row_atRef (enc := enc) (C := Tryd.checked) false (laidWorld os) #[.float .f64 0, .float .f64 0] rfl (by kernel_rfl) (by kernel_rfl) (by kernel_rfl)
      (OpenSpec.preRow_of_cond 8 hx (by kernel_rfl) (fun k hk => by cases hk) (by kernel_rfl) (laid_met os _))) ?_
  intro W base args ds gs before hval hW _ _ _ hL _ _
  exact contract H enc W base args ds gs before hval hW hL
theorem said : Rows.NumSignsSaid :=
  OpenClaim.holds_of_cond 10 Tryd.f10 rfl rfl rfl rfl rfl rfl rfl ⟨rfl, rfl, rfl, rfl, rfl⟩ rfl rfl rfl rfl rfl (by kernel_rfl) Tryd.func10 (by kernel_rfl)
    (of_decide_eq_true (by kernel_rfl)) (by unfold Func.isWrapper; first | (rw [if_pos (by decide +kernel)]; kernel_rfl) | (rw [if_neg (by decide +kernel)]; exact ⟨rfl, rfl⟩))
    (fun os started H enc _ F => by rw [OpenClaim.pre_eq_preRow]; exact lifted os started H enc F)
theorem plain (f : FuncId) (fn : Func) (hf : Tryd.pinned.checked.prog.funcNamed "tocsin/tocsinlaw01.NumSigns" = some f) (hfn : Tryd.pinned.checked.prog.funcs[f]? = some fn) :
    true = Tryd.pinned.checked.prog.looks [] ∧ ∀ (j : Nat) t, fn.params[j]? = some t → Tryd.pinned.checked.prog.wantsStandIn t = false := by
  obtain rfl : f = 10 := Option.some.inj ((show Tryd.prog.funcNamed "tocsin/tocsinlaw01.NumSigns" = some 10 by kernel_rfl).symm.trans hf) |>.symm
  obtain rfl : fn = Tryd.f10 := (Option.some.inj (Tryd.func10.symm.trans hfn)).symm
  refine ⟨by kernel_rfl, fun j t ht => ?_⟩
  rw [Tryd.params10] at ht
  have hall : ∀ t ∈ Tryd.f10.params.toList, Tryd.prog.wantsStandIn t = false := by
    rw [Tryd.params10]
    have h : ((#[22, 22] : Array TypeId).toList.all fun t => !Tryd.prog.wantsStandIn t) = true := by kernel_rfl
    intro t ht
    simpa using (List.all_eq_true.1 h) t ht
  exact hall t (by rw [Tryd.params10]; exact Array.mem_toList_iff.2 (Array.mem_of_getElem? ht))
theorem card : Rows.NumSignsCardSaid :=
  Claim7.holds_tied_plain_at .later [] _ _ _ _ said (fun _ h => by cases h) (by kernel_rfl) (fun _ h => by cases h) numSigns_row_tie rfl ⟨rfl, rfl⟩ (by kernel_rfl) rfl plain (by kernel_rfl)
end Go.Proofs.YtgcmjmnolkojhaaDoor.NumC.Signs
