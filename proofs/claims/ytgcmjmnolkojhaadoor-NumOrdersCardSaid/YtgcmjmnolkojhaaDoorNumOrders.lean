/- tocsinlaw01.NumOrders: for every three float64 the call returns true and leaves its arguments: num.Compare is total, goes round no three numbers, and is 0 just where the one form is the same. No condition but the row's own: the listed package-level variables hold what the text lays (the card ties them). -/
import Derived.Test.YtgcmjmnolkojhaaDoorNumLay
namespace Go.Proofs.YtgcmjmnolkojhaaDoor.NumC.Orders
open Go.ChangeShapes Go.WideShapes Go.ChangeAt Go.RowKit NumP NumW
theorem rank_one (x : Nat) : rank (oneN x) = rank x := by
  by_cases h : 9218868437227405312 < mag x
  · rw [one_nan x h]
    have e : rank x = 18446744073709551615 := if_pos h
    rw [e]; decide
  · rw [one_num x h]
theorem rank_inj (a b : Nat) (ha : a < 18446744073709551616) (hb : b < 18446744073709551616) (h : rank a = rank b) : oneN a = oneN b := by
  unfold rank at h
  unfold oneN mag at *
  by_cases h1 : 9218868437227405312 < a % 9223372036854775808
  · by_cases h2 : 9218868437227405312 < b % 9223372036854775808
    · rw [if_pos h1, if_pos h2]
    · rw [if_pos h1, if_neg h2] at h
      split at h <;> omega
  · by_cases h2 : 9218868437227405312 < b % 9223372036854775808
    · rw [if_neg h1, if_pos h2] at h
      split at h <;> omega
    · rw [if_neg h1, if_neg h2] at h
      rw [if_neg h1, if_neg h2]
      split at h <;> split at h <;> omega
theorem cmp_val (a b : Nat) (ha : a < 18446744073709551616) (hb : b < 18446744073709551616) (v : Int) (h : cmpN a b = v) (w : World) : Calls Tryd.prog 18 #[.float .f64 a, .float .f64 b] w fun e w' => e = .returned (.int .i64 v) ∧ w = w' := by
  have := cmp_any a b ha hb w
  rwa [h] at this
theorem cmp_cases (a b : Nat) : (cmpN a b = -1 ∧ rank a < rank b) ∨ (cmpN a b = 0 ∧ rank a = rank b) ∨ (cmpN a b = 1 ∧ rank b < rank a) := by
  unfold cmpN
  by_cases h1 : rank a < rank b
  · exact Or.inl ⟨if_pos h1, h1⟩
  · by_cases h2 : rank b < rank a
    · exact Or.inr (Or.inr ⟨by rw [if_neg h1, if_pos h2], h2⟩)
    · exact Or.inr (Or.inl ⟨by rw [if_neg h1, if_neg h2], by omega⟩)
set_option maxHeartbeats 1000000 in
set_option maxRecDepth 100000 in
theorem walk_at (a b c : Nat) (x y z : Int) (ha : a < 18446744073709551616) (hb : b < 18446744073709551616) (hc : c < 18446744073709551616) (hx : cmpN a b = x) (hy : cmpN b c = y) (hz : cmpN a c = z)
    (hxyz : (x = -1 ∧ y = -1 ∧ z = -1) ∨ (x = -1 ∧ y = 0 ∧ z = -1) ∨ (x = -1 ∧ y = 1 ∧ z = -1) ∨ (x = -1 ∧ y = 1 ∧ z = 0) ∨ (x = -1 ∧ y = 1 ∧ z = 1) ∨ (x = 0 ∧ y = -1 ∧ z = -1) ∨ (x = 0 ∧ y = 0 ∧ z = 0) ∨ (x = 0 ∧ y = 1 ∧ z = 1) ∨ (x = 1 ∧ y = -1 ∧ z = -1) ∨ (x = 1 ∧ y = -1 ∧ z = 0) ∨ (x = 1 ∧ y = -1 ∧ z = 1) ∨ (x = 1 ∧ y = 0 ∧ z = 1) ∨ (x = 1 ∧ y = 1 ∧ z = 1)) (k : ((oneN a : Int) == (oneN b : Int)) = (x == 0)) (w : World) (hT : Tz w) (hE : Es w) :
    Calls Tryd.prog 8 #[.float .f64 a, .float .f64 b, .float .f64 c] w fun e w' => e = .returned (.bool true) ∧ Below w.heap.size w w' := by
  have HT := Lib.hid hT
  have HE := Lib.hid hE
  have HX := Lib.hid hx
  have HY := Lib.hid hy
  have HZ := Lib.hid hz
  clear hT hE hx hy hz
  rcases hxyz with ⟨rfl, rfl, rfl⟩ | ⟨rfl, rfl, rfl⟩ | ⟨rfl, rfl, rfl⟩ | ⟨rfl, rfl, rfl⟩ | ⟨rfl, rfl, rfl⟩ | ⟨rfl, rfl, rfl⟩ | ⟨rfl, rfl, rfl⟩ | ⟨rfl, rfl, rfl⟩ | ⟨rfl, rfl, rfl⟩ | ⟨rfl, rfl, rfl⟩ | ⟨rfl, rfl, rfl⟩ | ⟨rfl, rfl, rfl⟩ | ⟨rfl, rfl, rfl⟩
  all_goals
    simp only [show ((0 : Int) == 0) = true from rfl, show ((1 : Int) == 0) = false from rfl, show ((-1 : Int) == 0) = false from rfl] at k
    go_enter Tryd.func8, Tryd.ntmps8
    go_wp2_with fail
    refine (fixed_any _ HT.out HE.out).mono ?_
    rintro e w1 ⟨rfl, hb1⟩
    go_wp2_with fail
    refine (cmp_val _ _ ha hb _ HX.out _).mono ?_
    rintro e w2 ⟨rfl, rfl⟩
    go_wp2_with fail
    refine (cmp_val _ _ hb hc _ HY.out _).mono ?_
    rintro e w2 ⟨rfl, rfl⟩
    go_wp2_with fail
    refine (cmp_val _ _ ha hc _ HZ.out _).mono ?_
    rintro e w2 ⟨rfl, rfl⟩
    go_wp2_with (first | (go_at_call 16; refine (one_any _ (by assumption) _).mono ?_; rintro e w' ⟨rfl, rfl⟩) | (go_at_call 15; refine (bits_any _ _).mono ?_; rintro e w' ⟨rfl, rfl⟩))
    go_ret
    exact ⟨rfl, hb1⟩
theorem walk (a b c : Nat) (ha : a < 18446744073709551616) (hb : b < 18446744073709551616) (hc : c < 18446744073709551616) (w : World) (hT : Tz w) (hE : Es w) :
    Calls Tryd.prog 8 #[.float .f64 a, .float .f64 b, .float .f64 c] w fun e w' => e = .returned (.bool true) ∧ Below w.heap.size w w' := by
  refine walk_at a b c _ _ _ ha hb hc rfl rfl rfl ?_ ?_ w hT hE
  · rcases cmp_cases a b with ⟨h1, h2⟩ | ⟨h1, h2⟩ | ⟨h1, h2⟩ <;> rcases cmp_cases b c with ⟨h3, h4⟩ | ⟨h3, h4⟩ | ⟨h3, h4⟩ <;> rcases cmp_cases a c with ⟨h5, h6⟩ | ⟨h5, h6⟩ | ⟨h5, h6⟩ <;> rw [h1, h3, h5] <;> first | decide | (exfalso; clear h1 h3 h5; omega)
  · rcases cmp_cases a b with ⟨h1, h2⟩ | ⟨h1, h2⟩ | ⟨h1, h2⟩
    · rw [h1]
      have hne : oneN a ≠ oneN b := fun e => by have := rank_one a; rw [e, rank_one b] at this; omega
      rw [beq_eq_false_iff_ne.2 (fun e => hne (by omega))]; rfl
    · rw [h1, rank_inj a b ha hb h2]; simp
    · rw [h1]
      have hne : oneN a ≠ oneN b := fun e => by have := rank_one a; rw [e, rank_one b] at this; omega
      rw [beq_eq_false_iff_ne.2 (fun e => hne (by omega))]; rfl
set_option maxRecDepth 100000 in
/-- What the walk gives, for every argument and every world. -/
theorem contract (H : Type) (enc : TypeId × Value → H) (W : World) (base : Nat) (args : Array Value) (ds gs : List (DataW H)) (before : List MemPlace)
    (hval : ∀ (j : Nat) t v, Tryd.f8.params[j]? = some t → args[j]? = some v → Value.okWide Tryd.prog W .any base t v)
    (hW : DataW.Whole enc Tryd.prog Tryd.f8.params.toList Rows.numOrdersSpec.vars false W args.toList ds gs before) (hL : laidMetH Tryd.prog Rows.numOrdersRow.laid W) : 
    Calls Tryd.prog 8 args W fun e W' => ∃ v, e = .returned v ∧ Rows.numOrdersSpec.post enc Tryd.prog Tryd.f8 false true false false W args v W' := by
  have hW' := hW
  obtain ⟨p, q, hA0, hV, rfl, hfz, hnd⟩ := hW
  have hA : DataW.TrodAll enc Tryd.prog W 0 (fun _ => true) true Tryd.f8.params.toList args.toList ds p := hA0
  rw [Tryd.params8] at hA hval
  obtain ⟨v0, vs0, d0, ds0, p0, q0, hargs, rfl, rfl, h0, r0⟩ := trodAll_cons hA
  obtain ⟨v1, vs1, d1, ds1, p1, q1, rfl, rfl, rfl, h1, r1⟩ := trodAll_cons r0
  obtain ⟨v2, vs2, d2, ds2, p2, q2, rfl, rfl, rfl, h2, r2⟩ := trodAll_cons r1
  obtain ⟨rfl, rfl, rfl⟩ := trodAll_nil r2
  obtain rfl : args = #[v0, v1, v2] := by cases args; simp_all
  obtain ⟨rfl, rfl⟩ := trodVars_none hV
  obtain ⟨a, rfl, rfl, rfl, w0⟩ := open_float Tryd.underlying22 (hval 0 22 v0 rfl rfl) h0
  have b0 : a < 18446744073709551616 := Shell.f64_lt w0
  obtain ⟨b, rfl, rfl, rfl, w1⟩ := open_float Tryd.underlying22 (hval 1 22 v1 rfl rfl) h1
  have b1 : b < 18446744073709551616 := Shell.f64_lt w1
  obtain ⟨c, rfl, rfl, rfl, w2⟩ := open_float Tryd.underlying22 (hval 2 22 v2 rfl rfl) h2
  have b2 : c < 18446744073709551616 := Shell.f64_lt w2
  refine (walk a b c b0 b1 b2 W (tz_of hL) (es_of hL)).mono fun e W' ⟨he, hb⟩ => ?_
  exact ⟨_, he, Shell.post_law laidOut (by kernel_rfl) rfl Tryd.underlying4 rfl hW' rfl hb⟩
theorem reads (os : Os) {H : Type} (enc : TypeId × Value → H) : ∃ places, DataW.whole enc Tryd.prog ((laidWorld os).forCall (fun _ _ => 0) ⟨#[], #[.float .f64 0, .float .f64 0, .float .f64 0], []⟩).memory Tryd.f8.params.toList Rows.numOrdersSpec.vars false (#[Value.float .f64 0, Value.float .f64 0, Value.float .f64 0]).toList 8 = some ([.lit (.float .f64 0), .lit (.float .f64 0), .lit (.float .f64 0)], [], places) :=
  ⟨[], by kernel_rfl⟩
set_option maxRecDepth 100000 in
theorem lifted (os : Os) (started : os.Started) (H : Type) (enc : TypeId × Value → H) (F : Stop.Interp) :
    ReturnsInHanded {} Tryd.checked os 8 .any ((OpenSpec.ofChange Rows.numOrdersSpec).preRow enc Tryd.prog Tryd.f8 Rows.numOrdersRow.domain false Rows.numOrdersRow.laid) (((OpenSpec.ofChange Rows.numOrdersSpec).at F).post enc Tryd.prog Tryd.f8 false true false false) := by
  obtain ⟨places, hx⟩ := reads os enc
  refine returnsInHanded_of_row (C := Tryd.checked) (s := OpenSpec.ofChange Rows.numOrdersSpec) own started (by kernel_rfl) Tryd.func8
    (witness_row_atRef (enc := enc) (C := Tryd.checked) false (laidWorld os) #[.float .f64 0, .float .f64 0, .float .f64 0] rfl (by kernel_rfl) (by kernel_rfl) (by kernel_rfl)
      (OpenSpec.preRow_of_cond 8 hx (by kernel_rfl) (fun k hk => by cases hk) (by kernel_rfl) (laid_met os _))) ?_
  intro W base args ds gs before hval hW _ _ _ hL _ _
  exact contract H enc W base args ds gs before hval hW hL
theorem said : Rows.NumOrdersSaid :=
  OpenClaim.holds_of_cond 8 Tryd.f8 rfl rfl rfl rfl rfl rfl rfl ⟨rfl, rfl, rfl, rfl, rfl⟩ rfl rfl rfl rfl rfl (by kernel_rfl) Tryd.func8 (by kernel_rfl)
    (of_decide_eq_true (by kernel_rfl)) (by unfold Func.isWrapper; first | (rw [if_pos (by decide +kernel)]; kernel_rfl) | (rw [if_neg (by decide +kernel)]; exact ⟨rfl, rfl⟩))
    (fun os started H enc _ F => by rw [OpenClaim.pre_eq_preRow]; exact lifted os started H enc F)
theorem plain (f : FuncId) (fn : Func) (hf : Tryd.pinned.checked.prog.funcNamed "tocsin/tocsinlaw01.NumOrders" = some f) (hfn : Tryd.pinned.checked.prog.funcs[f]? = some fn) :
    true = Tryd.pinned.checked.prog.looks [] ∧ ∀ (j : Nat) t, fn.params[j]? = some t → Tryd.pinned.checked.prog.wantsStandIn t = false := by
  obtain rfl : f = 8 := Option.some.inj ((show Tryd.prog.funcNamed "tocsin/tocsinlaw01.NumOrders" = some 8 by kernel_rfl).symm.trans hf) |>.symm
  obtain rfl : fn = Tryd.f8 := (Option.some.inj (Tryd.func8.symm.trans hfn)).symm
  refine ⟨by kernel_rfl, fun j t ht => ?_⟩
  rw [Tryd.params8] at ht
  have hall : ∀ t ∈ Tryd.f8.params.toList, Tryd.prog.wantsStandIn t = false := by
    rw [Tryd.params8]
    have h : ((#[22, 22, 22] : Array TypeId).toList.all fun t => !Tryd.prog.wantsStandIn t) = true := by kernel_rfl
    intro t ht
    simpa using (List.all_eq_true.1 h) t ht
  exact hall t (by rw [Tryd.params8]; exact Array.mem_toList_iff.2 (Array.mem_of_getElem? ht))
theorem card : Rows.NumOrdersCardSaid :=
  Claim7.holds_tied_plain_at .later [] _ _ _ _ said (fun _ h => by cases h) (by kernel_rfl) (fun _ h => by cases h) numOrders_row_tie rfl ⟨rfl, rfl⟩ (by kernel_rfl) rfl plain (by kernel_rfl)
end Go.Proofs.YtgcmjmnolkojhaaDoor.NumC.Orders
