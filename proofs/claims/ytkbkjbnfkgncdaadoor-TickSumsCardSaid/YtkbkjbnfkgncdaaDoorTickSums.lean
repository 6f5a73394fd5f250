/- tocsinlaw02.TickSums: for every row of int64 and every number the call returns true and leaves its arguments: the sum of any numbers is the document's own, whatever comes between, and whatever their order. No condition but the row's own: the listed package-level variables hold what the text lays (the card ties them). -/
import Derived.Test.YtkbkjbnfkgncdaaDoorTickInts
import Derived.Test.YtkbkjbnfkgncdaaDoorTickRSum
import Derived.Deep.RegionLaw
import Derived.Deep.RegionHeld3
import Derived.Laws.AppendOwn
namespace Go.Proofs.YtkbkjbnfkgncdaaDoor.TickW.TickSums
open Go.ChangeShapes Go.WideShapes Go.ChangeAt Go.RowKit
set_option maxHeartbeats 4000000 in
set_option maxRecDepth 100000 in
theorem walk (A : Option Addr) (xs : List Int) (c : Nat) (t : Int) (w : World) (hf : IL w A xs) (hl : xs.length * 8 ≤ 140737488351232) (hc : xs.length ≤ c) (hL : Laid w) :
    Calls Tryd.prog 5 #[.slice A xs.length c, .int .i64 t] w fun e w' => e = .returned (.bool true) ∧ Below w.heap.size w w' := by
  have HF := Lib.hid hf
  have HLD := Lib.hid hL
  have HL := Lib.hid hl
  have HC := Lib.hid hc
  have HL3 := Lib.hid (show xs.length ≤ 9223372036854775807 by omega)
  have hl2 : (xs.length : Int) ≤ 17592186043904 := by omega
  clear hf hL hl hc
  obtain ⟨i0, hi, hz0, hz1, hz2⟩ := i64_info
  have HI := Lib.hid hi
  have HZ0 := Lib.hid hz0
  have HZ1 := Lib.hid hz1
  have HZ2 := Lib.hid hz2
  clear hi hz0 hz1 hz2
  obtain ⟨sn, sk, hk⟩ := ansV_tuple xs.sum
  have HK := Lib.hid hk
  clear hk
  go_enter Tryd.func5, Tryd.ntmps5
  go_wp2_with fail
  refine (fixed_any _ HLD.out).mono ?_
  rintro e w1 ⟨rfl, hb1⟩
  have HB1 := Lib.hid hb1
  have F1 := Lib.hid (HF.out.below hb1)
  clear hb1
  go_wp2_with fail
  refine (sum_any A c xs _ F1.out HL3.out).mono ?_
  rintro e w2 ⟨rfl, b2⟩
  have B2 := Lib.hid (HB1.out.trans (b2.mono HB1.out.size))
  have F2 := Lib.hid (F1.out.below b2)
  clear b2
  rw [HK.out]
  go_wp2_with fail
  refine (refSum_any A c xs _ F2.out HL3.out).mono ?_
  rintro e w3 ⟨rfl, b3⟩
  have B3 := Lib.hid (B2.out.trans (b3.mono B2.out.size))
  have F3 := Lib.hid (F2.out.below b3)
  clear b3
  rw [HK.out]
  rcases Nat.eq_zero_or_pos xs.length with hn0 | hp
  · have hx : xs = [] := List.eq_nil_of_length_eq_zero hn0
    subst hx
    have hk := HK.out
    rw [show ansV ([] : List Int).sum = .tuple #[.int .i64 0, .int .i64 0] from rfl] at hk
    injection hk with hk
    injection hk with hk
    injection hk with hk1 hk2
    injection hk1 with _ hk1
    injection hk2 with hk2 _
    injection hk2 with _ hk2
    subst hk1; subst hk2
    clear hl2 hn0
    go_wp2
    go_ret
    exact ⟨rfl, B3.out⟩
  · have hp2 : (0 : Int) < (xs.length : Int) := by omega
    have HP := Lib.hid hp
    obtain ⟨a, rfl⟩ : ∃ a, A = some a := by
      obtain ⟨x, hx⟩ : ∃ x, xs[0]? = some x := ⟨_, List.getElem?_eq_getElem hp⟩
      exact ⟨_, (HF.out 0 x hx).choose_spec.1⟩
    clear hp
    go_wp2_with fail
    obtain ⟨p, hpn, hpe⟩ := turn_at t xs.length HP.out hl2
    rw [hpe]
    generalize (IntKind.u64.wrap t).tmod (xs.length : Int) = tm at *
    have HPN := Lib.hid hpn
    have q0 : (0 : Int) ≤ (p : Int) := by omega
    have q1 : (p : Int) ≤ (xs.length : Int) := by omega
    have q2 : (p : Int) ≤ (c : Int) := by have := HC.out; omega
    have q3 : ¬ (c = p) := by have := HC.out; omega
    clear hpn hpe
    have b4 : Below w3.heap.size w3 (w3.alloc (Obj.cells #[] 2)).drew := ((Below.refl w3.heap.size w3).alloc (Nat.le_refl _) _).drew
    have HF4 := Lib.hid (F3.out.below b4)
    have B4 := Lib.hid b4
    have HO0 := Lib.hid (show (w3.alloc (Obj.cells #[] 2)).drew.ownsRow w3.heap.size 2 1 (.slice (some ⟨w3.heap.size, 0, none⟩) 0 0) 0 [] from ⟨rfl, Or.inr ⟨w3.heap.size, 0, #[], rfl, Nat.le_refl _, heap_alloc_new w3 _, Nat.le_refl _, by decide, rfl, rfl⟩⟩)
    have HN1 := Lib.hid (show ∀ j u, (i64s (xs.drop p))[j]? = some u → (w3.alloc (Obj.cells #[] 2)).drew.cell? ((a.add p).add j) = some u from fun j u h => ildrop_cells HF4.out p j u h)
    have HS4 := Lib.hid (show w3.heap.size ≤ (w3.alloc (Obj.cells #[] 2)).drew.heap.size from b4.size)
    have HM1 := Lib.hid (show 0 + (xs.length - p) ≤ maxLen by have := HL.out; unfold maxLen; omega)
    have HY1 := Lib.hid (show (0 + (xs.length - p)) * 8 ≤ 140737488355328 by have := HL.out; omega)
    have HE1 := Lib.hid (show (i64s (xs.drop p)).length = (xs.length - p) * 1 by simp [i64s])
    have HM2 := Lib.hid (show 0 + (xs.length - p) + p ≤ maxLen by have := HL.out; have := HPN.out; unfold maxLen; omega)
    have HY2 := Lib.hid (show (0 + (xs.length - p) + p) * 8 ≤ 140737488355328 by have := HL.out; have := HPN.out; omega)
    have HE2 := Lib.hid (show (i64s (xs.take p)).length = p * 1 by have := HPN.out; simp [i64s]; omega)
    obtain ⟨ms, hms⟩ : ∃ ms, ms = xs.drop p ++ xs.take p := ⟨_, rfl⟩
    have HMS := Lib.hid (show ms.sum = xs.sum by rw [hms]; exact sum_rot xs p)
    have HML := Lib.hid (show ms.length = 0 + (xs.length - p) + p by rw [hms]; have := HPN.out; simp; omega)
    have HMX := Lib.hid (show [] ++ i64s (xs.drop p) ++ i64s (xs.take p) = i64s ms by rw [hms]; simp [i64s])
    have HMB := Lib.hid (show ∀ x ∈ ms, -9223372036854775808 ≤ x ∧ x ≤ 9223372036854775807 from fun x hx => by
      rw [hms, List.mem_append] at hx
      exact HF.out.bound x (hx.elim List.mem_of_mem_drop List.mem_of_mem_take))
    have HM3 := Lib.hid (show ms.length ≤ 9223372036854775807 by rw [HML.out]; have := HL.out; have := HPN.out; omega)
    clear hms b4
    go_region_held3 (fun _ => True) (trivial) (first
      | (refine step_append_own rfl _ _ 37 rfl w3.heap.size 2 i0 (.int .i64 0) 1 8 Tryd.underlying37 HI.out HZ0.out HZ1.out HZ2.out rfl (by decide) (.slice (some ⟨w3.heap.size, 0, none⟩) 0 0) 0 [] (by simp [Act.eval]) HO0.out (a.add p) (xs.length - p) (c - p) (i64s (xs.drop p)) (by simp [Act.eval]) HE1.out HN1.out i64s_one HM1.out HY1.out HS4.out ?_; (intro v1 w5 o1 g1 _; have O1 := Lib.hid o1; have G1 := Lib.hid (show Below w3.heap.size w3 w5 from B4.out.grown g1 HS4.out (fun k hk => by cases hk; exact Nat.le_refl _)); have F5 := Lib.hid (F3.out.below G1.out); have HN2 := Lib.hid (show ∀ j u, (i64s (xs.take p))[j]? = some u → w5.cell? (a.add j) = some u from fun j u h => iltake_cells F5.out p j u h); have HS5 := Lib.hid G1.out.size; clear o1 g1))
      | (refine step_append_own rfl _ _ 37 rfl w3.heap.size 2 i0 (.int .i64 0) 1 8 Tryd.underlying37 HI.out HZ0.out HZ1.out HZ2.out rfl (by decide) v1 _ _ (by simp [Act.eval]) O1.out a p c (i64s (xs.take p)) (by simp [Act.eval]) HE2.out HN2.out i64s_one HM2.out HY2.out HS5.out ?_; (intro v2 w6 o2 g2 _; rw [HMX.out, ← HML.out] at o2; obtain ⟨M, cM, rfl, hil, _⟩ := own_il o2 rfl HMB.out; have HIL := Lib.hid hil; have G2 := Lib.hid (show Below w3.heap.size w3 w6 from G1.out.grown g2 HS5.out (fun k hk => (O1.out.lt k hk).1)); clear o2 g2 hil))
      | (go_at_call 23; (with_reducible refine (sum_any M cM ms _ HIL.out HM3.out).mono ?_); rintro e w7 ⟨rfl, b7⟩; rw [HMS.out, HK.out]; have G3 := Lib.hid (B3.out.trans ((G2.out.trans (b7.mono G2.out.size)).mono B3.out.size)); clear b7))
    go_wp2
    go_ret
    exact ⟨rfl, G3.out⟩
set_option maxRecDepth 100000 in
/-- What the walk gives, for every argument and every world. -/
theorem contract (H : Type) (enc : TypeId × Value → H) (W : World) (base : Nat) (args : Array Value) (ds gs : List (DataW H)) (before : List MemPlace)
    (hval : ∀ (j : Nat) t v, Tryd.f5.params[j]? = some t → args[j]? = some v → Value.okWide Tryd.prog W .any base t v)
    (hW : DataW.Whole enc Tryd.prog Tryd.f5.params.toList Rows.tickSumsSpec.vars false W args.toList ds gs before) (hL : laidMetH Tryd.prog Rows.tickSumsRow.laid W) (hz : (DataW.weightsEach Tryd.prog (Tryd.f5.params.toList ++ (OpenSpec.ofChange Rows.tickSumsSpec).bare.plain.varTypes Tryd.prog) (ds ++ gs)).all (· ≤ reachBytes) = true) : 
    Calls Tryd.prog 5 args W fun e W' => ∃ v, e = .returned v ∧ Rows.tickSumsSpec.post enc Tryd.prog Tryd.f5 false true false false W args v W' := by
  have hW' := hW
  obtain ⟨p, q, hA0, hV, rfl, hfz, hnd⟩ := hW
  have hA : DataW.TrodAll enc Tryd.prog W 0 (fun _ => true) true Tryd.f5.params.toList args.toList ds p := hA0
  rw [Tryd.params5] at hA hval
  obtain ⟨v0, vs0, d0, ds0, p0, q0, hargs, rfl, rfl, h0, r0⟩ := trodAll_cons hA
  obtain ⟨v1, vs1, d1, ds1, p1, q1, rfl, rfl, rfl, h1, r1⟩ := trodAll_cons r0
  obtain ⟨rfl, rfl, rfl⟩ := trodAll_nil r1
  obtain rfl : args = #[v0, v1] := by cases args; simp_all
  obtain ⟨rfl, rfl⟩ := trodVars_none hV
  obtain ⟨A0, xs, c0, rfl, f0, l0, lc0, sz0, nl0⟩ := open_int64s Tryd.underlying37 Tryd.underlying2 (by kernel_rfl) (hval 0 37 v0 rfl rfl) h0
  have z0 : xs.length * 8 ≤ 140737488351232 := by
    rcases sz0 with h | ⟨es, sp, hd, hl⟩
    · rw [h]; decide
    · have := sized_slice hz (j := 0) (t := 37) (e := 2) (elems := es) (spare := sp) (by rw [Tryd.params5]; rfl) (by rw [hd]; rfl) Tryd.underlying37
      rw [show Tryd.prog.bytesOf 2 = 8 by kernel_rfl, show reachBytes = 140737488351232 from rfl] at this
      omega
  obtain ⟨t, rfl, rfl, rfl, w1⟩ := open_int Tryd.underlying3 (hval 1 3 v1 rfl rfl) h1
  refine (walk A0 xs c0 t W f0 z0 lc0 (laid_of hL)).mono fun e W' ⟨he, hb⟩ => ?_
  exact ⟨_, he, Shell.post_law laidOut (by kernel_rfl) rfl Tryd.underlying4 rfl hW' rfl hb⟩
theorem reads (os : Os) {H : Type} (enc : TypeId × Value → H) : ∃ places, DataW.whole enc Tryd.prog ((laidWorld os).forCall (fun _ _ => 0) ⟨#[], #[.slice none 0 0, .int .i64 0], []⟩).memory Tryd.f5.params.toList Rows.tickSumsSpec.vars false (#[Value.slice none 0 0, Value.int .i64 0]).toList 8 = some ([.nil, .lit (.int .i64 0)], [], places) :=
  ⟨[], by kernel_rfl⟩
set_option maxRecDepth 100000 in
theorem lifted (os : Os) (started : os.Started) (H : Type) (enc : TypeId × Value → H) (F : Stop.Interp) :
    ReturnsInHanded {} Tryd.checked os 5 .any ((OpenSpec.ofChange Rows.tickSumsSpec).preRow enc Tryd.prog Tryd.f5 Rows.tickSumsRow.domain false Rows.tickSumsRow.laid) (((OpenSpec.ofChange Rows.tickSumsSpec).at F).post enc Tryd.prog Tryd.f5 false true false false) := by
  obtain ⟨places, hx⟩ := reads os enc
  refine returnsInHanded_of_row (C := Tryd.checked) (s := OpenSpec.ofChange Rows.tickSumsSpec) own started (by kernel_rfl) Tryd.func5
    (witness_row_atRef (enc := enc) (C := Tryd.checked) false (laidWorld os) #[.slice none 0 0, .int .i64 0] rfl (by kernel_rfl) (by kernel_rfl) (by kernel_rfl)
      (OpenSpec.preRow_of_cond 8 hx (by kernel_rfl) (fun k hk => by cases hk) (by kernel_rfl) (laid_met os _))) ?_
  intro W base args ds gs before hval hW _ _ hz hL _ _
  exact contract H enc W base args ds gs before hval hW hL hz
theorem said : Rows.TickSumsSaid :=
  OpenClaim.holds_of_cond 5 Tryd.f5 rfl rfl rfl rfl rfl rfl rfl ⟨rfl, rfl, rfl, rfl, rfl⟩ rfl rfl rfl rfl rfl (by kernel_rfl) Tryd.func5 (by kernel_rfl)
    (of_decide_eq_true (by kernel_rfl)) (by unfold Func.isWrapper; first | (rw [if_pos (by decide +kernel)]; kernel_rfl) | (rw [if_neg (by decide +kernel)]; exact ⟨rfl, rfl⟩))
    (fun os started H enc _ F => by rw [OpenClaim.pre_eq_preRow]; exact lifted os started H enc F)
theorem plain (f : FuncId) (fn : Func) (hf : Tryd.pinned.checked.prog.funcNamed "tocsin/tocsinlaw02.TickSums" = some f) (hfn : Tryd.pinned.checked.prog.funcs[f]? = some fn) :
    true = Tryd.pinned.checked.prog.looks [] ∧ ∀ (j : Nat) t, fn.params[j]? = some t → Tryd.pinned.checked.prog.wantsStandIn t = false := by
  obtain rfl : f = 5 := Option.some.inj ((show Tryd.prog.funcNamed "tocsin/tocsinlaw02.TickSums" = some 5 by kernel_rfl).symm.trans hf) |>.symm
  obtain rfl : fn = Tryd.f5 := (Option.some.inj (Tryd.func5.symm.trans hfn)).symm
  refine ⟨by kernel_rfl, fun j t ht => ?_⟩
  rw [Tryd.params5] at ht
  have hall : ∀ t ∈ Tryd.f5.params.toList, Tryd.prog.wantsStandIn t = false := by
    rw [Tryd.params5]
    have h : ((#[37, 3] : Array TypeId).toList.all fun t => !Tryd.prog.wantsStandIn t) = true := by kernel_rfl
    intro t ht
    simpa using (List.all_eq_true.1 h) t ht
  exact hall t (by rw [Tryd.params5]; exact Array.mem_toList_iff.2 (Array.mem_of_getElem? ht))
theorem card : Rows.TickSumsCardSaid :=
  Claim7.holds_tied_plain_at .later [] _ _ _ _ said (fun _ h => by cases h) (by kernel_rfl) (fun _ h => by cases h) tickSums_row_tie rfl ⟨rfl, rfl⟩ (by kernel_rfl) rfl plain (by kernel_rfl)
end Go.Proofs.YtkbkjbnfkgncdaaDoor.TickW.TickSums
