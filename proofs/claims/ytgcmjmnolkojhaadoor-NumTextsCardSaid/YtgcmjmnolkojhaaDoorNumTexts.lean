/- tocsinlaw01.NumTexts: for every float64 and every text the call returns true and leaves its arguments: num.Print is the sixteen digits of the one form, num.Parse reads it back, and refuses every text that is none, as the document's own reading does. No condition but the row's own: the listed package-level variables hold what the text lays (the card ties them). -/
import Derived.Test.YtgcmjmnolkojhaaDoorNumLay
import Derived.Test.YtgcmjmnolkojhaaDoorNumWalk12
namespace Go.Proofs.YtgcmjmnolkojhaaDoor.NumC.Texts
open Go.ChangeShapes Go.WideShapes Go.ChangeAt Go.RowKit NumP NumW
open Go.ChangeMaps (open_string)
theorem parse_text (x : Nat) (hx : x < 18446744073709551616) : parseN (text (oneN x)) = some (oneN x) := by
  rw [parse_same_ref]
  unfold parseR
  have hs : (text (oneN x)).size = 16 := by
    show (strOfNums (hexF 16 (oneN x))).size = 16
    rw [strOfNums_size, hexF_len]
  rw [if_pos hs, rp_text _ (one_lt x hx)]
  simp only
  rw [if_neg ((one_fix _).1 (NumP.one_one x))]
theorem parse_back {s : ByteArray} {n : Nat} (h : parseN s = some n) : text (oneN n) = s ∧ n < 18446744073709551616 := by
  unfold parseN at h
  by_cases hs : s.size = 16
  · rw [if_pos hs] at h
    cases hp : pv 0 s.data.toList with
    | none => rw [hp] at h; cases h
    | some m =>
      rw [hp] at h
      simp only at h
      by_cases ht : text (oneN m) = s
      · rw [if_pos ht] at h; cases h; exact ⟨ht, num_lt s hs n hp⟩
      · rw [if_neg ht] at h; cases h
  · rw [if_neg hs] at h; cases h
set_option maxHeartbeats 1000000 in
set_option maxRecDepth 100000 in
theorem walk_some (x : Nat) (s : ByteArray) (n : Nat) (hs : parseN s = some n) (hx : x < 18446744073709551616) (w : World) (hT : Tz w) (hE : Es w) :
    Calls Tryd.prog 7 #[.float .f64 x, .string s] w fun e w' => e = .returned (.bool true) ∧ Below w.heap.size w w' := by
  have HS := Lib.hid hs
  obtain ⟨ht, hn⟩ := parse_back hs
  have k := str_eq ht
  have HN := Lib.hid hn
  clear hs ht hn
  have HX := Lib.hid hx
  have HP := Lib.hid (parse_text x hx)
  have HT := Lib.hid hT
  have HE := Lib.hid hE
  clear hT hE hx
  go_enter Tryd.func7, Tryd.ntmps7
  go_wp2_with fail
  refine (fixed_any _ HT.out HE.out).mono ?_
  rintro e w1 ⟨rfl, hb1⟩
  have HT1 := Lib.hid (HT.out.below hb1 (Nat.le_refl _))
  have HE1 := Lib.hid (HE.out.below hb1 (Nat.le_refl _))
  go_wp2_with fail
  refine (print_any _ HX.out _ HT1.out).mono ?_
  rintro e w2 ⟨rfl, hb2⟩
  have HT2 := Lib.hid (HT1.out.below hb2 (Nat.le_refl _))
  have HE2 := Lib.hid (HE1.out.below hb2 (Nat.le_refl _))
  go_wp2_with fail
  refine (parse_any _ _ HT2.out HE2.out).mono ?_
  rintro e w3 ⟨rfl, hb3⟩
  have HT3 := Lib.hid (HT2.out.below hb3 (Nat.le_refl _))
  have HE3 := Lib.hid (HE2.out.below hb3 (Nat.le_refl _))
  rw [HP.out]
  unfold parseVal
  go_wp2_with fail
  refine (parse_any _ _ HT3.out HE3.out).mono ?_
  rintro e w4 ⟨rfl, hb4⟩
  have HT4 := Lib.hid (HT3.out.below hb4 (Nat.le_refl _))
  rw [HS.out]
  unfold parseVal
  go_wp2_with fail
  refine (refParse_any _ _).mono ?_
  rintro e w5 ⟨rfl, rfl⟩
  rw [← parse_same_ref, HS.out]
  unfold parseRVal
  have hb14 : Below w.heap.size w w4 := hb1.trans ((hb2.mono hb1.size).trans ((hb3.mono (Nat.le_trans hb1.size hb2.size)).trans (hb4.mono (Nat.le_trans hb1.size (Nat.le_trans hb2.size hb3.size)))))
  have HB := Lib.hid hb14
  clear hb1 hb2 hb3 hb4 hb14 HT1 HT2 HT3 HE1 HE2 HE3 HP
  go_wp2_with fail
  refine (refPrint_any _ HX.out _).mono ?_
  rintro e w5 ⟨rfl, hb5⟩
  generalize text (oneN x) = T at *
  go_wp2_with (first | (go_at_call 15; refine (bits_any _ _).mono ?_; rintro e w' ⟨rfl, rfl⟩) | (go_at_call 17; refine (refOne_any _ HX.out _).mono ?_; rintro e w' ⟨rfl, rfl⟩))
  refine (print_any _ HN.out _ (HT4.out.below hb5 (Nat.le_refl _))).mono ?_
  rintro e w6 ⟨rfl, hb6⟩
  go_wp2
  go_ret
  exact ⟨rfl, HB.out.trans ((hb5.mono HB.out.size).trans (hb6.mono (Nat.le_trans HB.out.size hb5.size)))⟩
set_option maxHeartbeats 1000000 in
set_option maxRecDepth 100000 in
theorem walk_none (x : Nat) (s : ByteArray) (hs : parseN s = none) (hx : x < 18446744073709551616) (w : World) (hT : Tz w) (hE : Es w) :
    Calls Tryd.prog 7 #[.float .f64 x, .string s] w fun e w' => e = .returned (.bool true) ∧ Below w.heap.size w w' := by
  have HS := Lib.hid hs
  clear hs
  have HX := Lib.hid hx
  have HP := Lib.hid (parse_text x hx)
  have HT := Lib.hid hT
  have HE := Lib.hid hE
  clear hT hE hx
  go_enter Tryd.func7, Tryd.ntmps7
  go_wp2_with fail
  refine (fixed_any _ HT.out HE.out).mono ?_
  rintro e w1 ⟨rfl, hb1⟩
  have HT1 := Lib.hid (HT.out.below hb1 (Nat.le_refl _))
  have HE1 := Lib.hid (HE.out.below hb1 (Nat.le_refl _))
  go_wp2_with fail
  refine (print_any _ HX.out _ HT1.out).mono ?_
  rintro e w2 ⟨rfl, hb2⟩
  have HT2 := Lib.hid (HT1.out.below hb2 (Nat.le_refl _))
  have HE2 := Lib.hid (HE1.out.below hb2 (Nat.le_refl _))
  go_wp2_with fail
  refine (parse_any _ _ HT2.out HE2.out).mono ?_
  rintro e w3 ⟨rfl, hb3⟩
  have HT3 := Lib.hid (HT2.out.below hb3 (Nat.le_refl _))
  have HE3 := Lib.hid (HE2.out.below hb3 (Nat.le_refl _))
  rw [HP.out]
  unfold parseVal
  go_wp2_with fail
  refine (parse_any _ _ HT3.out HE3.out).mono ?_
  rintro e w4 ⟨rfl, hb4⟩
  have HT4 := Lib.hid (HT3.out.below hb4 (Nat.le_refl _))
  rw [HS.out]
  unfold parseVal
  go_wp2_with fail
  refine (refParse_any _ _).mono ?_
  rintro e w5 ⟨rfl, rfl⟩
  rw [← parse_same_ref, HS.out]
  unfold parseRVal
  have hb14 : Below w.heap.size w w4 := hb1.trans ((hb2.mono hb1.size).trans ((hb3.mono (Nat.le_trans hb1.size hb2.size)).trans (hb4.mono (Nat.le_trans hb1.size (Nat.le_trans hb2.size hb3.size)))))
  have HB := Lib.hid hb14
  clear hb1 hb2 hb3 hb4 hb14 HT1 HT2 HT3 HE1 HE2 HE3 HP
  go_wp2_with fail
  refine (refPrint_any _ HX.out _).mono ?_
  rintro e w5 ⟨rfl, hb5⟩
  generalize text (oneN x) = T at *
  go_wp2_with (first | (go_at_call 15; refine (bits_any _ _).mono ?_; rintro e w' ⟨rfl, rfl⟩) | (go_at_call 17; refine (refOne_any _ HX.out _).mono ?_; rintro e w' ⟨rfl, rfl⟩))
  go_ret
  exact ⟨rfl, HB.out.trans (hb5.mono HB.out.size)⟩
theorem walk (x : Nat) (s : ByteArray) (hx : x < 18446744073709551616) (w : World) (hT : Tz w) (hE : Es w) :
    Calls Tryd.prog 7 #[.float .f64 x, .string s] w fun e w' => e = .returned (.bool true) ∧ Below w.heap.size w w' := by
  cases h : parseN s with
  | some n => exact walk_some x s n h hx w hT hE
  | none => exact walk_none x s h hx w hT hE
set_option maxRecDepth 100000 in
/-- What the walk gives, for every argument and every world. -/
theorem contract (H : Type) (enc : TypeId × Value → H) (W : World) (base : Nat) (args : Array Value) (ds gs : List (DataW H)) (before : List MemPlace)
    (hval : ∀ (j : Nat) t v, Tryd.f7.params[j]? = some t → args[j]? = some v → Value.okWide Tryd.prog W .any base t v)
    (hW : DataW.Whole enc Tryd.prog Tryd.f7.params.toList Rows.numTextsSpec.vars false W args.toList ds gs before) (hL : laidMetH Tryd.prog Rows.numTextsRow.laid W) : 
    Calls Tryd.prog 7 args W fun e W' => ∃ v, e = .returned v ∧ Rows.numTextsSpec.post enc Tryd.prog Tryd.f7 false true false false W args v W' := by
  have hW' := hW
  obtain ⟨p, q, hA0, hV, rfl, hfz, hnd⟩ := hW
  have hA : DataW.TrodAll enc Tryd.prog W 0 (fun _ => true) true Tryd.f7.params.toList args.toList ds p := hA0
  rw [Tryd.params7] at hA hval
  obtain ⟨v0, vs0, d0, ds0, p0, q0, hargs, rfl, rfl, h0, r0⟩ := trodAll_cons hA
  obtain ⟨v1, vs1, d1, ds1, p1, q1, rfl, rfl, rfl, h1, r1⟩ := trodAll_cons r0
  obtain ⟨rfl, rfl, rfl⟩ := trodAll_nil r1
  obtain rfl : args = #[v0, v1] := by cases args; simp_all
  obtain ⟨rfl, rfl⟩ := trodVars_none hV
  obtain ⟨x, rfl, rfl, rfl, w0⟩ := open_float Tryd.underlying22 (hval 0 22 v0 rfl rfl) h0
  have b0 : x < 18446744073709551616 := Shell.f64_lt w0
  obtain ⟨s, rfl, rfl, rfl, w1⟩ := open_string Tryd.underlying9 (hval 1 9 v1 rfl rfl) h1
  refine (walk x s b0 W (tz_of hL) (es_of hL)).mono fun e W' ⟨he, hb⟩ => ?_
  exact ⟨_, he, Shell.post_law laidOut (by kernel_rfl) rfl Tryd.underlying4 rfl hW' rfl hb⟩
theorem reads (os : Os) {H : Type} (enc : TypeId × Value → H) : ∃ places, DataW.whole enc Tryd.prog ((laidWorld os).forCall (fun _ _ => 0) ⟨#[], #[.float .f64 0, .string ⟨#[]⟩], []⟩).memory Tryd.f7.params.toList Rows.numTextsSpec.vars false (#[Value.float .f64 0, Value.string ⟨#[]⟩]).toList 8 = some ([.lit (.float .f64 0), .lit (.string [])], [], places) :=
  ⟨[], by kernel_rfl⟩
set_option maxRecDepth 100000 in
theorem lifted (os : Os) (started : os.Started) (H : Type) (enc : TypeId × Value → H) (F : Stop.Interp) :
    ReturnsInHanded {} Tryd.checked os 7 .any ((OpenSpec.ofChange Rows.numTextsSpec).preRow enc Tryd.prog Tryd.f7 Rows.numTextsRow.domain false Rows.numTextsRow.laid) (((OpenSpec.ofChange Rows.numTextsSpec).at F).post enc Tryd.prog Tryd.f7 false true false false) := by
  obtain ⟨places, hx⟩ := reads os enc
  refine returnsInHanded_of_row (C := Tryd.checked) (s := OpenSpec.ofChange Rows.numTextsSpec) own started (by kernel_rfl) Tryd.func7
    (witness_row_atRef (enc := enc) (C := Tryd.checked) false (laidWorld os) #[.float .f64 0, .string ⟨#[]⟩] rfl (by kernel_rfl) (by kernel_rfl) (by kernel_rfl)
      (OpenSpec.preRow_of_cond 8 hx (by kernel_rfl) (fun k hk => by cases hk) (by kernel_rfl) (laid_met os _))) ?_
  intro W base args ds gs before hval hW _ _ _ hL _ _
  exact contract H enc W base args ds gs before hval hW hL
theorem said : Rows.NumTextsSaid :=
  OpenClaim.holds_of_cond 7 Tryd.f7 rfl rfl rfl rfl rfl rfl rfl ⟨rfl, rfl, rfl, rfl, rfl⟩ rfl rfl rfl rfl rfl (by kernel_rfl) Tryd.func7 (by kernel_rfl)
    (of_decide_eq_true (by kernel_rfl)) (by unfold Func.isWrapper; first | (rw [if_pos (by decide +kernel)]; kernel_rfl) | (rw [if_neg (by decide +kernel)]; exact ⟨rfl, rfl⟩))
    (fun os started H enc _ F => by rw [OpenClaim.pre_eq_preRow]; exact lifted os started H enc F)
theorem plain (f : FuncId) (fn : Func) (hf : Tryd.pinned.checked.prog.funcNamed "tocsin/tocsinlaw01.NumTexts" = some f) (hfn : Tryd.pinned.checked.prog.funcs[f]? = some fn) :
    true = Tryd.pinned.checked.prog.looks [] ∧ ∀ (j : Nat) t, fn.params[j]? = some t → Tryd.pinned.checked.prog.wantsStandIn t = false := by
  obtain rfl : f = 7 := Option.some.inj ((show Tryd.prog.funcNamed "tocsin/tocsinlaw01.NumTexts" = some 7 by kernel_rfl).symm.trans hf) |>.symm
  obtain rfl : fn = Tryd.f7 := (Option.some.inj (Tryd.func7.symm.trans hfn)).symm
  refine ⟨by kernel_rfl, fun j t ht => ?_⟩
  rw [Tryd.params7] at ht
  have hall : ∀ t ∈ Tryd.f7.params.toList, Tryd.prog.wantsStandIn t = false := by
    rw [Tryd.params7]
    have h : ((#[22, 9] : Array TypeId).toList.all fun t => !Tryd.prog.wantsStandIn t) = true := by kernel_rfl
    intro t ht
    simpa using (List.all_eq_true.1 h) t ht
  exact hall t (by rw [Tryd.params7]; exact Array.mem_toList_iff.2 (Array.mem_of_getElem? ht))
theorem card : Rows.NumTextsCardSaid :=
  Claim7.holds_tied_plain_at .later [] _ _ _ _ said (fun _ h => by cases h) (by kernel_rfl) (fun _ h => by cases h) numTexts_row_tie rfl ⟨rfl, rfl⟩ (by kernel_rfl) rfl plain (by kernel_rfl)
end Go.Proofs.YtgcmjmnolkojhaaDoor.NumC.Texts
