/- The law MeanKeeps: what is handed in stays: for every list of readings. No condition. -/
import Derived.Test.YtelfbjldfdlpnaaMeanLay
import Derived.Test.YtelfbjldfdlpnaaMeanPure
namespace Go.Proofs.Ytelfbjldfdlpnaa.MeanW.MeanKeeps
open Go.ChangeShapes Go.WideShapes Go.ChangeAt Go.RowKit TickW MeanW
set_option maxHeartbeats 1000000 in
set_option maxRecDepth 100000 in
theorem same_any (A B : Option Addr) (xs : List Int) (c d : Nat) (w : World) (h1 : IL w A xs) (h2 : IL w B xs) (hl : xs.length ≤ 17592186044416) :
    Calls Try.prog 22 #[.slice A xs.length c, .slice B xs.length d] w fun e w' => e = .returned (.bool true) ∧ RowKit.Below w.heap.size w w' := by
  have H1 := Lib.hid h1
  have H2 := Lib.hid h2
  have HL := Lib.hid hl
  clear h1 h2 hl
  go_enter Try.func22, Try.ntmps22
  go_wp2_with fail
  go_loopw [5] (fun i wr => ∃ k n : Nat, k ≤ xs.length ∧ i = .int .i64 k ∧ wr = w.drewN n) (fun i _ => xs.length - (intOf i).toNat)
  case atStart => exact ⟨0, 0, Nat.zero_le _, rfl, rfl⟩
  case round =>
    obtain ⟨k, n, hk, rfl, rfl⟩ := hrel
    by_cases hlt : k < xs.length
    · have hl3 := HL.out
      obtain ⟨x, hx⟩ := MeanW.at_ hlt
      obtain ⟨a, rfl, ca, _⟩ := H1.out k x hx
      obtain ⟨b, rfl, cb, _⟩ := H2.out k x hx
      have da : (w.drewN n).cell? (a.add k) = some (.int .i64 x) := ca
      have db : (w.drewN n).cell? (b.add k) = some (.int .i64 x) := cb
      generalize hwr : w.drewN n = wr at *
      have HWR := Lib.hid hwr
      clear ca cb hx hwr
      go_wp2_with fail
      go_quiet (fail)
      go_wp2_with fail
      exact ⟨⟨k + 1, n + nq, by omega, by go_num, by rw [← HWR.out]; exact World.drewN_drewN _ _ _⟩, by simp [intOf]; omega⟩
    · obtain rfl : k = xs.length := by omega
      go_wp2_with fail
      go_ret
      exact ⟨rfl, ⟨rfl, rfl, rfl, Nat.le_refl _, fun _ _ => rfl⟩⟩
set_option maxHeartbeats 2000000 in
set_option maxRecDepth 100000 in
theorem walk (A : Option Addr) (xs : List Int) (c : Nat) (w : World) (h : IL w A xs) (hl : xs.length * 8 ≤ 140737488351232) (hc : xs.length ≤ c) :
    Calls Try.prog 8 #[.slice A xs.length c] w fun e w' => e = .returned (.bool true) ∧ RowKit.Below w.heap.size w w' := by
  obtain ⟨i0, hi, hz0, hz1, hz2⟩ := i64_info
  have HI := Lib.hid hi
  have HZ0 := Lib.hid hz0
  have HZ1 := Lib.hid hz1
  have HZ2 := Lib.hid hz2
  have H := Lib.hid h
  have HL := Lib.hid hl
  have HC := Lib.hid hc
  clear hi hz0 hz1 hz2 h hl hc
  go_enter Try.func8, Try.ntmps8
  go_wp2_with fail
  refine (fixed_any _).mono ?_
  rintro e w1 ⟨rfl, b1⟩
  have F1 := Lib.hid (H.out.below b1)
  have B1 := Lib.hid b1; clear b1
  have b4 : RowKit.Below w1.heap.size w1 (w1.alloc (Obj.cells #[] 2)) := (Below.refl w1.heap.size w1).alloc (Nat.le_refl _) _
  have F4 := Lib.hid (F1.out.below b4)
  have B4 := Lib.hid b4
  have HO0 := Lib.hid (show (w1.alloc (Obj.cells #[] 2)).ownsRow w1.heap.size 2 1 (.slice (some ⟨w1.heap.size, 0, none⟩) 0 0) 0 [] from ⟨rfl, Or.inr ⟨w1.heap.size, 0, #[], rfl, Nat.le_refl _, heap_alloc_new w1 _, Nat.le_refl _, by decide, rfl, rfl⟩⟩)
  clear b4
  cases A with
  | none =>
    have hx : xs = [] := by
      cases xs with
      | nil => rfl
      | cons x l => obtain ⟨_, e, _⟩ := H.out 0 x rfl; cases e
    subst hx
    go_wp2_with fail
    have I2 : Hid (IL (w1.alloc (Obj.cells #[] 2)) (some ⟨w1.heap.size, 0, none⟩) []) := Lib.hid (fun k x h => by simp at h)
    have F2 := F4
    have B3 := Lib.hid (B1.out.trans (B4.out.mono B1.out.size))
    have L2 : Hid (([] : List Int).length * 8 ≤ 140737488355328) := Lib.hid (by decide)
    have L3 : Hid (([] : List Int).length ≤ 17592186044416) := Lib.hid (by decide)
    refine (tolerant_any (some ⟨w1.heap.size, 0, none⟩) 0 [] _ I2.out L2.out).mono ?_
    rintro e w3 ⟨rfl, b3⟩
    have I3 := Lib.hid (I2.out.below b3)
    have F3 := Lib.hid (F2.out.below b3)
    have B5 := Lib.hid (B3.out.trans (b3.mono B3.out.size)); clear b3
    go_wp2_with fail
    refine (middle_any (some ⟨w1.heap.size, 0, none⟩) 0 [] _ I3.out L2.out).mono ?_
    rintro e w4 ⟨rfl, b4⟩
    have I4 := Lib.hid (I3.out.below b4)
    have F5 := Lib.hid (F3.out.below b4)
    have B6 := Lib.hid (B5.out.trans (b4.mono B5.out.size)); clear b4
    go_wp2_with fail
    refine (spread_any (some ⟨w1.heap.size, 0, none⟩) 0 [] _ I4.out L2.out).mono ?_
    rintro e w5 ⟨rfl, rfl⟩
    go_wp2_with fail
    refine (same_any (some ⟨w1.heap.size, 0, none⟩) none [] 0 c _ I4.out F5.out L3.out).mono ?_
    rintro e w6 ⟨rfl, b6⟩
    have B7 := Lib.hid (B6.out.trans (b6.mono B6.out.size)); clear b6
    go_wp2
    go_ret
    exact ⟨rfl, B7.out⟩
  | some a =>
    go_wp2_with (at_builtin; refine wpList_append_own _ rfl _ _ 22 rfl w1.heap.size 2 i0 (.int .i64 0) 1 8 Try.underlying22 HI.out HZ0.out HZ1.out HZ2.out rfl (by decide) _ _ _ rfl HO0.out a xs.length c (i64s xs) rfl ?c0 ?c1 ?c2 ?c3 ?c4 ?c5 ?_)
    case c0 => simp [i64s]
    case c1 => exact F4.out.cells
    case c2 => exact i64s_one
    case c3 => have := HL.out; unfold maxLen; omega
    case c4 => have := HL.out; omega
    case c5 => exact B4.out.size
    intro v' w2 hown hgrow _
    have B2 := Lib.hid (show RowKit.Below w1.heap.size w1 w2 from B4.out.grown hgrow B4.out.size (fun k hk => by cases hk; exact Nat.le_refl _))
    have hown : w2.ownsRow w1.heap.size 2 1 v' xs.length (i64s xs) := by simpa using hown
    obtain ⟨M, cM, rfl, hil, _⟩ := own_il hown rfl (IL.bounds H.out)
    have I2 := Lib.hid hil
    have F2 := Lib.hid (F1.out.below B2.out)
    have B3 := Lib.hid (B1.out.trans (B2.out.mono B1.out.size))
    have L2 := Lib.hid (show xs.length * 8 ≤ 140737488355328 by have := HL.out; omega)
    have L3 := Lib.hid (show xs.length ≤ 17592186044416 by have := HL.out; omega)
    clear hown hgrow hil B2
    go_wp2_with fail
    refine (tolerant_any M cM xs _ I2.out L2.out).mono ?_
    rintro e w3 ⟨rfl, b3⟩
    have I3 := Lib.hid (I2.out.below b3)
    have F3 := Lib.hid (F2.out.below b3)
    have B5 := Lib.hid (B3.out.trans (b3.mono B3.out.size)); clear b3
    go_wp2_with fail
    refine (middle_any M cM xs _ I3.out L2.out).mono ?_
    rintro e w4 ⟨rfl, b4⟩
    have I4 := Lib.hid (I3.out.below b4)
    have F5 := Lib.hid (F3.out.below b4)
    have B6 := Lib.hid (B5.out.trans (b4.mono B5.out.size)); clear b4
    go_wp2_with fail
    refine (spread_any M cM xs _ I4.out L2.out).mono ?_
    rintro e w5 ⟨rfl, rfl⟩
    go_wp2_with fail
    refine (same_any M (some a) xs cM c _ I4.out F5.out L3.out).mono ?_
    rintro e w6 ⟨rfl, b6⟩
    have B7 := Lib.hid (B6.out.trans (b6.mono B6.out.size)); clear b6
    go_wp2
    go_ret
    exact ⟨rfl, B7.out⟩
set_option maxRecDepth 100000 in
/-- What the walk gives, for every argument and every world. -/
theorem contract (H : Type) (enc : TypeId × Value → H) (W : World) (base : Nat) (args : Array Value) (ds gs : List (DataW H)) (before : List MemPlace)
    (hval : ∀ (j : Nat) t v, Try.f8.params[j]? = some t → args[j]? = some v → Value.okWide Try.prog W .any base t v)
    (hW : DataW.Whole enc Try.prog Try.f8.params.toList Rows.meanKeepsSpec.vars false W args.toList ds gs before) (hz : (DataW.weightsEach Try.prog (Try.f8.params.toList ++ (OpenSpec.ofChange Rows.meanKeepsSpec).bare.plain.varTypes Try.prog) (ds ++ gs)).all (· ≤ reachBytes) = true) : 
    Calls Try.prog 8 args W fun e W' => ∃ v, e = .returned v ∧ Rows.meanKeepsSpec.post enc Try.prog Try.f8 false true false false W args v W' := by
  have hW' := hW
  obtain ⟨p, q, hA0, hV, rfl, hfz, hnd⟩ := hW
  have hA : DataW.TrodAll enc Try.prog W 0 (fun _ => true) true Try.f8.params.toList args.toList ds p := hA0
  rw [Try.params8] at hA hval
  obtain ⟨v0, vs0, d0, ds0, p0, q0, hargs, rfl, rfl, h0, r0⟩ := trodAll_cons hA
  obtain ⟨rfl, rfl, rfl⟩ := trodAll_nil r0
  obtain rfl : args = #[v0] := by cases args; simp_all
  obtain ⟨rfl, rfl⟩ := trodVars_none hV
  obtain ⟨A0, xs, c0, rfl, f0, l0, lc0, sz0, nl0⟩ := open_int64s Try.underlying22 Try.underlying2 (by kernel_rfl) (hval 0 22 v0 rfl rfl) h0
  have z0 : xs.length * 8 ≤ 140737488351232 := by
    rcases sz0 with h | ⟨es, sp, hd, hl⟩
    · rw [h]; decide
    · have := sized_slice hz (j := 0) (t := 22) (e := 2) (elems := es) (spare := sp) (by rw [Try.params8]; rfl) (by rw [hd]; rfl) Try.underlying22
      rw [show Try.prog.bytesOf 2 = 8 by kernel_rfl, show reachBytes = 140737488351232 from rfl] at this
      omega
  refine (walk A0 xs c0 W f0 z0 lc0).mono fun e W' ⟨he, hb⟩ => ?_
  exact ⟨_, he, Shell.post_law laidOut (by kernel_rfl) rfl Try.underlying4 rfl hW' rfl hb⟩
theorem reads (os : Os) {H : Type} (enc : TypeId × Value → H) : ∃ places, DataW.whole enc Try.prog ((World.holding Try.prog os ⟨#[], #[], []⟩).forCall (fun _ _ => 0) ⟨#[], #[.slice none 0 0], []⟩).memory Try.f8.params.toList Rows.meanKeepsSpec.vars false (#[Value.slice none 0 0]).toList 8 = some ([.nil], [], places) :=
  ⟨[], by kernel_rfl⟩
set_option maxRecDepth 100000 in
theorem lifted (os : Os) (started : os.Started) (H : Type) (enc : TypeId × Value → H) (F : Stop.Interp) :
    ReturnsInHanded {} Try.checked os 8 .any ((OpenSpec.ofChange Rows.meanKeepsSpec).preRow enc Try.prog Try.f8 Rows.meanKeepsRow.domain false Rows.meanKeepsRow.laid) (((OpenSpec.ofChange Rows.meanKeepsSpec).at F).post enc Try.prog Try.f8 false true false false) := by
  obtain ⟨places, hx⟩ := reads os enc
  refine returnsInHanded_of_row (C := Try.checked) (s := OpenSpec.ofChange Rows.meanKeepsSpec) own started (by kernel_rfl) Try.func8
    (witness_row_atRef (enc := enc) (C := Try.checked) false (World.holding Try.prog os ⟨#[], #[], []⟩) #[.slice none 0 0] rfl (by kernel_rfl) (by kernel_rfl) (by kernel_rfl)
      (OpenSpec.preRow_of_cond 8 hx (by kernel_rfl) (fun k hk => by cases hk) (by kernel_rfl) (laid_met os _))) ?_
  intro W base args ds gs before hval hW _ _ hz hL _ _
  exact contract H enc W base args ds gs before hval hW hz
theorem said : Rows.MeanKeepsSaid :=
  OpenClaim.holds_of_cond 8 Try.f8 rfl rfl rfl rfl rfl rfl rfl ⟨rfl, rfl, rfl, rfl, rfl⟩ rfl rfl rfl rfl rfl (by kernel_rfl) Try.func8 (by kernel_rfl)
    (of_decide_eq_true (by kernel_rfl)) (by unfold Func.isWrapper; first | (rw [if_pos (by decide +kernel)]; kernel_rfl) | (rw [if_neg (by decide +kernel)]; exact ⟨rfl, rfl⟩))
    (fun os started H enc _ F => by rw [OpenClaim.pre_eq_preRow]; exact lifted os started H enc F)
end Go.Proofs.Ytelfbjldfdlpnaa.MeanW.MeanKeeps
