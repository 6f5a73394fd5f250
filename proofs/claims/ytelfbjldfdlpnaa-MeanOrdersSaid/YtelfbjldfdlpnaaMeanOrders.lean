/- The law MeanOrders: the readings' order is no matter, and the means lie between the least and the greatest: for every list of readings and every turn. No condition. -/
import Derived.Test.YtelfbjldfdlpnaaMeanLay
import Derived.Test.YtelfbjldfdlpnaaMeanPure
namespace Go.Proofs.Ytelfbjldfdlpnaa.MeanW.MeanOrders
open Go.ChangeShapes Go.WideShapes Go.ChangeAt Go.RowKit TickW MeanW
set_option maxHeartbeats 4000000 in
set_option maxRecDepth 100000 in
theorem walk (A : Option Addr) (xs : List Int) (c : Nat) (t : Int) (w : World) (hf : IL w A xs) (hl : xs.length * 8 ≤ 140737488351232) (hc : xs.length ≤ c) :
    Calls Try.prog 6 #[.slice A xs.length c, .int .i64 t] w fun e w' => e = .returned (.bool true) ∧ RowKit.Below w.heap.size w w' := by
  have HF := Lib.hid hf
  have HL := Lib.hid hl
  have HC := Lib.hid hc
  have HL2 := Lib.hid (show xs.length * 8 ≤ 140737488355328 by omega)
  have hl2 : (xs.length : Int) ≤ 17592186043904 := by omega
  clear hf hl hc
  obtain ⟨i0, hi, hz0, hz1, hz2⟩ := i64_info
  have HI := Lib.hid hi
  have HZ0 := Lib.hid hz0
  have HZ1 := Lib.hid hz1
  have HZ2 := Lib.hid hz2
  clear hi hz0 hz1 hz2
  go_enter Try.func6, Try.ntmps6
  go_wp2_with fail
  refine (fixed_any _).mono ?_
  rintro e w3 ⟨rfl, hb1⟩
  have B3 := Lib.hid hb1
  have F3 := Lib.hid (HF.out.below hb1)
  clear hb1
  rcases Nat.eq_zero_or_pos xs.length with hn0 | hp
  · have hx : xs = [] := List.eq_nil_of_length_eq_zero hn0
    subst hx
    clear hl2 hn0
    go_wp2_with (go_at_call 16; refine (spread_any A c [] _ F3.out (by decide)).mono ?_; rintro e w4 ⟨rfl, rfl⟩)
    go_ret
    exact ⟨rfl, B3.out⟩
  · have hp2 : (0 : Int) < (xs.length : Int) := by omega
    have hn0 : ¬ (xs.length = 0) := by omega
    have HP := Lib.hid hp
    obtain ⟨a, rfl⟩ : ∃ a, A = some a := by
      obtain ⟨x, hx⟩ : ∃ x, xs[0]? = some x := ⟨_, List.getElem?_eq_getElem hp⟩
      exact ⟨_, (HF.out 0 x hx).choose_spec.1⟩
    clear hp
    go_wp2_with fail
    obtain ⟨p, hpn, hpe⟩ := turn_at t xs.length HP.out hl2
    rw [hpe]
    generalize (IntKind.u64.wrap t).tmod (xs.length : Int) = tm at *
    have HPN := Lib.hid hpn
    have q0 : (0 : Int) ≤ (p : Int) := by omega
    have q1 : (p : Int) ≤ (xs.length : Int) := by omega
    have q2 : (p : Int) ≤ (c : Int) := by have := HC.out; omega
    have q3 : ¬ (c = p) := by have := HC.out; omega
    clear hpn hpe
    have b4 : RowKit.Below w3.heap.size w3 (w3.alloc (Obj.cells #[] 2)).drew := ((Below.refl w3.heap.size w3).alloc (Nat.le_refl _) _).drew
    have HF4 := Lib.hid (F3.out.below b4)
    have B4 := Lib.hid b4
    have HO0 := Lib.hid (show (w3.alloc (Obj.cells #[] 2)).drew.ownsRow w3.heap.size 2 1 (.slice (some ⟨w3.heap.size, 0, none⟩) 0 0) 0 [] from ⟨rfl, Or.inr ⟨w3.heap.size, 0, #[], rfl, Nat.le_refl _, heap_alloc_new w3 _, Nat.le_refl _, by decide, rfl, rfl⟩⟩)
    have HN1 := Lib.hid (show ∀ j u, (i64s (xs.drop p))[j]? = some u → (w3.alloc (Obj.cells #[] 2)).drew.cell? ((a.add p).add j) = some u from fun j u h => ildrop_cells HF4.out p j u h)
    have HS4 := Lib.hid (show w3.heap.size ≤ (w3.alloc (Obj.cells #[] 2)).drew.heap.size from b4.size)
    have HM1 := Lib.hid (show 0 + (xs.length - p) ≤ maxLen by have := HL.out; unfold maxLen; omega)
    have HY1 := Lib.hid (show (0 + (xs.length - p)) * 8 ≤ 140737488355328 by have := HL.out; omega)
    have HE1 := Lib.hid (show (i64s (xs.drop p)).length = (xs.length - p) * 1 by simp [i64s])
    have HM2 := Lib.hid (show 0 + (xs.length - p) + p ≤ maxLen by have := HL.out; have := HPN.out; unfold maxLen; omega)
    have HY2 := Lib.hid (show (0 + (xs.length - p) + p) * 8 ≤ 140737488355328 by have := HL.out; have := HPN.out; omega)
    have HE2 := Lib.hid (show (i64s (xs.take p)).length = p * 1 by have := HPN.out; simp [i64s]; omega)
    obtain ⟨ms, hms⟩ : ∃ ms, ms = xs.drop p ++ xs.take p := ⟨_, rfl⟩
    have HMS := Lib.hid (show ms.Perm xs by rw [hms]; exact rot_perm xs p)
    have HML := Lib.hid (show ms.length = 0 + (xs.length - p) + p by rw [hms]; have := HPN.out; simp; omega)
    have HMX := Lib.hid (show [] ++ i64s (xs.drop p) ++ i64s (xs.take p) = i64s ms by rw [hms]; simp [i64s])
    have HMB := Lib.hid (show ∀ x ∈ ms, -9223372036854775808 ≤ x ∧ x ≤ 9223372036854775807 from fun x hx => by
      rw [hms, List.mem_append] at hx
      exact MeanW.IL.bounds HF.out x (hx.elim List.mem_of_mem_drop List.mem_of_mem_take))
    clear hms b4
    go_region_held3 (fun _ => True) (trivial) (first
      | (refine step_append_own rfl _ _ 22 rfl w3.heap.size 2 i0 (.int .i64 0) 1 8 Try.underlying22 HI.out HZ0.out HZ1.out HZ2.out rfl (by decide) (.slice (some ⟨w3.heap.size, 0, none⟩) 0 0) 0 [] (by simp [Act.eval]) HO0.out (a.add p) (xs.length - p) (c - p) (i64s (xs.drop p)) (by simp [Act.eval]) HE1.out HN1.out i64s_one HM1.out HY1.out HS4.out ?_; (intro v1 w5 o1 g1 _; have O1 := Lib.hid o1; have G1 := Lib.hid (show RowKit.Below w3.heap.size w3 w5 from B4.out.grown g1 HS4.out (fun k hk => by cases hk; exact Nat.le_refl _)); have F5 := Lib.hid (F3.out.below G1.out); have HN2 := Lib.hid (show ∀ j u, (i64s (xs.take p))[j]? = some u → w5.cell? (a.add j) = some u from fun j u h => iltake_cells F5.out p j u h); have HS5 := Lib.hid G1.out.size; clear o1 g1))
      | (refine step_append_own rfl _ _ 22 rfl w3.heap.size 2 i0 (.int .i64 0) 1 8 Try.underlying22 HI.out HZ0.out HZ1.out HZ2.out rfl (by decide) v1 _ _ (by simp [Act.eval]) O1.out a p c (i64s (xs.take p)) (by simp [Act.eval]) HE2.out HN2.out i64s_one HM2.out HY2.out HS5.out ?_; (intro v2 w6 o2 g2 _; rw [HMX.out, ← HML.out] at o2; obtain ⟨M, cM, rfl, hil, _⟩ := own_il o2 rfl HMB.out; have HIL := Lib.hid hil; have G2 := Lib.hid (show RowKit.Below w3.heap.size w3 w6 from G1.out.grown g2 HS5.out (fun k hk => (O1.out.lt k hk).1)); clear o2 g2 hil)))
    have hmn : ms.length = xs.length := HMS.out.length_eq
    rw [hmn]
    have I6 := HIL
    have F6 := Lib.hid (F3.out.below G2.out)
    have B6 := Lib.hid (B3.out.trans (G2.out.mono B3.out.size))
    have HMN := Lib.hid hmn
    have HT := Lib.hid (ansM_some HP.out (tolK xs))
    have HMd := Lib.hid (ansM_some HP.out (midK xs))
    have HT2 : Hid (ansM ms (tolK ms) = .tuple #[.int .i64 (halfAt xs (tolK xs)), .int .i64 0]) := Lib.hid (by rw [ansM_some (by rw [HMN.out]; exact HP.out), halfAt_perm HMS.out, tolK_perm HMS.out])
    have HM2' : Hid (ansM ms (midK ms) = .tuple #[.int .i64 (halfAt xs (midK xs)), .int .i64 0]) := Lib.hid (by rw [ansM_some (by rw [HMN.out]; exact HP.out), halfAt_perm HMS.out, midK_perm HMS.out])
    have HSP := Lib.hid (spread_perm HMS.out)
    have HLM := Lib.hid (show ms.length * 8 ≤ 140737488355328 by rw [HMN.out]; exact HL2.out)
    have E1 := half_ends HP.out (tolK_lt HP.out)
    have E2 := half_ends HP.out (midK_lt HP.out)
    have HG0 := Lib.hid (getD_at (l := srt xs) (i := 0) (by rw [srt_len]; exact HP.out))
    have HG1 := Lib.hid (getD_at (l := srt xs) (i := xs.length - 1) (by rw [srt_len]; have := HP.out; omega))
    generalize halfAt xs (tolK xs) = r1 at *
    generalize halfAt xs (midK xs) = r2 at *
    generalize (srt xs).getD 0 0 = s0 at *
    generalize (srt xs).getD (xs.length - 1) 0 = s1 at *
    obtain ⟨E1a, E1b⟩ := E1
    obtain ⟨E2a, E2b⟩ := E2
    clear HIL hmn q0 q1 q2 q3 HN1 HN2 HO0 HF4 B4 HS4 HM1 HY1 HE1 HM2 HY2 HE2 HML HMX HMB HS5 G1 G2 O1 F5 F3
    go_wp2_with fail
    refine (refSorted_any (some a) c xs _ F6.out HL2.out HC.out).mono ?_
    rintro e w7 ⟨v, rfl, ho, b7⟩
    have F7 := Lib.hid (F6.out.below b7)
    have I7 := Lib.hid (I6.out.below b7)
    have B7 := Lib.hid (B6.out.trans (b7.mono B6.out.size))
    obtain ⟨g, cap, rfl, -, hu, -⟩ := own_i64c ho HP.out
    have hg0 := hu 0 _ HG0.out
    have hg1 := hu (xs.length - 1) _ HG1.out
    have K0 := Lib.hid hg0
    have K1 := Lib.hid hg1
    clear b7 ho hu hg0 hg1
    go_wp2_with fail
    refine (tolerant_any (some a) c xs _ F7.out HL2.out).mono ?_
    rintro e w8 ⟨rfl, b8⟩
    rw [HT.out]
    have F8 := Lib.hid (F7.out.below b8)
    have I8 := Lib.hid (I7.out.below b8)
    have B8 := Lib.hid (B7.out.trans (b8.mono B7.out.size))
    have K2 := Lib.hid (cell_keep K0.out b8)
    have K3 := Lib.hid (cell_keep K1.out b8)
    clear b8
    go_wp2_with fail
    have T9 := tolerant_any M cM ms _ I8.out HLM.out
    rw [HMN.out] at T9
    refine T9.mono ?_
    rintro e w9 ⟨rfl, b9⟩
    rw [HT2.out]
    have F9 := Lib.hid (F8.out.below b9)
    have I9 := Lib.hid (I8.out.below b9)
    have B9 := Lib.hid (B8.out.trans (b9.mono B8.out.size))
    have K4 := Lib.hid (cell_keep K2.out b9)
    have K5 := Lib.hid (cell_keep K3.out b9)
    clear b9 T9
    go_wp2_with fail
    refine (middle_any (some a) c xs _ F9.out HL2.out).mono ?_
    rintro e w10 ⟨rfl, b10⟩
    rw [HMd.out]
    have F10 := Lib.hid (F9.out.below b10)
    have I10 := Lib.hid (I9.out.below b10)
    have B10 := Lib.hid (B9.out.trans (b10.mono B9.out.size))
    have K6 := Lib.hid (cell_keep K4.out b10)
    have K7 := Lib.hid (cell_keep K5.out b10)
    clear b10
    go_wp2_with fail
    have T11 := middle_any M cM ms _ I10.out HLM.out
    rw [HMN.out] at T11
    refine T11.mono ?_
    rintro e w11 ⟨rfl, b11⟩
    rw [HM2'.out]
    have F11 := Lib.hid (F10.out.below b11)
    have I11 := Lib.hid (I10.out.below b11)
    have B11 := Lib.hid (B10.out.trans (b11.mono B10.out.size))
    have k8 := cell_keep K6.out b11
    have k9 := cell_keep K7.out b11
    clear b11 T11
    have S12 : Calls Try.prog 16 #[.slice M xs.length cM] w11 fun e w' => e = .returned (.int .u64 (spreadN xs)) ∧ w' = w11 := by
      have := spread_any M cM ms _ I11.out HLM.out
      rwa [HMN.out, HSP.out] at this
    have S11 := spread_any (some a) c xs _ F11.out HL2.out
    have e1 : IntKind.i64.wrap ((xs.length : Int) - 1) = ((xs.length - 1 : Nat) : Int) := by rw [IntWalk.i64_in _ (by omega)]; omega
    have q3 : xs.length - 1 < xs.length := by omega
    have q0 : 0 < xs.length := by omega
    generalize spreadN xs = sp at *
    have HS12 := Lib.hid S12
    have HS11 := Lib.hid S11
    clear S11 S12
    go_wp2_with fail
    refine HS11.out.mono ?_
    rintro e w12 ⟨rfl, rfl⟩
    go_wp2_with fail
    refine HS12.out.mono ?_
    rintro e w13 ⟨rfl, rfl⟩
    go_wp2
    go_ret
    exact ⟨rfl, B11.out⟩
set_option maxRecDepth 100000 in
/-- What the walk gives, for every argument and every world. -/
theorem contract (H : Type) (enc : TypeId × Value → H) (W : World) (base : Nat) (args : Array Value) (ds gs : List (DataW H)) (before : List MemPlace)
    (hval : ∀ (j : Nat) t v, Try.f6.params[j]? = some t → args[j]? = some v → Value.okWide Try.prog W .any base t v)
    (hW : DataW.Whole enc Try.prog Try.f6.params.toList Rows.meanOrdersSpec.vars false W args.toList ds gs before) (hz : (DataW.weightsEach Try.prog (Try.f6.params.toList ++ (OpenSpec.ofChange Rows.meanOrdersSpec).bare.plain.varTypes Try.prog) (ds ++ gs)).all (· ≤ reachBytes) = true) : 
    Calls Try.prog 6 args W fun e W' => ∃ v, e = .returned v ∧ Rows.meanOrdersSpec.post enc Try.prog Try.f6 false true false false W args v W' := by
  have hW' := hW
  obtain ⟨p, q, hA0, hV, rfl, hfz, hnd⟩ := hW
  have hA : DataW.TrodAll enc Try.prog W 0 (fun _ => true) true Try.f6.params.toList args.toList ds p := hA0
  rw [Try.params6] at hA hval
  obtain ⟨v0, vs0, d0, ds0, p0, q0, hargs, rfl, rfl, h0, r0⟩ := trodAll_cons hA
  obtain ⟨v1, vs1, d1, ds1, p1, q1, rfl, rfl, rfl, h1, r1⟩ := trodAll_cons r0
  obtain ⟨rfl, rfl, rfl⟩ := trodAll_nil r1
  obtain rfl : args = #[v0, v1] := by cases args; simp_all
  obtain ⟨rfl, rfl⟩ := trodVars_none hV
  obtain ⟨A0, xs, c0, rfl, f0, l0, lc0, sz0, nl0⟩ := open_int64s Try.underlying22 Try.underlying2 (by kernel_rfl) (hval 0 22 v0 rfl rfl) h0
  have z0 : xs.length * 8 ≤ 140737488351232 := by
    rcases sz0 with h | ⟨es, sp, hd, hl⟩
    · rw [h]; decide
    · have := sized_slice hz (j := 0) (t := 22) (e := 2) (elems := es) (spare := sp) (by rw [Try.params6]; rfl) (by rw [hd]; rfl) Try.underlying22
      rw [show Try.prog.bytesOf 2 = 8 by kernel_rfl, show reachBytes = 140737488351232 from rfl] at this
      omega
  obtain ⟨t, rfl, rfl, rfl, w1⟩ := open_int Try.underlying3 (hval 1 3 v1 rfl rfl) h1
  refine (walk A0 xs c0 t W f0 z0 lc0).mono fun e W' ⟨he, hb⟩ => ?_
  exact ⟨_, he, Shell.post_law laidOut (by kernel_rfl) rfl Try.underlying4 rfl hW' rfl hb⟩
theorem reads (os : Os) {H : Type} (enc : TypeId × Value → H) : ∃ places, DataW.whole enc Try.prog ((World.holding Try.prog os ⟨#[], #[], []⟩).forCall (fun _ _ => 0) ⟨#[], #[.slice none 0 0, .int .i64 0], []⟩).memory Try.f6.params.toList Rows.meanOrdersSpec.vars false (#[Value.slice none 0 0, Value.int .i64 0]).toList 8 = some ([.nil, .lit (.int .i64 0)], [], places) :=
  ⟨[], by kernel_rfl⟩
set_option maxRecDepth 100000 in
theorem lifted (os : Os) (started : os.Started) (H : Type) (enc : TypeId × Value → H) (F : Stop.Interp) :
    ReturnsInHanded {} Try.checked os 6 .any ((OpenSpec.ofChange Rows.meanOrdersSpec).preRow enc Try.prog Try.f6 Rows.meanOrdersRow.domain false Rows.meanOrdersRow.laid) (((OpenSpec.ofChange Rows.meanOrdersSpec).at F).post enc Try.prog Try.f6 false true false false) := by
  obtain ⟨places, hx⟩ := reads os enc
  refine returnsInHanded_of_row (C := Try.checked) (s := OpenSpec.ofChange Rows.meanOrdersSpec) own started (by kernel_rfl) Try.func6
    (witness_row_atRef (enc := enc) (C := Try.checked) false (World.holding Try.prog os ⟨#[], #[], []⟩) #[.slice none 0 0, .int .i64 0] rfl (by kernel_rfl) (by kernel_rfl) (by kernel_rfl)
      (OpenSpec.preRow_of_cond 8 hx (by kernel_rfl) (fun k hk => by cases hk) (by kernel_rfl) (laid_met os _))) ?_
  intro W base args ds gs before hval hW _ _ hz hL _ _
  exact contract H enc W base args ds gs before hval hW hz
theorem said : Rows.MeanOrdersSaid :=
  OpenClaim.holds_of_cond 6 Try.f6 rfl rfl rfl rfl rfl rfl rfl ⟨rfl, rfl, rfl, rfl, rfl⟩ rfl rfl rfl rfl rfl (by kernel_rfl) Try.func6 (by kernel_rfl)
    (of_decide_eq_true (by kernel_rfl)) (by unfold Func.isWrapper; first | (rw [if_pos (by decide +kernel)]; kernel_rfl) | (rw [if_neg (by decide +kernel)]; exact ⟨rfl, rfl⟩))
    (fun os started H enc _ F => by rw [OpenClaim.pre_eq_preRow]; exact lifted os started H enc F)
end Go.Proofs.Ytelfbjldfdlpnaa.MeanW.MeanOrders
