/- The law CompWithin: the point lies between the first frame and the last; where there are three at least, between the least and the greatest of any choice of all but one: for all times, gaps and choices. No condition. -/
import Derived.Test.YtpjaijibkjmgiaaCompAll
import Derived.Test.YtpjaijibkjmgiaaMeanRef
import Derived.Test.YtpjaijibkjmgiaaStep1
import Derived.Deep.RegionHeld3
import Derived.BigQuiet
namespace Go.Proofs.Ytpjaijibkjmgiaa.CompW.CompWithin
open Go.ChangeShapes Go.WideShapes Go.ChangeAt Go.RowKit CompW Shell
open FrameW (CV rightC)
open MeanW (halfAt tolK srt refSorted_any)
theorem but_one {l : List Int} {k : Nat} (h : k < l.length) : l.Perm (l.getD k 0 :: (l.take k ++ l.drop (k + 1))) := by
  have e : l = l.take k ++ (l.getD k 0 :: l.drop (k + 1)) := by
    rw [List.getD_eq_getElem?_getD, List.getElem?_eq_getElem h]
    show l = l.take k ++ (l[k] :: l.drop (k + 1))
    rw [← List.drop_eq_getElem_cons h, List.take_append_drop]
  exact (List.Perm.of_eq e).trans List.perm_middle
set_option maxHeartbeats 8000000 in
set_option maxRecDepth 100000 in
theorem walk (b : Int) (A : Option Addr) (xs : List Int) (cp : Nat) (k8 : Int) (hb : -2147483648 ≤ b ∧ b ≤ 2147483647) (hk : 0 ≤ k8 ∧ k8 ≤ 255) (w : World) (hA : CL w .u8 A xs) (hc : xs.length ≤ cp) :
    Calls Try.prog 4 #[.int .i32 b, .slice A xs.length cp, .int .u8 k8] w fun e w' => e = .returned (.bool true) ∧ Below w.heap.size w w' := by
  obtain ⟨n, hn⟩ : ∃ n, xs.length = n := ⟨_, rfl⟩
  obtain ⟨m, hm⟩ : ∃ m, min n 5 = m := ⟨_, rfl⟩
  obtain ⟨N, hN⟩ : ∃ N, m + 1 = N := ⟨_, rfl⟩
  obtain ⟨kn, rfl⟩ := Int.eq_ofNat_of_zero_le hk.1
  rw [hn] at hc ⊢
  have R1 := fun W (h : Below w.heap.size w W) => all_any b A xs n cp m hn hm (by omega) W (hA.below h) hc
  obtain ⟨T, hT⟩ : ∃ T, ts (SA b xs m) = T := ⟨_, rfl⟩
  have hl : T.length = N := by rw [← hT]; unfold ts; rw [List.length_map, SA_len, hN]
  have hp0 : pt (SA b xs m) = halfAt T (tolK T) := by rw [← hT]; rfl
  obtain ⟨k, hkk⟩ : ∃ k, kn % N = k := ⟨_, rfl⟩
  have kl : k < N := by rw [← hkk]; exact Nat.mod_lt _ (by omega)
  have be : (srt T).getD 0 0 ≤ halfAt T (tolK T) ∧ halfAt T (tolK T) ≤ (srt T).getD (T.length - 1) 0 := MeanW.half_ends (by omega) (MeanW.tolK_lt (by omega))
  have bb := fun h2 : 2 ≤ (T.take k ++ T.drop (k + 1)).length => MeanW.bad_between (but_one (l := T) (k := k) (by omega)) h2
  have gl : (T.take k ++ T.drop (k + 1)).length = m := by rw [List.length_append, List.length_take, List.length_drop]; omega
  rw [hp0, hT] at R1
  rw [hl] at be
  rw [gl] at bb
  obtain ⟨G, hG⟩ : ∃ G, T.take k ++ T.drop (k + 1) = G := ⟨_, rfl⟩
  rw [hG] at bb gl
  generalize halfAt T (tolK T) = pz at *
  generalize sS (SA b xs m) = sz at *
  generalize cy (SA b xs m) = cz at *
  have R1 := Lib.hid R1
  have BE := Lib.hid be
  have BB := Lib.hid bb
  have HL := Lib.hid hl
  have HN := Lib.hid hN
  have nb : (N : Int) ≤ 6 := by omega
  have GL := Lib.hid gl
  have HG := Lib.hid hG
  have KL := Lib.hid kl
  have m5 : (m : Int) ≤ 5 := by omega
  have e1 : IntKind.i64.wrap b = b := by rw [IntKind.wrap_i64]; omega
  have k1 : (kn : Int) % (N : Int) = (k : Int) := by rw [← hkk, Int.natCast_emod]
  have k2 : Int.tmod (kn : Int) (N : Int) = (k : Int) := by rw [Int.tmod_eq_emod_of_nonneg (by omega)]; exact k1
  have K1 := Lib.hid k1
  have K2 := Lib.hid k2
  have kb : (kn : Int) ≤ 255 := hk.2
  have KN := Lib.hid kb
  clear hA hc hn hm hN hT hp0 hkk kl be bb gl hG hl k1 k2 hk kb
  go_enter Try.func4, Try.ntmps4
  go_wp2_with fail
  refine (fixed_any _).mono ?_
  rintro e w1 ⟨rfl, b1⟩
  have S1 := Lib.hid ((Stay.start w).next b1)
  clear b1
  go_wp2_with fail
  refine (R1.out _ S1.out.b).mono ?_
  rintro e w2 ⟨v2, rfl, o2, b2, -⟩
  have S2 := Lib.hid ((S1.out.next b2).alloc (rbx pz sz cz))
  have O2 := Lib.hid (o2.alloc (rbx pz sz cz))
  clear b2 o2 S1
  obtain ⟨A2, c2, rfl, -⟩ := O2.out.form
  rw [HL.out] at O2 ⊢
  go_wp2_with fail
  generalize w2.alloc (.cells #[.int .i64 pz, .int .u32 (sz : Int), .int .i64 cz] 39 (0, 0)) = w3 at *
  generalize w2.heap.size = q2 at *
  have hcl : CL w3 .i64 A2 T ∧ N ≤ c2 := by
    obtain ⟨A', c', e, h1, h2, -⟩ := O2.out.form
    injection e with e1 _ e3
    rw [e1, e3]
    exact ⟨h1, by rw [HL.out] at h2; exact h2⟩
  have HC := Lib.hid hcl
  have SS := refSorted_any A2 c2 T w3 (cl_il hcl.1) (by rw [HL.out]; omega) (by rw [HL.out]; exact hcl.2)
  rw [HL.out] at SS
  clear hcl
  refine SS.mono ?_
  rintro e w4 ⟨v4, rfl, o4, b4⟩
  clear SS
  obtain ⟨g, cap, rfl, -, hu, -⟩ := MeanW.own_i64c o4 (by rw [HL.out, ← HN.out]; exact Nat.succ_pos _)
  rw [HL.out]
  have S4 := Lib.hid (S2.out.next b4)
  have C4 := Lib.hid (HC.out.1.below b4)
  have hg0 := hu 0 _ (MeanW.getD_at (by rw [MeanW.srt_len, HL.out, ← HN.out]; exact Nat.succ_pos _))
  have hg1 := hu m _ (MeanW.getD_at (by rw [MeanW.srt_len, HL.out, ← HN.out]; exact Nat.lt_succ_self _))
  have be := BE.out
  rw [← HN.out, Nat.add_sub_cancel] at be
  generalize (srt T).getD 0 0 = s0 at *
  generalize (srt T).getD m 0 = s1 at *
  clear b4 o4 hu S2 O2
  have e5 : IntKind.i64.wrap ((N : Int) - 1) = (m : Int) := by rw [IntKind.wrap_i64]; have := HN.out; omega
  have n1 : ¬ pz < s0 := by omega
  have n2 : ¬ s1 < pz := by omega
  have n3 : decide (pz < s0) = false := decide_eq_false n1
  have n4 : decide (s1 < pz) = false := decide_eq_false n2
  have n5 : m < N := by have := HN.out; omega
  have n6 : 0 < N := by have := HN.out; omega
  obtain ⟨c0, -, -⟩ := cells3 (S4.out.at 0 rfl)
  go_wp2_with fail
  go_quiet (fail)
  have B5 : Below w4.heap.size w4 (w4.drewN nq) := ⟨rfl, rfl, rfl, Nat.le_refl _, fun _ _ => rfl⟩
  have S5 := Lib.hid (S4.out.next B5)
  have C5 := Lib.hid (C4.out.below B5)
  generalize w4.drewN nq = w5 at *
  clear B5 S4 C4 hg0 hg1 n1 n2 n3 n4 e5 be c0
  by_cases h3 : (N : Int) < 3
  · go_wp2
    go_ret
    exact ⟨rfl, S5.out.b⟩
  · have bb := BB.out (by have := HN.out; omega)
    have k1 := K1.out
    have k2 := K2.out
    have kb := KN.out
    have m0 : (N : Int) ≠ 0 := by omega
    have m1 : ¬ N = 0 := by omega
    go_upto_region 10 with (fail)
    obtain ⟨a, rfl⟩ : ∃ a, A2 = some a := C5.out.some (by rw [HL.out]; exact n6)
    obtain ⟨kk, hkk⟩ : ∃ kk, k + 1 = kk := ⟨_, rfl⟩
    have HKK := Lib.hid hkk
    have kN : kk ≤ N := by have := KL.out; omega
    have cN : N ≤ c2 := HC.out.2
    have q0 : (k : Int) ≤ (c2 : Int) := by omega
    have q1 : (k : Int) ≤ (N : Int) := by omega
    have q2' : (kk : Int) ≤ (c2 : Int) := by omega
    have q3 : (kk : Int) ≤ (N : Int) := by omega
    have q4 : IntKind.i64.wrap (kk : Int) = (kk : Int) := by rw [IntKind.wrap_i64]; omega
    have q5 : (k : Int) + 1 = (kk : Int) := by omega
    have O0 : OR (w5.alloc (.cells #[] 2)).drew w5.heap.size 2 .i64 (.slice (some ⟨w5.heap.size, 0, none⟩) 0 0) [] := (OR.new w5 2 .i64 [] (Nat.le_refl _) Wf.nil (by decide)).drew
    have B0 : Below w5.heap.size w5 (w5.alloc (.cells #[] 2)).drew := (al (Below.refl _ _) _).drew
    have O0 := Lib.hid O0
    have B0 := Lib.hid B0
    have T1 := Lib.hid (show CL (w5.alloc (.cells #[] 2)).drew .i64 (some a) (T.take k) from (C5.out.below B0.out).take k)
    have L1 := Lib.hid (show (T.take k).length = k by rw [List.length_take, HL.out]; omega)
    have L2 := Lib.hid (show (T.drop kk).length = N - kk by rw [List.length_drop, HL.out])
    have L3 := Lib.hid (show ([] ++ T.take k ++ T.drop kk).length = m by rw [List.nil_append, ← hkk, HG.out, GL.out])
    have E9 := Lib.hid (show [] ++ T.take k ++ T.drop kk = G by rw [List.nil_append, ← hkk]; exact HG.out)
    have NB := Lib.hid nb
    have BB2 := Lib.hid bb
    have M2 := Lib.hid (show 2 ≤ m by have := HN.out; omega)
    have M5 := Lib.hid m5
    clear hkk bb k1 k2 kb m0 m1 n5 n6 h3 K1 K2 KN
    by_cases hck : c2 = kk
    · have hkn : N = kk := by omega
      subst hck
      subst hkn
      have T2 := Lib.hid (fun W (h : Below w5.heap.size w5 W) => (show CL W .i64 (some a) (T.drop N) by rw [List.drop_eq_nil_of_le (by rw [HL.out]; exact Nat.le_refl _)]; exact CL.none _ _ _))
      rw [Nat.sub_self] at L2
      go_region_held3 (fun _ => True) (trivial) (first
        | (refine step_append_or i64_one rfl _ _ rfl w5.heap.size (.slice (some ⟨w5.heap.size, 0, none⟩) 0 0) [] (by simp [Act.eval]) O0.out a k N (T.take k) (by simp [Act.eval]) L1.out T1.out (by have := NB.out; show (0 + k) * 8 ≤ _; omega) (by decide) B0.out.size ?_; (intro v6 w6 o6 s6; have O6 := Lib.hid o6; have B6 := Lib.hid (B0.out.trans (s6.below O0.out B0.out.size)); clear o6 s6))
        | (refine step_append_or i64_one rfl _ _ rfl w5.heap.size v6 _ (by simp [Act.eval]) O6.out a 0 0 (T.drop N) (by simp [Act.eval]) L2.out (T2.out _ B6.out) (by have := L1.out; have := NB.out; rw [List.nil_append]; omega) (by decide) B6.out.size ?_; (intro v7 w7 o7 s7; rw [E9.out] at o7; have B7 := Lib.hid (B6.out.trans (s7.below O6.out B6.out.size)); obtain ⟨A7, c7, rfl, hcl7, hlc7, -⟩ := o7.form; have SS := refSorted_any A7 c7 G w7 (cl_il hcl7) (by rw [GL.out]; have := M5.out; omega) hlc7; rw [GL.out] at SS ⊢; have SS := Lib.hid SS; clear o7 s7 hcl7 hlc7))
        | (go_at_call 18; refine SS.out.mono ?_; rintro e w8 ⟨v8, rfl, o8, b8⟩; have O8 := Lib.hid o8; have B8 := Lib.hid (B7.out.trans (b8.mono B7.out.size)); clear o8 b8))
      have S8 := Lib.hid (S5.out.next B8.out)
      obtain ⟨g2, cap2, rfl, -, hu, -⟩ := MeanW.own_i64c O8.out (by rw [GL.out]; have := M2.out; omega)
      rw [GL.out]
      have hg0 := hu 0 _ (MeanW.getD_at (by rw [MeanW.srt_len, GL.out]; have := M2.out; omega))
      have hg1 := hu (m - 1) _ (MeanW.getD_at (by rw [MeanW.srt_len, GL.out]; have := M2.out; omega))
      have bb := BB2.out
      have e6 : IntKind.i64.wrap ((m : Int) - 1) = ((m - 1 : Nat) : Int) := by rw [IntKind.wrap_i64]; have := M2.out; have := M5.out; omega
      have n7 : m - 1 < m := by have := M2.out; omega
      have n8 : 0 < m := by have := M2.out; omega
      generalize (srt G).getD 0 0 = t0 at *
      generalize (srt G).getD (m - 1) 0 = t1 at *
      generalize m - 1 = mm at *
      clear O8 hu
      have n1 : t0 ≤ pz := bb.1
      have n2 : pz ≤ t1 := bb.2
      have n3 : decide (t0 ≤ pz) = true := decide_eq_true n1
      have n4 : decide (pz ≤ t1) = true := decide_eq_true n2
      obtain ⟨c0, -, -⟩ := cells3 (S8.out.at 0 rfl)
      go_wp2_with fail
      go_quiet (fail)
      go_wp2
      go_ret
      exact ⟨rfl, S8.out.b.trans ⟨rfl, rfl, rfl, Nat.le_refl _, fun _ _ => rfl⟩⟩
    · have T2 := Lib.hid (fun W (h : Below w5.heap.size w5 W) => (C5.out.below h).drop kk)
      go_region_held3 (fun _ => True) (trivial) (first
        | (refine step_append_or i64_one rfl _ _ rfl w5.heap.size (.slice (some ⟨w5.heap.size, 0, none⟩) 0 0) [] (by simp [Act.eval]) O0.out a k c2 (T.take k) (by simp [Act.eval]) L1.out T1.out (by have := NB.out; show (0 + k) * 8 ≤ _; omega) (by decide) B0.out.size ?_; (intro v6 w6 o6 s6; have O6 := Lib.hid o6; have B6 := Lib.hid (B0.out.trans (s6.below O0.out B0.out.size)); clear o6 s6))
        | (refine step_append_or i64_one rfl _ _ rfl w5.heap.size v6 _ (by simp [Act.eval]) O6.out (a.add kk) (N - kk) (c2 - kk) (T.drop kk) (by simp [Act.eval]) L2.out (T2.out _ B6.out) (by have := L1.out; have := NB.out; rw [List.nil_append]; omega) (by decide) B6.out.size ?_; (intro v7 w7 o7 s7; rw [E9.out] at o7; have B7 := Lib.hid (B6.out.trans (s7.below O6.out B6.out.size)); obtain ⟨A7, c7, rfl, hcl7, hlc7, -⟩ := o7.form; have SS := refSorted_any A7 c7 G w7 (cl_il hcl7) (by rw [GL.out]; have := M5.out; omega) hlc7; rw [GL.out] at SS ⊢; have SS := Lib.hid SS; clear o7 s7 hcl7 hlc7))
        | (go_at_call 18; refine SS.out.mono ?_; rintro e w8 ⟨v8, rfl, o8, b8⟩; have O8 := Lib.hid o8; have B8 := Lib.hid (B7.out.trans (b8.mono B7.out.size)); clear o8 b8))
      have S8 := Lib.hid (S5.out.next B8.out)
      obtain ⟨g2, cap2, rfl, -, hu, -⟩ := MeanW.own_i64c O8.out (by rw [GL.out]; have := M2.out; omega)
      rw [GL.out]
      have hg0 := hu 0 _ (MeanW.getD_at (by rw [MeanW.srt_len, GL.out]; have := M2.out; omega))
      have hg1 := hu (m - 1) _ (MeanW.getD_at (by rw [MeanW.srt_len, GL.out]; have := M2.out; omega))
      have bb := BB2.out
      have e6 : IntKind.i64.wrap ((m : Int) - 1) = ((m - 1 : Nat) : Int) := by rw [IntKind.wrap_i64]; have := M2.out; have := M5.out; omega
      have n7 : m - 1 < m := by have := M2.out; omega
      have n8 : 0 < m := by have := M2.out; omega
      generalize (srt G).getD 0 0 = t0 at *
      generalize (srt G).getD (m - 1) 0 = t1 at *
      generalize m - 1 = mm at *
      clear O8 hu
      have n1 : t0 ≤ pz := bb.1
      have n2 : pz ≤ t1 := bb.2
      have n3 : decide (t0 ≤ pz) = true := decide_eq_true n1
      have n4 : decide (pz ≤ t1) = true := decide_eq_true n2
      obtain ⟨c0, -, -⟩ := cells3 (S8.out.at 0 rfl)
      go_wp2_with fail
      go_quiet (fail)
      go_wp2
      go_ret
      exact ⟨rfl, S8.out.b.trans ⟨rfl, rfl, rfl, Nat.le_refl _, fun _ _ => rfl⟩⟩
set_option maxRecDepth 100000 in
/-- What the walk gives, for every argument and every world. -/
theorem contract (H : Type) (enc : TypeId × Value → H) (W : World) (base : Nat) (args : Array Value) (ds gs : List (DataW H)) (before : List MemPlace)
    (hval : ∀ (j : Nat) t v, Try.f4.params[j]? = some t → args[j]? = some v → Value.okWide Try.prog W .any base t v)
    (hW : DataW.Whole enc Try.prog Try.f4.params.toList Rows.compWithinSpec.vars false W args.toList ds gs before) : 
    Calls Try.prog 4 args W fun e W' => ∃ v, e = .returned v ∧ Rows.compWithinSpec.post enc Try.prog Try.f4 false true false false W args v W' := by
  have hW' := hW
  obtain ⟨p, q, hA0, hV, rfl, hfz, hnd⟩ := hW
  have hA : DataW.TrodAll enc Try.prog W 0 (fun _ => true) true Try.f4.params.toList args.toList ds p := hA0
  rw [Try.params4] at hA hval
  obtain ⟨v0, vs0, d0, ds0, p0, q0, hargs, rfl, rfl, h0, r0⟩ := trodAll_cons hA
  obtain ⟨v1, vs1, d1, ds1, p1, q1, rfl, rfl, rfl, h1, r1⟩ := trodAll_cons r0
  obtain ⟨v2, vs2, d2, ds2, p2, q2, rfl, rfl, rfl, h2, r2⟩ := trodAll_cons r1
  obtain ⟨rfl, rfl, rfl⟩ := trodAll_nil r2
  obtain rfl : args = #[v0, v1, v2] := by cases args; simp_all
  obtain ⟨rfl, rfl⟩ := trodVars_none hV
  obtain ⟨b, rfl, rfl, rfl, w0⟩ := open_int Try.underlying21 (hval 0 21 v0 rfl rfl) h0
  obtain ⟨A1, s, c1, rfl, f1, l1, lc1, sz1, nl1⟩ := Shell.open_nums (q := .u8) Try.underlying48 Try.underlying5 (by kernel_rfl) (hval 1 48 v1 rfl rfl) h1
  obtain ⟨k, rfl, rfl, rfl, w2⟩ := open_int Try.underlying5 (hval 2 5 v2 rfl rfl) h2
  refine (walk b A1 s c1 k (i32_wf w0) (u8_wf w2) W f1 lc1).mono fun e W' ⟨he, hb⟩ => ?_
  exact ⟨_, he, Shell.post_law laidOut (by kernel_rfl) rfl Try.underlying4 rfl hW' rfl hb⟩
theorem reads (os : Os) {H : Type} (enc : TypeId × Value → H) : ∃ places, DataW.whole enc Try.prog ((World.holding Try.prog os ⟨#[], #[], []⟩).forCall (fun _ _ => 0) ⟨#[], #[.int .i32 0, .slice none 0 0, .int .u8 0], []⟩).memory Try.f4.params.toList Rows.compWithinSpec.vars false (#[Value.int .i32 0, Value.slice none 0 0, Value.int .u8 0]).toList 8 = some ([.lit (.int .i32 0), .nil, .lit (.int .u8 0)], [], places) :=
  ⟨[], by kernel_rfl⟩
set_option maxRecDepth 100000 in
theorem lifted (os : Os) (started : os.Started) (H : Type) (enc : TypeId × Value → H) (F : Stop.Interp) :
    ReturnsInHanded {} Try.checked os 4 .any ((OpenSpec.ofChange Rows.compWithinSpec).preRow enc Try.prog Try.f4 Rows.compWithinRow.domain false Rows.compWithinRow.laid) (((OpenSpec.ofChange Rows.compWithinSpec).at F).post enc Try.prog Try.f4 false true false false) := by
  obtain ⟨places, hx⟩ := reads os enc
  refine returnsInHanded_of_row (C := Try.checked) (s := OpenSpec.ofChange Rows.compWithinSpec) own started (by kernel_rfl) Try.func4
    (witness_row_atRef (enc := enc) (C := Try.checked) false (World.holding Try.prog os ⟨#[], #[], []⟩) #[.int .i32 0, .slice none 0 0, .int .u8 0] rfl (by kernel_rfl) (by kernel_rfl) (by kernel_rfl)
      (OpenSpec.preRow_of_cond 8 hx (by kernel_rfl) (fun k hk => by cases hk) (by kernel_rfl) (laid_met os _))) ?_
  intro W base args ds gs before hval hW _ _ _ hL _ _
  exact contract H enc W base args ds gs before hval hW
theorem said : Rows.CompWithinSaid :=
  OpenClaim.holds_of_cond 4 Try.f4 rfl rfl rfl rfl rfl rfl rfl ⟨rfl, rfl, rfl, rfl, rfl⟩ rfl rfl rfl rfl rfl (by kernel_rfl) Try.func4 (by kernel_rfl)
    (of_decide_eq_true (by kernel_rfl)) (by unfold Func.isWrapper; first | (rw [if_pos (by decide +kernel)]; kernel_rfl) | (rw [if_neg (by decide +kernel)]; exact ⟨rfl, rfl⟩))
    (fun os started H enc _ F => by rw [OpenClaim.pre_eq_preRow]; exact lifted os started H enc F)
end Go.Proofs.Ytpjaijibkjmgiaa.CompW.CompWithin
