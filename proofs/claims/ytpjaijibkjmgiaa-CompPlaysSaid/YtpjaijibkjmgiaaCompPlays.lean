/- The law CompPlays: every answer of every script of a compression is as the document says: for all windows and scripts. No condition. -/
import Derived.Test.YtpjaijibkjmgiaaCompQ
import Derived.BigQuiet
namespace Go.Proofs.Ytpjaijibkjmgiaa.CompW.CompPlays
open Go.ChangeShapes Go.WideShapes Go.ChangeAt Go.RowKit CompW Shell
open FrameW (CV rightC)
theorem okW_false {d : Int} (h : okW d = false) : d < 0 ∨ ¬ d < 0 ∧ 1048576 < d := by
  by_cases h1 : 0 ≤ d ∧ d ≤ 1048576
  · rw [okW_iff.2 h1] at h; cases h
  · omega
theorem u32_0 {n : Int} (h : (Lit.int .u32 n).wf = true) : 0 ≤ n := by
  simp [Lit.wf] at h
  exact h.1
set_option maxHeartbeats 16000000 in
set_option maxRecDepth 100000 in
theorem walk (d : Int) (A : Option Addr) (ops : List (List Int)) (c : Nat) (w : World) (hA : RL w ks7 A ops) (hl : ops.length ≤ 2513169434916) :
    Calls Try.prog 3 #[.int .i64 d, .slice A ops.length c] w fun e w' => e = .returned (.bool true) ∧ Below w.heap.size w w' := by
  have HA := Lib.hid hA
  obtain ⟨n, hn⟩ : ∃ n, ops.length = n := ⟨_, rfl⟩
  rw [hn] at hl ⊢
  have Hn := Lib.hid hn
  have Hl := Lib.hid hl
  clear hn hl hA
  go_enter Try.func3, Try.ntmps3
  go_wp2_with fail
  refine (fixed_any _).mono ?_
  rintro e w1 ⟨rfl, b1⟩
  have S1 := Lib.hid ((Stay.start w).next b1)
  clear b1
  cases hd : okW d with
  | false =>
    go_wp2_with fail
    refine (new_bad d hd _).mono ?_
    rintro e w' ⟨rfl, rfl⟩
    rcases okW_false hd with h1 | ⟨h1, h2⟩
    · go_wp2
      go_ret
      exact ⟨rfl, S1.out.b⟩
    · go_wp2
      go_ret
      exact ⟨rfl, S1.out.b⟩
  | true =>
    have d0 : ¬ d < 0 := by have := okW_iff.1 hd; omega
    have d1 : ¬ 1048576 < d := by have := okW_iff.1 hd; omega
    have HD := Lib.hid (okW_iff.1 hd)
    go_wp2_with fail
    refine (new_ok d hd _).mono ?_
    rintro e w2 ⟨rfl, h2, b2⟩
    have P0 := Lib.hid (⟨pc_new S1.out hd h2 b2, OL.nil _ _, lt_of_heap h2, Nat.le_trans S1.out.b.size b2.size, Nat.le_refl _, fun _ _ e => (by cases e)⟩ : PQ w [] w1.heap.size w2.heap.size d [] (.slice none 0 0) [] w2)
    generalize w1.heap.size = g at *
    clear h2 b2 S1 hd
    go_wp2
    clear d0 d1
    generalize w2.heap.size = B at *
    go_loopw [7, 46] (fun lv iv wr => ∃ (i : Nat) (S : List Fr), iv = .int .i64 i ∧ Hid (i ≤ n) ∧ Hid (S = [] → lv = .slice none 0 0) ∧ Hid (PQ w [] g B d S lv S wr)) (fun _ iv _ => (n - intOf iv).toNat)
    case atStart => exact ⟨0, [], rfl, Lib.hid (Nat.zero_le _), Lib.hid (fun _ => rfl), P0⟩
    case round =>
      clear P0
      obtain ⟨i, S, rfl, HI, HV, P⟩ := hrel
      have nb : (n : Int) ≤ 2513169434916 := by have := Hl.out; omega
      by_cases hlt : (i : Int) < (n : Int)
      · obtain ⟨xs, hx⟩ : ∃ xs, ops[i]? = some xs := ⟨_, List.getElem?_eq_getElem (by have := Hn.out; omega)⟩
        obtain ⟨ba, oa, kd, t, fk, ff, fy, fc, fl, rfl, rfl, e0, e1, e2, e3, e4, e5, e6, wf, tf⟩ := row7 (HA.out.below P.out.b) hx
        have FC := Lib.hid (u32_0 wf)
        have TF := Lib.hid (i64_wf tf)
        clear hx wf tf
        have P5 := Lib.hid (P.out.alloc (opx kd t fk ff fy fc fl))
        go_upto_region 12 with (fail)
        generalize wr.alloc (Obj.cells #[.int .i64 kd, .int .i64 t, .int .i64 fk, .int .i64 ff, .int .i64 fy, .int .u32 fc, .int .i64 fl] 33) = w5 at *
        generalize wr.heap.size = p at *
        clear e0 e1 e2 e3 e4 e5 e6 P
        obtain ⟨e0, e1, e2, e3, e4, e5, e6⟩ := cells7 (P5.out.p.st.at 0 rfl)
        have L6 := Lib.hid P5.out.p.ok.len
        by_cases k1 : kd = 1
        · subst k1
          rcases S with _ | ⟨x, S⟩
          · obtain rfl := HV.out rfl
            clear HV
            by_cases harg : okL t = false ∨ okH fk ff fy fc fl = false
            · as_aux_lemma =>
                have Q1 := P5.out.p.no_arg t fk ff fy fc fl FC.out harg
                have Q1 := Lib.hid Q1
                have R1 := fun W (_h : Below w5.heap.size w5 W) => refAdd_arg none 0 0 d t fk ff fy fc fl FC.out W harg
                have R1 := Lib.hid R1
                go_wp2_with fail
                refine Q1.out.mono ?_
                rintro e w6 ⟨rfl, -, b6⟩
                have P6 := Lib.hid (P5.out.next b6)
                have B6 := Lib.hid b6
                clear Q1 b6 e0 e1 e2 e3 e4 e5 e6
                obtain ⟨e0, e1, e2, e3, e4, e5, e6⟩ := cells7 (P6.out.p.st.at 0 rfl)
                go_wp2_with fail
                refine (R1.out _ B6.out).mono ?_
                rintro e w7 ⟨rfl, b7⟩
                have P7 := Lib.hid (P6.out.next b7)
                clear R1 P6 P5 B6 b7 e0 e1 e2 e3 e4 e5 e6
                have LN := P7.out.p.open_
                rw [show decide (([] : List Fr) ≠ []) = false by simp] at LN
                have LN := Lib.hid LN
                go_wp2_with (go_at_call 16; (with_reducible refine LN.out.mono ?_); rintro e w' ⟨rfl, hw⟩; obtain rfl := hw)
                go_roundw
                case rel => exact ⟨i + 1, ([] : List Fr), by simp, Lib.hid (by omega), Lib.hid (fun _ => rfl), Lib.hid (P7.out.sub (by simp))⟩
                case measure => simp only [intOf]; omega
            · obtain ⟨ht, hh⟩ : okL t = true ∧ okH fk ff fy fc fl = true := by cases h1 : okL t <;> cases h2 : okH fk ff fy fc fl <;> simp_all
              obtain rfl : fk = 1 := (okH_iff.1 hh).2.1
              clear harg
              as_aux_lemma =>
                obtain ⟨f, hf0⟩ := Int.eq_ofNat_of_zero_le (show 0 ≤ ff by have h := (okH_iff.1 hh).1; unfold rightC at h; omega)
                subst hf0
                have hr1 := (okH_iff.1 hh).1
                have f6 : f < 6 := by have := (okH_iff.1 hh).2.2; omega
                have tt := okL_iff.1 ht
                obtain ⟨z9, hz9⟩ : ∃ z9, t + d = z9 := ⟨_, rfl⟩
                have Q1 := P5.out.p.put t f fy fc fl hr1 f6 tt (Or.inl rfl) (by simp)
                rw [show sB ([] ++ [(⟨t, f, fy, fc, fl⟩ : Fr)]) + d = t + d from rfl, List.nil_append] at Q1
                rw [hz9] at Q1
                have Q1 := Lib.hid Q1
                go_wp2_with fail
                refine Q1.out.mono ?_
                rintro e w6 ⟨rfl, p6, k6⟩
                have P6 := P5.out.turn p6 k6
                have R1 := refAdd_new B d t f fy fc fl FC.out w6 P6.Bw HD.out ht hh
                rw [hz9] at R1
                have P6 := Lib.hid P6
                have R1 := Lib.hid R1
                clear hz9 Q1 p6 k6 e0 e1 e2 e3 e4 e5 e6
                obtain ⟨e0, e1, e2, e3, e4, e5, e6⟩ := cells7 (P6.out.p.st.at 0 rfl)
                go_wp2_with fail
                refine R1.out.mono ?_
                rintro e w7 ⟨v7, rfl, o7, s7⟩
                have P7 := P6.out.row s7 o7
                obtain ⟨A7, c7, rfl, -⟩ := P7.list
                obtain ⟨M, hM⟩ : ∃ M, ([(⟨t, f, fy, fc, fl⟩ : Fr)]).length = M := ⟨_, rfl⟩
                have M0 : (0 : Int) < (M : Int) := by rw [← hM]; simp only [List.length_cons, List.length_nil]; omega
                have M1 : 0 < M := by omega
                rw [hM] at P7 ⊢
                have P7 := Lib.hid P7
                clear R1 P6 P5 o7 s7 hM e0 e1 e2 e3 e4 e5 e6
                have LN := P7.out.p.open_
                rw [show decide ([(⟨t, f, fy, fc, fl⟩ : Fr)] ≠ []) = true by simp] at LN
                have LN := Lib.hid LN
                go_wp2_with (go_at_call 16; (with_reducible refine LN.out.mono ?_); rintro e w' ⟨rfl, hw⟩; obtain rfl := hw)
                go_roundw
                case rel => exact ⟨i + 1, [(⟨t, f, fy, fc, fl⟩ : Fr)], by simp, Lib.hid (by omega), Lib.hid (fun h => by simp at h), Lib.hid (P7.out.sub (by simp))⟩
                case measure => simp only [intOf]; omega
          · clear HV
            obtain ⟨A2, cp, rfl, hHL⟩ := P5.out.list
            obtain ⟨N, hN⟩ : ∃ N, (x :: S).length = N := ⟨_, rfl⟩
            rw [hN] at P5 L6 ⊢
            have HHL := Lib.hid hHL
            have HN := Lib.hid hN
            have N0 : (0 : Int) < (N : Int) := by rw [← hN]; simp only [List.length_cons]; omega
            have N1 : 0 < N := by omega
            have NE : ((N : Int) == 0) = false := by rw [beq_eq_false_iff_ne]; omega
            clear hN hHL
            by_cases harg : okL t = false ∨ okH fk ff fy fc fl = false
            · as_aux_lemma =>
                have Q1 := P5.out.p.no_arg t fk ff fy fc fl FC.out harg
                have Q1 := Lib.hid Q1
                have R1 := fun W (_h : Below w5.heap.size w5 W) => refAdd_arg A2 N cp d t fk ff fy fc fl FC.out W harg
                have R1 := Lib.hid R1
                go_wp2_with fail
                refine Q1.out.mono ?_
                rintro e w6 ⟨rfl, -, b6⟩
                have P6 := Lib.hid (P5.out.next b6)
                have B6 := Lib.hid b6
                clear Q1 b6 e0 e1 e2 e3 e4 e5 e6
                obtain ⟨e0, e1, e2, e3, e4, e5, e6⟩ := cells7 (P6.out.p.st.at 0 rfl)
                go_wp2_with fail
                refine (R1.out _ B6.out).mono ?_
                rintro e w7 ⟨rfl, b7⟩
                have P7 := Lib.hid (P6.out.next b7)
                clear R1 P6 P5 B6 b7 e0 e1 e2 e3 e4 e5 e6
                have LN := P7.out.p.open_
                rw [show decide ((x :: S) ≠ []) = true by simp] at LN
                have LN := Lib.hid LN
                go_wp2_with (go_at_call 16; (with_reducible refine LN.out.mono ?_); rintro e w' ⟨rfl, hw⟩; obtain rfl := hw)
                go_roundw
                case rel => exact ⟨i + 1, (x :: S), by simp, Lib.hid (by omega), Lib.hid (fun h => by simp at h), Lib.hid (P7.out.sub (by simp))⟩
                case measure => simp only [intOf]; omega
            · obtain ⟨ht, hh⟩ : okL t = true ∧ okH fk ff fy fc fl = true := by cases h1 : okL t <;> cases h2 : okH fk ff fy fc fl <;> simp_all
              obtain rfl : fk = 1 := (okH_iff.1 hh).2.1
              clear harg
              by_cases hr : t < x.t ∨ x.t + d < t
              · as_aux_lemma =>
                  have Q1 := P5.out.p.no_range (by simp) t 1 ff fy fc fl FC.out ht hh hr
                  have Q1 := Lib.hid Q1
                  have R1 := fun W (h : Below w5.heap.size w5 W) => refAdd_range A2 x S N cp HN.out.symm d t ff fy fc fl FC.out W (HHL.out.below h) (by have := L6.out; omega) (P5.out.p.base (by simp)) HD.out ht hh hr
                  have R1 := Lib.hid R1
                  go_wp2_with fail
                  refine Q1.out.mono ?_
                  rintro e w6 ⟨rfl, -, b6⟩
                  have P6 := Lib.hid (P5.out.next b6)
                  have B6 := Lib.hid b6
                  clear Q1 b6 e0 e1 e2 e3 e4 e5 e6
                  obtain ⟨e0, e1, e2, e3, e4, e5, e6⟩ := cells7 (P6.out.p.st.at 0 rfl)
                  go_wp2_with fail
                  refine (R1.out _ B6.out).mono ?_
                  rintro e w7 ⟨rfl, b7⟩
                  have P7 := Lib.hid (P6.out.next b7)
                  clear R1 P6 P5 B6 b7 e0 e1 e2 e3 e4 e5 e6
                  have LN := P7.out.p.open_
                  rw [show decide ((x :: S) ≠ []) = true by simp] at LN
                  have LN := Lib.hid LN
                  go_wp2_with (go_at_call 16; (with_reducible refine LN.out.mono ?_); rintro e w' ⟨rfl, hw⟩; obtain rfl := hw)
                  go_roundw
                  case rel => exact ⟨i + 1, (x :: S), by simp, Lib.hid (by omega), Lib.hid (fun h => by simp at h), Lib.hid (P7.out.sub (by simp))⟩
                  case measure => simp only [intOf]; omega
              · by_cases hf : ∃ z ∈ x :: S, (z.f : Int) = ff
                · as_aux_lemma =>
                    have Q1 := P5.out.p.no_there (by simp) t 1 ff fy fc fl FC.out ht hh hr hf
                    have Q1 := Lib.hid Q1
                    have R1 := fun W (h : Below w5.heap.size w5 W) => refAdd_there A2 x S N cp HN.out.symm d t ff fy fc fl FC.out W (HHL.out.below h) (by have := L6.out; omega) (P5.out.p.base (by simp)) HD.out ht hh (fun h => hr (Or.inl h)) (fun h => hr (Or.inr h)) hf
                    have R1 := Lib.hid R1
                    go_wp2_with fail
                    refine Q1.out.mono ?_
                    rintro e w6 ⟨rfl, -, b6⟩
                    have P6 := Lib.hid (P5.out.next b6)
                    have B6 := Lib.hid b6
                    clear Q1 b6 e0 e1 e2 e3 e4 e5 e6
                    obtain ⟨e0, e1, e2, e3, e4, e5, e6⟩ := cells7 (P6.out.p.st.at 0 rfl)
                    go_wp2_with fail
                    refine (R1.out _ B6.out).mono ?_
                    rintro e w7 ⟨rfl, b7⟩
                    have P7 := Lib.hid (P6.out.next b7)
                    clear R1 P6 P5 B6 b7 e0 e1 e2 e3 e4 e5 e6
                    have LN := P7.out.p.open_
                    rw [show decide ((x :: S) ≠ []) = true by simp] at LN
                    have LN := Lib.hid LN
                    go_wp2_with (go_at_call 16; (with_reducible refine LN.out.mono ?_); rintro e w' ⟨rfl, hw⟩; obtain rfl := hw)
                    go_roundw
                    case rel => exact ⟨i + 1, (x :: S), by simp, Lib.hid (by omega), Lib.hid (fun h => by simp at h), Lib.hid (P7.out.sub (by simp))⟩
                    case measure => simp only [intOf]; omega
                · as_aux_lemma =>
                    obtain ⟨f, hf0⟩ := Int.eq_ofNat_of_zero_le (show 0 ≤ ff by have h := (okH_iff.1 hh).1; unfold rightC at h; omega)
                    subst hf0
                    have hr1 := (okH_iff.1 hh).1
                    have f6 : f < 6 := by have := (okH_iff.1 hh).2.2; omega
                    have tt := okL_iff.1 ht
                    obtain ⟨z9, hz9⟩ : ∃ z9, x.t + d = z9 := ⟨_, rfl⟩
                    have Q1 := P5.out.p.put t f fy fc fl hr1 f6 tt (Or.inr (by show x.t ≤ t ∧ t ≤ x.t + d; have hr3 : ¬ (t < x.t ∨ x.t + d < t) := hr; omega)) (fun h => hf (by obtain ⟨z, hz, e⟩ := h; exact ⟨z, hz, by omega⟩))
                    rw [show sB (x :: S ++ [(⟨t, f, fy, fc, fl⟩ : Fr)]) + d = x.t + d from rfl] at Q1
                    rw [hz9] at Q1
                    have Q1 := Lib.hid Q1
                    go_wp2_with fail
                    refine Q1.out.mono ?_
                    rintro e w6 ⟨rfl, p6, k6⟩
                    have P6 := P5.out.turn p6 k6
                    have R1 := refAdd_in B A2 x S N cp HN.out.symm d t f fy fc fl FC.out w6 P6.o P6.Bw (by have := L6.out; omega) (P5.out.p.base (by simp)) HD.out ht hh (fun h => hr (Or.inl h)) (fun h => hr (Or.inr h)) (fun h => hf (by obtain ⟨z, hz, e⟩ := h; exact ⟨z, hz, by omega⟩))
                    rw [hz9] at R1
                    have P6 := Lib.hid P6
                    have R1 := Lib.hid R1
                    clear hz9 Q1 p6 k6 e0 e1 e2 e3 e4 e5 e6
                    obtain ⟨e0, e1, e2, e3, e4, e5, e6⟩ := cells7 (P6.out.p.st.at 0 rfl)
                    go_wp2_with fail
                    refine R1.out.mono ?_
                    rintro e w7 ⟨v7, rfl, o7, s7⟩
                    have P7 := P6.out.row s7 o7
                    obtain ⟨A7, c7, rfl, -⟩ := P7.list
                    obtain ⟨M, hM⟩ : ∃ M, (x :: S ++ [(⟨t, f, fy, fc, fl⟩ : Fr)]).length = M := ⟨_, rfl⟩
                    have M0 : (0 : Int) < (M : Int) := by rw [← hM]; simp only [List.length_append, List.length_cons, List.length_nil]; omega
                    have M1 : 0 < M := by omega
                    rw [hM] at P7 ⊢
                    have P7 := Lib.hid P7
                    clear R1 P6 P5 o7 s7 hM e0 e1 e2 e3 e4 e5 e6
                    have LN := P7.out.p.open_
                    rw [show decide ((x :: S ++ [(⟨t, f, fy, fc, fl⟩ : Fr)]) ≠ []) = true by simp] at LN
                    have LN := Lib.hid LN
                    go_wp2_with (go_at_call 16; (with_reducible refine LN.out.mono ?_); rintro e w' ⟨rfl, hw⟩; obtain rfl := hw)
                    go_roundw
                    case rel => exact ⟨i + 1, (x :: S ++ [(⟨t, f, fy, fc, fl⟩ : Fr)]), by simp, Lib.hid (by omega), Lib.hid (fun h => by simp at h), Lib.hid (P7.out.sub (by simp))⟩
                    case measure => simp only [intOf]; omega
        · have K1 : (kd == 1) = false := by rw [beq_eq_false_iff_ne]; exact k1
          by_cases k2 : kd = 2
          · subst k2
            rcases S with _ | ⟨x, S⟩
            · obtain rfl := HV.out rfl
              clear HV
              as_aux_lemma =>
                have Q1 := P5.out.p.no_close t (Or.inl rfl)
                have Q1 := Lib.hid Q1
                go_wp2_with fail
                refine Q1.out.mono ?_
                rintro e w6 ⟨rfl, -, b6⟩
                have P7 := Lib.hid ((P5.out.next b6).alloc (rbx 0 0 0))
                have B7 := Lib.hid (al b6 (rbx 0 0 0))
                clear Q1 b6 P5 e0 e1 e2 e3 e4 e5 e6
                go_upto_region 21 with (fail)
                generalize w6.alloc (Obj.cells #[.int .i64 0, .int .u32 0, .int .i64 0] 39) = w7 at *
                generalize w6.heap.size = q at *
                obtain ⟨e0, e1, e2, e3, e4, e5, e6⟩ := cells7 (P7.out.p.st.at 1 rfl)
                go_wp2_with fail
                go_quiet (fail)
                have B8 : Below w7.heap.size w7 (w7.drewN nq) := ⟨rfl, rfl, rfl, Nat.le_refl _, fun _ _ => rfl⟩
                have P8 := Lib.hid (P7.out.next B8)
                generalize w7.drewN nq = w8 at *
                clear P7 B7 B8 e0 e1 e2 e3 e4 e5 e6
                obtain ⟨c0, c1, c2⟩ := cells3 (P8.out.p.st.at 0 rfl)
                have q1 := neq_res 0 0 0
                have q2 := guardR
                go_wp2
                go_roundw
                case rel => exact ⟨i + 1, ([] : List Fr), by simp, Lib.hid (by omega), Lib.hid (fun _ => rfl), Lib.hid (P8.out.sub (by simp))⟩
                case measure => simp only [intOf]; omega
            · clear HV
              obtain ⟨A2, cp, rfl, hHL⟩ := P5.out.list
              obtain ⟨N, hN⟩ : ∃ N, (x :: S).length = N := ⟨_, rfl⟩
              rw [hN] at P5 L6 ⊢
              have HHL := Lib.hid hHL
              have HN := Lib.hid hN
              have N0 : (0 : Int) < (N : Int) := by rw [← hN]; simp only [List.length_cons]; omega
              have N1 : 0 < N := by omega
              have NE : ((N : Int) == 0) = false := by rw [beq_eq_false_iff_ne]; omega
              clear hN hHL
              by_cases hr : t < x.t + d
              · as_aux_lemma =>
                  obtain ⟨gA, oA, rfl, hQ⟩ := HHL.out.six
                  have Q6 := Lib.hid hQ
                  clear hQ
                  have xb := P5.out.p.base (by simp)
                  have xb : -1125899906842624 ≤ x.t ∧ x.t ≤ 1125899906842624 := xb
                  have e9 : IntKind.i64.wrap (x.t + d) = x.t + d := by rw [IntKind.wrap_i64]; have := HD.out; omega
                  have Q1 := P5.out.p.no_close t (Or.inr hr)
                  have Q1 := Lib.hid Q1
                  go_wp2_with fail
                  refine Q1.out.mono ?_
                  rintro e w6 ⟨rfl, -, b6⟩
                  have P7 := Lib.hid ((P5.out.next b6).alloc (rbx 0 0 0))
                  have B7 := Lib.hid (al b6 (rbx 0 0 0))
                  clear Q1 b6 P5 e0 e1 e2 e3 e4 e5 e6
                  go_upto_region 21 with (fail)
                  generalize w6.alloc (Obj.cells #[.int .i64 0, .int .u32 0, .int .i64 0] 39) = w7 at *
                  generalize w6.heap.size = q at *
                  obtain ⟨e0, e1, e2, e3, e4, e5, e6⟩ := cells7 (P7.out.p.st.at 1 rfl)
                  have f0 := (Q6.out.below B7.out).first.1
                  have n1 : t < x.t + d := hr
                  have n2 : decide (t < x.t + d) = true := decide_eq_true n1
                  go_wp2_with fail
                  go_quiet (fail)
                  have B8 : Below w7.heap.size w7 (w7.drewN nq) := ⟨rfl, rfl, rfl, Nat.le_refl _, fun _ _ => rfl⟩
                  have P8 := Lib.hid (P7.out.next B8)
                  generalize w7.drewN nq = w8 at *
                  clear P7 B7 B8 e0 e1 e2 e3 e4 e5 e6
                  obtain ⟨c0, c1, c2⟩ := cells3 (P8.out.p.st.at 0 rfl)
                  have q1 := neq_res 0 0 0
                  have q2 := guardR
                  go_wp2
                  go_roundw
                  case rel => exact ⟨i + 1, (x :: S), by simp, Lib.hid (by omega), Lib.hid (fun h => by simp at h), Lib.hid (P8.out.sub (by simp))⟩
                  case measure => simp only [intOf]; omega
              · as_aux_lemma =>
                  have xb := P5.out.p.base (by simp)
                  have xb : -1125899906842624 ≤ x.t ∧ x.t ≤ 1125899906842624 := xb
                  have e9 : IntKind.i64.wrap (x.t + d) = x.t + d := by rw [IntKind.wrap_i64]; have := HD.out; omega
                  have Q1 := P5.out.p.shut (by simp) t (by show x.t + d ≤ t; have h : ¬ t < x.t + d := hr; omega)
                  have R1 := fun W (h : HL W A2 (x :: S)) => refCompress_any A2 x S N cp HN.out.symm d P5.out.p.ok HD.out W h
                  generalize pt (x :: S) = pz at *
                  generalize sS (x :: S) = sz at *
                  generalize cy (x :: S) = cz at *
                  have Q1 := Lib.hid Q1
                  have R1 := Lib.hid R1
                  go_wp2_with fail
                  refine Q1.out.mono ?_
                  rintro e w6 ⟨rfl, p6, k6⟩
                  have P6 := P5.out.turn p6 k6
                  have hA6 : HL w6 A2 (x :: S) := by
                    obtain ⟨A', c', e, h⟩ := P6.list
                    injection e with e1 _ _
                    rw [e1]
                    exact h
                  obtain ⟨gA, oA, rfl, hQ⟩ := hA6.six
                  have Q6 := Lib.hid hQ
                  have A6 := Lib.hid hA6
                  have P7 := Lib.hid (P6.alloc (rbx pz sz cz))
                  have Q7 := Lib.hid (Q6.out.below (al (Below.refl w6.heap.size w6) (rbx pz sz cz)))
                  have A7 := Lib.hid (A6.out.below (al (Below.refl w6.heap.size w6) (rbx pz sz cz)))
                  clear Q1 p6 k6 P6 P5 hA6 hQ HHL Q6 A6 e0 e1 e2 e3 e4 e5 e6
                  go_upto_region 21 with (fail)
                  generalize w6.alloc (Obj.cells #[.int .i64 pz, .int .u32 (sz : Int), .int .i64 cz] 39) = w7 at *
                  generalize w6.heap.size = q at *
                  obtain ⟨e0, e1, e2, e3, e4, e5, e6⟩ := cells7 (P7.out.p.st.at 1 rfl)
                  have f0 := Q7.out.first.1
                  have n1 : ¬ t < x.t + d := by omega
                  have n2 : decide (t < x.t + d) = false := decide_eq_false n1
                  go_wp2_with fail
                  go_quiet (fail)
                  have B8 : Below w7.heap.size w7 (w7.drewN nq) := ⟨rfl, rfl, rfl, Nat.le_refl _, fun _ _ => rfl⟩
                  have P8 := Lib.hid (P7.out.next B8)
                  have A8 := Lib.hid (A7.out.below B8)
                  generalize w7.drewN nq = w8 at *
                  clear P7 Q7 A7 B8 f0 e0 e1 e2 e3 e4 e5 e6
                  go_wp2_with fail
                  refine (R1.out _ A8.out).mono ?_
                  rintro e w9 ⟨rfl, b9⟩
                  have P9 := Lib.hid ((P8.out.next b9).alloc (sbx pz sz cz))
                  clear P8 A8 b9
                  go_upto_region 25 with (fail)
                  generalize w9.alloc (Obj.cells #[.int .i64 pz, .int .u32 (sz : Int), .int .i64 cz] 44) = w10 at *
                  generalize w9.heap.size = q9 at *
                  obtain ⟨s0, s1, s2⟩ := cells3 (P9.out.p.st.at 0 rfl)
                  obtain ⟨c0, c1, c2⟩ := cells3 (P9.out.p.st.at 1 rfl)
                  have q1 := neq_res pz sz cz
                  have q2 := guardR
                  go_wp2_with fail
                  refine (frame_any pz sz cz 7 _).mono ?_
                  rintro e w11 ⟨rfl, b11⟩
                  have P11 := Lib.hid ((P9.out.next b11).alloc (cb 2 7 cz sz 0))
                  clear P9 b11 s0 s1 s2 c0 c1 c2 q1 q2
                  go_upto_region 28 with (fail)
                  generalize w11.alloc (Obj.cells #[.int .i64 2, .int .i64 7, .int .i64 cz, .int .u32 (sz : Int), .int .i64 0] 31) = w12 at *
                  generalize w11.heap.size = q11 at *
                  obtain ⟨d0, d1, d2, d3, d4⟩ := FrameW.cells5 (P11.out.p.st.at 0 rfl)
                  obtain ⟨s0, s1, s2⟩ := cells3 (P11.out.p.st.at 1 rfl)
                  have q3 := FrameW.neq_ctl 2 7 cz sz 0
                  have q4 := guardC
                  go_upto_region 31 with (fail)
                  clear d0 d1 d2 d3 d4 s0 s1 s2 q3 q4
                  have P12 := Lib.hid P11.out.clear
                  clear P11
                  have LN := P12.out.p.open_
                  rw [show decide (([] : List Fr) ≠ []) = false by simp] at LN
                  have LN := Lib.hid LN
                  go_wp2_with (go_at_call 16; (with_reducible refine LN.out.mono ?_); rintro e w' ⟨rfl, hw⟩; obtain rfl := hw)
                  go_roundw
                  case rel => exact ⟨i + 1, ([] : List Fr), by simp, Lib.hid (by omega), Lib.hid (fun _ => rfl), Lib.hid (P12.out.sub (by simp))⟩
                  case measure => simp only [intOf]; omega
          · have K2 : (kd == 2) = false := by rw [beq_eq_false_iff_ne]; exact k2
            rcases S with _ | ⟨x, S⟩
            · obtain rfl := HV.out rfl
              clear HV
              as_aux_lemma =>
                have LN := P5.out.p.open_
                rw [show decide (([] : List Fr) ≠ []) = false by simp] at LN
                have LN := Lib.hid LN
                go_wp2_with (go_at_call 16; (with_reducible refine LN.out.mono ?_); rintro e w' ⟨rfl, hw⟩; obtain rfl := hw)
                go_roundw
                case rel => exact ⟨i + 1, ([] : List Fr), by simp, Lib.hid (by omega), Lib.hid (fun _ => rfl), Lib.hid (P5.out.sub (by simp))⟩
                case measure => simp only [intOf]; omega
            · clear HV
              obtain ⟨A2, cp, rfl, hHL⟩ := P5.out.list
              obtain ⟨N, hN⟩ : ∃ N, (x :: S).length = N := ⟨_, rfl⟩
              rw [hN] at P5 L6 ⊢
              have HHL := Lib.hid hHL
              have HN := Lib.hid hN
              have N0 : (0 : Int) < (N : Int) := by rw [← hN]; simp only [List.length_cons]; omega
              have N1 : 0 < N := by omega
              have NE : ((N : Int) == 0) = false := by rw [beq_eq_false_iff_ne]; omega
              clear hN hHL
              as_aux_lemma =>
                have LN := P5.out.p.open_
                rw [show decide ((x :: S) ≠ []) = true by simp] at LN
                have LN := Lib.hid LN
                go_wp2_with (go_at_call 16; (with_reducible refine LN.out.mono ?_); rintro e w' ⟨rfl, hw⟩; obtain rfl := hw)
                go_roundw
                case rel => exact ⟨i + 1, (x :: S), by simp, Lib.hid (by omega), Lib.hid (fun h => by simp at h), Lib.hid (P5.out.sub (by simp))⟩
                case measure => simp only [intOf]; omega
      · go_wp2
        go_ret
        exact ⟨rfl, P.out.b⟩
set_option maxRecDepth 100000 in
/-- What the walk gives, for every argument and every world. -/
theorem contract (H : Type) (enc : TypeId × Value → H) (W : World) (base : Nat) (args : Array Value) (ds gs : List (DataW H)) (before : List MemPlace)
    (hval : ∀ (j : Nat) t v, Try.f3.params[j]? = some t → args[j]? = some v → Value.okWide Try.prog W .any base t v)
    (hW : DataW.Whole enc Try.prog Try.f3.params.toList Rows.compPlaysSpec.vars false W args.toList ds gs before) (hz : (DataW.weightsEach Try.prog (Try.f3.params.toList ++ (OpenSpec.ofChange Rows.compPlaysSpec).bare.plain.varTypes Try.prog) (ds ++ gs)).all (· ≤ reachBytes) = true) : 
    Calls Try.prog 3 args W fun e W' => ∃ v, e = .returned v ∧ Rows.compPlaysSpec.post enc Try.prog Try.f3 false true false false W args v W' := by
  have hW' := hW
  obtain ⟨p, q, hA0, hV, rfl, hfz, hnd⟩ := hW
  have hA : DataW.TrodAll enc Try.prog W 0 (fun _ => true) true Try.f3.params.toList args.toList ds p := hA0
  rw [Try.params3] at hA hval
  obtain ⟨v0, vs0, d0, ds0, p0, q0, hargs, rfl, rfl, h0, r0⟩ := trodAll_cons hA
  obtain ⟨v1, vs1, d1, ds1, p1, q1, rfl, rfl, rfl, h1, r1⟩ := trodAll_cons r0
  obtain ⟨rfl, rfl, rfl⟩ := trodAll_nil r1
  obtain rfl : args = #[v0, v1] := by cases args; simp_all
  obtain ⟨rfl, rfl⟩ := trodVars_none hV
  obtain ⟨d, rfl, rfl, rfl, w0⟩ := open_int Try.underlying2 (hval 0 2 v0 rfl rfl) h0
  obtain ⟨A1, s, c1, rfl, f1, l1, lc1, sz1, nl1⟩ := Shell.open_rowsF (qs := ks7) Try.underlying22 (by kernel_rfl) nums_op (hval 1 22 v1 rfl rfl) h1
  have z1 : s.length * 56 ≤ 140737488351232 := by
    rcases sz1 with h | ⟨es, sp, hd, hl⟩
    · rw [h]; decide
    · have := sized_slice hz (j := 1) (t := 22) (e := 33) (elems := es) (spare := sp) (by rw [Try.params3]; rfl) (by rw [hd]; rfl) Try.underlying22
      rw [show Try.prog.bytesOf 33 = 56 by kernel_rfl, show reachBytes = 140737488351232 from rfl] at this
      omega
  refine (walk d A1 s c1 W f1 (by omega)).mono fun e W' ⟨he, hb⟩ => ?_
  exact ⟨_, he, Shell.post_law laidOut (by kernel_rfl) rfl Try.underlying4 rfl hW' rfl hb⟩
theorem reads (os : Os) {H : Type} (enc : TypeId × Value → H) : ∃ places, DataW.whole enc Try.prog ((World.holding Try.prog os ⟨#[], #[], []⟩).forCall (fun _ _ => 0) ⟨#[], #[.int .i64 0, .slice none 0 0], []⟩).memory Try.f3.params.toList Rows.compPlaysSpec.vars false (#[Value.int .i64 0, Value.slice none 0 0]).toList 8 = some ([.lit (.int .i64 0), .nil], [], places) :=
  ⟨[], by kernel_rfl⟩
set_option maxRecDepth 100000 in
theorem lifted (os : Os) (started : os.Started) (H : Type) (enc : TypeId × Value → H) (F : Stop.Interp) :
    ReturnsInHanded {} Try.checked os 3 .any ((OpenSpec.ofChange Rows.compPlaysSpec).preRow enc Try.prog Try.f3 Rows.compPlaysRow.domain false Rows.compPlaysRow.laid) (((OpenSpec.ofChange Rows.compPlaysSpec).at F).post enc Try.prog Try.f3 false true false false) := by
  obtain ⟨places, hx⟩ := reads os enc
  refine returnsInHanded_of_row (C := Try.checked) (s := OpenSpec.ofChange Rows.compPlaysSpec) own started (by kernel_rfl) Try.func3
    (witness_row_atRef (enc := enc) (C := Try.checked) false (World.holding Try.prog os ⟨#[], #[], []⟩) #[.int .i64 0, .slice none 0 0] rfl (by kernel_rfl) (by kernel_rfl) (by kernel_rfl)
      (OpenSpec.preRow_of_cond 8 hx (by kernel_rfl) (fun k hk => by cases hk) (by kernel_rfl) (laid_met os _))) ?_
  intro W base args ds gs before hval hW _ _ hz hL _ _
  exact contract H enc W base args ds gs before hval hW hz
theorem said : Rows.CompPlaysSaid :=
  OpenClaim.holds_of_cond 3 Try.f3 rfl rfl rfl rfl rfl rfl rfl ⟨rfl, rfl, rfl, rfl, rfl⟩ rfl rfl rfl rfl rfl (by kernel_rfl) Try.func3 (by kernel_rfl)
    (of_decide_eq_true (by kernel_rfl)) (by unfold Func.isWrapper; first | (rw [if_pos (by decide +kernel)]; kernel_rfl) | (rw [if_neg (by decide +kernel)]; exact ⟨rfl, rfl⟩))
    (fun os started H enc _ F => by rw [OpenClaim.pre_eq_preRow]; exact lifted os started H enc F)
end Go.Proofs.Ytpjaijibkjmgiaa.CompW.CompPlays
