/- Package plan: askable, reserved. -/
import Derived.Test.YtdaoemjkefpmcaaPlanB
import Derived.Test.YtdaoemjkefpmcaaPlanM
import Derived.Test.YtdaoemjkefpmcaaCrewA
namespace Go.Proofs.Ytdaoemjkefpmcaa.PlanW
open Go.RowKit Shell
open ConfW (Cfg R4 CM ML chk tim fwd time_any forward_any)
open CrewW (has_any)
set_option maxHeartbeats 2000000 in
theorem askable_any (c : Cfg) (D E L : Option Addr) (nd cd ne ce nl cl : Nat) (h t n : Int) (w : World) (m : CM w c D E L nd cd ne ce nl cl) : Calls Try.prog 34 #[.agg #[.int .i64 c.hosts, .int .i64 c.cycle, .int .i64 c.delay, .int .i64 c.window, .int .i64 c.precision, .slice D nd cd, .slice E ne ce, .slice L nl cl, .int .i64 c.queue], .int .i64 h, .int .i64 t, .int .i64 n] w fun r w' => r = .returned (.bool (ask c h t n)) ∧ Below w.heap.size w w' := by
  have S0 := Lib.hid ((Stay.start w).alloc (Obj.cells #[.int .i64 c.hosts, .int .i64 c.cycle, .int .i64 c.delay, .int .i64 c.window, .int .i64 c.precision, .slice D nd cd, .slice E ne ce, .slice L nl cl, .int .i64 c.queue] 26))
  have HM := Lib.hid (m.below S0.out.b)
  obtain ⟨a0, a1, a2, a3, a4, a5, a6, a7, a8⟩ := cells9 (S0.out.at 0 rfl)
  cases hg : god c t with
  | false =>
    have KH := Lib.hid (where_no c D E L nd cd ne ce nl cl t _ HM.out hg)
    rw [show ask c h t n = false by unfold ask; rw [hg]; rfl]
    clear hg m
    go_enter Try.func34, Try.ntmps34
    go_wp2_with (go_at_call 9; refine KH.out.mono ?_; rintro r w5 ⟨rfl, b5⟩; have S := Lib.hid (S0.out.next b5); clear b5 a0 a1 a2 a3 a4 a5 a6 a7 a8; obtain ⟨a0, a1, a2, a3, a4, a5, a6, a7, a8⟩ := cells9 (S.out.at 0 rfl))
    go_ret
    exact ⟨by first | rfl | exact congrArg (fun z => Ending.returned (.bool z)) (decide_eq_false (by omega)), S.out.b⟩
  | true =>
    have KH := Lib.hid (where_ok c D E L nd cd ne ce nl cl t _ HM.out hg)
    rw [show ask c h t n = ((decide (0 ≤ h) && decide (h < c.hosts)) && (decide (1 ≤ n) && decide (n ≤ c.cycle))) by unfold ask; rw [hg, Bool.true_and]]
    generalize t / c.cycle = q at *
    generalize t % c.cycle = p at *
    clear hg m
    by_cases h1 : 0 ≤ h
    case neg =>
      rw [decide_eq_false h1, Bool.false_and, Bool.false_and]
      go_enter Try.func34, Try.ntmps34
      go_wp2_with (go_at_call 9; refine KH.out.mono ?_; rintro r w5 ⟨rfl, b5⟩; have S := Lib.hid (S0.out.next b5); clear b5 a0 a1 a2 a3 a4 a5 a6 a7 a8; obtain ⟨a0, a1, a2, a3, a4, a5, a6, a7, a8⟩ := cells9 (S.out.at 0 rfl))
      go_ret
      exact ⟨by first | rfl | exact congrArg (fun z => Ending.returned (.bool z)) (decide_eq_false (by omega)), S.out.b⟩
    by_cases h2 : h < c.hosts
    case neg =>
      rw [decide_eq_false h2, Bool.and_false, Bool.false_and]
      go_enter Try.func34, Try.ntmps34
      go_wp2_with (go_at_call 9; refine KH.out.mono ?_; rintro r w5 ⟨rfl, b5⟩; have S := Lib.hid (S0.out.next b5); clear b5 a0 a1 a2 a3 a4 a5 a6 a7 a8; obtain ⟨a0, a1, a2, a3, a4, a5, a6, a7, a8⟩ := cells9 (S.out.at 0 rfl))
      go_ret
      exact ⟨by first | rfl | exact congrArg (fun z => Ending.returned (.bool z)) (decide_eq_false (by omega)), S.out.b⟩
    by_cases h3 : 1 ≤ n
    case neg =>
      rw [decide_eq_false h3, Bool.false_and, Bool.and_false]
      go_enter Try.func34, Try.ntmps34
      go_wp2_with (go_at_call 9; refine KH.out.mono ?_; rintro r w5 ⟨rfl, b5⟩; have S := Lib.hid (S0.out.next b5); clear b5 a0 a1 a2 a3 a4 a5 a6 a7 a8; obtain ⟨a0, a1, a2, a3, a4, a5, a6, a7, a8⟩ := cells9 (S.out.at 0 rfl))
      go_ret
      exact ⟨by first | rfl | exact congrArg (fun z => Ending.returned (.bool z)) (decide_eq_false (by omega)), S.out.b⟩
    by_cases h4 : n ≤ c.cycle
    case neg =>
      rw [decide_eq_false h4, Bool.and_false, Bool.and_false]
      go_enter Try.func34, Try.ntmps34
      go_wp2_with (go_at_call 9; refine KH.out.mono ?_; rintro r w5 ⟨rfl, b5⟩; have S := Lib.hid (S0.out.next b5); clear b5 a0 a1 a2 a3 a4 a5 a6 a7 a8; obtain ⟨a0, a1, a2, a3, a4, a5, a6, a7, a8⟩ := cells9 (S.out.at 0 rfl))
      go_ret
      exact ⟨by first | rfl | exact congrArg (fun z => Ending.returned (.bool z)) (decide_eq_false (by omega)), S.out.b⟩
    rw [decide_eq_true h1, decide_eq_true h2, decide_eq_true h3, decide_eq_true h4]
    go_enter Try.func34, Try.ntmps34
    go_wp2_with (go_at_call 9; refine KH.out.mono ?_; rintro r w5 ⟨rfl, b5⟩; have S := Lib.hid (S0.out.next b5); clear b5 a0 a1 a2 a3 a4 a5 a6 a7 a8; obtain ⟨a0, a1, a2, a3, a4, a5, a6, a7, a8⟩ := cells9 (S.out.at 0 rfl))
    go_ret
    exact ⟨by first | rfl | exact congrArg (fun z => Ending.returned (.bool z)) (decide_eq_false (by omega)), S.out.b⟩
theorem rs_len (c : Cfg) (h : Int) (down : Bool) : ∀ l : List R4, (rs c h down l).length ≤ l.length
  | [] => Nat.le_refl _
  | e :: l => by
    have := rs_len c h down l
    show (if onW h down e then str c down e :: rs c h down l else rs c h down l).length ≤ _
    split <;> simp only [List.length_cons] <;> omega
theorem stay_grown {w0 w w1 : World} {L : List (Nat × Obj)} {v : Value} (S : Stay w0 L w) (g : w.grownBy w1 v.ownBlock) (hb : ∀ k, v.ownBlock = some k → w0.heap.size ≤ k) (hL : ∀ x ∈ L, v.ownBlock ≠ some x.1) : Stay w0 L w1 :=
  ⟨S.b.grown g S.b.size hb, fun x hx => (g.block _ (lt_of_heap (S.h x hx)) (fun e => hL x hx e.symm)).trans (S.h x hx)⟩
/-- The configuration's box, an entry's, and the row of what is reserved. -/
structure RX (w0 : World) (o : Obj) (g : Nat) (e : R4) (v : Value) (T : List (Int × Int)) (W : World) : Prop where
  st : Stay w0 [(g, eb e), (w0.heap.size, o)] W
  sr : SR W (w0.heap.size + 1) v T
  gl : w0.heap.size < g
theorem RX.next {w0 w w1 : World} {o : Obj} {g : Nat} {e : R4} {v : Value} {T : List (Int × Int)} (h : RX w0 o g e v T w) (b : Below w.heap.size w w1) : RX w0 o g e v T w1 := ⟨h.st.next b, h.sr.below b, h.gl⟩
theorem RX.drew {w0 w : World} {o : Obj} {g : Nat} {e : R4} {v : Value} {T : List (Int × Int)} (h : RX w0 o g e v T w) : RX w0 o g e v T w.drew := h.next (Below.refl _ _).drew
theorem RX.sz {w0 w : World} {o : Obj} {g : Nat} {e : R4} {v : Value} {T : List (Int × Int)} (h : RX w0 o g e v T w) : w0.heap.size + 1 ≤ w.heap.size := by
  have := h.gl
  have := lt_of_heap (h.st.at 0 rfl)
  omega
/-- Behind an append the configuration's box is as it was. -/
theorem RX.grown {w0 w w1 : World} {o : Obj} {g : Nat} {e : R4} {v : Value} {T : List (Int × Int)} (h : RX w0 o g e v T w) (p : w.grownBy w1 v.ownBlock) : Stay w0 [(w0.heap.size, o)] w1 :=
  stay_grown h.st.drop p (fun k hk => by have := (h.sr.lt k hk).1; omega) (fun x hx e => by
    rw [List.mem_singleton] at hx
    subst hx
    have := (h.sr.lt _ e).1
    omega)
set_option maxHeartbeats 16000000 in
set_option maxRecDepth 100000 in
theorem reserved_any (c : Cfg) (D E L : Option Addr) (nd cd ne ce nl cl : Nat) (h : Int) (down : Bool) (w : World) (m : CM w c D E L nd cd ne ce nl cl) (hz : chk c = 0) : Calls Try.prog 35 #[.agg #[.int .i64 c.hosts, .int .i64 c.cycle, .int .i64 c.delay, .int .i64 c.window, .int .i64 c.precision, .slice D nd cd, .slice E ne ce, .slice L nl cl, .int .i64 c.queue], .int .i64 h, .bool down] w fun r w' => ∃ v, r = .returned v ∧ SR w' (w.heap.size + 1) v (rs c h down c.entries) ∧ Below w.heap.size w w' := by
  have S0 := Lib.hid ((Stay.start w).alloc (Obj.cells #[.int .i64 c.hosts, .int .i64 c.cycle, .int .i64 c.delay, .int .i64 c.window, .int .i64 c.precision, .slice D nd cd, .slice E ne ce, .slice L nl cl, .int .i64 c.queue] 26))
  have HM := Lib.hid m
  have HZ := Lib.hid hz
  obtain ⟨a0, a1, a2, a3, a4, a5, a6, a7, a8⟩ := cells9 (S0.out.at 0 rfl)
  have hl : ne ≤ 16 := by rw [m.nE]; exact chk_len hz
  clear m hz
  go_enter Try.func35, Try.ntmps35
  go_wp2
  go_loopw [7, 15] (fun tv iv wr => ∃ (k : Nat), k ≤ ne ∧ iv = .int .i64 k ∧ Hid (SR wr (w.heap.size + 1) tv (rs c h down (c.entries.take k))) ∧ Hid (Stay w [(w.heap.size, Obj.cells #[.int .i64 c.hosts, .int .i64 c.cycle, .int .i64 c.delay, .int .i64 c.window, .int .i64 c.precision, .slice D nd cd, .slice E ne ce, .slice L nl cl, .int .i64 c.queue] 26)] wr)) (fun _ iv _ => ne - (intOf iv).toNat)
  case atStart => exact ⟨0, Nat.zero_le _, rfl, Lib.hid (SR.nil _ _), S0⟩
  case round =>
    clear S0 a0 a1 a2 a3 a4 a5 a6 a7 a8
    obtain ⟨k, hk, rfl, HR, HS⟩ := hrel
    obtain ⟨a0, a1, a2, a3, a4, a5, a6, a7, a8⟩ := cells9 (HS.out.at 0 rfl)
    by_cases hlt : (k : Int) < (ne : Int)
    · obtain ⟨e, he⟩ : ∃ e, c.entries[k]? = some e := ⟨_, List.getElem?_eq_getElem (by rw [← HM.out.nE]; omega)⟩
      obtain ⟨b, off, rfl, ⟨x0, x1, x2, x3⟩, hb⟩ := (HM.out.below HS.out.b).he k e he
      have OK := Lib.hid (ent_ok HZ.out (List.mem_of_getElem? he))
      have RT := Lib.hid (rs_take (c := c) (h := h) (down := down) he)
      have HLL := Lib.hid (show (rs c h down (c.entries.take k)).length ≤ 16 by
        refine Nat.le_trans (rs_len _ _ _ _) ?_
        rw [List.length_take]
        omega)
      have KF := Lib.hid (fun W => forward_any c D (some ⟨b, off, none⟩) L nd cd ne ce nl cl e W hb)
      have KH := Lib.hid (fun W => has_any e.b h W hb)
      have KT := Lib.hid (fun W => time_any e.d W)
      clear he hb
      generalize rs c h down (c.entries.take k) = T at *
      obtain ⟨A, cp, rfl, -, -, -⟩ := HR.out.form
      generalize hTn : T.length = n at *
      have HTN := Lib.hid hTn
      clear hTn
      obtain ⟨wk, hwk⟩ : ∃ wk, wk = wr := ⟨_, rfl⟩
      subst hwk
      have X2 := Lib.hid (show RX w (.cells #[.int .i64 c.hosts, .int .i64 c.cycle, .int .i64 c.delay, .int .i64 c.window, .int .i64 c.precision, .slice D nd cd, .slice (some ⟨b, off, none⟩) ne ce, .slice L nl cl, .int .i64 c.queue] 26) wk.heap.size e (.slice A n cp) T (wk.alloc (eb e)) from ⟨HS.out.alloc (eb e), HR.out.alloc _, lt_of_heap (HS.out.at 0 rfl)⟩)
      have W1 := Lib.hid (show ∀ d, str c d e = ((if d then fwd c e else e.c), tim e.d) from fun d => rfl)
      have t1 : IntKind.i64.wrap (e.c + tim e.d) = e.c + tim e.d := by
        have a := OK.out.lo
        have b := OK.out.hi
        have c1 := chk_span HZ.out
        have d := OK.out.tp
        rw [IntKind.wrap_i64]; omega
      have t2 : wrap64 (e.c + tim e.d) = e.c + tim e.d := by
        have a := OK.out.lo
        have b := OK.out.hi
        have c1 := chk_span HZ.out
        have d := OK.out.tp
        unfold wrap64; omega
      have t3 : IntKind.i64.wrap (fwd c e + tim e.d) = fwd c e + tim e.d := by
        have a := (ent_in OK.out).f
        have b := OK.out.hi
        have b2 := OK.out.lo
        have c1 := chk_span HZ.out
        have d := OK.out.tp
        rw [IntKind.wrap_i64]; omega
      have t4 : wrap64 (fwd c e + tim e.d) = fwd c e + tim e.d := by
        have a := (ent_in OK.out).f
        have b := OK.out.hi
        have b2 := OK.out.lo
        have c1 := chk_span HZ.out
        have d := OK.out.tp
        unfold wrap64; omega
      go_wp2
      generalize hG : wk.heap.size = g at *
      obtain ⟨a0, a1, a2, a3, a4, a5, a6, a7, a8⟩ := cells9 (X2.out.st.at 1 rfl)
      obtain ⟨e0, e1, e2, e3⟩ := cells4 (X2.out.st.at 0 rfl)
      clear hG HR HS x0 x1 x2 x3
      generalize wk.alloc _ = wa at *
      cases down with
      | false =>
        by_cases hh : e.a = h
        · have q1 : (e.a == h) = true := by rw [beq_iff_eq]; exact hh
          have q2 := Lib.hid (show onW h false e = true from decide_eq_true hh)
          clear hh
          go_region
          have X3 := Lib.hid X2.out.drew
          go_wp2_with (first
            | (go_at_call 21; refine (KT.out _).mono ?_; rintro r w9 ⟨rfl, hw⟩; obtain rfl := hw.symm)
            | (at_builtin; refine wpList_append_sr _ rfl _ _ rfl (w.heap.size + 1) _ T rfl (X3.out.sr.alloc _) (str c false e) _ rfl (heap_at rfl _) ?c1 ?c2 ?_))
          case c1 => rw [HTN.out]; have := HLL.out; omega
          case c2 => exact Nat.le_trans X3.out.sz (by show _ ≤ (World.alloc _ _).heap.size; rw [World.size_alloc]; exact Nat.le_succ _)
          intro v2 w3 o3 g3
          have O3 := Lib.hid (show SR w3 (w.heap.size + 1) v2 (rs c h false (c.entries.take (k + 1))) by rw [RT.out, if_pos q2.out]; exact o3)
          have S3 := Lib.hid (RX.grown (X3.out.next (al (Below.refl _ _) _)) g3)
          clear o3 g3
          go_wp2
          go_roundw
          case rel => exact ⟨k + 1, by omega, by go_num, O3, S3⟩
          case measure => simp [intOf]; omega
        · have q1 : (e.a == h) = false := by rw [beq_eq_false_iff_ne]; exact hh
          have q2 := Lib.hid (show ¬ onW h false e = true by show ¬ decide (e.a = h) = true; rw [decide_eq_true_eq]; exact hh)
          clear hh
          go_region
          have X3 := Lib.hid X2.out.drew
          have O3 := Lib.hid (show SR _ (w.heap.size + 1) (.slice A n cp) (rs c h false (c.entries.take (k + 1))) by rw [RT.out, if_neg q2.out]; exact X3.out.sr)
          have S3 := Lib.hid X3.out.st.drop
          go_wp2
          go_roundw
          case rel => exact ⟨k + 1, by omega, by go_num, O3, S3⟩
          case measure => simp [intOf]; omega
      | true =>
        go_region
        go_wp2_with fail
        have X2 := Lib.hid X2.out.drew
        apply wp_some (S := fun W : World => RX w (Obj.cells #[.int .i64 c.hosts, .int .i64 c.cycle, .int .i64 c.delay, .int .i64 c.window, .int .i64 c.precision, .slice D nd cd, .slice (some ⟨b, off, none⟩) ne ce, .slice L nl cl, .int .i64 c.queue] 26) g e (.slice A n cp) T W)
        case h =>
          refine wp_region_noPanic ?_
          refine wp_region_held_drew (S := fun W : World => RX w (Obj.cells #[.int .i64 c.hosts, .int .i64 c.cycle, .int .i64 c.delay, .int .i64 c.window, .int .i64 c.precision, .slice D nd cd, .slice (some ⟨b, off, none⟩) ne ce, .slice L nl cl, .int .i64 c.queue] 26) g e (.slice A n cp) T W) (by kernel_rfl) (X2.out.drew) (fun hHeld => ?_)
          refine wpAnyH_take (i := 0) (oi := ⟨some 26, _, _, _, _, _⟩) (v := ?_) rfl (by kernel_rfl) (by kernel_rfl) (by kernel_rfl) (fun _ _ _ h => h) (Or.inl ⟨by kernel_rfl, ?_⟩) (by assumption) ?_; rotate_left; (focus (intro w hSw; (try dsimp only at hSw); obtain ⟨a0, a1, a2, a3, a4, a5, a6, a7, a8⟩ := cells9 (Stay.at (RX.st hSw) 1 rfl); obtain ⟨e0, e1, e2, e3⟩ := cells4 (Stay.at (RX.st hSw) 0 rfl); go_simp; (try with_reducible rfl)))
          simp only [Act.put, List.setIfInBounds_toArray, List.set_cons_zero, List.set_cons_succ]
          refine wpAnyH_take (i := 1) (oi := ⟨some 27, _, _, _, _, _⟩) (v := ?_) rfl (by kernel_rfl) (by kernel_rfl) (by kernel_rfl) (fun _ _ _ h => h) (Or.inl ⟨by kernel_rfl, ?_⟩) (by assumption) ?_; rotate_left; (focus (intro w hSw; (try dsimp only at hSw); obtain ⟨a0, a1, a2, a3, a4, a5, a6, a7, a8⟩ := cells9 (Stay.at (RX.st hSw) 1 rfl); obtain ⟨e0, e1, e2, e3⟩ := cells4 (Stay.at (RX.st hSw) 0 rfl); go_simp; (try with_reducible rfl)))
          simp only [Act.put, List.setIfInBounds_toArray, List.set_cons_zero, List.set_cons_succ]
          refine wpAnyH_take (i := 3) (oi := ⟨some 29, _, _, _, _, _⟩) (v := ?_) rfl (by kernel_rfl) (by kernel_rfl) (by kernel_rfl) (fun _ _ _ h => h) (Or.inl ⟨by kernel_rfl, ?_⟩) (by assumption) ?_; rotate_left; (focus (intro w hSw; (try dsimp only at hSw); go_simp; (try with_reducible rfl)))
          simp only [Act.put, List.setIfInBounds_toArray, List.set_cons_zero, List.set_cons_succ]
          refine wpAnyH_take (i := 4) (oi := ⟨some 30, _, _, _, _, _⟩) (v := ?_) rfl (by kernel_rfl) (by kernel_rfl) (by kernel_rfl) (fun _ _ _ h => h) (Or.inl ⟨by kernel_rfl, ?_⟩) (by assumption) ?_; rotate_left; (focus (intro w hSw; (try dsimp only at hSw); obtain ⟨a0, a1, a2, a3, a4, a5, a6, a7, a8⟩ := cells9 (Stay.at (RX.st hSw) 1 rfl); obtain ⟨e0, e1, e2, e3⟩ := cells4 (Stay.at (RX.st hSw) 0 rfl); go_simp; (try with_reducible rfl)))
          simp only [Act.put, List.setIfInBounds_toArray, List.set_cons_zero, List.set_cons_succ]
          refine wpAnyH_take (i := 5) (oi := ⟨some 31, _, _, _, _, _⟩) (v := ?_) rfl (by kernel_rfl) (by kernel_rfl) (by kernel_rfl) (fun _ _ _ h => h) (Or.inl ⟨by kernel_rfl, ?_⟩) (by assumption) ?_; rotate_left; (focus (intro w hSw; (try dsimp only at hSw); go_simp; (try with_reducible rfl)))
          simp only [Act.put, List.setIfInBounds_toArray, List.set_cons_zero, List.set_cons_succ]
          refine wpAnyH_ready (rs := [2]) (by kernel_rfl) (by simp) ?_
          refine AllReadyH.cons (o := ⟨some 28, _, _, _, _, _⟩) rfl (fun K hK => ?_) AllReadyH.nil
          rw [if_pos (by kernel_rfl)]
          go_simp
          refine (KF.out _).mono ?_
          rintro r w9 ⟨rfl, b9⟩
          have hS9 := RX.next hHeld b9
          clear b9
          go_simp
          refine hK.out _ _ (by assumption) (fun hHeld => ?_)
          clear hK K
          refine wpAnyH_ready (rs := [6]) (by kernel_rfl) (by simp) ?_
          refine AllReadyH.cons (o := ⟨some 32, _, _, _, _, _⟩) rfl (fun K hK => ?_) AllReadyH.nil
          rw [if_pos (by kernel_rfl)]
          go_simp
          refine (KH.out _).mono ?_
          rintro r w9 ⟨rfl, hw⟩
          obtain rfl := hw.symm
          go_simp
          refine hK.out _ _ (by assumption) (fun hHeld => ?_)
          clear hK K
          refine wpAnyH_take (i := 7) (oi := ⟨some 10, _, _, _, _, _⟩) (v := ?_) rfl (by kernel_rfl) (by kernel_rfl) (by kernel_rfl) (fun _ _ _ h => h) (Or.inl ⟨by kernel_rfl, ?_⟩) (by assumption) ?_; rotate_left; (focus (intro w hSw; (try dsimp only at hSw); go_simp; (try with_reducible rfl)))
          simp only [Act.put, List.setIfInBounds_toArray, List.set_cons_zero, List.set_cons_succ]
          refine wpAnyH_take (i := 8) (oi := ⟨some 11, _, _, _, _, _⟩) (v := ?_) rfl (by kernel_rfl) (by kernel_rfl) (by kernel_rfl) (fun _ _ _ h => h) (Or.inl ⟨by kernel_rfl, ?_⟩) (by assumption) ?_; rotate_left; (focus (intro w hSw; (try dsimp only at hSw); go_simp; (try with_reducible rfl)))
          simp only [Act.put, List.setIfInBounds_toArray, List.set_cons_zero, List.set_cons_succ]
          refine wpAnyH_done (by kernel_rfl) ?_ _
          exact NoPanic.normal ⟨rfl, rfl, by assumption⟩
        case hm =>
        intro w4 h4
        have X3 := Lib.hid h4
        clear h4 X2 a0 a1 a2 a3 a4 a5 a6 a7 a8 e0 e1 e2 e3
        obtain ⟨a0, a1, a2, a3, a4, a5, a6, a7, a8⟩ := cells9 (X3.out.st.at 1 rfl)
        obtain ⟨e0, e1, e2, e3⟩ := cells4 (X3.out.st.at 0 rfl)
        cases hh : CrewW.has e.b h with
        | true =>
          have q2 := Lib.hid (show onW h true e = true from hh)
          clear hh
          go_wp2_with (first
            | (go_at_call 21; refine (KT.out _).mono ?_; rintro r w9 ⟨rfl, hw⟩; obtain rfl := hw.symm)
            | (at_builtin; refine wpList_append_sr _ rfl _ _ rfl (w.heap.size + 1) _ T rfl (X3.out.sr.alloc _) (str c true e) _ rfl (heap_at rfl _) ?c1 ?c2 ?_))
          case c1 => rw [HTN.out]; have := HLL.out; omega
          case c2 => exact Nat.le_trans X3.out.sz (by show _ ≤ (World.alloc _ _).heap.size; rw [World.size_alloc]; exact Nat.le_succ _)
          intro v2 w3 o3 g3
          have O3 := Lib.hid (show SR w3 (w.heap.size + 1) v2 (rs c h true (c.entries.take (k + 1))) by rw [RT.out, if_pos q2.out]; exact o3)
          have S3 := Lib.hid (RX.grown (X3.out.next (al (Below.refl _ _) _)) g3)
          clear o3 g3
          go_wp2
          go_roundw
          case rel => exact ⟨k + 1, by omega, by go_num, O3, S3⟩
          case measure => simp [intOf]; omega
        | false =>
          have q2 := Lib.hid (show ¬ onW h true e = true by show ¬ CrewW.has e.b h = true; rw [hh]; decide)
          clear hh
          have O3 := Lib.hid (show SR _ (w.heap.size + 1) (.slice A n cp) (rs c h true (c.entries.take (k + 1))) by rw [RT.out, if_neg q2.out]; exact X3.out.sr)
          have S3 := Lib.hid X3.out.st.drop
          go_wp2
          go_roundw
          case rel => exact ⟨k + 1, by omega, by go_num, O3, S3⟩
          case measure => simp [intOf]; omega
    · obtain rfl : k = ne := by omega
      have HR2 := Lib.hid (show SR wr (w.heap.size + 1) u7 (rs c h down c.entries) by have := HR.out; rwa [HM.out.nE, List.take_length] at this)
      go_wp2
      go_ret
      exact ⟨_, rfl, HR2.out, HS.out.b⟩
end Go.Proofs.Ytdaoemjkefpmcaa.PlanW
