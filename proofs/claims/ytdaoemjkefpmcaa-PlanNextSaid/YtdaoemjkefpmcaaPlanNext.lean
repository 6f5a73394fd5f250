/- The law PlanNext: an entry is sent just once in each cycle, at its phase: for every configuration, entry and local time. No condition. -/
import Derived.Test.YtdaoemjkefpmcaaPlanFixed
import Derived.Test.YtdaoemjkefpmcaaPlanF
namespace Go.Proofs.Ytdaoemjkefpmcaa.PlanW.PlanNext
open Go.ChangeShapes Go.WideShapes Go.ChangeAt Go.RowKit PlanW Shell
open ConfW (Cfg R4 CM chk open_cfg  refCheck_any)
/-- What is known of the time at which an entry is sent. -/
structure Sn (c : Cfg) (f t a : Int) : Prop where
  lo : t ≤ a
  hi : a < t + c.cycle
  m : a % c.cycle = f
  m2 : Int.tmod a c.cycle = f
  s : snd c.cycle f a = a
  n : snd c.cycle f (a + 1) = a + c.cycle
theorem sn_of {c : Cfg} {f t : Int} (hC : 0 < c.cycle) (ht : 0 ≤ t) (hf : 0 ≤ f ∧ f < c.cycle) : Sn c f t (snd c.cycle f t) := by
  have h1 := snd_in (t := t) hC hf
  have h2 := snd_mod (C := c.cycle) (t := t) hf
  exact ⟨h1.1, h1.2, h2, by rw [Int.tmod_eq_emod_of_nonneg (by omega)]; exact h2, snd_same hC hf, snd_next hC hf⟩
set_option maxHeartbeats 8000000 in
set_option maxRecDepth 100000 in
theorem walk (c : Cfg) (D E L : Option Addr) (nd cd ne ce nl cl : Nat) (k t : Int) (w : World) (m : CM w c D E L nd cd ne ce nl cl) : Calls Try.prog 7 #[.agg #[.int .i64 c.hosts, .int .i64 c.cycle, .int .i64 c.delay, .int .i64 c.window, .int .i64 c.precision, .slice D nd cd, .slice E ne ce, .slice L nl cl, .int .i64 c.queue], .int .i64 k, .int .i64 t] w fun r w' => r = .returned (.bool true) ∧ Below w.heap.size w w' := by
  have HM := Lib.hid m
  cases hg : got c k t with
  | false =>
    have S0 := Lib.hid ((Stay.start w).alloc (Obj.cells #[.int .i64 c.hosts, .int .i64 c.cycle, .int .i64 c.delay, .int .i64 c.window, .int .i64 c.precision, .slice D nd cd, .slice E ne ce, .slice L nl cl, .int .i64 c.queue] 26))
    have HS := Lib.hid (fun W (h : CM W c D E L nd cd ne ce nl cl) => by have := send_any c D E L nd cd ne ce nl cl k t W h; rw [send_no hg] at this; exact this)
    clear hg m
    go_enter Try.func7, Try.ntmps7
    go_wp2_with fail
    refine (fixed_any _).mono ?_
    rintro r w1 ⟨rfl, b1⟩
    have S1 := Lib.hid (S0.out.next b1)
    clear b1 S0
    obtain ⟨a0, a1, a2, a3, a4, a5, a6, a7, a8⟩ := cells9 (S1.out.at 0 rfl)
    go_wp2_with fail
    refine (HS.out _ (HM.out.below S1.out.b)).mono ?_
    rintro r w2 ⟨rfl, b⟩
    have S2 := Lib.hid (S1.out.next b)
    clear b a0 a1 a2 a3 a4 a5 a6 a7 a8
    go_wp2
    go_ret
    exact ⟨rfl, S2.out.b⟩
  | true =>
    obtain ⟨n, e, rfl, he, g, ok, hea⟩ := got_ent hg
    obtain ⟨b, off, rfl, -⟩ := HM.out.he n e he
    have S0 := Lib.hid ((Stay.start w).alloc (Obj.cells #[.int .i64 c.hosts, .int .i64 c.cycle, .int .i64 c.delay, .int .i64 c.window, .int .i64 c.precision, .slice D nd cd, .slice (some ⟨b, off, none⟩) ne ce, .slice L nl cl, .int .i64 c.queue] 26))
    have ME := Lib.hid (fun W (hW : CM W c D (some ⟨b, off, none⟩) L nd cd ne ce nl cl) => hW.he n e he)
    obtain ⟨⟨t0, t1⟩, hz⟩ := god_iff.1 g
    have sp := (chk_span hz).1
    have hC : 0 < c.cycle := by omega
    have l4 := chk_span hz
    have hf : 0 ≤ e.c ∧ e.c < c.cycle := by have := ok.lo; have := ok.hi; have := ok.tp; omega
    have sn := sn_of (c := c) (f := e.c) hC t0 hf
    have HS := Lib.hid (fun W (h : CM W c D (some ⟨b, off, none⟩) L nd cd ne ce nl cl) => by have := send_any c D (some ⟨b, off, none⟩) L nd cd ne ce nl cl n t W h; rw [send_yes hg hea] at this; exact this)
    have KC := Lib.hid (fun W (h : CM W c D (some ⟨b, off, none⟩) L nd cd ne ce nl cl) => by have := refCheck_any c D (some ⟨b, off, none⟩) L nd cd ne ce nl cl W h; rw [hz] at this; exact this)
    generalize snd c.cycle e.c t = a at *
    have HS2 := Lib.hid (fun (h0 : a < 1125899906842624) W (h : CM W c D (some ⟨b, off, none⟩) L nd cd ne ce nl cl) => by
      have := send_any c D (some ⟨b, off, none⟩) L nd cd ne ce nl cl n a W h
      rw [send_yes (got_iff.2 ⟨god_iff.2 ⟨by have := sn.lo; omega, hz⟩, (got_iff.1 hg).2⟩) hea, sn.s] at this
      exact this)
    have HS3 := Lib.hid (fun (h0 : a < 1125899906842624) W (h : CM W c D (some ⟨b, off, none⟩) L nd cd ne ce nl cl) => by
      have := send_any c D (some ⟨b, off, none⟩) L nd cd ne ce nl cl n (a + 1) W h
      rw [send_yes (got_iff.2 ⟨god_iff.2 ⟨by have := sn.lo; omega, hz⟩, (got_iff.1 hg).2⟩) hea, sn.n] at this
      exact this)
    obtain ⟨T2, hT2⟩ : ∃ T2, t + c.cycle = T2 := ⟨_, rfl⟩
    obtain ⟨A2, hA2⟩ : ∃ A2, a + c.cycle = A2 := ⟨_, rfl⟩
    obtain ⟨A1, hA1⟩ : ∃ A1, a + 1 = A1 := ⟨_, rfl⟩
    have b1 := sn.lo
    have b2 := sn.hi
    have tm := sn.m2
    have y1 : IntKind.i64.wrap (t + c.cycle) = T2 := by rw [IntKind.wrap_i64]; omega
    have x1 : wrap64 (t + c.cycle) = T2 := by unfold wrap64; omega
    obtain ⟨y2, x2⟩ := wr_id (z := e.c) (by omega)
    have y3 : IntKind.i64.wrap (a + c.cycle) = A2 := by rw [IntKind.wrap_i64]; omega
    have x3 : wrap64 (a + c.cycle) = A2 := by unfold wrap64; omega
    have y4 : IntKind.i64.wrap (a + 1) = A1 := by rw [IntKind.wrap_i64]; omega
    have x4 : wrap64 (a + 1) = A1 := by unfold wrap64; omega
    rw [hA1] at HS3
    rw [hA2] at HS3
    have nz : ¬ c.cycle = 0 := by omega
    have h1 : (n : Int) < (ne : Int) := by
      have := (got_iff.1 hg).2.2
      rw [m.nE]; exact this
    have HN := Lib.hid m.mE
    have Q1 := Lib.hid (show t ≤ a by omega)
    have Q2 := Lib.hid (show a < T2 by omega)
    clear hg m t0 t1 hz sp hC l4 hf he g ok hea sn hT2 hA2 hA1 b1 b2
    go_enter Try.func7, Try.ntmps7
    go_wp2_with fail
    refine (fixed_any _).mono ?_
    rintro r w1 ⟨rfl, b1⟩
    have S1 := Lib.hid (S0.out.next b1)
    clear b1 S0
    obtain ⟨a0, a1, a2, a3, a4, a5, a6, a7, a8⟩ := cells9 (S1.out.at 0 rfl)
    go_wp2_with fail
    refine (HS.out _ (HM.out.below S1.out.b)).mono ?_
    rintro r w2 ⟨rfl, b2⟩
    have S2 := Lib.hid (S1.out.next b2)
    clear b2 a0 a1 a2 a3 a4 a5 a6 a7 a8
    go_wp2_with fail
    have d1 : decide (a < t) = false := decide_eq_false (by have := Q1.out; omega)
    have d2 : decide (T2 ≤ a) = false := decide_eq_false (by have := Q2.out; omega)
    refine wp_region_held_drew (S := fun W : World => Stay w [(w.heap.size, Obj.cells #[.int .i64 c.hosts, .int .i64 c.cycle, .int .i64 c.delay, .int .i64 c.window, .int .i64 c.precision, .slice D nd cd, .slice (some ⟨b, off, none⟩) ne ce, .slice L nl cl, .int .i64 c.queue] 26)] W) (by kernel_rfl) (S2.out.drew) (fun hHeld => ?_)
    refine wpAnyH_take (i := 0) (oi := ⟨some 26, _, _, _, _, _⟩) (v := ?_) rfl (by kernel_rfl) (by kernel_rfl) (by kernel_rfl) (fun _ _ _ h => h) (Or.inl ⟨by kernel_rfl, ?_⟩) (by assumption) ?_; rotate_left; (focus (intro w hSw; (try dsimp only at hSw); go_simp; (try with_reducible rfl)))
    simp only [Act.put, List.setIfInBounds_toArray, List.set_cons_zero, List.set_cons_succ]
    refine wpAnyH_take (i := 1) (oi := ⟨some 27, _, _, _, _, _⟩) (v := ?_) rfl (by kernel_rfl) (by kernel_rfl) (by kernel_rfl) (fun _ _ _ h => h) (Or.inl ⟨by kernel_rfl, ?_⟩) (by assumption) ?_; rotate_left; (focus (intro w hSw; (try dsimp only at hSw); go_simp; (try with_reducible rfl)))
    simp only [Act.put, List.setIfInBounds_toArray, List.set_cons_zero, List.set_cons_succ]
    refine wpAnyH_take (i := 2) (oi := ⟨some 28, _, _, _, _, _⟩) (v := ?_) rfl (by kernel_rfl) (by kernel_rfl) (by kernel_rfl) (fun _ _ _ h => h) (Or.inl ⟨by kernel_rfl, ?_⟩) (by assumption) ?_; rotate_left; (focus (intro w hSw; (try dsimp only at hSw); go_simp; (try with_reducible rfl)))
    simp only [Act.put, List.setIfInBounds_toArray, List.set_cons_zero, List.set_cons_succ]
    refine wpAnyH_take (i := 3) (oi := ⟨some 29, _, _, _, _, _⟩) (v := ?_) rfl (by kernel_rfl) (by kernel_rfl) (by kernel_rfl) (fun _ _ _ h => h) (Or.inl ⟨by kernel_rfl, ?_⟩) (by assumption) ?_; rotate_left; (focus (intro w hSw; (try dsimp only at hSw); go_simp; (try with_reducible rfl)))
    simp only [Act.put, List.setIfInBounds_toArray, List.set_cons_zero, List.set_cons_succ]
    refine wpAnyH_take (i := 4) (oi := ⟨some 30, _, _, _, _, _⟩) (v := ?_) rfl (by kernel_rfl) (by kernel_rfl) (by kernel_rfl) (fun _ _ _ h => h) (Or.inl ⟨by kernel_rfl, ?_⟩) (by assumption) ?_; rotate_left; (focus (intro w hSw; (try dsimp only at hSw); go_simp; (try with_reducible rfl)))
    simp only [Act.put, List.setIfInBounds_toArray, List.set_cons_zero, List.set_cons_succ]
    refine wpAnyH_take (i := 5) (oi := ⟨some 31, _, _, _, _, _⟩) (v := ?_) rfl (by kernel_rfl) (by kernel_rfl) (by kernel_rfl) (fun _ _ _ h => h) (Or.inl ⟨by kernel_rfl, ?_⟩) (by assumption) ?_; rotate_left; (focus (intro w hSw; (try dsimp only at hSw); go_simp; (try with_reducible rfl)))
    simp only [Act.put, List.setIfInBounds_toArray, List.set_cons_zero, List.set_cons_succ]
    refine wpAnyH_take (i := 6) (oi := ⟨some 32, _, _, _, _, _⟩) (v := ?_) rfl (by kernel_rfl) (by kernel_rfl) (by kernel_rfl) (fun _ _ _ h => h) (Or.inl ⟨by kernel_rfl, ?_⟩) (by assumption) ?_; rotate_left; (focus (intro w hSw; (try dsimp only at hSw); go_simp; (try with_reducible rfl)))
    simp only [Act.put, List.setIfInBounds_toArray, List.set_cons_zero, List.set_cons_succ]
    refine wpAnyH_take (i := 7) (oi := ⟨some 33, _, _, _, _, _⟩) (v := ?_) rfl (by kernel_rfl) (by kernel_rfl) (by kernel_rfl) (fun _ _ _ h => h) (Or.inl ⟨by kernel_rfl, ?_⟩) (by assumption) ?_; rotate_left; (focus (intro w hSw; (try dsimp only at hSw); obtain ⟨a0, a1, a2, a3, a4, a5, a6, a7, a8⟩ := cells9 (Stay.at hSw 0 rfl); obtain ⟨b', off', hb', ⟨x0, x1, x2, x3⟩, -⟩ := ME.out _ (HM.out.below (Stay.b hSw)); cases hb'; go_simp; (try with_reducible rfl)))
    simp only [Act.put, List.setIfInBounds_toArray, List.set_cons_zero, List.set_cons_succ]
    refine wpAnyH_take (i := 8) (oi := ⟨some 34, _, _, _, _, _⟩) (v := ?_) rfl (by kernel_rfl) (by kernel_rfl) (by kernel_rfl) (fun _ _ _ h => h) (Or.inl ⟨by kernel_rfl, ?_⟩) (by assumption) ?_; rotate_left; (focus (intro w hSw; (try dsimp only at hSw); go_simp; (try with_reducible rfl)))
    simp only [Act.put, List.setIfInBounds_toArray, List.set_cons_zero, List.set_cons_succ]
    refine wpAnyH_take (i := 9) (oi := ⟨some 35, _, _, _, _, _⟩) (v := ?_) rfl (by kernel_rfl) (by kernel_rfl) (by kernel_rfl) (fun _ _ _ h => h) (Or.inl ⟨by kernel_rfl, ?_⟩) (by assumption) ?_; rotate_left; (focus (intro w hSw; (try dsimp only at hSw); go_simp; (try with_reducible rfl)))
    simp only [Act.put, List.setIfInBounds_toArray, List.set_cons_zero, List.set_cons_succ]
    refine wpAnyH_take (i := 10) (oi := ⟨some 36, _, _, _, _, _⟩) (v := ?_) rfl (by kernel_rfl) (by kernel_rfl) (by kernel_rfl) (fun _ _ _ h => h) (Or.inl ⟨by kernel_rfl, ?_⟩) (by assumption) ?_; rotate_left; (focus (intro w hSw; (try dsimp only at hSw); go_simp; (try with_reducible rfl)))
    simp only [Act.put, List.setIfInBounds_toArray, List.set_cons_zero, List.set_cons_succ]
    refine wpAnyH_take (i := 11) (oi := ⟨some 37, _, _, _, _, _⟩) (v := ?_) rfl (by kernel_rfl) (by kernel_rfl) (by kernel_rfl) (fun _ _ _ h => h) (Or.inl ⟨by kernel_rfl, ?_⟩) (by assumption) ?_; rotate_left; (focus (intro w hSw; (try dsimp only at hSw); go_simp; (try with_reducible rfl)))
    simp only [Act.put, List.setIfInBounds_toArray, List.set_cons_zero, List.set_cons_succ]
    refine wpAnyH_take (i := 12) (oi := ⟨some 38, _, _, _, _, _⟩) (v := ?_) rfl (by kernel_rfl) (by kernel_rfl) (by kernel_rfl) (fun _ _ _ h => h) (Or.inl ⟨by kernel_rfl, ?_⟩) (by assumption) ?_; rotate_left; (focus (intro w hSw; (try dsimp only at hSw); go_simp; (try with_reducible rfl)))
    simp only [Act.put, List.setIfInBounds_toArray, List.set_cons_zero, List.set_cons_succ]
    refine wpAnyH_take (i := 13) (oi := ⟨some 39, _, _, _, _, _⟩) (v := ?_) rfl (by kernel_rfl) (by kernel_rfl) (by kernel_rfl) (fun _ _ _ h => h) (Or.inl ⟨by kernel_rfl, ?_⟩) (by assumption) ?_; rotate_left; (focus (intro w hSw; (try dsimp only at hSw); go_simp; (try with_reducible rfl)))
    simp only [Act.put, List.setIfInBounds_toArray, List.set_cons_zero, List.set_cons_succ]
    refine wpAnyH_take (i := 14) (oi := ⟨some 40, _, _, _, _, _⟩) (v := ?_) rfl (by kernel_rfl) (by kernel_rfl) (by kernel_rfl) (fun _ _ _ h => h) (Or.inl ⟨by kernel_rfl, ?_⟩) (by assumption) ?_; rotate_left; (focus (intro w hSw; (try dsimp only at hSw); obtain ⟨a0, a1, a2, a3, a4, a5, a6, a7, a8⟩ := cells9 (Stay.at hSw 0 rfl); obtain ⟨b', off', hb', ⟨x0, x1, x2, x3⟩, -⟩ := ME.out _ (HM.out.below (Stay.b hSw)); cases hb'; go_simp; (try with_reducible rfl)))
    simp only [Act.put, List.setIfInBounds_toArray, List.set_cons_zero, List.set_cons_succ]
    refine wpAnyH_take (i := 15) (oi := ⟨some 41, _, _, _, _, _⟩) (v := ?_) rfl (by kernel_rfl) (by kernel_rfl) (by kernel_rfl) (fun _ _ _ h => h) (Or.inl ⟨by kernel_rfl, ?_⟩) (by assumption) ?_; rotate_left; (focus (intro w hSw; (try dsimp only at hSw); go_simp; (try with_reducible rfl)))
    simp only [Act.put, List.setIfInBounds_toArray, List.set_cons_zero, List.set_cons_succ]
    refine wpAnyH_take (i := 16) (oi := ⟨some 42, _, _, _, _, _⟩) (v := ?_) rfl (by kernel_rfl) (by kernel_rfl) (by kernel_rfl) (fun _ _ _ h => h) (Or.inl ⟨by kernel_rfl, ?_⟩) (by assumption) ?_; rotate_left; (focus (intro w hSw; (try dsimp only at hSw); go_simp; (try with_reducible rfl)))
    simp only [Act.put, List.setIfInBounds_toArray, List.set_cons_zero, List.set_cons_succ]
    refine wpAnyH_take (i := 17) (oi := ⟨some 43, _, _, _, _, _⟩) (v := ?_) rfl (by kernel_rfl) (by kernel_rfl) (by kernel_rfl) (fun _ _ _ h => h) (Or.inl ⟨by kernel_rfl, ?_⟩) (by assumption) ?_; rotate_left; (focus (intro w hSw; (try dsimp only at hSw); obtain ⟨a0, a1, a2, a3, a4, a5, a6, a7, a8⟩ := cells9 (Stay.at hSw 0 rfl); obtain ⟨b', off', hb', ⟨x0, x1, x2, x3⟩, -⟩ := ME.out _ (HM.out.below (Stay.b hSw)); cases hb'; go_simp; (try with_reducible rfl)))
    simp only [Act.put, List.setIfInBounds_toArray, List.set_cons_zero, List.set_cons_succ]
    refine wpAnyH_take (i := 18) (oi := ⟨some 44, _, _, _, _, _⟩) (v := ?_) rfl (by kernel_rfl) (by kernel_rfl) (by kernel_rfl) (fun _ _ _ h => h) (Or.inl ⟨by kernel_rfl, ?_⟩) (by assumption) ?_; rotate_left; (focus (intro w hSw; (try dsimp only at hSw); go_simp; (try with_reducible rfl)))
    simp only [Act.put, List.setIfInBounds_toArray, List.set_cons_zero, List.set_cons_succ]
    refine wpAnyH_take (i := 19) (oi := ⟨some 45, _, _, _, _, _⟩) (v := ?_) rfl (by kernel_rfl) (by kernel_rfl) (by kernel_rfl) (fun _ _ _ h => h) (Or.inl ⟨by kernel_rfl, ?_⟩) (by assumption) ?_; rotate_left; (focus (intro w hSw; (try dsimp only at hSw); go_simp; (try with_reducible rfl)))
    simp only [Act.put, List.setIfInBounds_toArray, List.set_cons_zero, List.set_cons_succ]
    refine wpAnyH_take (i := 20) (oi := ⟨some 46, _, _, _, _, _⟩) (v := ?_) rfl (by kernel_rfl) (by kernel_rfl) (by kernel_rfl) (fun _ _ _ h => h) (Or.inl ⟨by kernel_rfl, ?_⟩) (by assumption) ?_; rotate_left; (focus (intro w hSw; (try dsimp only at hSw); go_simp; (try with_reducible rfl)))
    simp only [Act.put, List.setIfInBounds_toArray, List.set_cons_zero, List.set_cons_succ]
    refine wpAnyH_take (i := 21) (oi := ⟨some 47, _, _, _, _, _⟩) (v := ?_) rfl (by kernel_rfl) (by kernel_rfl) (by kernel_rfl) (fun _ _ _ h => h) (Or.inl ⟨by kernel_rfl, ?_⟩) (by assumption) ?_; rotate_left; (focus (intro w hSw; (try dsimp only at hSw); obtain ⟨a0, a1, a2, a3, a4, a5, a6, a7, a8⟩ := cells9 (Stay.at hSw 0 rfl); obtain ⟨b', off', hb', ⟨x0, x1, x2, x3⟩, -⟩ := ME.out _ (HM.out.below (Stay.b hSw)); cases hb'; go_simp; (try with_reducible rfl)))
    simp only [Act.put, List.setIfInBounds_toArray, List.set_cons_zero, List.set_cons_succ]
    refine wpAnyH_take (i := 22) (oi := ⟨some 48, _, _, _, _, _⟩) (v := ?_) rfl (by kernel_rfl) (by kernel_rfl) (by kernel_rfl) (fun _ _ _ h => h) (Or.inl ⟨by kernel_rfl, ?_⟩) (by assumption) ?_; rotate_left; (focus (intro w hSw; (try dsimp only at hSw); go_simp; (try with_reducible rfl)))
    simp only [Act.put, List.setIfInBounds_toArray, List.set_cons_zero, List.set_cons_succ]
    refine wpAnyH_take (i := 23) (oi := ⟨some 49, _, _, _, _, _⟩) (v := ?_) rfl (by kernel_rfl) (by kernel_rfl) (by kernel_rfl) (fun _ _ _ h => h) (Or.inl ⟨by kernel_rfl, ?_⟩) (by assumption) ?_; rotate_left; (focus (intro w hSw; (try dsimp only at hSw); go_simp; (try with_reducible rfl)))
    simp only [Act.put, List.setIfInBounds_toArray, List.set_cons_zero, List.set_cons_succ]
    refine wpAnyH_take (i := 24) (oi := ⟨some 50, _, _, _, _, _⟩) (v := ?_) rfl (by kernel_rfl) (by kernel_rfl) (by kernel_rfl) (fun _ _ _ h => h) (Or.inl ⟨by kernel_rfl, ?_⟩) (by assumption) ?_; rotate_left; (focus (intro w hSw; (try dsimp only at hSw); go_simp; (try with_reducible rfl)))
    simp only [Act.put, List.setIfInBounds_toArray, List.set_cons_zero, List.set_cons_succ]
    refine wpAnyH_take (i := 25) (oi := ⟨some 51, _, _, _, _, _⟩) (v := ?_) rfl (by kernel_rfl) (by kernel_rfl) (by kernel_rfl) (fun _ _ _ h => h) (Or.inl ⟨by kernel_rfl, ?_⟩) (by assumption) ?_; rotate_left; (focus (intro w hSw; (try dsimp only at hSw); obtain ⟨a0, a1, a2, a3, a4, a5, a6, a7, a8⟩ := cells9 (Stay.at hSw 0 rfl); obtain ⟨b', off', hb', ⟨x0, x1, x2, x3⟩, -⟩ := ME.out _ (HM.out.below (Stay.b hSw)); cases hb'; go_simp; (try with_reducible rfl)))
    simp only [Act.put, List.setIfInBounds_toArray, List.set_cons_zero, List.set_cons_succ]
    refine wpAnyH_ready (rs := [26]) (by kernel_rfl) (by simp) ?_
    refine AllReadyH.cons (o := ⟨some 52, _, _, _, _, _⟩) rfl (fun K hK => ?_) AllReadyH.nil
    rw [if_pos (by kernel_rfl)]
    go_simp
    refine (KC.out _ (HM.out.below (Stay.b hHeld))).mono ?_
    rintro r w9 ⟨rfl, b9⟩
    have hS9 := Stay.next hHeld b9
    clear b9
    go_simp
    refine hK.out _ _ (by assumption) (fun hHeld => ?_)
    clear hK K
    refine wpAnyH_take (i := 27) (oi := ⟨some 53, _, _, _, _, _⟩) (v := ?_) rfl (by kernel_rfl) (by kernel_rfl) (by kernel_rfl) (fun _ _ _ h => h) (Or.inl ⟨by kernel_rfl, ?_⟩) (by assumption) ?_; rotate_left; (focus (intro w hSw; (try dsimp only at hSw); go_simp; (try with_reducible rfl)))
    simp only [Act.put, List.setIfInBounds_toArray, List.set_cons_zero, List.set_cons_succ]
    refine wpAnyH_take (i := 28) (oi := ⟨some 54, _, _, _, _, _⟩) (v := ?_) rfl (by kernel_rfl) (by kernel_rfl) (by kernel_rfl) (fun _ _ _ h => h) (Or.inl ⟨by kernel_rfl, ?_⟩) (by assumption) ?_; rotate_left; (focus (intro w hSw; (try dsimp only at hSw); go_simp; (try with_reducible rfl)))
    simp only [Act.put, List.setIfInBounds_toArray, List.set_cons_zero, List.set_cons_succ]
    refine wpAnyH_done (by kernel_rfl) ?_ _
    
    have S3 := Lib.hid hHeld
    clear hHeld S2
    by_cases hmx : 1125899906842624 ≤ a
    · go_wp2
      go_ret
      exact ⟨rfl, S3.out.b⟩
    replace HS2 := Lib.hid (HS2.out (by omega))
    replace HS3 := Lib.hid (HS3.out (by omega))
    obtain ⟨a0, a1, a2, a3, a4, a5, a6, a7, a8⟩ := cells9 (S3.out.at 0 rfl)
    go_wp2_with fail
    refine (HS2.out _ (HM.out.below S3.out.b)).mono ?_
    rintro r w4 ⟨rfl, b4⟩
    have S4 := Lib.hid (S3.out.next b4)
    clear b4 a0 a1 a2 a3 a4 a5 a6 a7 a8
    obtain ⟨a0, a1, a2, a3, a4, a5, a6, a7, a8⟩ := cells9 (S4.out.at 0 rfl)
    go_wp2_with fail
    refine (HS3.out _ (HM.out.below S4.out.b)).mono ?_
    rintro r w5 ⟨rfl, b5⟩
    have S5 := Lib.hid (S4.out.next b5)
    clear b5 a0 a1 a2 a3 a4 a5 a6 a7 a8
    obtain ⟨a0, a1, a2, a3, a4, a5, a6, a7, a8⟩ := cells9 (S5.out.at 0 rfl)
    go_wp2
    go_ret
    exact ⟨by first | rfl | (simp; done), S5.out.b⟩
set_option maxRecDepth 100000 in
/-- What the walk gives, for every argument and every world. -/
theorem contract (H : Type) (enc : TypeId × Value → H) (W : World) (base : Nat) (args : Array Value) (ds gs : List (DataW H)) (before : List MemPlace)
    (hval : ∀ (j : Nat) t v, Try.f7.params[j]? = some t → args[j]? = some v → Value.okWide Try.prog W .any base t v)
    (hW : DataW.Whole enc Try.prog Try.f7.params.toList Rows.planNextSpec.vars false W args.toList ds gs before) : 
    Calls Try.prog 7 args W fun e W' => ∃ v, e = .returned v ∧ Rows.planNextSpec.post enc Try.prog Try.f7 false true false false W args v W' := by
  have hW' := hW
  obtain ⟨p, q, hA0, hV, rfl, hfz, hnd⟩ := hW
  have hA : DataW.TrodAll enc Try.prog W 0 (fun _ => true) true Try.f7.params.toList args.toList ds p := hA0
  rw [Try.params7] at hA hval
  obtain ⟨v0, vs0, d0, ds0, p0, q0, hargs, rfl, rfl, h0, r0⟩ := trodAll_cons hA
  obtain ⟨v1, vs1, d1, ds1, p1, q1, rfl, rfl, rfl, h1, r1⟩ := trodAll_cons r0
  obtain ⟨v2, vs2, d2, ds2, p2, q2, rfl, rfl, rfl, h2, r2⟩ := trodAll_cons r1
  obtain ⟨rfl, rfl, rfl⟩ := trodAll_nil r2
  obtain rfl : args = #[v0, v1, v2] := by cases args; simp_all
  obtain ⟨rfl, rfl⟩ := trodVars_none hV
  obtain ⟨c0, D0, E0, L0, nd0, cd0, ne0, ce0, nl0, cl0, rfl, m0, s0⟩ := open_cfg (hval 0 26 v0 rfl rfl) h0
  obtain ⟨k, rfl, rfl, rfl, w1⟩ := open_int Try.underlying3 (hval 1 3 v1 rfl rfl) h1
  obtain ⟨t, rfl, rfl, rfl, w2⟩ := open_int Try.underlying2 (hval 2 2 v2 rfl rfl) h2
  refine (walk c0 D0 E0 L0 nd0 cd0 ne0 ce0 nl0 cl0 k t W m0).mono fun e W' ⟨he, hb⟩ => ?_
  exact ⟨_, he, Shell.post_law ConfW.laidOut (by kernel_rfl) rfl Try.underlying4 rfl hW' rfl hb⟩
theorem reads (os : Os) {H : Type} (enc : TypeId × Value → H) : ∃ places, DataW.whole enc Try.prog ((World.holding Try.prog os ⟨#[], #[], []⟩).forCall (fun _ _ => 0) ⟨#[], #[.agg #[.int .i64 0, .int .i64 0, .int .i64 0, .int .i64 0, .int .i64 0, .slice none 0 0, .slice none 0 0, .slice none 0 0, .int .i64 0], .int .i64 0, .int .i64 0], []⟩).memory Try.f7.params.toList Rows.planNextSpec.vars false (#[Value.agg #[.int .i64 0, .int .i64 0, .int .i64 0, .int .i64 0, .int .i64 0, .slice none 0 0, .slice none 0 0, .slice none 0 0, .int .i64 0], Value.int .i64 0, Value.int .i64 0]).toList 8 = some ([.agg [.lit (.int .i64 0), .lit (.int .i64 0), .lit (.int .i64 0), .lit (.int .i64 0), .lit (.int .i64 0), .nil, .nil, .nil, .lit (.int .i64 0)], .lit (.int .i64 0), .lit (.int .i64 0)], [], places) :=
  ⟨[], by kernel_rfl⟩
set_option maxRecDepth 100000 in
theorem lifted (os : Os) (started : os.Started) (H : Type) (enc : TypeId × Value → H) (F : Stop.Interp) :
    ReturnsInHanded {} Try.checked os 7 .any ((OpenSpec.ofChange Rows.planNextSpec).preRow enc Try.prog Try.f7 Rows.planNextRow.domain false Rows.planNextRow.laid) (((OpenSpec.ofChange Rows.planNextSpec).at F).post enc Try.prog Try.f7 false true false false) := by
  obtain ⟨places, hx⟩ := reads os enc
  refine returnsInHanded_of_row (C := Try.checked) (s := OpenSpec.ofChange Rows.planNextSpec) ConfW.own started (by kernel_rfl) Try.func7
    (witness_row_atRef (enc := enc) (C := Try.checked) false (World.holding Try.prog os ⟨#[], #[], []⟩) #[.agg #[.int .i64 0, .int .i64 0, .int .i64 0, .int .i64 0, .int .i64 0, .slice none 0 0, .slice none 0 0, .slice none 0 0, .int .i64 0], .int .i64 0, .int .i64 0] rfl (by kernel_rfl) (by kernel_rfl) (by kernel_rfl)
      (OpenSpec.preRow_of_cond 8 hx (by kernel_rfl) (fun k hk => by cases hk) (by kernel_rfl) (ConfW.laid_met os _))) ?_
  intro W base args ds gs before hval hW _ _ _ hL _ _
  exact contract H enc W base args ds gs before hval hW
theorem said : Rows.PlanNextSaid :=
  OpenClaim.holds_of_cond 7 Try.f7 rfl rfl rfl rfl rfl rfl rfl ⟨rfl, rfl, rfl, rfl, rfl⟩ rfl rfl rfl rfl rfl (by kernel_rfl) Try.func7 (by kernel_rfl)
    (of_decide_eq_true (by kernel_rfl)) (by unfold Func.isWrapper; first | (rw [if_pos (by decide +kernel)]; kernel_rfl) | (rw [if_neg (by decide +kernel)]; exact ⟨rfl, rfl⟩))
    (fun os started H enc _ F => by rw [OpenClaim.pre_eq_preRow]; exact lifted os started H enc F)
end Go.Proofs.Ytdaoemjkefpmcaa.PlanW.PlanNext
