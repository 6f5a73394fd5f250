/- The document's own Step. -/
import Derived.Test.YtigehmlfdbejaaaDoorMachC
namespace Go.Proofs.YtigehmlfdbejaaaDoor.MachW
open Go.RowKit Shell
open CrewW (mem fst count_any first_any Tz mem_len only refOf_any of_one)
theorem results_ref2 {fn : Func} {p u : Tmp} (h : fn.results = #[.cell p 30, .tmp u]) (tmps : Array Value) (w : World) (g : Nat) (t : TypeId) (x1 x2 x3 x4 : Value) (fr : Nat × Nat)
    (hp : tmps.getD p undef = .pointer (some ⟨g, 0, none⟩)) (hg : w.heap[g]? = some (.cells #[x1, x2, x3, x4] t fr)) :
    (results fn tmps).run Tryd.prog w = .ok (.tuple #[.agg #[x1, x2, x3, x4], tmps.getD u undef]) w := by
  have hp' : tmps[p]?.getD undef = .pointer (some ⟨g, 0, none⟩) := by simpa using hp
  simp [results, h, hp', asAddr, run_loadVar_row w g t 30 #[x1, x2, x3, x4] fr _ hg Tryd.underlying30 rfl (by kernel_rfl)]
theorem ret_ref2 {fn : Func} {R : Ending → World → Prop} {p u : Tmp} (h : fn.results = #[.cell p 30, .tmp u]) {tmps : Array Value} {w : World} {g : Nat} {x1 x2 x3 x4 : Value} {t : TypeId} {fr : Nat × Nat}
    (hp : tmps.getD p undef = .pointer (some ⟨g, 0, none⟩)) (hg : w.heap[g]? = some (.cells #[x1, x2, x3, x4] t fr)) (hR : R (.returned (.tuple #[.agg #[x1, x2, x3, x4], tmps.getD u undef])) w) :
    bodyPost Tryd.prog fn R .ret { tmps := tmps, defers := [] } w :=
  bodyPost_ret (results_ref2 h tmps w g t x1 x2 x3 x4 fr hp hg) rfl hR
abbrev rb4 (s : Int) (c : Nat) (m x : Int) : Obj := .cells #[.int .i64 s, .int .u32 (c : Int), .int .i64 m, .int .i64 x] 30 (0, 0)
theorem ref_row (w : World) (G : Nat) (hG : w.heap.size = G) (h : Int) (h0 : 0 ≤ h) (h6 : h < 6) (t : TypeId) : Calls Tryd.prog 20 #[.slice (some ⟨G, 0, none⟩) 1 1] (w.alloc (.cells #[.int .i64 h] t)) fun e w' => e = .returned (.int .u32 (only h : Nat)) ∧ w' = w.alloc (.cells #[.int .i64 h] t) := by
  subst hG
  have := refOf_any (some ⟨w.heap.size, 0, none⟩) 1 1 [h] (w.alloc (.cells #[.int .i64 h] t)) (CrewW.one_cl w h (by omega) (by omega) t) rfl (by decide)
  rw [of_one] at this
  exact this
theorem boxesR (w : World) (s : Int) (c : Nat) (m x : Int) : Stay w [(w.heap.size + 1, rb4 0 0 0 0), (w.heap.size, rb4 s c m x)] ((w.alloc (rb4 s c m x)).alloc (rb4 0 0 0 0)) := by
  have h := ((Stay.start w).alloc (rb4 s c m x)).alloc (rb4 0 0 0 0)
  rw [World.size_alloc] at h
  exact h
set_option maxHeartbeats 4000000 in
theorem refStepNo_any (h s : Int) (c : Nat) (m x k : Int) (e : Nat) (w : World) (hm : may h ⟨s, c, m, x⟩ = false) : Calls Tryd.prog 10 #[.int .i64 h, mv4 s c m x, .int .i64 k, .int .u32 (e : Int)] w fun r w' => r = .returned (tv (⟨s, c, m, x⟩, 0)) ∧ Below w.heap.size w w' := by
  have X := Lib.hid (boxesR w s c m x)
  have HM := Lib.hid (fun W => refMay_any h ⟨s, c, m, x⟩ W)
  have hR : (e : Int) % 64 = ((e % 64 : Nat) : Int) := by omega
  rw [hm] at HM
  clear hm
  generalize e % 64 = r at *
  go_enter Tryd.func10, Tryd.ntmps10
  go_wp2_with (first
    | (go_at_call 19; (refine (HM.out _).mono ?_); rintro r w1 ⟨rfl, b1⟩; have X1 := Lib.hid (X.out.next b1); clear b1; obtain ⟨U10, U11, U12, U13⟩ := cells4 (X1.out.at 1 rfl); obtain ⟨T10, T11, T12, T13⟩ := cells4 (X1.out.at 0 rfl); obtain ⟨Z10, Z11, Z12, Z13⟩ := frozen4 (X1.out.at 0 rfl)))
  exact ret_ref2 rfl rfl (put4 (X1.out.at 0 rfl) _ _ _ _) ⟨rfl, below4 X1.out.b (by omega) _ _ _ _⟩
set_option maxHeartbeats 4000000 in
theorem refStepOff_any (h s : Int) (c : Nat) (m x k : Int) (e : Nat) (w : World) (hm : may h ⟨s, c, m, x⟩ = true) (hs : s = 1) : Calls Tryd.prog 10 #[.int .i64 h, mv4 s c m x, .int .i64 k, .int .u32 (e : Int)] w fun r w' => r = .returned (tv (offM ⟨s, c, m, x⟩ k)) ∧ Below w.heap.size w w' := by
  have X := Lib.hid (boxesR w s c m x)
  have HM := Lib.hid (fun W => refMay_any h ⟨s, c, m, x⟩ W)
  have hR : (e : Int) % 64 = ((e % 64 : Nat) : Int) := by omega
  rw [hm] at HM
  subst hs
  clear hm
  unfold offM
  generalize e % 64 = r at *
  by_cases k1 : k = 1
  · subst k1
    rw [if_pos rfl]
    go_enter Tryd.func10, Tryd.ntmps10
    go_wp2_with (first
      | (go_at_call 19; (refine (HM.out _).mono ?_); rintro r w1 ⟨rfl, b1⟩; have X1 := Lib.hid (X.out.next b1); clear b1; obtain ⟨U10, U11, U12, U13⟩ := cells4 (X1.out.at 1 rfl); obtain ⟨T10, T11, T12, T13⟩ := cells4 (X1.out.at 0 rfl); obtain ⟨Z10, Z11, Z12, Z13⟩ := frozen4 (X1.out.at 0 rfl)))
    exact ret_ref2 rfl rfl (put4 (X1.out.at 0 rfl) _ _ _ _) ⟨rfl, below4 X1.out.b (by omega) _ _ _ _⟩
  · rw [if_neg k1]
    have ek1 : (k == 1) = false := by rw [beq_eq_false_iff_ne]; exact k1
    clear k1
    go_enter Tryd.func10, Tryd.ntmps10
    go_wp2_with (first
      | (go_at_call 19; (refine (HM.out _).mono ?_); rintro r w1 ⟨rfl, b1⟩; have X1 := Lib.hid (X.out.next b1); clear b1; obtain ⟨U10, U11, U12, U13⟩ := cells4 (X1.out.at 1 rfl); obtain ⟨T10, T11, T12, T13⟩ := cells4 (X1.out.at 0 rfl); obtain ⟨Z10, Z11, Z12, Z13⟩ := frozen4 (X1.out.at 0 rfl)))
    exact ret_ref2 rfl rfl (put4 (X1.out.at 0 rfl) _ _ _ _) ⟨rfl, below4 X1.out.b (by omega) _ _ _ _⟩
set_option maxHeartbeats 4000000 in
theorem refStepFail_any (h s : Int) (c : Nat) (m x k : Int) (e : Nat) (w : World) (hm : may h ⟨s, c, m, x⟩ = true) (hs : s ≠ 1) (hk : k = 2) : Calls Tryd.prog 10 #[.int .i64 h, mv4 s c m x, .int .i64 k, .int .u32 (e : Int)] w fun r w' => r = .returned (tv (⟨1, 0, 0, 0⟩, 5)) ∧ Below w.heap.size w w' := by
  have X := Lib.hid (boxesR w s c m x)
  have HM := Lib.hid (fun W => refMay_any h ⟨s, c, m, x⟩ W)
  have hR : (e : Int) % 64 = ((e % 64 : Nat) : Int) := by omega
  rw [hm] at HM
  subst hk
  have es : (s == 1) = false := by rw [beq_eq_false_iff_ne]; exact hs
  have es2 : (s != 1) = true := by rw [bne_iff_ne]; exact hs
  clear hm
  generalize e % 64 = r at *
  go_enter Tryd.func10, Tryd.ntmps10
  go_wp2_with (first
    | (go_at_call 19; (refine (HM.out _).mono ?_); rintro r w1 ⟨rfl, b1⟩; have X1 := Lib.hid (X.out.next b1); clear b1; obtain ⟨U10, U11, U12, U13⟩ := cells4 (X1.out.at 1 rfl); obtain ⟨T10, T11, T12, T13⟩ := cells4 (X1.out.at 0 rfl); obtain ⟨Z10, Z11, Z12, Z13⟩ := frozen4 (X1.out.at 0 rfl)))
  exact ret_ref2 rfl rfl (put4 (X1.out.at 0 rfl) _ _ _ _) ⟨rfl, below4 X1.out.b (by omega) _ _ _ _⟩
set_option maxHeartbeats 4000000 in
theorem refStepListen_any (h s : Int) (c : Nat) (m x k : Int) (e : Nat) (w : World) (hm : may h ⟨s, c, m, x⟩ = true) (hs : s = 2) (hk : k ≠ 2) : Calls Tryd.prog 10 #[.int .i64 h, mv4 s c m x, .int .i64 k, .int .u32 (e : Int)] w fun r w' => r = .returned (tv (lisM h ⟨s, c, m, x⟩ k e)) ∧ Below w.heap.size w w' := by
  have X := Lib.hid (boxesR w s c m x)
  have HM := Lib.hid (fun W => refMay_any h ⟨s, c, m, x⟩ W)
  have hR : (e : Int) % 64 = ((e % 64 : Nat) : Int) := by omega
  obtain ⟨⟨h0, h6⟩, hor⟩ := may_iff.1 hm
  dsimp only at hor
  rw [hm] at HM
  subst hs
  have ek : (k == 2) = false := by rw [beq_eq_false_iff_ne]; exact hk
  have hr : IntKind.i64.wrap (1 + h) = 1 + h := by rw [IntKind.wrap_i64]; omega
  have hr2 : IntKind.i64.wrap (x + 1) = x + 1 := by rw [IntKind.wrap_i64]; omega
  have HF := Lib.hid (fun W G t hG => ref_row W G hG h h0 h6 t)
  clear hm h0 h6 hor hk
  unfold lisM
  dsimp only
  generalize only h = o at *
  generalize e % 64 = r at *
  by_cases k4 : k = 4
  · subst k4
    rw [if_pos rfl]
    by_cases hr0 : r = 0
    · rw [if_pos hr0]
      subst hr0
      
      go_enter Tryd.func10, Tryd.ntmps10
      go_wp2_with (first
        | (go_at_call 19; (refine (HM.out _).mono ?_); rintro r w1 ⟨rfl, b1⟩; have X1 := Lib.hid (X.out.next b1); clear b1; obtain ⟨U10, U11, U12, U13⟩ := cells4 (X1.out.at 1 rfl); obtain ⟨T10, T11, T12, T13⟩ := cells4 (X1.out.at 0 rfl); obtain ⟨Z10, Z11, Z12, Z13⟩ := frozen4 (X1.out.at 0 rfl)))
      exact ret_ref2 rfl rfl (put4 (X1.out.at 0 rfl) _ _ _ _) ⟨rfl, below4 X1.out.b (by omega) _ _ _ _⟩
    · rw [if_neg hr0]
      have hn1 : (0 : Int) < (r : Int) := by omega
      have hn : 0 < r := by omega
      clear hr0
      go_enter Tryd.func10, Tryd.ntmps10
      go_wp2_with (first
        | (go_at_call 19; (refine (HM.out _).mono ?_); rintro r w1 ⟨rfl, b1⟩; have X1 := Lib.hid (X.out.next b1); clear b1; obtain ⟨U10, U11, U12, U13⟩ := cells4 (X1.out.at 1 rfl); obtain ⟨T10, T11, T12, T13⟩ := cells4 (X1.out.at 0 rfl); obtain ⟨Z10, Z11, Z12, Z13⟩ := frozen4 (X1.out.at 0 rfl)))
      exact ret_ref2 rfl rfl (put4 (X1.out.at 0 rfl) _ _ _ _) ⟨rfl, below4 X1.out.b (by omega) _ _ _ _⟩
  · rw [if_neg k4]
    have ek4 : (k == 4) = false := by rw [beq_eq_false_iff_ne]; exact k4
    clear k4
    by_cases k3 : k = 3
    · subst k3
      rw [if_pos rfl]
      by_cases hx : x < 1 + h
      · rw [if_pos hx]
        go_enter Tryd.func10, Tryd.ntmps10
        go_wp2_with (first
          | (go_at_call 19; (refine (HM.out _).mono ?_); rintro r w1 ⟨rfl, b1⟩; have X1 := Lib.hid (X.out.next b1); clear b1; obtain ⟨U10, U11, U12, U13⟩ := cells4 (X1.out.at 1 rfl); obtain ⟨T10, T11, T12, T13⟩ := cells4 (X1.out.at 0 rfl); obtain ⟨Z10, Z11, Z12, Z13⟩ := frozen4 (X1.out.at 0 rfl)))
        exact ret_ref2 rfl rfl (put4 (X1.out.at 0 rfl) _ _ _ _) ⟨rfl, below4 X1.out.b (by omega) _ _ _ _⟩
      · rw [if_neg hx]
        have hx2 : decide (x < 1 + h) = false := decide_eq_false hx
        go_enter Tryd.func10, Tryd.ntmps10
        go_wp2_with (first
          | (go_at_call 19; (refine (HM.out _).mono ?_); rintro r w1 ⟨rfl, b1⟩; have X1 := Lib.hid (X.out.next b1); clear b1; obtain ⟨U10, U11, U12, U13⟩ := cells4 (X1.out.at 1 rfl); obtain ⟨T10, T11, T12, T13⟩ := cells4 (X1.out.at 0 rfl); obtain ⟨Z10, Z11, Z12, Z13⟩ := frozen4 (X1.out.at 0 rfl))
          | (go_at_call 20; (refine (HF.out _ _ _ rfl).mono ?_); rintro r w9 ⟨rfl, hw⟩; obtain rfl := hw.symm; have X2 := Lib.hid (Stay.next X1.out (al (Below.refl _ _) (Obj.cells #[.int .i64 h] 3))); obtain ⟨U20, U21, U22, U23⟩ := cells4 (X2.out.at 1 rfl); obtain ⟨T20, T21, T22, T23⟩ := cells4 (X2.out.at 0 rfl); obtain ⟨Z20, Z21, Z22, Z23⟩ := frozen4 (X2.out.at 0 rfl)))
        exact ret_ref2 rfl rfl (put4 (X2.out.at 0 rfl) _ _ _ _) ⟨rfl, below4 X2.out.b (by omega) _ _ _ _⟩
    · rw [if_neg k3]
      have ek3 : (k == 3) = false := by rw [beq_eq_false_iff_ne]; exact k3
      clear k3
      go_enter Tryd.func10, Tryd.ntmps10
      go_wp2_with (first
        | (go_at_call 19; (refine (HM.out _).mono ?_); rintro r w1 ⟨rfl, b1⟩; have X1 := Lib.hid (X.out.next b1); clear b1; obtain ⟨U10, U11, U12, U13⟩ := cells4 (X1.out.at 1 rfl); obtain ⟨T10, T11, T12, T13⟩ := cells4 (X1.out.at 0 rfl); obtain ⟨Z10, Z11, Z12, Z13⟩ := frozen4 (X1.out.at 0 rfl)))
      exact ret_ref2 rfl rfl (put4 (X1.out.at 0 rfl) _ _ _ _) ⟨rfl, below4 X1.out.b (by omega) _ _ _ _⟩
set_option maxHeartbeats 4000000 in
theorem refStepSynced_any (h s : Int) (c : Nat) (m x k : Int) (e : Nat) (w : World) (hm : may h ⟨s, c, m, x⟩ = true) (hs : s = 3) (hk : k ≠ 2) : Calls Tryd.prog 10 #[.int .i64 h, mv4 s c m x, .int .i64 k, .int .u32 (e : Int)] w fun r w' => r = .returned (tv (synM ⟨s, c, m, x⟩ k e)) ∧ Below w.heap.size w w' := by
  have X := Lib.hid (boxesR w s c m x)
  have HM := Lib.hid (fun W => refMay_any h ⟨s, c, m, x⟩ W)
  have hR : (e : Int) % 64 = ((e % 64 : Nat) : Int) := by omega
  have hor := (may_iff.1 hm).2
  dsimp only at hor
  rw [hm] at HM
  subst hs
  have ek : (k == 2) = false := by rw [beq_eq_false_iff_ne]; exact hk
  have HG := Lib.hid (fun W => refStronger_any (e % 64) c W (by have := Nat.mod_lt e (show 64 > 0 by decide); omega) (by omega))
  rw [str_mod] at HG
  clear hm hor hk
  unfold synM
  dsimp only
  generalize str e c = g at *
  generalize e % 64 = r at *
  by_cases k3 : k = 3
  · subst k3
    rw [if_pos rfl]
    by_cases hr0 : r = 0
    · rw [if_pos hr0]
      subst hr0
      by_cases hm : m = 0
      · subst hm
        rw [if_pos rfl]
        go_enter Tryd.func10, Tryd.ntmps10
        go_wp2_with (first
          | (go_at_call 19; (refine (HM.out _).mono ?_); rintro r w1 ⟨rfl, b1⟩; have X1 := Lib.hid (X.out.next b1); clear b1; obtain ⟨U10, U11, U12, U13⟩ := cells4 (X1.out.at 1 rfl); obtain ⟨T10, T11, T12, T13⟩ := cells4 (X1.out.at 0 rfl); obtain ⟨Z10, Z11, Z12, Z13⟩ := frozen4 (X1.out.at 0 rfl)))
        exact ret_ref2 rfl rfl (put4 (X1.out.at 0 rfl) _ _ _ _) ⟨rfl, below4 X1.out.b (by omega) _ _ _ _⟩
      · rw [if_neg hm]
        have ehm : (m == 0) = false := by rw [beq_eq_false_iff_ne]; exact hm
        clear hm
        go_enter Tryd.func10, Tryd.ntmps10
        go_wp2_with (first
          | (go_at_call 19; (refine (HM.out _).mono ?_); rintro r w1 ⟨rfl, b1⟩; have X1 := Lib.hid (X.out.next b1); clear b1; obtain ⟨U10, U11, U12, U13⟩ := cells4 (X1.out.at 1 rfl); obtain ⟨T10, T11, T12, T13⟩ := cells4 (X1.out.at 0 rfl); obtain ⟨Z10, Z11, Z12, Z13⟩ := frozen4 (X1.out.at 0 rfl)))
        exact ret_ref2 rfl rfl (put4 (X1.out.at 0 rfl) _ _ _ _) ⟨rfl, below4 X1.out.b (by omega) _ _ _ _⟩
    · rw [if_neg hr0]
      have hn1 : (0 : Int) < (r : Int) := by omega
      have hn : 0 < r := by omega
      clear hr0
      go_enter Tryd.func10, Tryd.ntmps10
      go_wp2_with (first
        | (go_at_call 19; (refine (HM.out _).mono ?_); rintro r w1 ⟨rfl, b1⟩; have X1 := Lib.hid (X.out.next b1); clear b1; obtain ⟨U10, U11, U12, U13⟩ := cells4 (X1.out.at 1 rfl); obtain ⟨T10, T11, T12, T13⟩ := cells4 (X1.out.at 0 rfl); obtain ⟨Z10, Z11, Z12, Z13⟩ := frozen4 (X1.out.at 0 rfl)))
      exact ret_ref2 rfl rfl (put4 (X1.out.at 0 rfl) _ _ _ _) ⟨rfl, below4 X1.out.b (by omega) _ _ _ _⟩
  · rw [if_neg k3]
    have ek3 : (k == 3) = false := by rw [beq_eq_false_iff_ne]; exact k3
    clear k3
    by_cases k4 : k = 4
    · subst k4
      rw [if_pos rfl]
      cases g
      · rw [if_neg (by decide)]
        go_enter Tryd.func10, Tryd.ntmps10
        go_wp2_with (first
          | (go_at_call 19; (refine (HM.out _).mono ?_); rintro r w1 ⟨rfl, b1⟩; have X1 := Lib.hid (X.out.next b1); clear b1; obtain ⟨U10, U11, U12, U13⟩ := cells4 (X1.out.at 1 rfl); obtain ⟨T10, T11, T12, T13⟩ := cells4 (X1.out.at 0 rfl); obtain ⟨Z10, Z11, Z12, Z13⟩ := frozen4 (X1.out.at 0 rfl))
          | (go_at_call 15; (refine (HG.out _).mono ?_); rintro r w2 ⟨rfl, b2⟩; have X2 := Lib.hid (X1.out.next b2); clear b2; obtain ⟨U20, U21, U22, U23⟩ := cells4 (X2.out.at 1 rfl); obtain ⟨T20, T21, T22, T23⟩ := cells4 (X2.out.at 0 rfl); obtain ⟨Z20, Z21, Z22, Z23⟩ := frozen4 (X2.out.at 0 rfl)))
        exact ret_ref2 rfl rfl (put4 (X2.out.at 0 rfl) _ _ _ _) ⟨rfl, below4 X2.out.b (by omega) _ _ _ _⟩
      · rw [if_pos rfl]
        go_enter Tryd.func10, Tryd.ntmps10
        go_wp2_with (first
          | (go_at_call 19; (refine (HM.out _).mono ?_); rintro r w1 ⟨rfl, b1⟩; have X1 := Lib.hid (X.out.next b1); clear b1; obtain ⟨U10, U11, U12, U13⟩ := cells4 (X1.out.at 1 rfl); obtain ⟨T10, T11, T12, T13⟩ := cells4 (X1.out.at 0 rfl); obtain ⟨Z10, Z11, Z12, Z13⟩ := frozen4 (X1.out.at 0 rfl))
          | (go_at_call 15; (refine (HG.out _).mono ?_); rintro r w2 ⟨rfl, b2⟩; have X2 := Lib.hid (X1.out.next b2); clear b2; obtain ⟨U20, U21, U22, U23⟩ := cells4 (X2.out.at 1 rfl); obtain ⟨T20, T21, T22, T23⟩ := cells4 (X2.out.at 0 rfl); obtain ⟨Z20, Z21, Z22, Z23⟩ := frozen4 (X2.out.at 0 rfl)))
        exact ret_ref2 rfl rfl (put4 (X2.out.at 0 rfl) _ _ _ _) ⟨rfl, below4 X2.out.b (by omega) _ _ _ _⟩
    · rw [if_neg k4]
      have ek4 : (k == 4) = false := by rw [beq_eq_false_iff_ne]; exact k4
      clear k4
      go_enter Tryd.func10, Tryd.ntmps10
      go_wp2_with (first
        | (go_at_call 19; (refine (HM.out _).mono ?_); rintro r w1 ⟨rfl, b1⟩; have X1 := Lib.hid (X.out.next b1); clear b1; obtain ⟨U10, U11, U12, U13⟩ := cells4 (X1.out.at 1 rfl); obtain ⟨T10, T11, T12, T13⟩ := cells4 (X1.out.at 0 rfl); obtain ⟨Z10, Z11, Z12, Z13⟩ := frozen4 (X1.out.at 0 rfl)))
      exact ret_ref2 rfl rfl (put4 (X1.out.at 0 rfl) _ _ _ _) ⟨rfl, below4 X1.out.b (by omega) _ _ _ _⟩
theorem refStep_any (h : Int) (a : Mc) (k : Int) (e : Nat) (w : World) : Calls Tryd.prog 10 #[.int .i64 h, mv a, .int .i64 k, .int .u32 (e : Int)] w fun r w' => r = .returned (tv (stp h a k e)) ∧ Below w.heap.size w w' := by
  obtain ⟨s, c, m, x⟩ := a
  unfold stp
  cases hm : may h ⟨s, c, m, x⟩
  · rw [if_pos rfl]
    exact refStepNo_any h s c m x k e w hm
  · rw [if_neg (by decide)]
    dsimp only
    by_cases s1 : s = 1
    · rw [if_pos s1]
      exact refStepOff_any h s c m x k e w hm s1
    · rw [if_neg s1]
      by_cases k2 : k = 2
      · rw [if_pos k2]
        exact refStepFail_any h s c m x k e w hm s1 k2
      · rw [if_neg k2]
        by_cases s2 : s = 2
        · rw [if_pos s2]
          exact refStepListen_any h s c m x k e w hm s2 k2
        · rw [if_neg s2]
          refine refStepSynced_any h s c m x k e w hm ?_ k2
          have := (may_iff.1 hm).2
          dsimp only at this
          omega
end Go.Proofs.YtigehmlfdbejaaaDoor.MachW
