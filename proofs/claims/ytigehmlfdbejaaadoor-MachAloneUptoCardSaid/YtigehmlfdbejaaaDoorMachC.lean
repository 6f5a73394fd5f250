/- Package mach's steps by state. -/
import Derived.Test.YtigehmlfdbejaaaDoorMachB
namespace Go.Proofs.YtigehmlfdbejaaaDoor.MachW
open Go.RowKit Shell
open CrewW (mem fst count_any first_any Tz mem_len only of_any of_one)
theorem results_mach2 {fn : Func} {p u : Tmp} (h : fn.results = #[.cell p 36, .tmp u]) (tmps : Array Value) (w : World) (g : Nat) (t : TypeId) (x1 x2 x3 x4 : Value) (fr : Nat × Nat)
    (hp : tmps.getD p undef = .pointer (some ⟨g, 0, none⟩)) (hg : w.heap[g]? = some (.cells #[x1, x2, x3, x4] t fr)) :
    (results fn tmps).run Tryd.prog w = .ok (.tuple #[.agg #[x1, x2, x3, x4], tmps.getD u undef]) w := by
  have hp' : tmps[p]?.getD undef = .pointer (some ⟨g, 0, none⟩) := by simpa using hp
  simp [results, h, hp', asAddr, run_loadVar_row w g t 36 #[x1, x2, x3, x4] fr _ hg Tryd.underlying36 rfl (by kernel_rfl)]
theorem ret_mach2 {fn : Func} {R : Ending → World → Prop} {p u : Tmp} (h : fn.results = #[.cell p 36, .tmp u]) {tmps : Array Value} {w : World} {g : Nat} {x1 x2 x3 x4 : Value} {t : TypeId} {fr : Nat × Nat}
    (hp : tmps.getD p undef = .pointer (some ⟨g, 0, none⟩)) (hg : w.heap[g]? = some (.cells #[x1, x2, x3, x4] t fr)) (hR : R (.returned (.tuple #[.agg #[x1, x2, x3, x4], tmps.getD u undef])) w) :
    bodyPost Tryd.prog fn R .ret { tmps := tmps, defers := [] } w :=
  bodyPost_ret (results_mach2 h tmps w g t x1 x2 x3 x4 fr hp hg) rfl hR
abbrev eb (k : Int) (e : Nat) : Obj := .cells #[.int .i64 k, .int .u32 (e : Int)] 32 (0, 0)
abbrev tv (r : Mc × Int) : Value := .tuple #[mv r.1, .int .i64 r.2]
theorem put4 {w : World} {k : Nat} {m b r q : Value} {t : TypeId} (h : w.heap[k]? = some (.cells #[m, b, r, q] t (0, 0))) (x y z u : Value) : ((((w.setCell ⟨k, 0, none⟩ x).setCell ⟨k, 1, none⟩ y).setCell ⟨k, 2, none⟩ z).setCell ⟨k, 3, none⟩ u).heap[k]? = some (.cells #[x, y, z, u] t (0, 0)) := by
  replace h : (w.setCell ⟨k, 0, none⟩ x).heap[k]? = some (.cells #[x, b, r, q] t (0, 0)) := heap_setCell_same w k 0 _ _ _ h
  replace h : ((w.setCell ⟨k, 0, none⟩ x).setCell ⟨k, 1, none⟩ y).heap[k]? = some (.cells #[x, y, r, q] t (0, 0)) := heap_setCell_same _ k 1 _ _ _ h
  replace h : (((w.setCell ⟨k, 0, none⟩ x).setCell ⟨k, 1, none⟩ y).setCell ⟨k, 2, none⟩ z).heap[k]? = some (.cells #[x, y, z, q] t (0, 0)) := heap_setCell_same _ k 2 _ _ _ h
  exact heap_setCell_same _ k 3 _ _ _ h
theorem frozen4 {w : World} {j : Nat} {v0 v1 v2 v3 : Value} {t : TypeId} (h : w.heap[j]? = some (.cells #[v0, v1, v2, v3] t (0, 0))) : w.frozen? ⟨j, 0, none⟩ = false ∧ w.frozen? ⟨j, 1, none⟩ = false ∧ w.frozen? ⟨j, 2, none⟩ = false ∧ w.frozen? ⟨j, 3, none⟩ = false :=
  ⟨frozen_of_row w j 0 _ _ h, frozen_of_row w j 1 _ _ h, frozen_of_row w j 2 _ _ h, frozen_of_row w j 3 _ _ h⟩
theorem below4 {w0 w : World} {k : Nat} (h : Below w0.heap.size w0 w) (hk : w0.heap.size ≤ k) (x y z u : Value) : Below w0.heap.size w0 ((((w.setCell ⟨k, 0, none⟩ x).setCell ⟨k, 1, none⟩ y).setCell ⟨k, 2, none⟩ z).setCell ⟨k, 3, none⟩ u) :=
  (((h.setCell hk _).setCell hk _).setCell hk _).setCell hk _
/-- The boxes of a step: the machine, what happens, what is told. -/
theorem boxes (w : World) (a : Mc) (k : Int) (e : Nat) : Stay w [(w.heap.size + 1 + 1, mb4 0 0 0 0), (w.heap.size + 1, eb k e), (w.heap.size, mb a)] (((w.alloc (mb a)).alloc (eb k e)).alloc (mb4 0 0 0 0)) := by
  have h := (((Stay.start w).alloc (mb a)).alloc (eb k e)).alloc (mb4 0 0 0 0)
  rw [World.size_alloc, World.size_alloc] at h
  exact h
theorem cells2 {w : World} {j : Nat} {x y : Value} {t : TypeId} (h : w.heap[j]? = some (.cells #[x, y] t (0, 0))) : w.cell? ⟨j, 0, none⟩ = some x ∧ w.cell? ⟨j, 1, none⟩ = some y := ⟨cell_of_row w j 0 _ _ _ h, cell_of_row w j 1 _ _ _ h⟩
set_option maxHeartbeats 1000000 in
theorem stepOff_any (a : Mc) (k : Int) (e : Nat) (w : World) : Calls Tryd.prog 25 #[mv a, ev k e] w fun r w' => r = .returned (tv (offM a k)) ∧ Below w.heap.size w w' := by
  unfold offM
  by_cases hk : k = 1
  · subst hk
    rw [if_pos rfl]
    go_enter Tryd.func25, Tryd.ntmps25
    go_wp2
    exact ret_mach2 rfl rfl (heap_at (by simp) _) ⟨rfl, al (al (al (Below.refl _ _) _) _) _⟩
  · have e1 : (k == 1) = false := by rw [beq_eq_false_iff_ne]; exact hk
    rw [if_neg hk]
    clear hk
    go_enter Tryd.func25, Tryd.ntmps25
    go_wp2
    exact ret_mach2 rfl rfl (heap_at (by simp) _) ⟨rfl, al (al (al (Below.refl _ _) _) _) _⟩
theorem one_row (w : World) (G : Nat) (hG : w.heap.size = G) (h : Int) (h0 : 0 ≤ h) (h6 : h < 6) (t : TypeId) : Calls Tryd.prog 31 #[.slice (some ⟨G, 0, none⟩) 1 1] (w.alloc (.cells #[.int .i64 h] t)) fun e w' => e = .returned (.int .u32 (only h : Nat)) ∧ w' = w.alloc (.cells #[.int .i64 h] t) := by
  subst hG
  have := of_any (some ⟨w.heap.size, 0, none⟩) 1 1 [h] (w.alloc (.cells #[.int .i64 h] t)) (CrewW.one_cl w h (by omega) (by omega) t) rfl (by decide)
  rw [of_one] at this
  exact this
set_option maxHeartbeats 4000000 in
theorem stepListen_any (h : Int) (a : Mc) (k : Int) (e : Nat) (w : World) (he : e < 4294967296) (h0 : 0 ≤ h) (h6 : h < 6) (x0 : 0 ≤ a.x) (x1 : a.x ≤ h + 1) : Calls Tryd.prog 26 #[mv a, .int .i64 h, ev k e] w fun r w' => r = .returned (tv (lisM h a k e)) ∧ Below w.heap.size w w' := by
  have X := Lib.hid (boxes w a k e)
  obtain ⟨s, c, m, x⟩ := a
  dsimp only at x0 x1
  have hr : IntKind.i64.wrap (1 + h) = 1 + h := by rw [IntKind.wrap_i64]; omega
  have hr2 : IntKind.i64.wrap (x + 1) = x + 1 := by rw [IntKind.wrap_i64]; omega
  have hp := mem_pos e
  have HC := Lib.hid (fun W => count_any e W he)
  have HS := Lib.hid (fun W => synced_any e W he)
  have HO := Lib.hid (fun W => synced_any (only h) W (by have := CrewW.only_lt h; omega))
  have HM := Lib.hid (show only h % 64 = only h from Nat.mod_eq_of_lt (CrewW.only_lt h))
  have HF := Lib.hid (fun W G t hG => one_row W G hG h h0 h6 t)
  generalize (mem e).length = n at *
  unfold lisM
  dsimp only
  generalize only h = o at *
  rw [HM.out] at HO
  generalize e % 64 = r at *
  clear he h0 h6 x0 x1 HM
  by_cases k4 : k = 4
  · subst k4
    rw [if_pos rfl]
    by_cases hr0 : r = 0
    · rw [if_pos hr0]
      have hn : n = 0 := by omega
      subst hn
      clear hp hr0
      go_enter Tryd.func26, Tryd.ntmps26
      go_wp2_with (first
        | (go_at_call 22; (with_reducible refine (HC.out _).mono ?_); rintro r w1 ⟨rfl, b1⟩; have X1 := Lib.hid (X.out.next b1); clear b1; obtain ⟨U10, U11, U12, U13⟩ := cells4 (X1.out.at 2 rfl); obtain ⟨V10, V11⟩ := cells2 (X1.out.at 1 rfl); obtain ⟨T10, T11, T12, T13⟩ := cells4 (X1.out.at 0 rfl); obtain ⟨Z10, Z11, Z12, Z13⟩ := frozen4 (X1.out.at 0 rfl)))
      exact ret_mach2 rfl rfl (put4 (X1.out.at 0 rfl) _ _ _ _) ⟨rfl, below4 X1.out.b (by omega) _ _ _ _⟩
    · rw [if_neg hr0]
      have hn : 0 < n := by omega
      have hn1 : (0 : Int) < (n : Int) := by omega
      clear hp hr0
      go_enter Tryd.func26, Tryd.ntmps26
      go_wp2_with (first
        | (go_at_call 22; (with_reducible refine (HC.out _).mono ?_); rintro r w1 ⟨rfl, b1⟩; have X1 := Lib.hid (X.out.next b1); clear b1; obtain ⟨U10, U11, U12, U13⟩ := cells4 (X1.out.at 2 rfl); obtain ⟨V10, V11⟩ := cells2 (X1.out.at 1 rfl); obtain ⟨T10, T11, T12, T13⟩ := cells4 (X1.out.at 0 rfl); obtain ⟨Z10, Z11, Z12, Z13⟩ := frozen4 (X1.out.at 0 rfl))
        | (go_at_call 21; (with_reducible refine (HS.out _).mono ?_); rintro r w2 ⟨rfl, b2⟩; have X2 := Lib.hid (X1.out.next b2); clear b2; obtain ⟨U20, U21, U22, U23⟩ := cells4 (X2.out.at 2 rfl); obtain ⟨V20, V21⟩ := cells2 (X2.out.at 1 rfl); obtain ⟨T20, T21, T22, T23⟩ := cells4 (X2.out.at 0 rfl); obtain ⟨Z20, Z21, Z22, Z23⟩ := frozen4 (X2.out.at 0 rfl)))
      exact ret_mach2 rfl rfl (put4 (X2.out.at 0 rfl) _ _ _ _) ⟨rfl, below4 X2.out.b (by omega) _ _ _ _⟩
  · rw [if_neg k4]
    have ek4 : (k == 4) = false := by rw [beq_eq_false_iff_ne]; exact k4
    by_cases k3 : k = 3
    · subst k3
      rw [if_pos rfl]
      clear hp
      by_cases hx : x < 1 + h
      · rw [if_pos hx]
        go_enter Tryd.func26, Tryd.ntmps26
        go_wp2
        exact ret_mach2 rfl rfl (heap_at (by simp) _) ⟨rfl, al (al (al (Below.refl _ _) _) _) _⟩
      · rw [if_neg hx]
        have hx2 : decide (x < 1 + h) = false := decide_eq_false hx
        go_enter Tryd.func26, Tryd.ntmps26
        go_wp2_with (first
          | (go_at_call 31; (refine (HF.out _ _ _ (by simp)).mono ?_); rintro r w9 ⟨rfl, hw⟩; obtain rfl := hw.symm; have Xa := Lib.hid (Stay.next X.out (al (Below.refl _ _) (Obj.cells #[.int .i64 h] 3))))
          | (go_at_call 21; (with_reducible refine (HO.out _).mono ?_); rintro r w1 ⟨rfl, b1⟩; have X1 := Lib.hid (Xa.out.next b1); clear b1; obtain ⟨U10, U11, U12, U13⟩ := cells4 (X1.out.at 2 rfl); obtain ⟨V10, V11⟩ := cells2 (X1.out.at 1 rfl); obtain ⟨T10, T11, T12, T13⟩ := cells4 (X1.out.at 0 rfl); obtain ⟨Z10, Z11, Z12, Z13⟩ := frozen4 (X1.out.at 0 rfl)))
        exact ret_mach2 rfl rfl (put4 (X1.out.at 0 rfl) _ _ _ _) ⟨rfl, below4 X1.out.b (by omega) _ _ _ _⟩
    · rw [if_neg k3]
      have ek3 : (k == 3) = false := by rw [beq_eq_false_iff_ne]; exact k3
      clear hp k3 k4
      go_enter Tryd.func26, Tryd.ntmps26
      go_wp2
      exact ret_mach2 rfl rfl (heap_at (by simp) _) ⟨rfl, al (al (al (Below.refl _ _) _) _) _⟩
set_option maxHeartbeats 4000000 in
theorem stepSynced_any (a : Mc) (k : Int) (e : Nat) (w : World) (he : e < 4294967296) (ha : a.c < 4294967296) (hs : a.s = 3) (hx : a.x = 0) (hT : Tz w) : Calls Tryd.prog 27 #[mv a, ev k e] w fun r w' => r = .returned (tv (synM a k e)) ∧ Below w.heap.size w w' := by
  have X := Lib.hid (boxes w a k e)
  obtain ⟨s, c, m, x⟩ := a
  obtain rfl : s = 3 := hs
  obtain rfl : x = 0 := hx
  dsimp only at ha
  have HT := Lib.hid hT
  have hp := mem_pos e
  have HC := Lib.hid (fun W => count_any e W he)
  have HS := Lib.hid (fun W => synced_any e W he)
  have HG := Lib.hid (fun W => stronger_any e c W he ha)
  have HM := Lib.hid (fun W => missed_any ⟨3, c, 0, 0⟩ W rfl)
  generalize (mem e).length = n at *
  unfold synM
  dsimp only
  generalize str e c = g at *
  generalize e % 64 = r at *
  clear he ha hT
  by_cases k3 : k = 3
  · subst k3
    rw [if_pos rfl]
    by_cases hr0 : r = 0
    · rw [if_pos hr0]
      have hn : n = 0 := by omega
      subst hn
      clear hp hr0
      by_cases hm : m = 0
      · subst hm
        rw [if_pos rfl]
        go_enter Tryd.func27, Tryd.ntmps27
        go_wp2_with (first
          | (go_at_call 22; (with_reducible refine (HC.out _).mono ?_); rintro r w1 ⟨rfl, b1⟩; have X1 := Lib.hid (X.out.next b1); clear b1; obtain ⟨U10, U11, U12, U13⟩ := cells4 (X1.out.at 2 rfl); obtain ⟨V10, V11⟩ := cells2 (X1.out.at 1 rfl); obtain ⟨T10, T11, T12, T13⟩ := cells4 (X1.out.at 0 rfl); obtain ⟨Z10, Z11, Z12, Z13⟩ := frozen4 (X1.out.at 0 rfl))
          | (go_at_call 23; (with_reducible refine (HM.out _).mono ?_); rintro r w2 ⟨rfl, b2⟩; have X2 := Lib.hid (X1.out.next b2); clear b2; obtain ⟨U20, U21, U22, U23⟩ := cells4 (X2.out.at 2 rfl); obtain ⟨V20, V21⟩ := cells2 (X2.out.at 1 rfl); obtain ⟨T20, T21, T22, T23⟩ := cells4 (X2.out.at 0 rfl); obtain ⟨Z20, Z21, Z22, Z23⟩ := frozen4 (X2.out.at 0 rfl)))
        exact ret_mach2 rfl rfl (put4 (X2.out.at 0 rfl) _ _ _ _) ⟨rfl, below4 X2.out.b (by omega) _ _ _ _⟩
      · rw [if_neg hm]
        have ehm : (m == 0) = false := by rw [beq_eq_false_iff_ne]; exact hm
        clear hm
        go_enter Tryd.func27, Tryd.ntmps27
        go_wp2_with (first
          | (go_at_call 22; (with_reducible refine (HC.out _).mono ?_); rintro r w1 ⟨rfl, b1⟩; have X1 := Lib.hid (X.out.next b1); clear b1; obtain ⟨U10, U11, U12, U13⟩ := cells4 (X1.out.at 2 rfl); obtain ⟨V10, V11⟩ := cells2 (X1.out.at 1 rfl); obtain ⟨T10, T11, T12, T13⟩ := cells4 (X1.out.at 0 rfl); obtain ⟨Z10, Z11, Z12, Z13⟩ := frozen4 (X1.out.at 0 rfl)))
        exact ret_mach2 rfl rfl (put4 (X1.out.at 0 rfl) _ _ _ _) ⟨rfl, below4 X1.out.b (by omega) _ _ _ _⟩
    · rw [if_neg hr0]
      have hn : 0 < n := by omega
      have hn1 : (0 : Int) < (n : Int) := by omega
      clear hp hr0
      go_enter Tryd.func27, Tryd.ntmps27
      go_wp2_with (first
        | (go_at_call 22; (with_reducible refine (HC.out _).mono ?_); rintro r w1 ⟨rfl, b1⟩; have X1 := Lib.hid (X.out.next b1); clear b1; obtain ⟨U10, U11, U12, U13⟩ := cells4 (X1.out.at 2 rfl); obtain ⟨V10, V11⟩ := cells2 (X1.out.at 1 rfl); obtain ⟨T10, T11, T12, T13⟩ := cells4 (X1.out.at 0 rfl); obtain ⟨Z10, Z11, Z12, Z13⟩ := frozen4 (X1.out.at 0 rfl))
        | (go_at_call 21; (with_reducible refine (HS.out _).mono ?_); rintro r w2 ⟨rfl, b2⟩; have X2 := Lib.hid (X1.out.next b2); clear b2; obtain ⟨U20, U21, U22, U23⟩ := cells4 (X2.out.at 2 rfl); obtain ⟨V20, V21⟩ := cells2 (X2.out.at 1 rfl); obtain ⟨T20, T21, T22, T23⟩ := cells4 (X2.out.at 0 rfl); obtain ⟨Z20, Z21, Z22, Z23⟩ := frozen4 (X2.out.at 0 rfl)))
      exact ret_mach2 rfl rfl (put4 (X2.out.at 0 rfl) _ _ _ _) ⟨rfl, below4 X2.out.b (by omega) _ _ _ _⟩
  · rw [if_neg k3]
    have ek3 : (k == 3) = false := by rw [beq_eq_false_iff_ne]; exact k3
    clear hp k3
    by_cases k4 : k = 4
    · subst k4
      rw [if_pos rfl]
      cases g
      · rw [if_neg (by decide)]
        go_enter Tryd.func27, Tryd.ntmps27
        go_wp2_with (first
          | (go_at_call 17; (refine (HG.out _ (HT.out.below X.out.b)).mono ?_); rintro r w1 ⟨rfl, b1⟩; have X1 := Lib.hid (X.out.next b1); clear b1; obtain ⟨U10, U11, U12, U13⟩ := cells4 (X1.out.at 2 rfl); obtain ⟨V10, V11⟩ := cells2 (X1.out.at 1 rfl); obtain ⟨T10, T11, T12, T13⟩ := cells4 (X1.out.at 0 rfl); obtain ⟨Z10, Z11, Z12, Z13⟩ := frozen4 (X1.out.at 0 rfl)))
        exact ret_mach2 rfl rfl (put4 (X1.out.at 0 rfl) _ _ _ _) ⟨rfl, below4 X1.out.b (by omega) _ _ _ _⟩
      · rw [if_pos rfl]
        go_enter Tryd.func27, Tryd.ntmps27
        go_wp2_with (first
          | (go_at_call 17; (refine (HG.out _ (HT.out.below X.out.b)).mono ?_); rintro r w1 ⟨rfl, b1⟩; have X1 := Lib.hid (X.out.next b1); clear b1; obtain ⟨U10, U11, U12, U13⟩ := cells4 (X1.out.at 2 rfl); obtain ⟨V10, V11⟩ := cells2 (X1.out.at 1 rfl); obtain ⟨T10, T11, T12, T13⟩ := cells4 (X1.out.at 0 rfl); obtain ⟨Z10, Z11, Z12, Z13⟩ := frozen4 (X1.out.at 0 rfl)))
        exact ret_mach2 rfl rfl (put4 (X1.out.at 0 rfl) _ _ _ _) ⟨rfl, below4 X1.out.b (by omega) _ _ _ _⟩
    · rw [if_neg k4]
      have ek4 : (k == 4) = false := by rw [beq_eq_false_iff_ne]; exact k4
      clear k4
      go_enter Tryd.func27, Tryd.ntmps27
      go_wp2
      exact ret_mach2 rfl rfl (heap_at (by simp) _) ⟨rfl, al (al (al (Below.refl _ _) _) _) _⟩
set_option maxHeartbeats 4000000 in
theorem step_any (h : Int) (a : Mc) (k : Int) (e : Nat) (w : World) (he : e < 4294967296) (ha : a.c < 4294967296) (hT : Tz w) : Calls Tryd.prog 16 #[.int .i64 h, mv a, ev k e] w fun r w' => r = .returned (tv (stp h a k e)) ∧ Below w.heap.size w w' := by
  have X := Lib.hid (boxes w a k e)
  have HT := Lib.hid hT
  have HM := Lib.hid (fun W => may_any h a W ha)
  have HO := Lib.hid (fun W => stepOff_any a k e W)
  have hmi := may_iff (h := h) (a := a)
  have HL := Lib.hid (fun W => stepListen_any h a k e W he)
  have HS := Lib.hid (fun W => stepSynced_any a k e W he ha)
  unfold stp
  generalize may h a = b at *
  obtain ⟨s, c, m, x⟩ := a
  dsimp only at hmi HL HS ha ⊢
  clear he ha hT
  cases b
  · rw [if_pos rfl]
    clear hmi HO HL HS
    go_enter Tryd.func16, Tryd.ntmps16
    go_wp2_with (first
      | (go_at_call 12; (with_reducible refine (HM.out _).mono ?_); rintro r w1 ⟨rfl, b1⟩; have X1 := Lib.hid (X.out.next b1); clear b1; obtain ⟨U10, U11, U12, U13⟩ := cells4 (X1.out.at 2 rfl); obtain ⟨V10, V11⟩ := cells2 (X1.out.at 1 rfl); obtain ⟨T10, T11, T12, T13⟩ := cells4 (X1.out.at 0 rfl); obtain ⟨Z10, Z11, Z12, Z13⟩ := frozen4 (X1.out.at 0 rfl)))
    exact ret_mach2 rfl rfl (put4 (X1.out.at 0 rfl) _ _ _ _) ⟨rfl, below4 X1.out.b (by omega) _ _ _ _⟩
  · rw [if_neg (by decide)]
    obtain ⟨⟨h0, h6⟩, hor⟩ := hmi.1 rfl
    clear hmi
    by_cases s1 : s = 1
    · subst s1
      rw [if_pos rfl]
      clear HL HS hor h0 h6
      generalize offM ⟨1, c, m, x⟩ k = z at *
      obtain ⟨⟨za, zb, zc, zd⟩, zn⟩ := z
      go_enter Tryd.func16, Tryd.ntmps16
      go_wp2_with (first
        | (go_at_call 12; (with_reducible refine (HM.out _).mono ?_); rintro r w1 ⟨rfl, b1⟩; have X1 := Lib.hid (X.out.next b1); clear b1; obtain ⟨U10, U11, U12, U13⟩ := cells4 (X1.out.at 2 rfl); obtain ⟨V10, V11⟩ := cells2 (X1.out.at 1 rfl); obtain ⟨T10, T11, T12, T13⟩ := cells4 (X1.out.at 0 rfl); obtain ⟨Z10, Z11, Z12, Z13⟩ := frozen4 (X1.out.at 0 rfl))
        | (go_at_call 25; (with_reducible refine (HO.out _).mono ?_); rintro r w2 ⟨rfl, b2⟩; have X2 := Lib.hid (X1.out.next b2); clear b2; obtain ⟨U20, U21, U22, U23⟩ := cells4 (X2.out.at 2 rfl); obtain ⟨V20, V21⟩ := cells2 (X2.out.at 1 rfl); obtain ⟨T20, T21, T22, T23⟩ := cells4 (X2.out.at 0 rfl); obtain ⟨Z20, Z21, Z22, Z23⟩ := frozen4 (X2.out.at 0 rfl)))
      exact ret_mach2 rfl rfl (put4 (X2.out.at 0 rfl) _ _ _ _) ⟨rfl, below4 X2.out.b (by omega) _ _ _ _⟩
    · rw [if_neg s1]
      have es1 : (s == 1) = false := by rw [beq_eq_false_iff_ne]; exact s1
      clear HO
      by_cases k2 : k = 2
      · subst k2
        rw [if_pos rfl]
        clear HL HS hor h0 h6 s1
        go_enter Tryd.func16, Tryd.ntmps16
        go_wp2_with (first
          | (go_at_call 12; (with_reducible refine (HM.out _).mono ?_); rintro r w1 ⟨rfl, b1⟩; have X1 := Lib.hid (X.out.next b1); clear b1; obtain ⟨U10, U11, U12, U13⟩ := cells4 (X1.out.at 2 rfl); obtain ⟨V10, V11⟩ := cells2 (X1.out.at 1 rfl); obtain ⟨T10, T11, T12, T13⟩ := cells4 (X1.out.at 0 rfl); obtain ⟨Z10, Z11, Z12, Z13⟩ := frozen4 (X1.out.at 0 rfl)))
        exact ret_mach2 rfl rfl (put4 (X1.out.at 0 rfl) _ _ _ _) ⟨rfl, below4 X1.out.b (by omega) _ _ _ _⟩
      · rw [if_neg k2]
        have ek2 : (k == 2) = false := by rw [beq_eq_false_iff_ne]; exact k2
        clear k2
        by_cases s2 : s = 2
        · subst s2
          rw [if_pos rfl]
          have HL2 := Lib.hid (fun W => HL.out W h0 h6 (by omega) (by omega))
          clear HL HS hor h0 h6 s1
          generalize lisM h ⟨2, c, m, x⟩ k e = z at *
          obtain ⟨⟨za, zb, zc, zd⟩, zn⟩ := z
          go_enter Tryd.func16, Tryd.ntmps16
          go_wp2_with (first
            | (go_at_call 12; (with_reducible refine (HM.out _).mono ?_); rintro r w1 ⟨rfl, b1⟩; have X1 := Lib.hid (X.out.next b1); clear b1; obtain ⟨U10, U11, U12, U13⟩ := cells4 (X1.out.at 2 rfl); obtain ⟨V10, V11⟩ := cells2 (X1.out.at 1 rfl); obtain ⟨T10, T11, T12, T13⟩ := cells4 (X1.out.at 0 rfl); obtain ⟨Z10, Z11, Z12, Z13⟩ := frozen4 (X1.out.at 0 rfl))
            | (go_at_call 26; (with_reducible refine (HL2.out _).mono ?_); rintro r w2 ⟨rfl, b2⟩; have X2 := Lib.hid (X1.out.next b2); clear b2; obtain ⟨U20, U21, U22, U23⟩ := cells4 (X2.out.at 2 rfl); obtain ⟨V20, V21⟩ := cells2 (X2.out.at 1 rfl); obtain ⟨T20, T21, T22, T23⟩ := cells4 (X2.out.at 0 rfl); obtain ⟨Z20, Z21, Z22, Z23⟩ := frozen4 (X2.out.at 0 rfl)))
          exact ret_mach2 rfl rfl (put4 (X2.out.at 0 rfl) _ _ _ _) ⟨rfl, below4 X2.out.b (by omega) _ _ _ _⟩
        · rw [if_neg s2]
          have es2 : (s == 2) = false := by rw [beq_eq_false_iff_ne]; exact s2
          have HS2 := Lib.hid (fun W T => HS.out W (by omega) (by omega) T)
          clear HL HS hor h0 h6 s1 s2
          generalize synM ⟨s, c, m, x⟩ k e = z at *
          obtain ⟨⟨za, zb, zc, zd⟩, zn⟩ := z
          go_enter Tryd.func16, Tryd.ntmps16
          go_wp2_with (first
            | (go_at_call 12; (with_reducible refine (HM.out _).mono ?_); rintro r w1 ⟨rfl, b1⟩; have X1 := Lib.hid (X.out.next b1); clear b1; obtain ⟨U10, U11, U12, U13⟩ := cells4 (X1.out.at 2 rfl); obtain ⟨V10, V11⟩ := cells2 (X1.out.at 1 rfl); obtain ⟨T10, T11, T12, T13⟩ := cells4 (X1.out.at 0 rfl); obtain ⟨Z10, Z11, Z12, Z13⟩ := frozen4 (X1.out.at 0 rfl))
            | (go_at_call 27; (refine (HS2.out _ (HT.out.below X1.out.b)).mono ?_); rintro r w2 ⟨rfl, b2⟩; have X2 := Lib.hid (X1.out.next b2); clear b2; obtain ⟨U20, U21, U22, U23⟩ := cells4 (X2.out.at 2 rfl); obtain ⟨V20, V21⟩ := cells2 (X2.out.at 1 rfl); obtain ⟨T20, T21, T22, T23⟩ := cells4 (X2.out.at 0 rfl); obtain ⟨Z20, Z21, Z22, Z23⟩ := frozen4 (X2.out.at 0 rfl)))
          exact ret_mach2 rfl rfl (put4 (X2.out.at 0 rfl) _ _ _ _) ⟨rfl, below4 X2.out.b (by omega) _ _ _ _⟩
end Go.Proofs.YtigehmlfdbejaaaDoor.MachW
