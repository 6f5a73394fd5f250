/- Package mach's May, and the document's own. -/
import Derived.Test.YtigehmlfdbejaaaDoorMachA
import Derived.Deep.RegionHeld3
import Derived.Deep.RegionLaw
namespace Go.Proofs.YtigehmlfdbejaaaDoor.MachW
open Go.RowKit Shell
open CrewW (mem fst count_any first_any Tz mem_len only)
theorem may_no {h : Int} (a : Mc) (hh : hostB h = false) : may h a = false := by unfold may; rw [hh, Bool.false_and]
theorem may_off {h : Int} (c : Nat) (m x : Int) (hh : hostB h = true) : may h ⟨1, c, m, x⟩ = decide ((1 : Int) = 1 ∧ (c : Int) = 0 ∧ m = 0 ∧ x = 0) := by
  unfold may offB lisB synB
  rw [hh, Bool.true_and, Bool.eq_iff_iff]
  simp
theorem may_lis {h : Int} (c : Nat) (m x : Int) (hh : hostB h = true) : may h ⟨2, c, m, x⟩ = (decide ((2 : Int) = 2 ∧ (c : Int) = 0 ∧ m = 0 ∧ x = x) && decide (0 ≤ x) && decide (x ≤ h + 1)) := by
  unfold may offB lisB synB
  rw [hh, Bool.true_and, Bool.eq_iff_iff]
  simp
  omega
theorem may_syn {h : Int} (c : Nat) (m x : Int) (hh : hostB h = true) : may h ⟨3, c, m, x⟩ = (decide (0 < (mem c).length) && (decide ((3 : Int) = 3 ∧ (c : Int) = ((c % 64 : Nat) : Int) ∧ m = 0 ∧ x = 0) || decide ((3 : Int) = 3 ∧ (c : Int) = ((c % 64 : Nat) : Int) ∧ m = 1 ∧ x = 0))) := by
  have := mem_pos c
  unfold may offB lisB synB
  rw [hh, Bool.true_and, Bool.eq_iff_iff]
  simp
  omega
theorem may_else {h : Int} (s : Int) (c : Nat) (m x : Int) (h1 : s ≠ 1) (h2 : s ≠ 2) (h3 : s ≠ 3) : may h ⟨s, c, m, x⟩ = false := by
  rw [Bool.eq_false_iff]
  intro k
  have := (may_iff.1 k).2
  dsimp only at this
  omega
abbrev mb4 (s : Int) (c : Nat) (m x : Int) : Obj := .cells #[.int .i64 s, .int .u32 (c : Int), .int .i64 m, .int .i64 x] 36 (0, 0)
abbrev mv4 (s : Int) (c : Nat) (m x : Int) : Value := .agg #[.int .i64 s, .int .u32 (c : Int), .int .i64 m, .int .i64 x]
theorem cells4 {w : World} {j : Nat} {v0 v1 v2 v3 : Value} {t : TypeId} (h : w.heap[j]? = some (.cells #[v0, v1, v2, v3] t (0, 0))) : w.cell? ⟨j, 0, none⟩ = some v0 ∧ w.cell? ⟨j, 1, none⟩ = some v1 ∧ w.cell? ⟨j, 2, none⟩ = some v2 ∧ w.cell? ⟨j, 3, none⟩ = some v3 :=
  ⟨cell_of_row w j 0 _ _ _ h, cell_of_row w j 1 _ _ _ h, cell_of_row w j 2 _ _ _ h, cell_of_row w j 3 _ _ _ h⟩
set_option maxHeartbeats 1000000 in
theorem mayNo_any (h s : Int) (c : Nat) (m x : Int) (w : World) (hh : hostB h = false) : Calls Tryd.prog 12 #[.int .i64 h, mv4 s c m x] w fun e w' => e = .returned (.bool false) ∧ Below w.heap.size w w' := by
  have HH := Lib.hid (fun W => isHost_any h W)
  rw [hh] at HH
  clear hh
  have X := Lib.hid ((Stay.start w).alloc (mb4 s c m x))
  go_enter Tryd.func12, Tryd.ntmps12
  go_wp2_with (go_at_call 18; refine (HH.out _).mono ?_; rintro e w9 ⟨rfl, hw⟩; obtain rfl := hw.symm)
  go_ret
  exact ⟨rfl, X.out.b⟩
set_option maxHeartbeats 1000000 in
theorem mayOff_any (h : Int) (c : Nat) (m x : Int) (w : World) (hh : hostB h = true) : Calls Tryd.prog 12 #[.int .i64 h, mv4 1 c m x] w fun e w' => e = .returned (.bool (may h ⟨1, c, m, x⟩)) ∧ Below w.heap.size w w' := by
  rw [may_off c m x hh]
  have HH := Lib.hid (fun W => isHost_any h W)
  rw [hh] at HH
  clear hh
  have X := Lib.hid ((Stay.start w).alloc (mb4 1 c m x))
  have q1 := eql_mach 1 c m x 1 0 0 0
  have q2 := guardM
  generalize decide ((1 : Int) = 1 ∧ (c : Int) = 0 ∧ m = 0 ∧ x = 0) = b at *
  go_enter Tryd.func12, Tryd.ntmps12
  go_wp2_with (go_at_call 18; refine (HH.out _).mono ?_; rintro e w9 ⟨rfl, hw⟩; obtain rfl := hw.symm)
  go_ret
  exact ⟨rfl, X.out.b⟩
set_option maxHeartbeats 1000000 in
theorem mayElse_any (h s : Int) (c : Nat) (m x : Int) (w : World) (h1 : s ≠ 1) (h2 : s ≠ 2) (h3 : s ≠ 3) (hh : hostB h = true) : Calls Tryd.prog 12 #[.int .i64 h, mv4 s c m x] w fun e w' => e = .returned (.bool false) ∧ Below w.heap.size w w' := by
  have e1 : (s == 1) = false := by rw [beq_eq_false_iff_ne]; exact h1
  have e2 : (s == 2) = false := by rw [beq_eq_false_iff_ne]; exact h2
  have e3 : (s == 3) = false := by rw [beq_eq_false_iff_ne]; exact h3
  have HH := Lib.hid (fun W => isHost_any h W)
  rw [hh] at HH
  clear hh h1 h2 h3
  have X := Lib.hid ((Stay.start w).alloc (mb4 s c m x))
  go_enter Tryd.func12, Tryd.ntmps12
  go_wp2_with (go_at_call 18; refine (HH.out _).mono ?_; rintro e w9 ⟨rfl, hw⟩; obtain rfl := hw.symm)
  go_ret
  exact ⟨rfl, X.out.b⟩
set_option maxHeartbeats 1000000 in
theorem mayLis_any (h : Int) (c : Nat) (m x : Int) (w : World) (hh : hostB h = true) : Calls Tryd.prog 12 #[.int .i64 h, mv4 2 c m x] w fun e w' => e = .returned (.bool (may h ⟨2, c, m, x⟩)) ∧ Below w.heap.size w w' := by
  rw [may_lis c m x hh]
  have HH := Lib.hid (fun W => isHost_any h W)
  have hi := hostB_iff.1 hh
  have hr : IntKind.i64.wrap (h + 1) = h + 1 := by rw [IntKind.wrap_i64]; omega
  rw [hh] at HH
  clear hh hi
  have X := Lib.hid ((Stay.start w).alloc (mb4 2 c m x))
  have q1 := eql_mach 2 c m x 2 0 0 x
  have q2 := guardM
  generalize decide ((2 : Int) = 2 ∧ (c : Int) = 0 ∧ m = 0 ∧ x = x) = b at *
  cases b
  · rw [Bool.false_and, Bool.false_and]
    go_enter Tryd.func12, Tryd.ntmps12
    go_wp2_with (go_at_call 18; refine (HH.out _).mono ?_; rintro e w9 ⟨rfl, hw⟩; obtain rfl := hw.symm)
    go_ret
    exact ⟨rfl, X.out.b⟩
  · rw [Bool.true_and]
    by_cases hx : 0 ≤ x
    · rw [decide_eq_true hx, Bool.true_and]
      have hx2 : decide ((0 : Int) ≤ x) = true := decide_eq_true hx
      go_enter Tryd.func12, Tryd.ntmps12
      go_wp2_with (go_at_call 18; refine (HH.out _).mono ?_; rintro e w9 ⟨rfl, hw⟩; obtain rfl := hw.symm)
      go_ret
      exact ⟨rfl, X.out.b⟩
    · rw [decide_eq_false hx, Bool.false_and]
      go_enter Tryd.func12, Tryd.ntmps12
      go_wp2_with (go_at_call 18; refine (HH.out _).mono ?_; rintro e w9 ⟨rfl, hw⟩; obtain rfl := hw.symm)
      go_ret
      exact ⟨rfl, X.out.b⟩
set_option maxHeartbeats 4000000 in
set_option maxRecDepth 100000 in
theorem maySyn_any (h : Int) (c : Nat) (m x : Int) (w : World) (hc : c < 4294967296) (hh : hostB h = true) : Calls Tryd.prog 12 #[.int .i64 h, mv4 3 c m x] w fun e w' => e = .returned (.bool (may h ⟨3, c, m, x⟩)) ∧ Below w.heap.size w w' := by
  rw [may_syn c m x hh]
  have HH := Lib.hid (fun W => isHost_any h W)
  rw [hh] at HH
  clear hh
  have HC := Lib.hid (fun W => count_any c W hc)
  have HS := Lib.hid (fun W => synced_any c W hc)
  have X := Lib.hid ((Stay.start w).alloc (mb4 3 c m x))
  have q1 := eql_mach 3 c m x 3 (c % 64 : Nat) 0 0
  have q3 := eql_mach 3 c m x 3 (c % 64 : Nat) 1 0
  have q2 := guardM
  generalize decide ((3 : Int) = 3 ∧ (c : Int) = ((c % 64 : Nat) : Int) ∧ m = 0 ∧ x = 0) = b at *
  generalize decide ((3 : Int) = 3 ∧ (c : Int) = ((c % 64 : Nat) : Int) ∧ m = 1 ∧ x = 0) = d at *
  generalize (mem c).length = k at *
  generalize c % 64 = r at *
  by_cases hk : k = 0
  · subst hk
    rw [show decide (0 < 0) = false by decide, Bool.false_and]
    obtain ⟨X0, X1, X2, X3⟩ := cells4 (X.out.at 0 rfl)
    go_enter Tryd.func12, Tryd.ntmps12
    go_upto_region 10 with (first | (go_at_call 18; refine (HH.out _).mono ?_; rintro e w9 ⟨rfl, hw⟩; obtain rfl := hw.symm) | (go_at_call 21; refine (HS.out _).mono ?_; rintro e w1 ⟨rfl, b1⟩; have X1 := Lib.hid (X.out.next b1); clear b1))
    have X2 := Lib.hid (X1.out.alloc (mb4 3 r 0 0))
    generalize w1.alloc (mb4 3 r 0 0) = w2 at *
    generalize w1.heap.size = g at *
    clear X X1 HS HH
    apply wp_some (S := fun W : World => Stay w [(g, mb4 3 r 0 0), (w.heap.size, mb4 3 c m x)] W)
    case h =>
      refine wp_region_noPanic ?_
      refine wp_region_held_drew (S := fun W : World => Stay w [(g, mb4 3 r 0 0), (w.heap.size, mb4 3 c m x)] W) (by kernel_rfl) (X2.out.drew) (fun hHeld => ?_)
      refine wpAnyH_take (i := 0) (oi := ⟨some 40, _, _, _, _, _⟩) (v := ?_) rfl (by kernel_rfl) (by kernel_rfl) (by kernel_rfl) (fun _ _ _ h => h) (Or.inl ⟨by kernel_rfl, ?_⟩) (by assumption) ?_; rotate_left; (focus (intro w hSw; (try dsimp only at hSw); go_simp; (try with_reducible rfl)))
      simp only [Act.put, List.setIfInBounds_toArray, List.set_cons_zero, List.set_cons_succ]
      refine wpAnyH_take (i := 1) (oi := ⟨some 41, _, _, _, _, _⟩) (v := ?_) rfl (by kernel_rfl) (by kernel_rfl) (by kernel_rfl) (fun _ _ _ h => h) (Or.inl ⟨by kernel_rfl, ?_⟩) (by assumption) ?_; rotate_left; (focus (intro w hSw; (try dsimp only at hSw); obtain ⟨x0, x1, x2, x3⟩ := cells4 (Stay.at hSw 1 rfl); obtain ⟨y0, y1, y2, y3⟩ := cells4 (Stay.at hSw 0 rfl); go_simp; (try with_reducible rfl)))
      simp only [Act.put, List.setIfInBounds_toArray, List.set_cons_zero, List.set_cons_succ]
      refine wpAnyH_ready (rs := [2]) (by kernel_rfl) (by simp) ?_
      refine AllReadyH.cons (o := ⟨some 42, _, _, _, _, _⟩) rfl (fun K hK => ?_) AllReadyH.nil
      rw [if_pos (by kernel_rfl)]
      go_simp
      refine (HC.out _).mono ?_
      rintro e w5 ⟨rfl, b5⟩
      have hSw := Stay.next (by assumption) b5
      clear b5
      go_simp
      refine hK.out _ _ (by assumption) (fun hHeld => ?_)
      clear hK K
      refine wpAnyH_take (i := 3) (oi := ⟨some 43, _, _, _, _, _⟩) (v := ?_) rfl (by kernel_rfl) (by kernel_rfl) (by kernel_rfl) (fun _ _ _ h => h) (Or.inl ⟨by kernel_rfl, ?_⟩) (by assumption) ?_; rotate_left; (focus (intro w hSw; (try dsimp only at hSw); go_simp; (try with_reducible rfl)))
      simp only [Act.put, List.setIfInBounds_toArray, List.set_cons_zero, List.set_cons_succ]
      refine wpAnyH_take (i := 4) (oi := ⟨some 44, _, _, _, _, _⟩) (v := ?_) rfl (by kernel_rfl) (by kernel_rfl) (by kernel_rfl) (fun _ _ _ h => h) (Or.inl ⟨by kernel_rfl, ?_⟩) (by assumption) ?_; rotate_left; (focus (intro w hSw; (try dsimp only at hSw); go_simp; (try with_reducible rfl)))
      simp only [Act.put, List.setIfInBounds_toArray, List.set_cons_zero, List.set_cons_succ]
      refine wpAnyH_take (i := 5) (oi := ⟨some 45, _, _, _, _, _⟩) (v := undef) rfl (by kernel_rfl) (by kernel_rfl) (by kernel_rfl) (fun _ _ _ h => h) (Or.inr ⟨by kernel_rfl, rfl⟩) (by assumption) ?_
      simp only [Act.put, List.setIfInBounds_toArray, List.set_cons_zero, List.set_cons_succ]
      refine wpAnyH_take (i := 6) (oi := ⟨some 46, _, _, _, _, _⟩) (v := undef) rfl (by kernel_rfl) (by kernel_rfl) (by kernel_rfl) (fun _ _ _ h => h) (Or.inr ⟨by kernel_rfl, rfl⟩) (by assumption) ?_
      simp only [Act.put, List.setIfInBounds_toArray, List.set_cons_zero, List.set_cons_succ]
      refine wpAnyH_take (i := 7) (oi := ⟨some 47, _, _, _, _, _⟩) (v := undef) rfl (by kernel_rfl) (by kernel_rfl) (by kernel_rfl) (fun _ _ _ h => h) (Or.inr ⟨by kernel_rfl, rfl⟩) (by assumption) ?_
      simp only [Act.put, List.setIfInBounds_toArray, List.set_cons_zero, List.set_cons_succ]
      refine wpAnyH_take (i := 8) (oi := ⟨some 48, _, _, _, _, _⟩) (v := undef) rfl (by kernel_rfl) (by kernel_rfl) (by kernel_rfl) (fun _ _ _ h => h) (Or.inr ⟨by kernel_rfl, rfl⟩) (by assumption) ?_
      simp only [Act.put, List.setIfInBounds_toArray, List.set_cons_zero, List.set_cons_succ]
      refine wpAnyH_take (i := 9) (oi := ⟨some 49, _, _, _, _, _⟩) (v := undef) rfl (by kernel_rfl) (by kernel_rfl) (by kernel_rfl) (fun _ _ _ h => h) (Or.inr ⟨by kernel_rfl, rfl⟩) (by assumption) ?_
      simp only [Act.put, List.setIfInBounds_toArray, List.set_cons_zero, List.set_cons_succ]
      refine wpAnyH_take (i := 10) (oi := ⟨some 50, _, _, _, _, _⟩) (v := undef) rfl (by kernel_rfl) (by kernel_rfl) (by kernel_rfl) (fun _ _ _ h => h) (Or.inr ⟨by kernel_rfl, rfl⟩) (by assumption) ?_
      simp only [Act.put, List.setIfInBounds_toArray, List.set_cons_zero, List.set_cons_succ]
      refine wpAnyH_take (i := 11) (oi := ⟨some 51, _, _, _, _, _⟩) (v := undef) rfl (by kernel_rfl) (by kernel_rfl) (by kernel_rfl) (fun _ _ _ h => h) (Or.inr ⟨by kernel_rfl, rfl⟩) (by assumption) ?_
      simp only [Act.put, List.setIfInBounds_toArray, List.set_cons_zero, List.set_cons_succ]
      refine wpAnyH_take (i := 12) (oi := ⟨some 52, _, _, _, _, _⟩) (v := undef) rfl (by kernel_rfl) (by kernel_rfl) (by kernel_rfl) (fun _ _ _ h => h) (Or.inr ⟨by kernel_rfl, rfl⟩) (by assumption) ?_
      simp only [Act.put, List.setIfInBounds_toArray, List.set_cons_zero, List.set_cons_succ]
      refine wpAnyH_take (i := 13) (oi := ⟨some 53, _, _, _, _, _⟩) (v := undef) rfl (by kernel_rfl) (by kernel_rfl) (by kernel_rfl) (fun _ _ _ h => h) (Or.inr ⟨by kernel_rfl, rfl⟩) (by assumption) ?_
      simp only [Act.put, List.setIfInBounds_toArray, List.set_cons_zero, List.set_cons_succ]
      refine wpAnyH_take (i := 14) (oi := ⟨some 54, _, _, _, _, _⟩) (v := ?_) rfl (by kernel_rfl) (by kernel_rfl) (by kernel_rfl) (fun _ _ _ h => h) (Or.inl ⟨by kernel_rfl, ?_⟩) (by assumption) ?_; rotate_left; (focus (intro w hSw; (try dsimp only at hSw); go_simp; (try with_reducible rfl)))
      simp only [Act.put, List.setIfInBounds_toArray, List.set_cons_zero, List.set_cons_succ]
      refine wpAnyH_take (i := 15) (oi := ⟨some 4, _, _, _, _, _⟩) (v := ?_) rfl (by kernel_rfl) (by kernel_rfl) (by kernel_rfl) (fun _ _ _ h => h) (Or.inl ⟨by kernel_rfl, ?_⟩) (by assumption) ?_; rotate_left; (focus (intro w hSw; (try dsimp only at hSw); go_simp; (try with_reducible rfl)))
      simp only [Act.put, List.setIfInBounds_toArray, List.set_cons_zero, List.set_cons_succ]
      refine wpAnyH_done (by kernel_rfl) ?_ _
      exact NoPanic.normal ⟨rfl, rfl, by assumption⟩
    case hm =>
      intro w7 S7
      go_wp2
      go_ret
      exact ⟨rfl, S7.b⟩
  · have hk0 : 0 < k := by omega
    have hk1 : (0 : Int) < (k : Int) := by omega
    rw [decide_eq_true hk0, Bool.true_and]
    cases b
    · rw [Bool.false_or]
      obtain ⟨X0, X1, X2, X3⟩ := cells4 (X.out.at 0 rfl)
      go_enter Tryd.func12, Tryd.ntmps12
      go_upto_region 10 with (first | (go_at_call 18; refine (HH.out _).mono ?_; rintro e w9 ⟨rfl, hw⟩; obtain rfl := hw.symm) | (go_at_call 21; refine (HS.out _).mono ?_; rintro e w1 ⟨rfl, b1⟩; have X1 := Lib.hid (X.out.next b1); clear b1))
      have X2 := Lib.hid (X1.out.alloc (mb4 3 r 0 0))
      generalize w1.alloc (mb4 3 r 0 0) = w2 at *
      generalize w1.heap.size = g at *
      clear X X1 HS HH
      apply wp_some (S := fun W : World => Stay w [(g, mb4 3 r 0 0), (w.heap.size, mb4 3 c m x)] W)
      case h =>
        refine wp_region_noPanic ?_
        refine wp_region_held_drew (S := fun W : World => Stay w [(g, mb4 3 r 0 0), (w.heap.size, mb4 3 c m x)] W) (by kernel_rfl) (X2.out.drew) (fun hHeld => ?_)
        refine wpAnyH_take (i := 0) (oi := ⟨some 40, _, _, _, _, _⟩) (v := ?_) rfl (by kernel_rfl) (by kernel_rfl) (by kernel_rfl) (fun _ _ _ h => h) (Or.inl ⟨by kernel_rfl, ?_⟩) (by assumption) ?_; rotate_left; (focus (intro w hSw; (try dsimp only at hSw); go_simp; (try with_reducible rfl)))
        simp only [Act.put, List.setIfInBounds_toArray, List.set_cons_zero, List.set_cons_succ]
        refine wpAnyH_take (i := 1) (oi := ⟨some 41, _, _, _, _, _⟩) (v := ?_) rfl (by kernel_rfl) (by kernel_rfl) (by kernel_rfl) (fun _ _ _ h => h) (Or.inl ⟨by kernel_rfl, ?_⟩) (by assumption) ?_; rotate_left; (focus (intro w hSw; (try dsimp only at hSw); obtain ⟨x0, x1, x2, x3⟩ := cells4 (Stay.at hSw 1 rfl); obtain ⟨y0, y1, y2, y3⟩ := cells4 (Stay.at hSw 0 rfl); go_simp; (try with_reducible rfl)))
        simp only [Act.put, List.setIfInBounds_toArray, List.set_cons_zero, List.set_cons_succ]
        refine wpAnyH_ready (rs := [2]) (by kernel_rfl) (by simp) ?_
        refine AllReadyH.cons (o := ⟨some 42, _, _, _, _, _⟩) rfl (fun K hK => ?_) AllReadyH.nil
        rw [if_pos (by kernel_rfl)]
        go_simp
        refine (HC.out _).mono ?_
        rintro e w5 ⟨rfl, b5⟩
        have hSw := Stay.next (by assumption) b5
        clear b5
        go_simp
        refine hK.out _ _ (by assumption) (fun hHeld => ?_)
        clear hK K
        refine wpAnyH_take (i := 3) (oi := ⟨some 43, _, _, _, _, _⟩) (v := ?_) rfl (by kernel_rfl) (by kernel_rfl) (by kernel_rfl) (fun _ _ _ h => h) (Or.inl ⟨by kernel_rfl, ?_⟩) (by assumption) ?_; rotate_left; (focus (intro w hSw; (try dsimp only at hSw); go_simp; (try with_reducible rfl)))
        simp only [Act.put, List.setIfInBounds_toArray, List.set_cons_zero, List.set_cons_succ]
        refine wpAnyH_take (i := 4) (oi := ⟨some 44, _, _, _, _, _⟩) (v := ?_) rfl (by kernel_rfl) (by kernel_rfl) (by kernel_rfl) (fun _ _ _ h => h) (Or.inl ⟨by kernel_rfl, ?_⟩) (by assumption) ?_; rotate_left; (focus (intro w hSw; (try dsimp only at hSw); go_simp; (try with_reducible rfl)))
        simp only [Act.put, List.setIfInBounds_toArray, List.set_cons_zero, List.set_cons_succ]
        refine wpAnyH_take (i := 5) (oi := ⟨some 45, _, _, _, _, _⟩) (v := ?_) rfl (by kernel_rfl) (by kernel_rfl) (by kernel_rfl) (fun _ _ _ h => h) (Or.inl ⟨by kernel_rfl, ?_⟩) (by assumption) ?_; rotate_left; (focus (intro w hSw; (try dsimp only at hSw); obtain ⟨x0, x1, x2, x3⟩ := cells4 (Stay.at hSw 1 rfl); obtain ⟨y0, y1, y2, y3⟩ := cells4 (Stay.at hSw 0 rfl); go_simp; (try with_reducible rfl)))
        simp only [Act.put, List.setIfInBounds_toArray, List.set_cons_zero, List.set_cons_succ]
        refine wpAnyH_take (i := 6) (oi := ⟨some 46, _, _, _, _, _⟩) (v := ?_) rfl (by kernel_rfl) (by kernel_rfl) (by kernel_rfl) (fun _ _ _ h => h) (Or.inl ⟨by kernel_rfl, ?_⟩) (by assumption) ?_; rotate_left; (focus (intro w hSw; (try dsimp only at hSw); obtain ⟨x0, x1, x2, x3⟩ := cells4 (Stay.at hSw 1 rfl); obtain ⟨y0, y1, y2, y3⟩ := cells4 (Stay.at hSw 0 rfl); go_simp; (try with_reducible rfl)))
        simp only [Act.put, List.setIfInBounds_toArray, List.set_cons_zero, List.set_cons_succ]
        refine wpAnyH_take (i := 7) (oi := ⟨some 47, _, _, _, _, _⟩) (v := ?_) rfl (by kernel_rfl) (by kernel_rfl) (by kernel_rfl) (fun _ _ _ h => h) (Or.inl ⟨by kernel_rfl, ?_⟩) (by assumption) ?_; rotate_left; (focus (intro w hSw; (try dsimp only at hSw); go_simp; (try with_reducible rfl)))
        simp only [Act.put, List.setIfInBounds_toArray, List.set_cons_zero, List.set_cons_succ]
        refine wpAnyH_take (i := 8) (oi := ⟨some 48, _, _, _, _, _⟩) (v := ?_) rfl (by kernel_rfl) (by kernel_rfl) (by kernel_rfl) (fun _ _ _ h => h) (Or.inl ⟨by kernel_rfl, ?_⟩) (by assumption) ?_; rotate_left; (focus (intro w hSw; (try dsimp only at hSw); go_simp; (try with_reducible rfl)))
        simp only [Act.put, List.setIfInBounds_toArray, List.set_cons_zero, List.set_cons_succ]
        refine wpAnyH_take (i := 9) (oi := ⟨some 49, _, _, _, _, _⟩) (v := ?_) rfl (by kernel_rfl) (by kernel_rfl) (by kernel_rfl) (fun _ _ _ h => h) (Or.inl ⟨by kernel_rfl, ?_⟩) (by assumption) ?_; rotate_left; (focus (intro w hSw; (try dsimp only at hSw); obtain ⟨x0, x1, x2, x3⟩ := cells4 (Stay.at hSw 1 rfl); obtain ⟨y0, y1, y2, y3⟩ := cells4 (Stay.at hSw 0 rfl); go_simp; (try with_reducible rfl)))
        simp only [Act.put, List.setIfInBounds_toArray, List.set_cons_zero, List.set_cons_succ]
        refine wpAnyH_take (i := 10) (oi := ⟨some 50, _, _, _, _, _⟩) (v := ?_) rfl (by kernel_rfl) (by kernel_rfl) (by kernel_rfl) (fun _ _ _ h => h) (Or.inl ⟨by kernel_rfl, ?_⟩) (by assumption) ?_; rotate_left; (focus (intro w hSw; (try dsimp only at hSw); obtain ⟨x0, x1, x2, x3⟩ := cells4 (Stay.at hSw 1 rfl); obtain ⟨y0, y1, y2, y3⟩ := cells4 (Stay.at hSw 0 rfl); go_simp; (try with_reducible rfl)))
        simp only [Act.put, List.setIfInBounds_toArray, List.set_cons_zero, List.set_cons_succ]
        refine wpAnyH_ready (rs := [11]) (by kernel_rfl) (by simp) ?_
        refine AllReadyH.cons (o := ⟨some 51, _, _, _, _, _⟩) rfl (fun K hK => ?_) AllReadyH.nil
        rw [if_pos (by kernel_rfl)]
        go_simp
        refine (missed_any ⟨3, r, 0, 0⟩ _ rfl).mono ?_
        rintro e w6 ⟨rfl, b6⟩
        have hSw := Stay.next (by assumption) b6
        clear b6
        go_simp
        refine hK.out _ _ (by assumption) (fun hHeld => ?_)
        clear hK K
        refine wpAnyH_take (i := 12) (oi := ⟨some 52, _, _, _, _, _⟩) (v := ?_) rfl (by kernel_rfl) (by kernel_rfl) (by kernel_rfl) (fun _ _ _ h => h) (Or.inl ⟨by kernel_rfl, ?_⟩) (by assumption) ?_; rotate_left; (focus (intro w hSw; (try dsimp only at hSw); go_simp; (try with_reducible rfl)))
        simp only [Act.put, List.setIfInBounds_toArray, List.set_cons_zero, List.set_cons_succ]
        refine wpAnyH_take (i := 13) (oi := ⟨some 53, _, _, _, _, _⟩) (v := ?_) rfl (by kernel_rfl) (by kernel_rfl) (by kernel_rfl) (fun _ _ _ h => h) (Or.inl ⟨by kernel_rfl, ?_⟩) (by assumption) ?_; rotate_left; (focus (intro w hSw; (try dsimp only at hSw); go_simp; (try with_reducible rfl)))
        simp only [Act.put, List.setIfInBounds_toArray, List.set_cons_zero, List.set_cons_succ]
        refine wpAnyH_take (i := 14) (oi := ⟨some 54, _, _, _, _, _⟩) (v := ?_) rfl (by kernel_rfl) (by kernel_rfl) (by kernel_rfl) (fun _ _ _ h => h) (Or.inl ⟨by kernel_rfl, ?_⟩) (by assumption) ?_; rotate_left; (focus (intro w hSw; (try dsimp only at hSw); go_simp; (try with_reducible rfl)))
        simp only [Act.put, List.setIfInBounds_toArray, List.set_cons_zero, List.set_cons_succ]
        refine wpAnyH_take (i := 15) (oi := ⟨some 4, _, _, _, _, _⟩) (v := ?_) rfl (by kernel_rfl) (by kernel_rfl) (by kernel_rfl) (fun _ _ _ h => h) (Or.inl ⟨by kernel_rfl, ?_⟩) (by assumption) ?_; rotate_left; (focus (intro w hSw; (try dsimp only at hSw); go_simp; (try with_reducible rfl)))
        simp only [Act.put, List.setIfInBounds_toArray, List.set_cons_zero, List.set_cons_succ]
        refine wpAnyH_done (by kernel_rfl) ?_ _
        exact NoPanic.normal ⟨rfl, rfl, by assumption⟩
      case hm =>
        intro w7 S7
        go_wp2
        go_ret
        exact ⟨rfl, S7.b⟩
    · rw [Bool.true_or]
      obtain ⟨X0, X1, X2, X3⟩ := cells4 (X.out.at 0 rfl)
      go_enter Tryd.func12, Tryd.ntmps12
      go_upto_region 10 with (first | (go_at_call 18; refine (HH.out _).mono ?_; rintro e w9 ⟨rfl, hw⟩; obtain rfl := hw.symm) | (go_at_call 21; refine (HS.out _).mono ?_; rintro e w1 ⟨rfl, b1⟩; have X1 := Lib.hid (X.out.next b1); clear b1))
      have X2 := Lib.hid (X1.out.alloc (mb4 3 r 0 0))
      generalize w1.alloc (mb4 3 r 0 0) = w2 at *
      generalize w1.heap.size = g at *
      clear X X1 HS HH
      apply wp_some (S := fun W : World => Stay w [(g, mb4 3 r 0 0), (w.heap.size, mb4 3 c m x)] W)
      case h =>
        refine wp_region_noPanic ?_
        refine wp_region_held_drew (S := fun W : World => Stay w [(g, mb4 3 r 0 0), (w.heap.size, mb4 3 c m x)] W) (by kernel_rfl) (X2.out.drew) (fun hHeld => ?_)
        refine wpAnyH_take (i := 0) (oi := ⟨some 40, _, _, _, _, _⟩) (v := ?_) rfl (by kernel_rfl) (by kernel_rfl) (by kernel_rfl) (fun _ _ _ h => h) (Or.inl ⟨by kernel_rfl, ?_⟩) (by assumption) ?_; rotate_left; (focus (intro w hSw; (try dsimp only at hSw); go_simp; (try with_reducible rfl)))
        simp only [Act.put, List.setIfInBounds_toArray, List.set_cons_zero, List.set_cons_succ]
        refine wpAnyH_take (i := 1) (oi := ⟨some 41, _, _, _, _, _⟩) (v := ?_) rfl (by kernel_rfl) (by kernel_rfl) (by kernel_rfl) (fun _ _ _ h => h) (Or.inl ⟨by kernel_rfl, ?_⟩) (by assumption) ?_; rotate_left; (focus (intro w hSw; (try dsimp only at hSw); obtain ⟨x0, x1, x2, x3⟩ := cells4 (Stay.at hSw 1 rfl); obtain ⟨y0, y1, y2, y3⟩ := cells4 (Stay.at hSw 0 rfl); go_simp; (try with_reducible rfl)))
        simp only [Act.put, List.setIfInBounds_toArray, List.set_cons_zero, List.set_cons_succ]
        refine wpAnyH_ready (rs := [2]) (by kernel_rfl) (by simp) ?_
        refine AllReadyH.cons (o := ⟨some 42, _, _, _, _, _⟩) rfl (fun K hK => ?_) AllReadyH.nil
        rw [if_pos (by kernel_rfl)]
        go_simp
        refine (HC.out _).mono ?_
        rintro e w5 ⟨rfl, b5⟩
        have hSw := Stay.next (by assumption) b5
        clear b5
        go_simp
        refine hK.out _ _ (by assumption) (fun hHeld => ?_)
        clear hK K
        refine wpAnyH_take (i := 3) (oi := ⟨some 43, _, _, _, _, _⟩) (v := ?_) rfl (by kernel_rfl) (by kernel_rfl) (by kernel_rfl) (fun _ _ _ h => h) (Or.inl ⟨by kernel_rfl, ?_⟩) (by assumption) ?_; rotate_left; (focus (intro w hSw; (try dsimp only at hSw); go_simp; (try with_reducible rfl)))
        simp only [Act.put, List.setIfInBounds_toArray, List.set_cons_zero, List.set_cons_succ]
        refine wpAnyH_take (i := 4) (oi := ⟨some 44, _, _, _, _, _⟩) (v := ?_) rfl (by kernel_rfl) (by kernel_rfl) (by kernel_rfl) (fun _ _ _ h => h) (Or.inl ⟨by kernel_rfl, ?_⟩) (by assumption) ?_; rotate_left; (focus (intro w hSw; (try dsimp only at hSw); go_simp; (try with_reducible rfl)))
        simp only [Act.put, List.setIfInBounds_toArray, List.set_cons_zero, List.set_cons_succ]
        refine wpAnyH_take (i := 5) (oi := ⟨some 45, _, _, _, _, _⟩) (v := ?_) rfl (by kernel_rfl) (by kernel_rfl) (by kernel_rfl) (fun _ _ _ h => h) (Or.inl ⟨by kernel_rfl, ?_⟩) (by assumption) ?_; rotate_left; (focus (intro w hSw; (try dsimp only at hSw); obtain ⟨x0, x1, x2, x3⟩ := cells4 (Stay.at hSw 1 rfl); obtain ⟨y0, y1, y2, y3⟩ := cells4 (Stay.at hSw 0 rfl); go_simp; (try with_reducible rfl)))
        simp only [Act.put, List.setIfInBounds_toArray, List.set_cons_zero, List.set_cons_succ]
        refine wpAnyH_take (i := 6) (oi := ⟨some 46, _, _, _, _, _⟩) (v := ?_) rfl (by kernel_rfl) (by kernel_rfl) (by kernel_rfl) (fun _ _ _ h => h) (Or.inl ⟨by kernel_rfl, ?_⟩) (by assumption) ?_; rotate_left; (focus (intro w hSw; (try dsimp only at hSw); obtain ⟨x0, x1, x2, x3⟩ := cells4 (Stay.at hSw 1 rfl); obtain ⟨y0, y1, y2, y3⟩ := cells4 (Stay.at hSw 0 rfl); go_simp; (try with_reducible rfl)))
        simp only [Act.put, List.setIfInBounds_toArray, List.set_cons_zero, List.set_cons_succ]
        refine wpAnyH_take (i := 7) (oi := ⟨some 47, _, _, _, _, _⟩) (v := ?_) rfl (by kernel_rfl) (by kernel_rfl) (by kernel_rfl) (fun _ _ _ h => h) (Or.inl ⟨by kernel_rfl, ?_⟩) (by assumption) ?_; rotate_left; (focus (intro w hSw; (try dsimp only at hSw); go_simp; (try with_reducible rfl)))
        simp only [Act.put, List.setIfInBounds_toArray, List.set_cons_zero, List.set_cons_succ]
        refine wpAnyH_take (i := 8) (oi := ⟨some 48, _, _, _, _, _⟩) (v := ?_) rfl (by kernel_rfl) (by kernel_rfl) (by kernel_rfl) (fun _ _ _ h => h) (Or.inl ⟨by kernel_rfl, ?_⟩) (by assumption) ?_; rotate_left; (focus (intro w hSw; (try dsimp only at hSw); go_simp; (try with_reducible rfl)))
        simp only [Act.put, List.setIfInBounds_toArray, List.set_cons_zero, List.set_cons_succ]
        refine wpAnyH_take (i := 9) (oi := ⟨some 49, _, _, _, _, _⟩) (v := undef) rfl (by kernel_rfl) (by kernel_rfl) (by kernel_rfl) (fun _ _ _ h => h) (Or.inr ⟨by kernel_rfl, rfl⟩) (by assumption) ?_
        simp only [Act.put, List.setIfInBounds_toArray, List.set_cons_zero, List.set_cons_succ]
        refine wpAnyH_take (i := 10) (oi := ⟨some 50, _, _, _, _, _⟩) (v := undef) rfl (by kernel_rfl) (by kernel_rfl) (by kernel_rfl) (fun _ _ _ h => h) (Or.inr ⟨by kernel_rfl, rfl⟩) (by assumption) ?_
        simp only [Act.put, List.setIfInBounds_toArray, List.set_cons_zero, List.set_cons_succ]
        refine wpAnyH_take (i := 11) (oi := ⟨some 51, _, _, _, _, _⟩) (v := undef) rfl (by kernel_rfl) (by kernel_rfl) (by kernel_rfl) (fun _ _ _ h => h) (Or.inr ⟨by kernel_rfl, rfl⟩) (by assumption) ?_
        simp only [Act.put, List.setIfInBounds_toArray, List.set_cons_zero, List.set_cons_succ]
        refine wpAnyH_take (i := 12) (oi := ⟨some 52, _, _, _, _, _⟩) (v := undef) rfl (by kernel_rfl) (by kernel_rfl) (by kernel_rfl) (fun _ _ _ h => h) (Or.inr ⟨by kernel_rfl, rfl⟩) (by assumption) ?_
        simp only [Act.put, List.setIfInBounds_toArray, List.set_cons_zero, List.set_cons_succ]
        refine wpAnyH_take (i := 13) (oi := ⟨some 53, _, _, _, _, _⟩) (v := ?_) rfl (by kernel_rfl) (by kernel_rfl) (by kernel_rfl) (fun _ _ _ h => h) (Or.inl ⟨by kernel_rfl, ?_⟩) (by assumption) ?_; rotate_left; (focus (intro w hSw; (try dsimp only at hSw); go_simp; (try with_reducible rfl)))
        simp only [Act.put, List.setIfInBounds_toArray, List.set_cons_zero, List.set_cons_succ]
        refine wpAnyH_take (i := 14) (oi := ⟨some 54, _, _, _, _, _⟩) (v := ?_) rfl (by kernel_rfl) (by kernel_rfl) (by kernel_rfl) (fun _ _ _ h => h) (Or.inl ⟨by kernel_rfl, ?_⟩) (by assumption) ?_; rotate_left; (focus (intro w hSw; (try dsimp only at hSw); go_simp; (try with_reducible rfl)))
        simp only [Act.put, List.setIfInBounds_toArray, List.set_cons_zero, List.set_cons_succ]
        refine wpAnyH_take (i := 15) (oi := ⟨some 4, _, _, _, _, _⟩) (v := ?_) rfl (by kernel_rfl) (by kernel_rfl) (by kernel_rfl) (fun _ _ _ h => h) (Or.inl ⟨by kernel_rfl, ?_⟩) (by assumption) ?_; rotate_left; (focus (intro w hSw; (try dsimp only at hSw); go_simp; (try with_reducible rfl)))
        simp only [Act.put, List.setIfInBounds_toArray, List.set_cons_zero, List.set_cons_succ]
        refine wpAnyH_done (by kernel_rfl) ?_ _
        exact NoPanic.normal ⟨rfl, rfl, by assumption⟩
      case hm =>
        intro w7 S7
        go_wp2
        go_ret
        exact ⟨rfl, S7.b⟩
theorem may_any (h : Int) (a : Mc) (w : World) (hc : a.c < 4294967296) : Calls Tryd.prog 12 #[.int .i64 h, mv a] w fun e w' => e = .returned (.bool (may h a)) ∧ Below w.heap.size w w' := by
  obtain ⟨s, c, m, x⟩ := a
  cases hh : hostB h
  · rw [may_no _ hh]
    exact mayNo_any h s c m x w hh
  · by_cases h1 : s = 1
    · subst h1
      exact mayOff_any h c m x w hh
    · by_cases h2 : s = 2
      · subst h2
        exact mayLis_any h c m x w hh
      · by_cases h3 : s = 3
        · subst h3
          exact maySyn_any h c m x w hc hh
        · rw [may_else s c m x h1 h2 h3]
          exact mayElse_any h s c m x w h1 h2 h3 hh
set_option maxHeartbeats 1000000 in
theorem refMayNo_any (h s : Int) (c : Nat) (m x : Int) (w : World) (hh : hostB h = false) : Calls Tryd.prog 19 #[.int .i64 h, mv4 s c m x] w fun e w' => e = .returned (.bool false) ∧ Below w.heap.size w w' := by
  by_cases h0 : h < 0
  · go_enter Tryd.func19, Tryd.ntmps19
    go_wp2
    go_ret
    exact ⟨rfl, al (Below.refl _ _) _⟩
  · have h5 : 5 < h := by
      rw [← Bool.not_eq_true, hostB_iff] at hh
      omega
    go_enter Tryd.func19, Tryd.ntmps19
    go_wp2
    go_ret
    exact ⟨rfl, al (Below.refl _ _) _⟩
set_option maxHeartbeats 1000000 in
theorem refMayOff_any (h : Int) (c : Nat) (m x : Int) (w : World) (hh : hostB h = true) : Calls Tryd.prog 19 #[.int .i64 h, mv4 1 c m x] w fun e w' => e = .returned (.bool (may h ⟨1, c, m, x⟩)) ∧ Below w.heap.size w w' := by
  have e : may h ⟨1, c, m, x⟩ = (decide (c = 0) && (decide (m = 0) && decide (x = 0))) := by
    unfold may offB lisB synB
    rw [hh, Bool.true_and, Bool.eq_iff_iff]
    simp
    try omega
  rw [e]
  clear e
  have hi := hostB_iff.1 hh
  have h0 : 0 ≤ h := hi.1
  have h5 : h ≤ 5 := by omega
  clear hi hh
  by_cases k3 : c = 0
  · rw [decide_eq_true k3, Bool.true_and]
    have f3 : ((c : Int) == 0) = true := by first | simpa using k3 | (have := k3; simp; omega)
    by_cases k2 : m = 0
    · rw [decide_eq_true k2, Bool.true_and]
      have f2 : (m == 0) = true := by first | simpa using k2 | (have := k2; simp; omega)
      by_cases k1 : x = 0
      · rw [decide_eq_true k1]
        have f1 : (x == 0) = true := by first | simpa using k1 | (have := k1; simp; omega)
        go_enter Tryd.func19, Tryd.ntmps19
        go_wp2
        go_ret
        exact ⟨rfl, al (Below.refl _ _) _⟩
      · rw [decide_eq_false k1]
        have f1 : (x == 0) = false := by first | simpa using k1 | (have := k1; simp; omega)
        go_enter Tryd.func19, Tryd.ntmps19
        go_wp2
        go_ret
        exact ⟨rfl, al (Below.refl _ _) _⟩
    · rw [decide_eq_false k2, Bool.false_and]
      have f2 : (m == 0) = false := by first | simpa using k2 | (have := k2; simp; omega)
      go_enter Tryd.func19, Tryd.ntmps19
      go_wp2
      go_ret
      exact ⟨rfl, al (Below.refl _ _) _⟩
  · rw [decide_eq_false k3, Bool.false_and]
    have f3 : ((c : Int) == 0) = false := by first | simpa using k3 | (have := k3; simp; omega)
    go_enter Tryd.func19, Tryd.ntmps19
    go_wp2
    go_ret
    exact ⟨rfl, al (Below.refl _ _) _⟩
set_option maxHeartbeats 1000000 in
theorem refMayLis_any (h : Int) (c : Nat) (m x : Int) (w : World) (hh : hostB h = true) : Calls Tryd.prog 19 #[.int .i64 h, mv4 2 c m x] w fun e w' => e = .returned (.bool (may h ⟨2, c, m, x⟩)) ∧ Below w.heap.size w w' := by
  have e : may h ⟨2, c, m, x⟩ = (decide (c = 0) && (decide (m = 0) && (decide (0 ≤ x) && decide (x ≤ h + 1)))) := by
    unfold may offB lisB synB
    rw [hh, Bool.true_and, Bool.eq_iff_iff]
    simp
    try omega
  rw [e]
  clear e
  have hi := hostB_iff.1 hh
  have h0 : 0 ≤ h := hi.1
  have h5 : h ≤ 5 := by omega
  clear hi hh
  have hr : IntKind.i64.wrap (h + 1) = h + 1 := by rw [IntKind.wrap_i64]; omega
  by_cases k4 : c = 0
  · rw [decide_eq_true k4, Bool.true_and]
    have f4 : ((c : Int) == 0) = true := by first | simpa using k4 | (have := k4; simp; omega)
    by_cases k3 : m = 0
    · rw [decide_eq_true k3, Bool.true_and]
      have f3 : (m == 0) = true := by first | simpa using k3 | (have := k3; simp; omega)
      by_cases k2 : 0 ≤ x
      · rw [decide_eq_true k2, Bool.true_and]
        have f2 : (decide ((0 : Int) ≤ x)) = true := by first | simpa using k2 | (have := k2; simp; omega)
        by_cases k1 : x ≤ h + 1
        · rw [decide_eq_true k1]
          have f1 : (decide (x ≤ h + 1)) = true := by first | simpa using k1 | (have := k1; simp; omega)
          go_enter Tryd.func19, Tryd.ntmps19
          go_wp2
          go_ret
          exact ⟨rfl, al (Below.refl _ _) _⟩
        · rw [decide_eq_false k1]
          have f1 : (decide (x ≤ h + 1)) = false := by first | simpa using k1 | (have := k1; simp; omega)
          go_enter Tryd.func19, Tryd.ntmps19
          go_wp2
          go_ret
          exact ⟨rfl, al (Below.refl _ _) _⟩
      · rw [decide_eq_false k2, Bool.false_and]
        have f2 : (decide ((0 : Int) ≤ x)) = false := by first | simpa using k2 | (have := k2; simp; omega)
        go_enter Tryd.func19, Tryd.ntmps19
        go_wp2
        go_ret
        exact ⟨rfl, al (Below.refl _ _) _⟩
    · rw [decide_eq_false k3, Bool.false_and]
      have f3 : (m == 0) = false := by first | simpa using k3 | (have := k3; simp; omega)
      go_enter Tryd.func19, Tryd.ntmps19
      go_wp2
      go_ret
      exact ⟨rfl, al (Below.refl _ _) _⟩
  · rw [decide_eq_false k4, Bool.false_and]
    have f4 : ((c : Int) == 0) = false := by first | simpa using k4 | (have := k4; simp; omega)
    go_enter Tryd.func19, Tryd.ntmps19
    go_wp2
    go_ret
    exact ⟨rfl, al (Below.refl _ _) _⟩
set_option maxHeartbeats 1000000 in
theorem refMaySyn_any (h : Int) (c : Nat) (m x : Int) (w : World) (hh : hostB h = true) : Calls Tryd.prog 19 #[.int .i64 h, mv4 3 c m x] w fun e w' => e = .returned (.bool (may h ⟨3, c, m, x⟩)) ∧ Below w.heap.size w w' := by
  have e : may h ⟨3, c, m, x⟩ = (decide (0 < c) && (decide (c < 64) && (decide (x = 0) && (decide (0 ≤ m) && decide (m ≤ 1))))) := by
    unfold may offB lisB synB
    rw [hh, Bool.true_and, Bool.eq_iff_iff]
    simp
    try omega
  rw [e]
  clear e
  have hi := hostB_iff.1 hh
  have h0 : 0 ≤ h := hi.1
  have h5 : h ≤ 5 := by omega
  clear hi hh
  by_cases k5 : 0 < c
  · rw [decide_eq_true k5, Bool.true_and]
    have f5 : (decide ((0 : Int) < (c : Int))) = true := by first | simpa using k5 | (have := k5; simp; omega)
    by_cases k4 : c < 64
    · rw [decide_eq_true k4, Bool.true_and]
      have f4 : (decide ((c : Int) < 64)) = true := by first | simpa using k4 | (have := k4; simp; omega)
      by_cases k3 : x = 0
      · rw [decide_eq_true k3, Bool.true_and]
        have f3 : (x == 0) = true := by first | simpa using k3 | (have := k3; simp; omega)
        by_cases k2 : 0 ≤ m
        · rw [decide_eq_true k2, Bool.true_and]
          have f2 : (decide ((0 : Int) ≤ m)) = true := by first | simpa using k2 | (have := k2; simp; omega)
          by_cases k1 : m ≤ 1
          · rw [decide_eq_true k1]
            have f1 : (decide (m ≤ (1 : Int))) = true := by first | simpa using k1 | (have := k1; simp; omega)
            go_enter Tryd.func19, Tryd.ntmps19
            go_wp2
            go_ret
            exact ⟨rfl, al (Below.refl _ _) _⟩
          · rw [decide_eq_false k1]
            have f1 : (decide (m ≤ (1 : Int))) = false := by first | simpa using k1 | (have := k1; simp; omega)
            go_enter Tryd.func19, Tryd.ntmps19
            go_wp2
            go_ret
            exact ⟨rfl, al (Below.refl _ _) _⟩
        · rw [decide_eq_false k2, Bool.false_and]
          have f2 : (decide ((0 : Int) ≤ m)) = false := by first | simpa using k2 | (have := k2; simp; omega)
          go_enter Tryd.func19, Tryd.ntmps19
          go_wp2
          go_ret
          exact ⟨rfl, al (Below.refl _ _) _⟩
      · rw [decide_eq_false k3, Bool.false_and]
        have f3 : (x == 0) = false := by first | simpa using k3 | (have := k3; simp; omega)
        go_enter Tryd.func19, Tryd.ntmps19
        go_wp2
        go_ret
        exact ⟨rfl, al (Below.refl _ _) _⟩
    · rw [decide_eq_false k4, Bool.false_and]
      have f4 : (decide ((c : Int) < 64)) = false := by first | simpa using k4 | (have := k4; simp; omega)
      go_enter Tryd.func19, Tryd.ntmps19
      go_wp2
      go_ret
      exact ⟨rfl, al (Below.refl _ _) _⟩
  · rw [decide_eq_false k5, Bool.false_and]
    have f5 : (decide ((0 : Int) < (c : Int))) = false := by first | simpa using k5 | (have := k5; simp; omega)
    go_enter Tryd.func19, Tryd.ntmps19
    go_wp2
    go_ret
    exact ⟨rfl, al (Below.refl _ _) _⟩
set_option maxHeartbeats 1000000 in
theorem refMayElse_any (h s : Int) (c : Nat) (m x : Int) (w : World) (h1 : s ≠ 1) (h2 : s ≠ 2) (h3 : s ≠ 3) (hh : hostB h = true) : Calls Tryd.prog 19 #[.int .i64 h, mv4 s c m x] w fun e w' => e = .returned (.bool false) ∧ Below w.heap.size w w' := by
  have e1 : (s == 1) = false := by rw [beq_eq_false_iff_ne]; exact h1
  have e2 : (s == 2) = false := by rw [beq_eq_false_iff_ne]; exact h2
  have e3 : (s == 3) = false := by rw [beq_eq_false_iff_ne]; exact h3
  clear h1 h2 h3
  have hi := hostB_iff.1 hh
  have h0 : 0 ≤ h := hi.1
  have h5 : h ≤ 5 := by omega
  clear hi hh
  go_enter Tryd.func19, Tryd.ntmps19
  go_wp2
  go_ret
  exact ⟨rfl, al (Below.refl _ _) _⟩
theorem refMay_any (h : Int) (a : Mc) (w : World) : Calls Tryd.prog 19 #[.int .i64 h, mv a] w fun e w' => e = .returned (.bool (may h a)) ∧ Below w.heap.size w w' := by
  obtain ⟨s, c, m, x⟩ := a
  cases hh : hostB h
  · rw [may_no _ hh]
    exact refMayNo_any h s c m x w hh
  · by_cases h1 : s = 1
    · subst h1
      exact refMayOff_any h c m x w hh
    · by_cases h2 : s = 2
      · subst h2
        exact refMayLis_any h c m x w hh
      · by_cases h3 : s = 3
        · subst h3
          exact refMaySyn_any h c m x w hh
        · rw [may_else s c m x h1 h2 h3]
          exact refMayElse_any h s c m x w h1 h2 h3 hh
end Go.Proofs.YtigehmlfdbejaaaDoor.MachW
