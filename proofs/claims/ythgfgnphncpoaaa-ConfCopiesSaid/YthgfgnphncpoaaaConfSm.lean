/- The document's own Same. -/
import Derived.Test.YthgfgnphncpoaaaConfT
namespace Go.Proofs.Ythgfgnphncpoaaa.ConfW
open Go.RowKit Shell
theorem eqC_iff {a b : Cfg} : eqC a b = true ↔ a.hosts = b.hosts ∧ a.cycle = b.cycle ∧ a.delay = b.delay ∧ a.window = b.window ∧ a.precision = b.precision ∧ a.delays = b.delays ∧ a.entries = b.entries ∧ a.links = b.links ∧ a.queue = b.queue := by
  unfold eqC
  simp only [Bool.and_eq_true, decide_eq_true_eq]
theorem eqC_false {a b : Cfg} (h : ¬ (a.hosts = b.hosts ∧ a.cycle = b.cycle ∧ a.delay = b.delay ∧ a.window = b.window ∧ a.precision = b.precision ∧ a.delays = b.delays ∧ a.entries = b.entries ∧ a.links = b.links ∧ a.queue = b.queue)) : eqC a b = false := by
  rw [← Bool.not_eq_true, eqC_iff]
  exact h
set_option maxHeartbeats 16000000 in
set_option maxRecDepth 100000 in
theorem same_any (c : Cfg) (D E L : Option Addr) (nd cd ne ce nl cl : Nat) (d : Cfg) (D2 E2 L2 : Option Addr) (nd2 cd2 ne2 ce2 nl2 cl2 : Nat) (w : World) (h : CM w c D E L nd cd ne ce nl cl) (g : CM w d D2 E2 L2 nd2 cd2 ne2 ce2 nl2 cl2) : Calls Try.prog 6 #[.agg #[.int .i64 c.hosts, .int .i64 c.cycle, .int .i64 c.delay, .int .i64 c.window, .int .i64 c.precision, .slice D nd cd, .slice E ne ce, .slice L nl cl, .int .i64 c.queue], .agg #[.int .i64 d.hosts, .int .i64 d.cycle, .int .i64 d.delay, .int .i64 d.window, .int .i64 d.precision, .slice D2 nd2 cd2, .slice E2 ne2 ce2, .slice L2 nl2 cl2, .int .i64 d.queue]] w fun r w' => r = .returned (.bool (eqC c d)) ∧ Below w.heap.size w w' := by
  have HM := Lib.hid h
  have HG := Lib.hid g
  have m1 : nd ≤ 9223372036854775807 := h.mD
  have m2 : ne ≤ 9223372036854775807 := h.mE
  have m3 : nl ≤ 9223372036854775807 := h.mL
  clear h g
  generalize hq : eqC c d = q
  have HQ := Lib.hid (show q = eqC c d from hq.symm)
  clear hq
  have X := Lib.hid (QX.start (w0 := w) (c := c) (D := D) (E := E) (L := L) (nd := nd) (cd := cd) (ne := ne) (ce := ce) (nl := nl) (cl := cl) (d := d) (D2 := D2) (E2 := E2) (L2 := L2) (nd2 := nd2) (cd2 := cd2) (ne2 := ne2) (ce2 := ce2) (nl2 := nl2) (cl2 := cl2))
  by_cases f_hosts : c.hosts = d.hosts
  case neg =>
    have e0 : (c.hosts != d.hosts) = true := by rw [bne_iff_ne]; exact f_hosts
    have HQ2 := Lib.hid (show q = false by rw [HQ.out, eqC_false (fun h => f_hosts (by simp only [h]))])
    clear f_hosts
    go_enter Try.func6, Try.ntmps6
    go_wp2
    go_ret
    exact ⟨by rw [HQ2.out]; rfl, X.out.b0⟩
  have e_hosts : (c.hosts != d.hosts) = false := by rw [bne_eq_false_iff_eq]; exact f_hosts
  have H_hosts := Lib.hid f_hosts
  clear f_hosts
  by_cases f_cycle : c.cycle = d.cycle
  case neg =>
    have e0 : (c.cycle != d.cycle) = true := by rw [bne_iff_ne]; exact f_cycle
    have HQ2 := Lib.hid (show q = false by rw [HQ.out, eqC_false (fun h => f_cycle (by simp only [h]))])
    clear f_cycle
    go_enter Try.func6, Try.ntmps6
    go_wp2
    go_ret
    exact ⟨by rw [HQ2.out]; rfl, X.out.b0⟩
  have e_cycle : (c.cycle != d.cycle) = false := by rw [bne_eq_false_iff_eq]; exact f_cycle
  have H_cycle := Lib.hid f_cycle
  clear f_cycle
  by_cases f_delay : c.delay = d.delay
  case neg =>
    have e0 : (c.delay != d.delay) = true := by rw [bne_iff_ne]; exact f_delay
    have HQ2 := Lib.hid (show q = false by rw [HQ.out, eqC_false (fun h => f_delay (by simp only [h]))])
    clear f_delay
    go_enter Try.func6, Try.ntmps6
    go_wp2
    go_ret
    exact ⟨by rw [HQ2.out]; rfl, X.out.b0⟩
  have e_delay : (c.delay != d.delay) = false := by rw [bne_eq_false_iff_eq]; exact f_delay
  have H_delay := Lib.hid f_delay
  clear f_delay
  by_cases f_window : c.window = d.window
  case neg =>
    have e0 : (c.window != d.window) = true := by rw [bne_iff_ne]; exact f_window
    have HQ2 := Lib.hid (show q = false by rw [HQ.out, eqC_false (fun h => f_window (by simp only [h]))])
    clear f_window
    go_enter Try.func6, Try.ntmps6
    go_wp2
    go_ret
    exact ⟨by rw [HQ2.out]; rfl, X.out.b0⟩
  have e_window : (c.window != d.window) = false := by rw [bne_eq_false_iff_eq]; exact f_window
  have H_window := Lib.hid f_window
  clear f_window
  by_cases f_precision : c.precision = d.precision
  case neg =>
    have e0 : (c.precision != d.precision) = true := by rw [bne_iff_ne]; exact f_precision
    have HQ2 := Lib.hid (show q = false by rw [HQ.out, eqC_false (fun h => f_precision (by simp only [h]))])
    clear f_precision
    go_enter Try.func6, Try.ntmps6
    go_wp2
    go_ret
    exact ⟨by rw [HQ2.out]; rfl, X.out.b0⟩
  have e_precision : (c.precision != d.precision) = false := by rw [bne_eq_false_iff_eq]; exact f_precision
  have H_precision := Lib.hid f_precision
  clear f_precision
  by_cases f_queue : c.queue = d.queue
  case neg =>
    have e0 : (c.queue != d.queue) = true := by rw [bne_iff_ne]; exact f_queue
    have HQ2 := Lib.hid (show q = false by rw [HQ.out, eqC_false (fun h => f_queue (by simp only [h]))])
    clear f_queue
    go_enter Try.func6, Try.ntmps6
    go_wp2
    go_ret
    exact ⟨by rw [HQ2.out]; rfl, X.out.b0⟩
  have e_queue : (c.queue != d.queue) = false := by rw [bne_eq_false_iff_eq]; exact f_queue
  have H_queue := Lib.hid f_queue
  clear f_queue
  by_cases f_delays : nd = nd2
  case neg =>
    have e0 : ((nd : Int) != (nd2 : Int)) = true := by rw [bne_iff_ne]; omega
    have HQ2 := Lib.hid (show q = false by
      rw [HQ.out, eqC_false (fun h => f_delays (by rw [HM.out.nD, HG.out.nD]; simp only [h]))])
    clear f_delays
    go_enter Try.func6, Try.ntmps6
    go_wp2
    go_ret
    exact ⟨by rw [HQ2.out]; rfl, X.out.b0⟩
  have e_delays : ((nd : Int) != (nd2 : Int)) = false := by rw [bne_eq_false_iff_eq]; omega
  have H_delays := Lib.hid f_delays
  clear f_delays
  by_cases f_entries : ne = ne2
  case neg =>
    have e0 : ((ne : Int) != (ne2 : Int)) = true := by rw [bne_iff_ne]; omega
    have HQ2 := Lib.hid (show q = false by
      rw [HQ.out, eqC_false (fun h => f_entries (by rw [HM.out.nE, HG.out.nE]; simp only [h]))])
    clear f_entries
    go_enter Try.func6, Try.ntmps6
    go_wp2
    go_ret
    exact ⟨by rw [HQ2.out]; rfl, X.out.b0⟩
  have e_entries : ((ne : Int) != (ne2 : Int)) = false := by rw [bne_eq_false_iff_eq]; omega
  have H_entries := Lib.hid f_entries
  clear f_entries
  by_cases f_links : nl = nl2
  case neg =>
    have e0 : ((nl : Int) != (nl2 : Int)) = true := by rw [bne_iff_ne]; omega
    have HQ2 := Lib.hid (show q = false by
      rw [HQ.out, eqC_false (fun h => f_links (by rw [HM.out.nL, HG.out.nL]; simp only [h]))])
    clear f_links
    go_enter Try.func6, Try.ntmps6
    go_wp2
    go_ret
    exact ⟨by rw [HQ2.out]; rfl, X.out.b0⟩
  have e_links : ((nl : Int) != (nl2 : Int)) = false := by rw [bne_eq_false_iff_eq]; omega
  have H_links := Lib.hid f_links
  clear f_links
  go_enter Try.func6, Try.ntmps6
  go_wp2
  go_loopw [5] (fun iv wr => ∃ (n : Nat), n ≤ nd ∧ iv = .int .i64 n ∧ Hid (QX w c D E L nd cd ne ce nl cl d D2 E2 L2 nd2 cd2 ne2 ce2 nl2 cl2 wr) ∧ Hid (∀ (j : Nat) u v, j < n → c.delays[j]? = some u → d.delays[j]? = some v → u = v)) (fun iv _ => nd - (intOf iv).toNat)
  case atStart => exact ⟨0, Nat.zero_le _, rfl, X, Lib.hid (by intros; omega)⟩
  case round =>
    clear X
    obtain ⟨n, hk, rfl, X, HI⟩ := hrel
    obtain ⟨-, a0, a1, a2, a3, a4, a5, a6, a7, a8, b0, b1, b2, b3, b4, b5, b6, b7, b8⟩ := X.out.s
    by_cases hlt : (n : Int) < (nd : Int)
    · have hltb : (n : Int) < (nd2 : Int) := by have := H_delays.out; omega
      obtain ⟨x, hx⟩ : ∃ x, c.delays[n]? = some x := ⟨_, List.getElem?_eq_getElem (by rw [← HM.out.nD]; omega)⟩
      obtain ⟨y, hy⟩ : ∃ y, d.delays[n]? = some y := ⟨_, List.getElem?_eq_getElem (by rw [← HG.out.nD, ← H_delays.out]; omega)⟩
      obtain ⟨p1, A1, k1, rfl, s1, r1, t1, -⟩ := (HM.out.hd.below X.out.b0) n x hx
      obtain ⟨p2, A2, k2, rfl, s2, r2, t2, -⟩ := (HG.out.hd.below X.out.b0) n y hy
      have HX := Lib.hid hx
      have HY := Lib.hid hy
      have R1 := Lib.hid r1
      have R2 := Lib.hid r2
      have T1 := Lib.hid (show x.length ≤ 9223372036854775807 from t1)
      clear hx hy r1 r2 t1 t2
      generalize hlx : x.length = lx at *
      generalize hly : y.length = ly at *
      have HLX := Lib.hid hlx
      have HLY := Lib.hid hly
      clear hlx hly
      by_cases hl : lx = ly
      case neg =>
        have e0 : ((lx : Int) != (ly : Int)) = true := by rw [bne_iff_ne]; omega
        have HQ2 := Lib.hid (show q = false by
          rw [HQ.out]
          refine eqC_false (fun h => ?_)
          have h6 := h.2.2.2.2.2.1
          rw [← h6, HX.out] at HY
          have h7 := HY.out
          cases h7
          exact hl (HLX.out.symm.trans HLY.out))
        clear hl
        have XD := Lib.hid (X.out.next (Below.refl _ _).drew).s
        go_wp2_with fail
        refine wp_region_held_drew (S := fun W : World => Hid (QX w c (some p1) E L nd cd ne ce nl cl d (some p2) E2 L2 nd2 cd2 ne2 ce2 nl2 cl2 W) ∧ W.cell? ⟨w.heap.size, 0, none⟩ = some (.int .i64 c.hosts) ∧ W.cell? ⟨w.heap.size, 1, none⟩ = some (.int .i64 c.cycle) ∧ W.cell? ⟨w.heap.size, 2, none⟩ = some (.int .i64 c.delay) ∧ W.cell? ⟨w.heap.size, 3, none⟩ = some (.int .i64 c.window) ∧ W.cell? ⟨w.heap.size, 4, none⟩ = some (.int .i64 c.precision) ∧ W.cell? ⟨w.heap.size, 5, none⟩ = some (.slice (some p1) nd cd) ∧ W.cell? ⟨w.heap.size, 6, none⟩ = some (.slice E ne ce) ∧ W.cell? ⟨w.heap.size, 7, none⟩ = some (.slice L nl cl) ∧ W.cell? ⟨w.heap.size, 8, none⟩ = some (.int .i64 c.queue) ∧ W.cell? ⟨w.heap.size + 1, 0, none⟩ = some (.int .i64 d.hosts) ∧ W.cell? ⟨w.heap.size + 1, 1, none⟩ = some (.int .i64 d.cycle) ∧ W.cell? ⟨w.heap.size + 1, 2, none⟩ = some (.int .i64 d.delay) ∧ W.cell? ⟨w.heap.size + 1, 3, none⟩ = some (.int .i64 d.window) ∧ W.cell? ⟨w.heap.size + 1, 4, none⟩ = some (.int .i64 d.precision) ∧ W.cell? ⟨w.heap.size + 1, 5, none⟩ = some (.slice (some p2) nd2 cd2) ∧ W.cell? ⟨w.heap.size + 1, 6, none⟩ = some (.slice E2 ne2 ce2) ∧ W.cell? ⟨w.heap.size + 1, 7, none⟩ = some (.slice L2 nl2 cl2) ∧ W.cell? ⟨w.heap.size + 1, 8, none⟩ = some (.int .i64 d.queue) ∧ W.cell? (p1.add n) = some (.slice A1 lx k1) ∧ W.cell? (p2.add n) = some (.slice A2 ly k2)) (by kernel_rfl) (⟨XD.out.1, a0, a1, a2, a3, a4, a5, a6, a7, a8, b0, b1, b2, b3, b4, b5, b6, b7, b8, s1, s2⟩) (fun hHeld => ?_)
        refine wpAnyH_take (i := 0) (oi := ⟨(some 83), _, _, _, _, _⟩) (v := ?_) rfl (by kernel_rfl) (by kernel_rfl) (by kernel_rfl) (fun _ _ _ h => h) (Or.inl ⟨by kernel_rfl, ?_⟩) (by assumption) ?_; rotate_left; (focus (intro w hSw; (try dsimp only at hSw); go_simp; (try with_reducible rfl)))
        simp only [Act.put, List.setIfInBounds_toArray, List.set_cons_zero, List.set_cons_succ]
        refine wpAnyH_take (i := 1) (oi := ⟨(some 84), _, _, _, _, _⟩) (v := ?_) rfl (by kernel_rfl) (by kernel_rfl) (by kernel_rfl) (fun _ _ _ h => h) (Or.inl ⟨by kernel_rfl, ?_⟩) (by assumption) ?_; rotate_left; (focus (intro w hSw; (try dsimp only at hSw); go_simp; (try with_reducible rfl)))
        simp only [Act.put, List.setIfInBounds_toArray, List.set_cons_zero, List.set_cons_succ]
        refine wpAnyH_take (i := 2) (oi := ⟨(some 85), _, _, _, _, _⟩) (v := ?_) rfl (by kernel_rfl) (by kernel_rfl) (by kernel_rfl) (fun _ _ _ h => h) (Or.inl ⟨by kernel_rfl, ?_⟩) (by assumption) ?_; rotate_left; (focus (intro w hSw; (try dsimp only at hSw); go_simp; (try with_reducible rfl)))
        simp only [Act.put, List.setIfInBounds_toArray, List.set_cons_zero, List.set_cons_succ]
        refine wpAnyH_take (i := 3) (oi := ⟨(some 86), _, _, _, _, _⟩) (v := ?_) rfl (by kernel_rfl) (by kernel_rfl) (by kernel_rfl) (fun _ _ _ h => h) (Or.inl ⟨by kernel_rfl, ?_⟩) (by assumption) ?_; rotate_left; (focus (intro w hSw; (try dsimp only at hSw); go_simp; (try with_reducible rfl)))
        simp only [Act.put, List.setIfInBounds_toArray, List.set_cons_zero, List.set_cons_succ]
        refine wpAnyH_take (i := 4) (oi := ⟨(some 87), _, _, _, _, _⟩) (v := ?_) rfl (by kernel_rfl) (by kernel_rfl) (by kernel_rfl) (fun _ _ _ h => h) (Or.inl ⟨by kernel_rfl, ?_⟩) (by assumption) ?_; rotate_left; (focus (intro w hSw; (try dsimp only at hSw); go_simp; (try with_reducible rfl)))
        simp only [Act.put, List.setIfInBounds_toArray, List.set_cons_zero, List.set_cons_succ]
        refine wpAnyH_take (i := 5) (oi := ⟨(some 88), _, _, _, _, _⟩) (v := ?_) rfl (by kernel_rfl) (by kernel_rfl) (by kernel_rfl) (fun _ _ _ h => h) (Or.inl ⟨by kernel_rfl, ?_⟩) (by assumption) ?_; rotate_left; (focus (intro w hSw; (try dsimp only at hSw); go_simp; (try with_reducible rfl)))
        simp only [Act.put, List.setIfInBounds_toArray, List.set_cons_zero, List.set_cons_succ]
        refine wpAnyH_take (i := 6) (oi := ⟨(some 89), _, _, _, _, _⟩) (v := ?_) rfl (by kernel_rfl) (by kernel_rfl) (by kernel_rfl) (fun _ _ _ h => h) (Or.inl ⟨by kernel_rfl, ?_⟩) (by assumption) ?_; rotate_left; (focus (intro w hSw; (try dsimp only at hSw); go_simp; (try with_reducible rfl)))
        simp only [Act.put, List.setIfInBounds_toArray, List.set_cons_zero, List.set_cons_succ]
        refine wpAnyH_take (i := 7) (oi := ⟨(some 90), _, _, _, _, _⟩) (v := ?_) rfl (by kernel_rfl) (by kernel_rfl) (by kernel_rfl) (fun _ _ _ h => h) (Or.inl ⟨by kernel_rfl, ?_⟩) (by assumption) ?_; rotate_left; (focus (intro w hSw; (try dsimp only at hSw); go_simp; (try with_reducible rfl)))
        simp only [Act.put, List.setIfInBounds_toArray, List.set_cons_zero, List.set_cons_succ]
        refine wpAnyH_take (i := 8) (oi := ⟨(some 91), _, _, _, _, _⟩) (v := ?_) rfl (by kernel_rfl) (by kernel_rfl) (by kernel_rfl) (fun _ _ _ h => h) (Or.inl ⟨by kernel_rfl, ?_⟩) (by assumption) ?_; rotate_left; (focus (intro w hSw; (try dsimp only at hSw); go_simp; (try with_reducible rfl)))
        simp only [Act.put, List.setIfInBounds_toArray, List.set_cons_zero, List.set_cons_succ]
        refine wpAnyH_take (i := 9) (oi := ⟨(some 92), _, _, _, _, _⟩) (v := ?_) rfl (by kernel_rfl) (by kernel_rfl) (by kernel_rfl) (fun _ _ _ h => h) (Or.inl ⟨by kernel_rfl, ?_⟩) (by assumption) ?_; rotate_left; (focus (intro w hSw; (try dsimp only at hSw); go_simp; (try with_reducible rfl)))
        simp only [Act.put, List.setIfInBounds_toArray, List.set_cons_zero, List.set_cons_succ]
        refine wpAnyH_take (i := 10) (oi := ⟨(some 93), _, _, _, _, _⟩) (v := ?_) rfl (by kernel_rfl) (by kernel_rfl) (by kernel_rfl) (fun _ _ _ h => h) (Or.inl ⟨by kernel_rfl, ?_⟩) (by assumption) ?_; rotate_left; (focus (intro w hSw; (try dsimp only at hSw); go_simp; (try with_reducible rfl)))
        simp only [Act.put, List.setIfInBounds_toArray, List.set_cons_zero, List.set_cons_succ]
        refine wpAnyH_take (i := 11) (oi := ⟨(some 94), _, _, _, _, _⟩) (v := ?_) rfl (by kernel_rfl) (by kernel_rfl) (by kernel_rfl) (fun _ _ _ h => h) (Or.inl ⟨by kernel_rfl, ?_⟩) (by assumption) ?_; rotate_left; (focus (intro w hSw; (try dsimp only at hSw); go_simp; (try with_reducible rfl)))
        simp only [Act.put, List.setIfInBounds_toArray, List.set_cons_zero, List.set_cons_succ]
        refine wpAnyH_take (i := 12) (oi := ⟨(some 95), _, _, _, _, _⟩) (v := ?_) rfl (by kernel_rfl) (by kernel_rfl) (by kernel_rfl) (fun _ _ _ h => h) (Or.inl ⟨by kernel_rfl, ?_⟩) (by assumption) ?_; rotate_left; (focus (intro w hSw; (try dsimp only at hSw); go_simp; (try with_reducible rfl)))
        simp only [Act.put, List.setIfInBounds_toArray, List.set_cons_zero, List.set_cons_succ]
        refine wpAnyH_done (by kernel_rfl) ?_ _
        obtain ⟨V, -⟩ := hHeld
        go_wp2
        go_ret
        exact ⟨by rw [HQ2.out]; rfl, V.out.b0⟩
      have e0 : ((lx : Int) != (ly : Int)) = false := by rw [bne_eq_false_iff_eq]; omega
      subst hl
      go_wp2_with fail
      have XD := Lib.hid (X.out.next (Below.refl _ _).drew).s
      refine wp_region_held_drew (S := fun W : World => Hid (QX w c (some p1) E L nd cd ne ce nl cl d (some p2) E2 L2 nd2 cd2 ne2 ce2 nl2 cl2 W) ∧ W.cell? ⟨w.heap.size, 0, none⟩ = some (.int .i64 c.hosts) ∧ W.cell? ⟨w.heap.size, 1, none⟩ = some (.int .i64 c.cycle) ∧ W.cell? ⟨w.heap.size, 2, none⟩ = some (.int .i64 c.delay) ∧ W.cell? ⟨w.heap.size, 3, none⟩ = some (.int .i64 c.window) ∧ W.cell? ⟨w.heap.size, 4, none⟩ = some (.int .i64 c.precision) ∧ W.cell? ⟨w.heap.size, 5, none⟩ = some (.slice (some p1) nd cd) ∧ W.cell? ⟨w.heap.size, 6, none⟩ = some (.slice E ne ce) ∧ W.cell? ⟨w.heap.size, 7, none⟩ = some (.slice L nl cl) ∧ W.cell? ⟨w.heap.size, 8, none⟩ = some (.int .i64 c.queue) ∧ W.cell? ⟨w.heap.size + 1, 0, none⟩ = some (.int .i64 d.hosts) ∧ W.cell? ⟨w.heap.size + 1, 1, none⟩ = some (.int .i64 d.cycle) ∧ W.cell? ⟨w.heap.size + 1, 2, none⟩ = some (.int .i64 d.delay) ∧ W.cell? ⟨w.heap.size + 1, 3, none⟩ = some (.int .i64 d.window) ∧ W.cell? ⟨w.heap.size + 1, 4, none⟩ = some (.int .i64 d.precision) ∧ W.cell? ⟨w.heap.size + 1, 5, none⟩ = some (.slice (some p2) nd2 cd2) ∧ W.cell? ⟨w.heap.size + 1, 6, none⟩ = some (.slice E2 ne2 ce2) ∧ W.cell? ⟨w.heap.size + 1, 7, none⟩ = some (.slice L2 nl2 cl2) ∧ W.cell? ⟨w.heap.size + 1, 8, none⟩ = some (.int .i64 d.queue) ∧ W.cell? (p1.add n) = some (.slice A1 lx k1) ∧ W.cell? (p2.add n) = some (.slice A2 lx k2)) (by kernel_rfl) (⟨XD.out.1, a0, a1, a2, a3, a4, a5, a6, a7, a8, b0, b1, b2, b3, b4, b5, b6, b7, b8, s1, s2⟩) (fun hHeld => ?_)
      refine wpAnyH_take (i := 0) (oi := ⟨(some 83), _, _, _, _, _⟩) (v := ?_) rfl (by kernel_rfl) (by kernel_rfl) (by kernel_rfl) (fun _ _ _ h => h) (Or.inl ⟨by kernel_rfl, ?_⟩) (by assumption) ?_; rotate_left; (focus (intro w hSw; (try dsimp only at hSw); go_simp; (try with_reducible rfl)))
      simp only [Act.put, List.setIfInBounds_toArray, List.set_cons_zero, List.set_cons_succ]
      refine wpAnyH_take (i := 1) (oi := ⟨(some 84), _, _, _, _, _⟩) (v := ?_) rfl (by kernel_rfl) (by kernel_rfl) (by kernel_rfl) (fun _ _ _ h => h) (Or.inl ⟨by kernel_rfl, ?_⟩) (by assumption) ?_; rotate_left; (focus (intro w hSw; (try dsimp only at hSw); go_simp; (try with_reducible rfl)))
      simp only [Act.put, List.setIfInBounds_toArray, List.set_cons_zero, List.set_cons_succ]
      refine wpAnyH_take (i := 2) (oi := ⟨(some 85), _, _, _, _, _⟩) (v := ?_) rfl (by kernel_rfl) (by kernel_rfl) (by kernel_rfl) (fun _ _ _ h => h) (Or.inl ⟨by kernel_rfl, ?_⟩) (by assumption) ?_; rotate_left; (focus (intro w hSw; (try dsimp only at hSw); go_simp; (try with_reducible rfl)))
      simp only [Act.put, List.setIfInBounds_toArray, List.set_cons_zero, List.set_cons_succ]
      refine wpAnyH_take (i := 3) (oi := ⟨(some 86), _, _, _, _, _⟩) (v := ?_) rfl (by kernel_rfl) (by kernel_rfl) (by kernel_rfl) (fun _ _ _ h => h) (Or.inl ⟨by kernel_rfl, ?_⟩) (by assumption) ?_; rotate_left; (focus (intro w hSw; (try dsimp only at hSw); go_simp; (try with_reducible rfl)))
      simp only [Act.put, List.setIfInBounds_toArray, List.set_cons_zero, List.set_cons_succ]
      refine wpAnyH_take (i := 4) (oi := ⟨(some 87), _, _, _, _, _⟩) (v := ?_) rfl (by kernel_rfl) (by kernel_rfl) (by kernel_rfl) (fun _ _ _ h => h) (Or.inl ⟨by kernel_rfl, ?_⟩) (by assumption) ?_; rotate_left; (focus (intro w hSw; (try dsimp only at hSw); go_simp; (try with_reducible rfl)))
      simp only [Act.put, List.setIfInBounds_toArray, List.set_cons_zero, List.set_cons_succ]
      refine wpAnyH_take (i := 5) (oi := ⟨(some 88), _, _, _, _, _⟩) (v := ?_) rfl (by kernel_rfl) (by kernel_rfl) (by kernel_rfl) (fun _ _ _ h => h) (Or.inl ⟨by kernel_rfl, ?_⟩) (by assumption) ?_; rotate_left; (focus (intro w hSw; (try dsimp only at hSw); go_simp; (try with_reducible rfl)))
      simp only [Act.put, List.setIfInBounds_toArray, List.set_cons_zero, List.set_cons_succ]
      refine wpAnyH_take (i := 6) (oi := ⟨(some 89), _, _, _, _, _⟩) (v := ?_) rfl (by kernel_rfl) (by kernel_rfl) (by kernel_rfl) (fun _ _ _ h => h) (Or.inl ⟨by kernel_rfl, ?_⟩) (by assumption) ?_; rotate_left; (focus (intro w hSw; (try dsimp only at hSw); go_simp; (try with_reducible rfl)))
      simp only [Act.put, List.setIfInBounds_toArray, List.set_cons_zero, List.set_cons_succ]
      refine wpAnyH_take (i := 7) (oi := ⟨(some 90), _, _, _, _, _⟩) (v := ?_) rfl (by kernel_rfl) (by kernel_rfl) (by kernel_rfl) (fun _ _ _ h => h) (Or.inl ⟨by kernel_rfl, ?_⟩) (by assumption) ?_; rotate_left; (focus (intro w hSw; (try dsimp only at hSw); go_simp; (try with_reducible rfl)))
      simp only [Act.put, List.setIfInBounds_toArray, List.set_cons_zero, List.set_cons_succ]
      refine wpAnyH_take (i := 8) (oi := ⟨(some 91), _, _, _, _, _⟩) (v := ?_) rfl (by kernel_rfl) (by kernel_rfl) (by kernel_rfl) (fun _ _ _ h => h) (Or.inl ⟨by kernel_rfl, ?_⟩) (by assumption) ?_; rotate_left; (focus (intro w hSw; (try dsimp only at hSw); go_simp; (try with_reducible rfl)))
      simp only [Act.put, List.setIfInBounds_toArray, List.set_cons_zero, List.set_cons_succ]
      refine wpAnyH_take (i := 9) (oi := ⟨(some 92), _, _, _, _, _⟩) (v := ?_) rfl (by kernel_rfl) (by kernel_rfl) (by kernel_rfl) (fun _ _ _ h => h) (Or.inl ⟨by kernel_rfl, ?_⟩) (by assumption) ?_; rotate_left; (focus (intro w hSw; (try dsimp only at hSw); go_simp; (try with_reducible rfl)))
      simp only [Act.put, List.setIfInBounds_toArray, List.set_cons_zero, List.set_cons_succ]
      refine wpAnyH_take (i := 10) (oi := ⟨(some 93), _, _, _, _, _⟩) (v := ?_) rfl (by kernel_rfl) (by kernel_rfl) (by kernel_rfl) (fun _ _ _ h => h) (Or.inl ⟨by kernel_rfl, ?_⟩) (by assumption) ?_; rotate_left; (focus (intro w hSw; (try dsimp only at hSw); go_simp; (try with_reducible rfl)))
      simp only [Act.put, List.setIfInBounds_toArray, List.set_cons_zero, List.set_cons_succ]
      refine wpAnyH_take (i := 11) (oi := ⟨(some 94), _, _, _, _, _⟩) (v := ?_) rfl (by kernel_rfl) (by kernel_rfl) (by kernel_rfl) (fun _ _ _ h => h) (Or.inl ⟨by kernel_rfl, ?_⟩) (by assumption) ?_; rotate_left; (focus (intro w hSw; (try dsimp only at hSw); go_simp; (try with_reducible rfl)))
      simp only [Act.put, List.setIfInBounds_toArray, List.set_cons_zero, List.set_cons_succ]
      refine wpAnyH_take (i := 12) (oi := ⟨(some 95), _, _, _, _, _⟩) (v := ?_) rfl (by kernel_rfl) (by kernel_rfl) (by kernel_rfl) (fun _ _ _ h => h) (Or.inl ⟨by kernel_rfl, ?_⟩) (by assumption) ?_; rotate_left; (focus (intro w hSw; (try dsimp only at hSw); go_simp; (try with_reducible rfl)))
      simp only [Act.put, List.setIfInBounds_toArray, List.set_cons_zero, List.set_cons_succ]
      refine wpAnyH_done (by kernel_rfl) ?_ _
      obtain ⟨V, v0, v1, v2, v3, v4, v5, v6, v7, v8, v9, v10, v11, v12, v13, v14, v15, v16, v17, vs1, vs2⟩ := hHeld
      have hwd : Below wr.heap.size wr wr.drew := (Below.refl _ _).drew
      have R3 := Lib.hid (R1.out.below hwd)
      have R4 := Lib.hid (R2.out.below hwd)
      clear a0 a1 a2 a3 a4 a5 a6 a7 a8 b0 b1 b2 b3 b4 b5 b6 b7 b8 s1 s2 hwd X e0
      go_wp2
      obtain ⟨w0, hw0⟩ : ∃ w0, w0 = wr.drew := ⟨_, rfl⟩
      rw [← hw0] at V v0 v1 v2 v3 v4 v5 v6 v7 v8 v9 v10 v11 v12 v13 v14 v15 v16 v17 vs1 vs2 R3 R4 ⊢
      have V0 := Lib.hid (show QX w c (some p1) E L nd cd ne ce nl cl d (some p2) E2 L2 nd2 cd2 ne2 ce2 nl2 cl2 w0 from V.out)
      have VS1 := Lib.hid vs1
      have VS2 := Lib.hid vs2
      clear hw0 V v0 v1 v2 v3 v4 v5 v6 v7 v8 v9 v10 v11 v12 v13 v14 v15 v16 v17 vs1 vs2
      go_loopw [6] (fun iv wr => ∃ (i : Nat), i ≤ lx ∧ iv = .int .i64 i ∧ Hid (Below w0.heap.size w0 wr) ∧ Hid (∀ (j : Nat) u v, j < i → x[j]? = some u → y[j]? = some v → u = v)) (fun iv _ => lx - (intOf iv).toNat)
      case atStart => exact ⟨0, Nat.zero_le _, rfl, Lib.hid (Below.refl _ _), Lib.hid (by intros; omega)⟩
      case round =>
        obtain ⟨i, hi, rfl, B, HJ⟩ := hrel
        have Y1 := Lib.hid (V0.out.next B.out)
        obtain ⟨-, a0, a1, a2, a3, a4, a5, a6, a7, a8, b0, b1, b2, b3, b4, b5, b6, b7, b8⟩ := Y1.out.s
        have s1 := (B.out.cell (Lib.lt_of_cell VS1.out)).trans VS1.out
        have s2 := (B.out.cell (Lib.lt_of_cell VS2.out)).trans VS2.out
        have t9 := T1.out
        by_cases hlt2 : (i : Int) < (lx : Int)
        · obtain ⟨u, hu⟩ : ∃ u, x[i]? = some u := ⟨_, List.getElem?_eq_getElem (by rw [HLX.out]; omega)⟩
          obtain ⟨v, hv⟩ : ∃ v, y[i]? = some v := ⟨_, List.getElem?_eq_getElem (by rw [HLY.out]; omega)⟩
          obtain ⟨q1, rfl, c1, -⟩ := (R3.out.below B.out) i u hu
          obtain ⟨q2, rfl, c2, -⟩ := (R4.out.below B.out) i v hv
          have HU := Lib.hid hu
          have HV := Lib.hid hv
          clear hu hv
          have YD := Lib.hid (Y1.out.next (Below.refl _ _).drew).s
          have B3 := Lib.hid (B.out.trans ((Below.refl wr.heap.size wr).drew.mono B.out.size))
          by_cases huv : u = v
          case neg =>
            have HQ2 := Lib.hid (show q = false by
              rw [HQ.out]
              refine eqC_false (fun h => ?_)
              have h6 := h.2.2.2.2.2.1
              rw [← h6, HX.out] at HY
              have h7 := HY.out
              cases h7
              rw [HU.out] at HV
              have h8 := HV.out
              cases h8
              exact huv rfl)
            go_wp2_with fail
            have e1 : (u != v) = true := by rw [bne_iff_ne]; exact huv
            refine wp_region_held_drew (S := fun W : World => Hid (QX w c (some p1) E L nd cd ne ce nl cl d (some p2) E2 L2 nd2 cd2 ne2 ce2 nl2 cl2 W) ∧ W.cell? ⟨w.heap.size, 0, none⟩ = some (.int .i64 c.hosts) ∧ W.cell? ⟨w.heap.size, 1, none⟩ = some (.int .i64 c.cycle) ∧ W.cell? ⟨w.heap.size, 2, none⟩ = some (.int .i64 c.delay) ∧ W.cell? ⟨w.heap.size, 3, none⟩ = some (.int .i64 c.window) ∧ W.cell? ⟨w.heap.size, 4, none⟩ = some (.int .i64 c.precision) ∧ W.cell? ⟨w.heap.size, 5, none⟩ = some (.slice (some p1) nd cd) ∧ W.cell? ⟨w.heap.size, 6, none⟩ = some (.slice E ne ce) ∧ W.cell? ⟨w.heap.size, 7, none⟩ = some (.slice L nl cl) ∧ W.cell? ⟨w.heap.size, 8, none⟩ = some (.int .i64 c.queue) ∧ W.cell? ⟨w.heap.size + 1, 0, none⟩ = some (.int .i64 d.hosts) ∧ W.cell? ⟨w.heap.size + 1, 1, none⟩ = some (.int .i64 d.cycle) ∧ W.cell? ⟨w.heap.size + 1, 2, none⟩ = some (.int .i64 d.delay) ∧ W.cell? ⟨w.heap.size + 1, 3, none⟩ = some (.int .i64 d.window) ∧ W.cell? ⟨w.heap.size + 1, 4, none⟩ = some (.int .i64 d.precision) ∧ W.cell? ⟨w.heap.size + 1, 5, none⟩ = some (.slice (some p2) nd2 cd2) ∧ W.cell? ⟨w.heap.size + 1, 6, none⟩ = some (.slice E2 ne2 ce2) ∧ W.cell? ⟨w.heap.size + 1, 7, none⟩ = some (.slice L2 nl2 cl2) ∧ W.cell? ⟨w.heap.size + 1, 8, none⟩ = some (.int .i64 d.queue) ∧ W.cell? (p1.add n) = some (.slice (some q1) lx k1) ∧ W.cell? (p2.add n) = some (.slice (some q2) lx k2) ∧ W.cell? (q1.add i) = some (.int .i64 u) ∧ W.cell? (q2.add i) = some (.int .i64 v)) (by kernel_rfl) (⟨YD.out.1, a0, a1, a2, a3, a4, a5, a6, a7, a8, b0, b1, b2, b3, b4, b5, b6, b7, b8, s1, s2, c1, c2⟩) (fun hHeld => ?_)
            refine wpAnyH_take (i := 0) (oi := ⟨(some 106), _, _, _, _, _⟩) (v := ?_) rfl (by kernel_rfl) (by kernel_rfl) (by kernel_rfl) (fun _ _ _ h => h) (Or.inl ⟨by kernel_rfl, ?_⟩) (by assumption) ?_; rotate_left; (focus (intro w hSw; (try dsimp only at hSw); go_simp; (try with_reducible rfl)))
            simp only [Act.put, List.setIfInBounds_toArray, List.set_cons_zero, List.set_cons_succ]
            refine wpAnyH_take (i := 1) (oi := ⟨(some 107), _, _, _, _, _⟩) (v := ?_) rfl (by kernel_rfl) (by kernel_rfl) (by kernel_rfl) (fun _ _ _ h => h) (Or.inl ⟨by kernel_rfl, ?_⟩) (by assumption) ?_; rotate_left; (focus (intro w hSw; (try dsimp only at hSw); go_simp; (try with_reducible rfl)))
            simp only [Act.put, List.setIfInBounds_toArray, List.set_cons_zero, List.set_cons_succ]
            refine wpAnyH_take (i := 2) (oi := ⟨(some 108), _, _, _, _, _⟩) (v := ?_) rfl (by kernel_rfl) (by kernel_rfl) (by kernel_rfl) (fun _ _ _ h => h) (Or.inl ⟨by kernel_rfl, ?_⟩) (by assumption) ?_; rotate_left; (focus (intro w hSw; (try dsimp only at hSw); go_simp; (try with_reducible rfl)))
            simp only [Act.put, List.setIfInBounds_toArray, List.set_cons_zero, List.set_cons_succ]
            refine wpAnyH_take (i := 3) (oi := ⟨(some 109), _, _, _, _, _⟩) (v := ?_) rfl (by kernel_rfl) (by kernel_rfl) (by kernel_rfl) (fun _ _ _ h => h) (Or.inl ⟨by kernel_rfl, ?_⟩) (by assumption) ?_; rotate_left; (focus (intro w hSw; (try dsimp only at hSw); go_simp; (try with_reducible rfl)))
            simp only [Act.put, List.setIfInBounds_toArray, List.set_cons_zero, List.set_cons_succ]
            refine wpAnyH_take (i := 4) (oi := ⟨(some 110), _, _, _, _, _⟩) (v := ?_) rfl (by kernel_rfl) (by kernel_rfl) (by kernel_rfl) (fun _ _ _ h => h) (Or.inl ⟨by kernel_rfl, ?_⟩) (by assumption) ?_; rotate_left; (focus (intro w hSw; (try dsimp only at hSw); go_simp; (try with_reducible rfl)))
            simp only [Act.put, List.setIfInBounds_toArray, List.set_cons_zero, List.set_cons_succ]
            refine wpAnyH_take (i := 5) (oi := ⟨(some 111), _, _, _, _, _⟩) (v := ?_) rfl (by kernel_rfl) (by kernel_rfl) (by kernel_rfl) (fun _ _ _ h => h) (Or.inl ⟨by kernel_rfl, ?_⟩) (by assumption) ?_; rotate_left; (focus (intro w hSw; (try dsimp only at hSw); go_simp; (try with_reducible rfl)))
            simp only [Act.put, List.setIfInBounds_toArray, List.set_cons_zero, List.set_cons_succ]
            refine wpAnyH_take (i := 6) (oi := ⟨(some 112), _, _, _, _, _⟩) (v := ?_) rfl (by kernel_rfl) (by kernel_rfl) (by kernel_rfl) (fun _ _ _ h => h) (Or.inl ⟨by kernel_rfl, ?_⟩) (by assumption) ?_; rotate_left; (focus (intro w hSw; (try dsimp only at hSw); go_simp; (try with_reducible rfl)))
            simp only [Act.put, List.setIfInBounds_toArray, List.set_cons_zero, List.set_cons_succ]
            refine wpAnyH_take (i := 7) (oi := ⟨(some 113), _, _, _, _, _⟩) (v := ?_) rfl (by kernel_rfl) (by kernel_rfl) (by kernel_rfl) (fun _ _ _ h => h) (Or.inl ⟨by kernel_rfl, ?_⟩) (by assumption) ?_; rotate_left; (focus (intro w hSw; (try dsimp only at hSw); go_simp; (try with_reducible rfl)))
            simp only [Act.put, List.setIfInBounds_toArray, List.set_cons_zero, List.set_cons_succ]
            refine wpAnyH_take (i := 8) (oi := ⟨(some 114), _, _, _, _, _⟩) (v := ?_) rfl (by kernel_rfl) (by kernel_rfl) (by kernel_rfl) (fun _ _ _ h => h) (Or.inl ⟨by kernel_rfl, ?_⟩) (by assumption) ?_; rotate_left; (focus (intro w hSw; (try dsimp only at hSw); go_simp; (try with_reducible rfl)))
            simp only [Act.put, List.setIfInBounds_toArray, List.set_cons_zero, List.set_cons_succ]
            refine wpAnyH_take (i := 9) (oi := ⟨(some 115), _, _, _, _, _⟩) (v := ?_) rfl (by kernel_rfl) (by kernel_rfl) (by kernel_rfl) (fun _ _ _ h => h) (Or.inl ⟨by kernel_rfl, ?_⟩) (by assumption) ?_; rotate_left; (focus (intro w hSw; (try dsimp only at hSw); go_simp; (try with_reducible rfl)))
            simp only [Act.put, List.setIfInBounds_toArray, List.set_cons_zero, List.set_cons_succ]
            refine wpAnyH_take (i := 10) (oi := ⟨(some 116), _, _, _, _, _⟩) (v := ?_) rfl (by kernel_rfl) (by kernel_rfl) (by kernel_rfl) (fun _ _ _ h => h) (Or.inl ⟨by kernel_rfl, ?_⟩) (by assumption) ?_; rotate_left; (focus (intro w hSw; (try dsimp only at hSw); go_simp; (try with_reducible rfl)))
            simp only [Act.put, List.setIfInBounds_toArray, List.set_cons_zero, List.set_cons_succ]
            refine wpAnyH_take (i := 11) (oi := ⟨(some 117), _, _, _, _, _⟩) (v := ?_) rfl (by kernel_rfl) (by kernel_rfl) (by kernel_rfl) (fun _ _ _ h => h) (Or.inl ⟨by kernel_rfl, ?_⟩) (by assumption) ?_; rotate_left; (focus (intro w hSw; (try dsimp only at hSw); go_simp; (try with_reducible rfl)))
            simp only [Act.put, List.setIfInBounds_toArray, List.set_cons_zero, List.set_cons_succ]
            refine wpAnyH_take (i := 12) (oi := ⟨(some 118), _, _, _, _, _⟩) (v := ?_) rfl (by kernel_rfl) (by kernel_rfl) (by kernel_rfl) (fun _ _ _ h => h) (Or.inl ⟨by kernel_rfl, ?_⟩) (by assumption) ?_; rotate_left; (focus (intro w hSw; (try dsimp only at hSw); go_simp; (try with_reducible rfl)))
            simp only [Act.put, List.setIfInBounds_toArray, List.set_cons_zero, List.set_cons_succ]
            refine wpAnyH_take (i := 13) (oi := ⟨(some 119), _, _, _, _, _⟩) (v := ?_) rfl (by kernel_rfl) (by kernel_rfl) (by kernel_rfl) (fun _ _ _ h => h) (Or.inl ⟨by kernel_rfl, ?_⟩) (by assumption) ?_; rotate_left; (focus (intro w hSw; (try dsimp only at hSw); go_simp; (try with_reducible rfl)))
            simp only [Act.put, List.setIfInBounds_toArray, List.set_cons_zero, List.set_cons_succ]
            refine wpAnyH_take (i := 14) (oi := ⟨(some 120), _, _, _, _, _⟩) (v := ?_) rfl (by kernel_rfl) (by kernel_rfl) (by kernel_rfl) (fun _ _ _ h => h) (Or.inl ⟨by kernel_rfl, ?_⟩) (by assumption) ?_; rotate_left; (focus (intro w hSw; (try dsimp only at hSw); go_simp; (try with_reducible rfl)))
            simp only [Act.put, List.setIfInBounds_toArray, List.set_cons_zero, List.set_cons_succ]
            refine wpAnyH_take (i := 15) (oi := ⟨(some 121), _, _, _, _, _⟩) (v := ?_) rfl (by kernel_rfl) (by kernel_rfl) (by kernel_rfl) (fun _ _ _ h => h) (Or.inl ⟨by kernel_rfl, ?_⟩) (by assumption) ?_; rotate_left; (focus (intro w hSw; (try dsimp only at hSw); go_simp; (try with_reducible rfl)))
            simp only [Act.put, List.setIfInBounds_toArray, List.set_cons_zero, List.set_cons_succ]
            refine wpAnyH_take (i := 16) (oi := ⟨(some 122), _, _, _, _, _⟩) (v := ?_) rfl (by kernel_rfl) (by kernel_rfl) (by kernel_rfl) (fun _ _ _ h => h) (Or.inl ⟨by kernel_rfl, ?_⟩) (by assumption) ?_; rotate_left; (focus (intro w hSw; (try dsimp only at hSw); go_simp; (try with_reducible rfl)))
            simp only [Act.put, List.setIfInBounds_toArray, List.set_cons_zero, List.set_cons_succ]
            refine wpAnyH_done (by kernel_rfl) ?_ _
            obtain ⟨V, -⟩ := hHeld
            go_wp2
            go_ret
            exact ⟨by rw [HQ2.out]; rfl, V.out.b0⟩
          have HJ2 := Lib.hid (show ∀ (j : Nat) (a b : Int), j < i + 1 → x[j]? = some a → y[j]? = some b → a = b by
            intro j a b hj ha hb
            by_cases hji : j = i
            · subst hji
              rw [HU.out] at ha
              rw [HV.out] at hb
              cases ha
              cases hb
              exact huv
            · exact HJ.out j a b (by omega) ha hb)
          go_wp2_with fail
          have e1 : (u != v) = false := by rw [bne_eq_false_iff_eq]; exact huv
          refine wp_region_held_drew (S := fun W : World => Hid (QX w c (some p1) E L nd cd ne ce nl cl d (some p2) E2 L2 nd2 cd2 ne2 ce2 nl2 cl2 W) ∧ W.cell? ⟨w.heap.size, 0, none⟩ = some (.int .i64 c.hosts) ∧ W.cell? ⟨w.heap.size, 1, none⟩ = some (.int .i64 c.cycle) ∧ W.cell? ⟨w.heap.size, 2, none⟩ = some (.int .i64 c.delay) ∧ W.cell? ⟨w.heap.size, 3, none⟩ = some (.int .i64 c.window) ∧ W.cell? ⟨w.heap.size, 4, none⟩ = some (.int .i64 c.precision) ∧ W.cell? ⟨w.heap.size, 5, none⟩ = some (.slice (some p1) nd cd) ∧ W.cell? ⟨w.heap.size, 6, none⟩ = some (.slice E ne ce) ∧ W.cell? ⟨w.heap.size, 7, none⟩ = some (.slice L nl cl) ∧ W.cell? ⟨w.heap.size, 8, none⟩ = some (.int .i64 c.queue) ∧ W.cell? ⟨w.heap.size + 1, 0, none⟩ = some (.int .i64 d.hosts) ∧ W.cell? ⟨w.heap.size + 1, 1, none⟩ = some (.int .i64 d.cycle) ∧ W.cell? ⟨w.heap.size + 1, 2, none⟩ = some (.int .i64 d.delay) ∧ W.cell? ⟨w.heap.size + 1, 3, none⟩ = some (.int .i64 d.window) ∧ W.cell? ⟨w.heap.size + 1, 4, none⟩ = some (.int .i64 d.precision) ∧ W.cell? ⟨w.heap.size + 1, 5, none⟩ = some (.slice (some p2) nd2 cd2) ∧ W.cell? ⟨w.heap.size + 1, 6, none⟩ = some (.slice E2 ne2 ce2) ∧ W.cell? ⟨w.heap.size + 1, 7, none⟩ = some (.slice L2 nl2 cl2) ∧ W.cell? ⟨w.heap.size + 1, 8, none⟩ = some (.int .i64 d.queue) ∧ W.cell? (p1.add n) = some (.slice (some q1) lx k1) ∧ W.cell? (p2.add n) = some (.slice (some q2) lx k2) ∧ W.cell? (q1.add i) = some (.int .i64 u) ∧ W.cell? (q2.add i) = some (.int .i64 v)) (by kernel_rfl) (⟨YD.out.1, a0, a1, a2, a3, a4, a5, a6, a7, a8, b0, b1, b2, b3, b4, b5, b6, b7, b8, s1, s2, c1, c2⟩) (fun hHeld => ?_)
          refine wpAnyH_take (i := 0) (oi := ⟨(some 106), _, _, _, _, _⟩) (v := ?_) rfl (by kernel_rfl) (by kernel_rfl) (by kernel_rfl) (fun _ _ _ h => h) (Or.inl ⟨by kernel_rfl, ?_⟩) (by assumption) ?_; rotate_left; (focus (intro w hSw; (try dsimp only at hSw); go_simp; (try with_reducible rfl)))
          simp only [Act.put, List.setIfInBounds_toArray, List.set_cons_zero, List.set_cons_succ]
          refine wpAnyH_take (i := 1) (oi := ⟨(some 107), _, _, _, _, _⟩) (v := ?_) rfl (by kernel_rfl) (by kernel_rfl) (by kernel_rfl) (fun _ _ _ h => h) (Or.inl ⟨by kernel_rfl, ?_⟩) (by assumption) ?_; rotate_left; (focus (intro w hSw; (try dsimp only at hSw); go_simp; (try with_reducible rfl)))
          simp only [Act.put, List.setIfInBounds_toArray, List.set_cons_zero, List.set_cons_succ]
          refine wpAnyH_take (i := 2) (oi := ⟨(some 108), _, _, _, _, _⟩) (v := ?_) rfl (by kernel_rfl) (by kernel_rfl) (by kernel_rfl) (fun _ _ _ h => h) (Or.inl ⟨by kernel_rfl, ?_⟩) (by assumption) ?_; rotate_left; (focus (intro w hSw; (try dsimp only at hSw); go_simp; (try with_reducible rfl)))
          simp only [Act.put, List.setIfInBounds_toArray, List.set_cons_zero, List.set_cons_succ]
          refine wpAnyH_take (i := 3) (oi := ⟨(some 109), _, _, _, _, _⟩) (v := ?_) rfl (by kernel_rfl) (by kernel_rfl) (by kernel_rfl) (fun _ _ _ h => h) (Or.inl ⟨by kernel_rfl, ?_⟩) (by assumption) ?_; rotate_left; (focus (intro w hSw; (try dsimp only at hSw); go_simp; (try with_reducible rfl)))
          simp only [Act.put, List.setIfInBounds_toArray, List.set_cons_zero, List.set_cons_succ]
          refine wpAnyH_take (i := 4) (oi := ⟨(some 110), _, _, _, _, _⟩) (v := ?_) rfl (by kernel_rfl) (by kernel_rfl) (by kernel_rfl) (fun _ _ _ h => h) (Or.inl ⟨by kernel_rfl, ?_⟩) (by assumption) ?_; rotate_left; (focus (intro w hSw; (try dsimp only at hSw); go_simp; (try with_reducible rfl)))
          simp only [Act.put, List.setIfInBounds_toArray, List.set_cons_zero, List.set_cons_succ]
          refine wpAnyH_take (i := 5) (oi := ⟨(some 111), _, _, _, _, _⟩) (v := ?_) rfl (by kernel_rfl) (by kernel_rfl) (by kernel_rfl) (fun _ _ _ h => h) (Or.inl ⟨by kernel_rfl, ?_⟩) (by assumption) ?_; rotate_left; (focus (intro w hSw; (try dsimp only at hSw); go_simp; (try with_reducible rfl)))
          simp only [Act.put, List.setIfInBounds_toArray, List.set_cons_zero, List.set_cons_succ]
          refine wpAnyH_take (i := 6) (oi := ⟨(some 112), _, _, _, _, _⟩) (v := ?_) rfl (by kernel_rfl) (by kernel_rfl) (by kernel_rfl) (fun _ _ _ h => h) (Or.inl ⟨by kernel_rfl, ?_⟩) (by assumption) ?_; rotate_left; (focus (intro w hSw; (try dsimp only at hSw); go_simp; (try with_reducible rfl)))
          simp only [Act.put, List.setIfInBounds_toArray, List.set_cons_zero, List.set_cons_succ]
          refine wpAnyH_take (i := 7) (oi := ⟨(some 113), _, _, _, _, _⟩) (v := ?_) rfl (by kernel_rfl) (by kernel_rfl) (by kernel_rfl) (fun _ _ _ h => h) (Or.inl ⟨by kernel_rfl, ?_⟩) (by assumption) ?_; rotate_left; (focus (intro w hSw; (try dsimp only at hSw); go_simp; (try with_reducible rfl)))
          simp only [Act.put, List.setIfInBounds_toArray, List.set_cons_zero, List.set_cons_succ]
          refine wpAnyH_take (i := 8) (oi := ⟨(some 114), _, _, _, _, _⟩) (v := ?_) rfl (by kernel_rfl) (by kernel_rfl) (by kernel_rfl) (fun _ _ _ h => h) (Or.inl ⟨by kernel_rfl, ?_⟩) (by assumption) ?_; rotate_left; (focus (intro w hSw; (try dsimp only at hSw); go_simp; (try with_reducible rfl)))
          simp only [Act.put, List.setIfInBounds_toArray, List.set_cons_zero, List.set_cons_succ]
          refine wpAnyH_take (i := 9) (oi := ⟨(some 115), _, _, _, _, _⟩) (v := ?_) rfl (by kernel_rfl) (by kernel_rfl) (by kernel_rfl) (fun _ _ _ h => h) (Or.inl ⟨by kernel_rfl, ?_⟩) (by assumption) ?_; rotate_left; (focus (intro w hSw; (try dsimp only at hSw); go_simp; (try with_reducible rfl)))
          simp only [Act.put, List.setIfInBounds_toArray, List.set_cons_zero, List.set_cons_succ]
          refine wpAnyH_take (i := 10) (oi := ⟨(some 116), _, _, _, _, _⟩) (v := ?_) rfl (by kernel_rfl) (by kernel_rfl) (by kernel_rfl) (fun _ _ _ h => h) (Or.inl ⟨by kernel_rfl, ?_⟩) (by assumption) ?_; rotate_left; (focus (intro w hSw; (try dsimp only at hSw); go_simp; (try with_reducible rfl)))
          simp only [Act.put, List.setIfInBounds_toArray, List.set_cons_zero, List.set_cons_succ]
          refine wpAnyH_take (i := 11) (oi := ⟨(some 117), _, _, _, _, _⟩) (v := ?_) rfl (by kernel_rfl) (by kernel_rfl) (by kernel_rfl) (fun _ _ _ h => h) (Or.inl ⟨by kernel_rfl, ?_⟩) (by assumption) ?_; rotate_left; (focus (intro w hSw; (try dsimp only at hSw); go_simp; (try with_reducible rfl)))
          simp only [Act.put, List.setIfInBounds_toArray, List.set_cons_zero, List.set_cons_succ]
          refine wpAnyH_take (i := 12) (oi := ⟨(some 118), _, _, _, _, _⟩) (v := ?_) rfl (by kernel_rfl) (by kernel_rfl) (by kernel_rfl) (fun _ _ _ h => h) (Or.inl ⟨by kernel_rfl, ?_⟩) (by assumption) ?_; rotate_left; (focus (intro w hSw; (try dsimp only at hSw); go_simp; (try with_reducible rfl)))
          simp only [Act.put, List.setIfInBounds_toArray, List.set_cons_zero, List.set_cons_succ]
          refine wpAnyH_take (i := 13) (oi := ⟨(some 119), _, _, _, _, _⟩) (v := ?_) rfl (by kernel_rfl) (by kernel_rfl) (by kernel_rfl) (fun _ _ _ h => h) (Or.inl ⟨by kernel_rfl, ?_⟩) (by assumption) ?_; rotate_left; (focus (intro w hSw; (try dsimp only at hSw); go_simp; (try with_reducible rfl)))
          simp only [Act.put, List.setIfInBounds_toArray, List.set_cons_zero, List.set_cons_succ]
          refine wpAnyH_take (i := 14) (oi := ⟨(some 120), _, _, _, _, _⟩) (v := ?_) rfl (by kernel_rfl) (by kernel_rfl) (by kernel_rfl) (fun _ _ _ h => h) (Or.inl ⟨by kernel_rfl, ?_⟩) (by assumption) ?_; rotate_left; (focus (intro w hSw; (try dsimp only at hSw); go_simp; (try with_reducible rfl)))
          simp only [Act.put, List.setIfInBounds_toArray, List.set_cons_zero, List.set_cons_succ]
          refine wpAnyH_take (i := 15) (oi := ⟨(some 121), _, _, _, _, _⟩) (v := ?_) rfl (by kernel_rfl) (by kernel_rfl) (by kernel_rfl) (fun _ _ _ h => h) (Or.inl ⟨by kernel_rfl, ?_⟩) (by assumption) ?_; rotate_left; (focus (intro w hSw; (try dsimp only at hSw); go_simp; (try with_reducible rfl)))
          simp only [Act.put, List.setIfInBounds_toArray, List.set_cons_zero, List.set_cons_succ]
          refine wpAnyH_take (i := 16) (oi := ⟨(some 122), _, _, _, _, _⟩) (v := ?_) rfl (by kernel_rfl) (by kernel_rfl) (by kernel_rfl) (fun _ _ _ h => h) (Or.inl ⟨by kernel_rfl, ?_⟩) (by assumption) ?_; rotate_left; (focus (intro w hSw; (try dsimp only at hSw); go_simp; (try with_reducible rfl)))
          simp only [Act.put, List.setIfInBounds_toArray, List.set_cons_zero, List.set_cons_succ]
          refine wpAnyH_done (by kernel_rfl) ?_ _
          clear hHeld
          go_wp2
          go_roundw
          case rel => exact ⟨i + 1, by omega, by go_num, B3, HJ2⟩
          case measure => simp [intOf]; omega
        · have HI2 := Lib.hid (show ∀ (j : Nat) (u v : List Int), j < n + 1 → c.delays[j]? = some u → d.delays[j]? = some v → u = v by
            intro j u v hj hu hv
            by_cases hjn : j = n
            · subst hjn
              rw [HX.out] at hu
              rw [HY.out] at hv
              cases hu
              cases hv
              exact list_eq (by rw [HLX.out, HLY.out]) (fun k a b ha hb => HJ.out k a b (by have := lt_of_get ha; rw [HLX.out] at this; omega) ha hb)
            · exact HI.out j u v (by omega) hu hv)
          go_wp2
          exact ⟨⟨n + 1, by omega, by go_num, Y1, HI2⟩, by simp [intOf]; omega⟩
    · have QD := Lib.hid (show c.delays = d.delays from list_eq (by rw [← HM.out.nD, ← HG.out.nD, H_delays.out]) (fun j u v hu hv => HI.out j u v (by have := lt_of_get hu; rw [← HM.out.nD] at this; omega) hu hv))
      go_wp2
      clear a0 a1 a2 a3 a4 a5 a6 a7 a8 b0 b1 b2 b3 b4 b5 b6 b7 b8
      go_loopw [7] (fun iv wr => ∃ (n : Nat), n ≤ ne ∧ iv = .int .i64 n ∧ Hid (QX w c D E L nd cd ne ce nl cl d D2 E2 L2 nd2 cd2 ne2 ce2 nl2 cl2 wr) ∧ Hid (∀ (j : Nat) u v, j < n → c.entries[j]? = some u → d.entries[j]? = some v → u = v)) (fun iv _ => ne - (intOf iv).toNat)
      case atStart => exact ⟨0, Nat.zero_le _, rfl, X, Lib.hid (by intros; omega)⟩
      case round =>
        clear X
        obtain ⟨n, hk, rfl, X, HI⟩ := hrel
        obtain ⟨-, a0, a1, a2, a3, a4, a5, a6, a7, a8, b0, b1, b2, b3, b4, b5, b6, b7, b8⟩ := X.out.s
        by_cases hlt : (n : Int) < (ne : Int)
        · have hltb : (n : Int) < (ne2 : Int) := by have := H_entries.out; omega
          obtain ⟨x, hx⟩ : ∃ x, c.entries[n]? = some x := ⟨_, List.getElem?_eq_getElem (by rw [← HM.out.nE]; omega)⟩
          obtain ⟨y, hy⟩ : ∃ y, d.entries[n]? = some y := ⟨_, List.getElem?_eq_getElem (by rw [← HG.out.nE, ← H_entries.out]; omega)⟩
          obtain ⟨g1, o1, rfl, ⟨x0, x1, x2, x3⟩, -⟩ := (HM.out.he.below X.out.b0) n x hx
          obtain ⟨g2, o2, rfl, ⟨y0, y1, y2, y3⟩, -⟩ := (HG.out.he.below X.out.b0) n y hy
          have HX := Lib.hid hx
          have HY := Lib.hid hy
          clear hx hy
          have hneq := @neq_Entry
          have XD := Lib.hid (X.out.next (Below.refl _ _).drew).s
          have B3 := Lib.hid (X.out.next (Below.refl wr.heap.size wr).drew)
          by_cases hxy : x = y
          case neg =>
            have HQ2 := Lib.hid (show q = false by
              rw [HQ.out]
              refine eqC_false (fun h => ?_)
              have h6 := h.2.2.2.2.2.2.1
              rw [← h6, HX.out] at HY
              have h7 := HY.out
              cases h7
              exact hxy rfl)
            go_wp2_with fail
            have e1 : decide (x ≠ y) = true := by simpa using hxy
            refine wp_region_held_drew (S := fun W : World => Hid (QX w c D (some ⟨g1, o1, none⟩) L nd cd ne ce nl cl d D2 (some ⟨g2, o2, none⟩) L2 nd2 cd2 ne2 ce2 nl2 cl2 W) ∧ W.cell? ⟨w.heap.size, 0, none⟩ = some (.int .i64 c.hosts) ∧ W.cell? ⟨w.heap.size, 1, none⟩ = some (.int .i64 c.cycle) ∧ W.cell? ⟨w.heap.size, 2, none⟩ = some (.int .i64 c.delay) ∧ W.cell? ⟨w.heap.size, 3, none⟩ = some (.int .i64 c.window) ∧ W.cell? ⟨w.heap.size, 4, none⟩ = some (.int .i64 c.precision) ∧ W.cell? ⟨w.heap.size, 5, none⟩ = some (.slice D nd cd) ∧ W.cell? ⟨w.heap.size, 6, none⟩ = some (.slice (some ⟨g1, o1, none⟩) ne ce) ∧ W.cell? ⟨w.heap.size, 7, none⟩ = some (.slice L nl cl) ∧ W.cell? ⟨w.heap.size, 8, none⟩ = some (.int .i64 c.queue) ∧ W.cell? ⟨w.heap.size + 1, 0, none⟩ = some (.int .i64 d.hosts) ∧ W.cell? ⟨w.heap.size + 1, 1, none⟩ = some (.int .i64 d.cycle) ∧ W.cell? ⟨w.heap.size + 1, 2, none⟩ = some (.int .i64 d.delay) ∧ W.cell? ⟨w.heap.size + 1, 3, none⟩ = some (.int .i64 d.window) ∧ W.cell? ⟨w.heap.size + 1, 4, none⟩ = some (.int .i64 d.precision) ∧ W.cell? ⟨w.heap.size + 1, 5, none⟩ = some (.slice D2 nd2 cd2) ∧ W.cell? ⟨w.heap.size + 1, 6, none⟩ = some (.slice (some ⟨g2, o2, none⟩) ne2 ce2) ∧ W.cell? ⟨w.heap.size + 1, 7, none⟩ = some (.slice L2 nl2 cl2) ∧ W.cell? ⟨w.heap.size + 1, 8, none⟩ = some (.int .i64 d.queue) ∧ W.cell? ⟨g1, o1 + n * 4, none⟩ = some (.int .i64 x.a) ∧ W.cell? ⟨g1, o1 + n * 4 + 1, none⟩ = some (.int .u32 (x.b : Int)) ∧ W.cell? ⟨g1, o1 + n * 4 + 2, none⟩ = some (.int .i64 x.c) ∧ W.cell? ⟨g1, o1 + n * 4 + 3, none⟩ = some (.int .i64 x.d) ∧ W.cell? ⟨g2, o2 + n * 4, none⟩ = some (.int .i64 y.a) ∧ W.cell? ⟨g2, o2 + n * 4 + 1, none⟩ = some (.int .u32 (y.b : Int)) ∧ W.cell? ⟨g2, o2 + n * 4 + 2, none⟩ = some (.int .i64 y.c) ∧ W.cell? ⟨g2, o2 + n * 4 + 3, none⟩ = some (.int .i64 y.d)) (by kernel_rfl) (⟨XD.out.1, a0, a1, a2, a3, a4, a5, a6, a7, a8, b0, b1, b2, b3, b4, b5, b6, b7, b8, x0, x1, x2, x3, y0, y1, y2, y3⟩) (fun hHeld => ?_)
            refine wpAnyH_take (i := 0) (oi := ⟨(some 130), _, _, _, _, _⟩) (v := ?_) rfl (by kernel_rfl) (by kernel_rfl) (by kernel_rfl) (fun _ _ _ h => h) (Or.inl ⟨by kernel_rfl, ?_⟩) (by assumption) ?_; rotate_left; (focus (intro w hSw; (try dsimp only at hSw); go_simp; (try with_reducible rfl)))
            simp only [Act.put, List.setIfInBounds_toArray, List.set_cons_zero, List.set_cons_succ]
            refine wpAnyH_take (i := 1) (oi := ⟨(some 131), _, _, _, _, _⟩) (v := ?_) rfl (by kernel_rfl) (by kernel_rfl) (by kernel_rfl) (fun _ _ _ h => h) (Or.inl ⟨by kernel_rfl, ?_⟩) (by assumption) ?_; rotate_left; (focus (intro w hSw; (try dsimp only at hSw); go_simp; (try with_reducible rfl)))
            simp only [Act.put, List.setIfInBounds_toArray, List.set_cons_zero, List.set_cons_succ]
            refine wpAnyH_take (i := 2) (oi := ⟨(some 132), _, _, _, _, _⟩) (v := ?_) rfl (by kernel_rfl) (by kernel_rfl) (by kernel_rfl) (fun _ _ _ h => h) (Or.inl ⟨by kernel_rfl, ?_⟩) (by assumption) ?_; rotate_left; (focus (intro w hSw; (try dsimp only at hSw); go_simp; (try with_reducible rfl)))
            simp only [Act.put, List.setIfInBounds_toArray, List.set_cons_zero, List.set_cons_succ]
            refine wpAnyH_take (i := 3) (oi := ⟨(some 133), _, _, _, _, _⟩) (v := ?_) rfl (by kernel_rfl) (by kernel_rfl) (by kernel_rfl) (fun _ _ _ h => h) (Or.inl ⟨by kernel_rfl, ?_⟩) (by assumption) ?_; rotate_left; (focus (intro w hSw; (try dsimp only at hSw); go_simp; (try with_reducible rfl)))
            simp only [Act.put, List.setIfInBounds_toArray, List.set_cons_zero, List.set_cons_succ]
            refine wpAnyH_take (i := 4) (oi := ⟨(some 134), _, _, _, _, _⟩) (v := ?_) rfl (by kernel_rfl) (by kernel_rfl) (by kernel_rfl) (fun _ _ _ h => h) (Or.inl ⟨by kernel_rfl, ?_⟩) (by assumption) ?_; rotate_left; (focus (intro w hSw; (try dsimp only at hSw); go_simp; (try with_reducible rfl)))
            simp only [Act.put, List.setIfInBounds_toArray, List.set_cons_zero, List.set_cons_succ]
            refine wpAnyH_take (i := 5) (oi := ⟨(some 135), _, _, _, _, _⟩) (v := ?_) rfl (by kernel_rfl) (by kernel_rfl) (by kernel_rfl) (fun _ _ _ h => h) (Or.inl ⟨by kernel_rfl, ?_⟩) (by assumption) ?_; rotate_left; (focus (intro w hSw; (try dsimp only at hSw); go_simp; (try with_reducible rfl)))
            simp only [Act.put, List.setIfInBounds_toArray, List.set_cons_zero, List.set_cons_succ]
            refine wpAnyH_take (i := 6) (oi := ⟨(some 136), _, _, _, _, _⟩) (v := ?_) rfl (by kernel_rfl) (by kernel_rfl) (by kernel_rfl) (fun _ _ _ h => h) (Or.inl ⟨by kernel_rfl, ?_⟩) (by assumption) ?_; rotate_left; (focus (intro w hSw; (try dsimp only at hSw); go_simp; (try with_reducible rfl)))
            simp only [Act.put, List.setIfInBounds_toArray, List.set_cons_zero, List.set_cons_succ]
            refine wpAnyH_take (i := 7) (oi := ⟨(some 137), _, _, _, _, _⟩) (v := ?_) rfl (by kernel_rfl) (by kernel_rfl) (by kernel_rfl) (fun _ _ _ h => h) (Or.inl ⟨by kernel_rfl, ?_⟩) (by assumption) ?_; rotate_left; (focus (intro w hSw; (try dsimp only at hSw); go_simp; (try with_reducible rfl)))
            simp only [Act.put, List.setIfInBounds_toArray, List.set_cons_zero, List.set_cons_succ]
            refine wpAnyH_take (i := 8) (oi := ⟨(some 138), _, _, _, _, _⟩) (v := ?_) rfl (by kernel_rfl) (by kernel_rfl) (by kernel_rfl) (fun _ _ _ h => h) (Or.inl ⟨by kernel_rfl, ?_⟩) (by assumption) ?_; rotate_left; (focus (intro w hSw; (try dsimp only at hSw); go_simp; (try with_reducible rfl)))
            simp only [Act.put, List.setIfInBounds_toArray, List.set_cons_zero, List.set_cons_succ]
            refine wpAnyH_take (i := 9) (oi := ⟨(some 139), _, _, _, _, _⟩) (v := ?_) rfl (by kernel_rfl) (by kernel_rfl) (by kernel_rfl) (fun _ _ _ h => h) (Or.inl ⟨by kernel_rfl, ?_⟩) (by assumption) ?_; rotate_left; (focus (intro w hSw; (try dsimp only at hSw); go_simp; (try with_reducible rfl)))
            simp only [Act.put, List.setIfInBounds_toArray, List.set_cons_zero, List.set_cons_succ]
            refine wpAnyH_take (i := 10) (oi := ⟨(some 140), _, _, _, _, _⟩) (v := ?_) rfl (by kernel_rfl) (by kernel_rfl) (by kernel_rfl) (fun _ _ _ h => h) (Or.inl ⟨by kernel_rfl, ?_⟩) (by assumption) ?_; rotate_left; (focus (intro w hSw; (try dsimp only at hSw); go_simp; (try with_reducible rfl)))
            simp only [Act.put, List.setIfInBounds_toArray, List.set_cons_zero, List.set_cons_succ]
            refine wpAnyH_done (by kernel_rfl) ?_ _
            clear hHeld
            go_wp2
            go_ret
            exact ⟨by rw [HQ2.out]; rfl, B3.out.b0⟩
          have HJ2 := Lib.hid (show ∀ (j : Nat) u v, j < n + 1 → c.entries[j]? = some u → d.entries[j]? = some v → u = v by
            intro j u v hj hu hv
            by_cases hjn : j = n
            · subst hjn
              rw [HX.out] at hu
              rw [HY.out] at hv
              cases hu
              cases hv
              exact hxy
            · exact HI.out j u v (by omega) hu hv)
          go_wp2_with fail
          have e1 : decide (x ≠ y) = false := by simpa using hxy
          refine wp_region_held_drew (S := fun W : World => Hid (QX w c D (some ⟨g1, o1, none⟩) L nd cd ne ce nl cl d D2 (some ⟨g2, o2, none⟩) L2 nd2 cd2 ne2 ce2 nl2 cl2 W) ∧ W.cell? ⟨w.heap.size, 0, none⟩ = some (.int .i64 c.hosts) ∧ W.cell? ⟨w.heap.size, 1, none⟩ = some (.int .i64 c.cycle) ∧ W.cell? ⟨w.heap.size, 2, none⟩ = some (.int .i64 c.delay) ∧ W.cell? ⟨w.heap.size, 3, none⟩ = some (.int .i64 c.window) ∧ W.cell? ⟨w.heap.size, 4, none⟩ = some (.int .i64 c.precision) ∧ W.cell? ⟨w.heap.size, 5, none⟩ = some (.slice D nd cd) ∧ W.cell? ⟨w.heap.size, 6, none⟩ = some (.slice (some ⟨g1, o1, none⟩) ne ce) ∧ W.cell? ⟨w.heap.size, 7, none⟩ = some (.slice L nl cl) ∧ W.cell? ⟨w.heap.size, 8, none⟩ = some (.int .i64 c.queue) ∧ W.cell? ⟨w.heap.size + 1, 0, none⟩ = some (.int .i64 d.hosts) ∧ W.cell? ⟨w.heap.size + 1, 1, none⟩ = some (.int .i64 d.cycle) ∧ W.cell? ⟨w.heap.size + 1, 2, none⟩ = some (.int .i64 d.delay) ∧ W.cell? ⟨w.heap.size + 1, 3, none⟩ = some (.int .i64 d.window) ∧ W.cell? ⟨w.heap.size + 1, 4, none⟩ = some (.int .i64 d.precision) ∧ W.cell? ⟨w.heap.size + 1, 5, none⟩ = some (.slice D2 nd2 cd2) ∧ W.cell? ⟨w.heap.size + 1, 6, none⟩ = some (.slice (some ⟨g2, o2, none⟩) ne2 ce2) ∧ W.cell? ⟨w.heap.size + 1, 7, none⟩ = some (.slice L2 nl2 cl2) ∧ W.cell? ⟨w.heap.size + 1, 8, none⟩ = some (.int .i64 d.queue) ∧ W.cell? ⟨g1, o1 + n * 4, none⟩ = some (.int .i64 x.a) ∧ W.cell? ⟨g1, o1 + n * 4 + 1, none⟩ = some (.int .u32 (x.b : Int)) ∧ W.cell? ⟨g1, o1 + n * 4 + 2, none⟩ = some (.int .i64 x.c) ∧ W.cell? ⟨g1, o1 + n * 4 + 3, none⟩ = some (.int .i64 x.d) ∧ W.cell? ⟨g2, o2 + n * 4, none⟩ = some (.int .i64 y.a) ∧ W.cell? ⟨g2, o2 + n * 4 + 1, none⟩ = some (.int .u32 (y.b : Int)) ∧ W.cell? ⟨g2, o2 + n * 4 + 2, none⟩ = some (.int .i64 y.c) ∧ W.cell? ⟨g2, o2 + n * 4 + 3, none⟩ = some (.int .i64 y.d)) (by kernel_rfl) (⟨XD.out.1, a0, a1, a2, a3, a4, a5, a6, a7, a8, b0, b1, b2, b3, b4, b5, b6, b7, b8, x0, x1, x2, x3, y0, y1, y2, y3⟩) (fun hHeld => ?_)
          refine wpAnyH_take (i := 0) (oi := ⟨(some 130), _, _, _, _, _⟩) (v := ?_) rfl (by kernel_rfl) (by kernel_rfl) (by kernel_rfl) (fun _ _ _ h => h) (Or.inl ⟨by kernel_rfl, ?_⟩) (by assumption) ?_; rotate_left; (focus (intro w hSw; (try dsimp only at hSw); go_simp; (try with_reducible rfl)))
          simp only [Act.put, List.setIfInBounds_toArray, List.set_cons_zero, List.set_cons_succ]
          refine wpAnyH_take (i := 1) (oi := ⟨(some 131), _, _, _, _, _⟩) (v := ?_) rfl (by kernel_rfl) (by kernel_rfl) (by kernel_rfl) (fun _ _ _ h => h) (Or.inl ⟨by kernel_rfl, ?_⟩) (by assumption) ?_; rotate_left; (focus (intro w hSw; (try dsimp only at hSw); go_simp; (try with_reducible rfl)))
          simp only [Act.put, List.setIfInBounds_toArray, List.set_cons_zero, List.set_cons_succ]
          refine wpAnyH_take (i := 2) (oi := ⟨(some 132), _, _, _, _, _⟩) (v := ?_) rfl (by kernel_rfl) (by kernel_rfl) (by kernel_rfl) (fun _ _ _ h => h) (Or.inl ⟨by kernel_rfl, ?_⟩) (by assumption) ?_; rotate_left; (focus (intro w hSw; (try dsimp only at hSw); go_simp; (try with_reducible rfl)))
          simp only [Act.put, List.setIfInBounds_toArray, List.set_cons_zero, List.set_cons_succ]
          refine wpAnyH_take (i := 3) (oi := ⟨(some 133), _, _, _, _, _⟩) (v := ?_) rfl (by kernel_rfl) (by kernel_rfl) (by kernel_rfl) (fun _ _ _ h => h) (Or.inl ⟨by kernel_rfl, ?_⟩) (by assumption) ?_; rotate_left; (focus (intro w hSw; (try dsimp only at hSw); go_simp; (try with_reducible rfl)))
          simp only [Act.put, List.setIfInBounds_toArray, List.set_cons_zero, List.set_cons_succ]
          refine wpAnyH_take (i := 4) (oi := ⟨(some 134), _, _, _, _, _⟩) (v := ?_) rfl (by kernel_rfl) (by kernel_rfl) (by kernel_rfl) (fun _ _ _ h => h) (Or.inl ⟨by kernel_rfl, ?_⟩) (by assumption) ?_; rotate_left; (focus (intro w hSw; (try dsimp only at hSw); go_simp; (try with_reducible rfl)))
          simp only [Act.put, List.setIfInBounds_toArray, List.set_cons_zero, List.set_cons_succ]
          refine wpAnyH_take (i := 5) (oi := ⟨(some 135), _, _, _, _, _⟩) (v := ?_) rfl (by kernel_rfl) (by kernel_rfl) (by kernel_rfl) (fun _ _ _ h => h) (Or.inl ⟨by kernel_rfl, ?_⟩) (by assumption) ?_; rotate_left; (focus (intro w hSw; (try dsimp only at hSw); go_simp; (try with_reducible rfl)))
          simp only [Act.put, List.setIfInBounds_toArray, List.set_cons_zero, List.set_cons_succ]
          refine wpAnyH_take (i := 6) (oi := ⟨(some 136), _, _, _, _, _⟩) (v := ?_) rfl (by kernel_rfl) (by kernel_rfl) (by kernel_rfl) (fun _ _ _ h => h) (Or.inl ⟨by kernel_rfl, ?_⟩) (by assumption) ?_; rotate_left; (focus (intro w hSw; (try dsimp only at hSw); go_simp; (try with_reducible rfl)))
          simp only [Act.put, List.setIfInBounds_toArray, List.set_cons_zero, List.set_cons_succ]
          refine wpAnyH_take (i := 7) (oi := ⟨(some 137), _, _, _, _, _⟩) (v := ?_) rfl (by kernel_rfl) (by kernel_rfl) (by kernel_rfl) (fun _ _ _ h => h) (Or.inl ⟨by kernel_rfl, ?_⟩) (by assumption) ?_; rotate_left; (focus (intro w hSw; (try dsimp only at hSw); go_simp; (try with_reducible rfl)))
          simp only [Act.put, List.setIfInBounds_toArray, List.set_cons_zero, List.set_cons_succ]
          refine wpAnyH_take (i := 8) (oi := ⟨(some 138), _, _, _, _, _⟩) (v := ?_) rfl (by kernel_rfl) (by kernel_rfl) (by kernel_rfl) (fun _ _ _ h => h) (Or.inl ⟨by kernel_rfl, ?_⟩) (by assumption) ?_; rotate_left; (focus (intro w hSw; (try dsimp only at hSw); go_simp; (try with_reducible rfl)))
          simp only [Act.put, List.setIfInBounds_toArray, List.set_cons_zero, List.set_cons_succ]
          refine wpAnyH_take (i := 9) (oi := ⟨(some 139), _, _, _, _, _⟩) (v := ?_) rfl (by kernel_rfl) (by kernel_rfl) (by kernel_rfl) (fun _ _ _ h => h) (Or.inl ⟨by kernel_rfl, ?_⟩) (by assumption) ?_; rotate_left; (focus (intro w hSw; (try dsimp only at hSw); go_simp; (try with_reducible rfl)))
          simp only [Act.put, List.setIfInBounds_toArray, List.set_cons_zero, List.set_cons_succ]
          refine wpAnyH_take (i := 10) (oi := ⟨(some 140), _, _, _, _, _⟩) (v := ?_) rfl (by kernel_rfl) (by kernel_rfl) (by kernel_rfl) (fun _ _ _ h => h) (Or.inl ⟨by kernel_rfl, ?_⟩) (by assumption) ?_; rotate_left; (focus (intro w hSw; (try dsimp only at hSw); go_simp; (try with_reducible rfl)))
          simp only [Act.put, List.setIfInBounds_toArray, List.set_cons_zero, List.set_cons_succ]
          refine wpAnyH_done (by kernel_rfl) ?_ _
          clear hHeld
          go_wp2
          go_roundw
          case rel => exact ⟨n + 1, by omega, by go_num, B3, HJ2⟩
          case measure => simp [intOf]; omega
        · have QE := Lib.hid (show c.entries = d.entries from list_eq (by rw [← HM.out.nE, ← HG.out.nE, H_entries.out]) (fun j u v hu hv => HI.out j u v (by have := lt_of_get hu; rw [← HM.out.nE] at this; omega) hu hv))
          go_wp2
          clear a0 a1 a2 a3 a4 a5 a6 a7 a8 b0 b1 b2 b3 b4 b5 b6 b7 b8
          go_loopw [8] (fun iv wr => ∃ (n : Nat), n ≤ nl ∧ iv = .int .i64 n ∧ Hid (QX w c D E L nd cd ne ce nl cl d D2 E2 L2 nd2 cd2 ne2 ce2 nl2 cl2 wr) ∧ Hid (∀ (j : Nat) u v, j < n → c.links[j]? = some u → d.links[j]? = some v → u = v)) (fun iv _ => nl - (intOf iv).toNat)
          case atStart => exact ⟨0, Nat.zero_le _, rfl, X, Lib.hid (by intros; omega)⟩
          case round =>
            clear X
            obtain ⟨n, hk, rfl, X, HI⟩ := hrel
            obtain ⟨-, a0, a1, a2, a3, a4, a5, a6, a7, a8, b0, b1, b2, b3, b4, b5, b6, b7, b8⟩ := X.out.s
            by_cases hlt : (n : Int) < (nl : Int)
            · have hltb : (n : Int) < (nl2 : Int) := by have := H_links.out; omega
              obtain ⟨x, hx⟩ : ∃ x, c.links[n]? = some x := ⟨_, List.getElem?_eq_getElem (by rw [← HM.out.nL]; omega)⟩
              obtain ⟨y, hy⟩ : ∃ y, d.links[n]? = some y := ⟨_, List.getElem?_eq_getElem (by rw [← HG.out.nL, ← H_links.out]; omega)⟩
              obtain ⟨g1, o1, rfl, ⟨x0, x1, x2, x3⟩, -⟩ := (HM.out.hl.below X.out.b0) n x hx
              obtain ⟨g2, o2, rfl, ⟨y0, y1, y2, y3⟩, -⟩ := (HG.out.hl.below X.out.b0) n y hy
              have HX := Lib.hid hx
              have HY := Lib.hid hy
              clear hx hy
              have hneq := @neq_Link
              have XD := Lib.hid (X.out.next (Below.refl _ _).drew).s
              have B3 := Lib.hid (X.out.next (Below.refl wr.heap.size wr).drew)
              by_cases hxy : x = y
              case neg =>
                have HQ2 := Lib.hid (show q = false by
                  rw [HQ.out]
                  refine eqC_false (fun h => ?_)
                  have h6 := h.2.2.2.2.2.2.2.1
                  rw [← h6, HX.out] at HY
                  have h7 := HY.out
                  cases h7
                  exact hxy rfl)
                go_wp2_with fail
                have e1 : decide (x ≠ y) = true := by simpa using hxy
                refine wp_region_held_drew (S := fun W : World => Hid (QX w c D E (some ⟨g1, o1, none⟩) nd cd ne ce nl cl d D2 E2 (some ⟨g2, o2, none⟩) nd2 cd2 ne2 ce2 nl2 cl2 W) ∧ W.cell? ⟨w.heap.size, 0, none⟩ = some (.int .i64 c.hosts) ∧ W.cell? ⟨w.heap.size, 1, none⟩ = some (.int .i64 c.cycle) ∧ W.cell? ⟨w.heap.size, 2, none⟩ = some (.int .i64 c.delay) ∧ W.cell? ⟨w.heap.size, 3, none⟩ = some (.int .i64 c.window) ∧ W.cell? ⟨w.heap.size, 4, none⟩ = some (.int .i64 c.precision) ∧ W.cell? ⟨w.heap.size, 5, none⟩ = some (.slice D nd cd) ∧ W.cell? ⟨w.heap.size, 6, none⟩ = some (.slice E ne ce) ∧ W.cell? ⟨w.heap.size, 7, none⟩ = some (.slice (some ⟨g1, o1, none⟩) nl cl) ∧ W.cell? ⟨w.heap.size, 8, none⟩ = some (.int .i64 c.queue) ∧ W.cell? ⟨w.heap.size + 1, 0, none⟩ = some (.int .i64 d.hosts) ∧ W.cell? ⟨w.heap.size + 1, 1, none⟩ = some (.int .i64 d.cycle) ∧ W.cell? ⟨w.heap.size + 1, 2, none⟩ = some (.int .i64 d.delay) ∧ W.cell? ⟨w.heap.size + 1, 3, none⟩ = some (.int .i64 d.window) ∧ W.cell? ⟨w.heap.size + 1, 4, none⟩ = some (.int .i64 d.precision) ∧ W.cell? ⟨w.heap.size + 1, 5, none⟩ = some (.slice D2 nd2 cd2) ∧ W.cell? ⟨w.heap.size + 1, 6, none⟩ = some (.slice E2 ne2 ce2) ∧ W.cell? ⟨w.heap.size + 1, 7, none⟩ = some (.slice (some ⟨g2, o2, none⟩) nl2 cl2) ∧ W.cell? ⟨w.heap.size + 1, 8, none⟩ = some (.int .i64 d.queue) ∧ W.cell? ⟨g1, o1 + n * 4, none⟩ = some (.int .i64 x.a) ∧ W.cell? ⟨g1, o1 + n * 4 + 1, none⟩ = some (.int .u32 (x.b : Int)) ∧ W.cell? ⟨g1, o1 + n * 4 + 2, none⟩ = some (.int .i64 x.c) ∧ W.cell? ⟨g1, o1 + n * 4 + 3, none⟩ = some (.int .i64 x.d) ∧ W.cell? ⟨g2, o2 + n * 4, none⟩ = some (.int .i64 y.a) ∧ W.cell? ⟨g2, o2 + n * 4 + 1, none⟩ = some (.int .u32 (y.b : Int)) ∧ W.cell? ⟨g2, o2 + n * 4 + 2, none⟩ = some (.int .i64 y.c) ∧ W.cell? ⟨g2, o2 + n * 4 + 3, none⟩ = some (.int .i64 y.d)) (by kernel_rfl) (⟨XD.out.1, a0, a1, a2, a3, a4, a5, a6, a7, a8, b0, b1, b2, b3, b4, b5, b6, b7, b8, x0, x1, x2, x3, y0, y1, y2, y3⟩) (fun hHeld => ?_)
                refine wpAnyH_take (i := 0) (oi := ⟨(some 148), _, _, _, _, _⟩) (v := ?_) rfl (by kernel_rfl) (by kernel_rfl) (by kernel_rfl) (fun _ _ _ h => h) (Or.inl ⟨by kernel_rfl, ?_⟩) (by assumption) ?_; rotate_left; (focus (intro w hSw; (try dsimp only at hSw); go_simp; (try with_reducible rfl)))
                simp only [Act.put, List.setIfInBounds_toArray, List.set_cons_zero, List.set_cons_succ]
                refine wpAnyH_take (i := 1) (oi := ⟨(some 149), _, _, _, _, _⟩) (v := ?_) rfl (by kernel_rfl) (by kernel_rfl) (by kernel_rfl) (fun _ _ _ h => h) (Or.inl ⟨by kernel_rfl, ?_⟩) (by assumption) ?_; rotate_left; (focus (intro w hSw; (try dsimp only at hSw); go_simp; (try with_reducible rfl)))
                simp only [Act.put, List.setIfInBounds_toArray, List.set_cons_zero, List.set_cons_succ]
                refine wpAnyH_take (i := 2) (oi := ⟨(some 150), _, _, _, _, _⟩) (v := ?_) rfl (by kernel_rfl) (by kernel_rfl) (by kernel_rfl) (fun _ _ _ h => h) (Or.inl ⟨by kernel_rfl, ?_⟩) (by assumption) ?_; rotate_left; (focus (intro w hSw; (try dsimp only at hSw); go_simp; (try with_reducible rfl)))
                simp only [Act.put, List.setIfInBounds_toArray, List.set_cons_zero, List.set_cons_succ]
                refine wpAnyH_take (i := 3) (oi := ⟨(some 151), _, _, _, _, _⟩) (v := ?_) rfl (by kernel_rfl) (by kernel_rfl) (by kernel_rfl) (fun _ _ _ h => h) (Or.inl ⟨by kernel_rfl, ?_⟩) (by assumption) ?_; rotate_left; (focus (intro w hSw; (try dsimp only at hSw); go_simp; (try with_reducible rfl)))
                simp only [Act.put, List.setIfInBounds_toArray, List.set_cons_zero, List.set_cons_succ]
                refine wpAnyH_take (i := 4) (oi := ⟨(some 152), _, _, _, _, _⟩) (v := ?_) rfl (by kernel_rfl) (by kernel_rfl) (by kernel_rfl) (fun _ _ _ h => h) (Or.inl ⟨by kernel_rfl, ?_⟩) (by assumption) ?_; rotate_left; (focus (intro w hSw; (try dsimp only at hSw); go_simp; (try with_reducible rfl)))
                simp only [Act.put, List.setIfInBounds_toArray, List.set_cons_zero, List.set_cons_succ]
                refine wpAnyH_take (i := 5) (oi := ⟨(some 153), _, _, _, _, _⟩) (v := ?_) rfl (by kernel_rfl) (by kernel_rfl) (by kernel_rfl) (fun _ _ _ h => h) (Or.inl ⟨by kernel_rfl, ?_⟩) (by assumption) ?_; rotate_left; (focus (intro w hSw; (try dsimp only at hSw); go_simp; (try with_reducible rfl)))
                simp only [Act.put, List.setIfInBounds_toArray, List.set_cons_zero, List.set_cons_succ]
                refine wpAnyH_take (i := 6) (oi := ⟨(some 154), _, _, _, _, _⟩) (v := ?_) rfl (by kernel_rfl) (by kernel_rfl) (by kernel_rfl) (fun _ _ _ h => h) (Or.inl ⟨by kernel_rfl, ?_⟩) (by assumption) ?_; rotate_left; (focus (intro w hSw; (try dsimp only at hSw); go_simp; (try with_reducible rfl)))
                simp only [Act.put, List.setIfInBounds_toArray, List.set_cons_zero, List.set_cons_succ]
                refine wpAnyH_take (i := 7) (oi := ⟨(some 155), _, _, _, _, _⟩) (v := ?_) rfl (by kernel_rfl) (by kernel_rfl) (by kernel_rfl) (fun _ _ _ h => h) (Or.inl ⟨by kernel_rfl, ?_⟩) (by assumption) ?_; rotate_left; (focus (intro w hSw; (try dsimp only at hSw); go_simp; (try with_reducible rfl)))
                simp only [Act.put, List.setIfInBounds_toArray, List.set_cons_zero, List.set_cons_succ]
                refine wpAnyH_take (i := 8) (oi := ⟨(some 156), _, _, _, _, _⟩) (v := ?_) rfl (by kernel_rfl) (by kernel_rfl) (by kernel_rfl) (fun _ _ _ h => h) (Or.inl ⟨by kernel_rfl, ?_⟩) (by assumption) ?_; rotate_left; (focus (intro w hSw; (try dsimp only at hSw); go_simp; (try with_reducible rfl)))
                simp only [Act.put, List.setIfInBounds_toArray, List.set_cons_zero, List.set_cons_succ]
                refine wpAnyH_take (i := 9) (oi := ⟨(some 157), _, _, _, _, _⟩) (v := ?_) rfl (by kernel_rfl) (by kernel_rfl) (by kernel_rfl) (fun _ _ _ h => h) (Or.inl ⟨by kernel_rfl, ?_⟩) (by assumption) ?_; rotate_left; (focus (intro w hSw; (try dsimp only at hSw); go_simp; (try with_reducible rfl)))
                simp only [Act.put, List.setIfInBounds_toArray, List.set_cons_zero, List.set_cons_succ]
                refine wpAnyH_take (i := 10) (oi := ⟨(some 158), _, _, _, _, _⟩) (v := ?_) rfl (by kernel_rfl) (by kernel_rfl) (by kernel_rfl) (fun _ _ _ h => h) (Or.inl ⟨by kernel_rfl, ?_⟩) (by assumption) ?_; rotate_left; (focus (intro w hSw; (try dsimp only at hSw); go_simp; (try with_reducible rfl)))
                simp only [Act.put, List.setIfInBounds_toArray, List.set_cons_zero, List.set_cons_succ]
                refine wpAnyH_done (by kernel_rfl) ?_ _
                clear hHeld
                go_wp2
                go_ret
                exact ⟨by rw [HQ2.out]; rfl, B3.out.b0⟩
              have HJ2 := Lib.hid (show ∀ (j : Nat) u v, j < n + 1 → c.links[j]? = some u → d.links[j]? = some v → u = v by
                intro j u v hj hu hv
                by_cases hjn : j = n
                · subst hjn
                  rw [HX.out] at hu
                  rw [HY.out] at hv
                  cases hu
                  cases hv
                  exact hxy
                · exact HI.out j u v (by omega) hu hv)
              go_wp2_with fail
              have e1 : decide (x ≠ y) = false := by simpa using hxy
              refine wp_region_held_drew (S := fun W : World => Hid (QX w c D E (some ⟨g1, o1, none⟩) nd cd ne ce nl cl d D2 E2 (some ⟨g2, o2, none⟩) nd2 cd2 ne2 ce2 nl2 cl2 W) ∧ W.cell? ⟨w.heap.size, 0, none⟩ = some (.int .i64 c.hosts) ∧ W.cell? ⟨w.heap.size, 1, none⟩ = some (.int .i64 c.cycle) ∧ W.cell? ⟨w.heap.size, 2, none⟩ = some (.int .i64 c.delay) ∧ W.cell? ⟨w.heap.size, 3, none⟩ = some (.int .i64 c.window) ∧ W.cell? ⟨w.heap.size, 4, none⟩ = some (.int .i64 c.precision) ∧ W.cell? ⟨w.heap.size, 5, none⟩ = some (.slice D nd cd) ∧ W.cell? ⟨w.heap.size, 6, none⟩ = some (.slice E ne ce) ∧ W.cell? ⟨w.heap.size, 7, none⟩ = some (.slice (some ⟨g1, o1, none⟩) nl cl) ∧ W.cell? ⟨w.heap.size, 8, none⟩ = some (.int .i64 c.queue) ∧ W.cell? ⟨w.heap.size + 1, 0, none⟩ = some (.int .i64 d.hosts) ∧ W.cell? ⟨w.heap.size + 1, 1, none⟩ = some (.int .i64 d.cycle) ∧ W.cell? ⟨w.heap.size + 1, 2, none⟩ = some (.int .i64 d.delay) ∧ W.cell? ⟨w.heap.size + 1, 3, none⟩ = some (.int .i64 d.window) ∧ W.cell? ⟨w.heap.size + 1, 4, none⟩ = some (.int .i64 d.precision) ∧ W.cell? ⟨w.heap.size + 1, 5, none⟩ = some (.slice D2 nd2 cd2) ∧ W.cell? ⟨w.heap.size + 1, 6, none⟩ = some (.slice E2 ne2 ce2) ∧ W.cell? ⟨w.heap.size + 1, 7, none⟩ = some (.slice (some ⟨g2, o2, none⟩) nl2 cl2) ∧ W.cell? ⟨w.heap.size + 1, 8, none⟩ = some (.int .i64 d.queue) ∧ W.cell? ⟨g1, o1 + n * 4, none⟩ = some (.int .i64 x.a) ∧ W.cell? ⟨g1, o1 + n * 4 + 1, none⟩ = some (.int .u32 (x.b : Int)) ∧ W.cell? ⟨g1, o1 + n * 4 + 2, none⟩ = some (.int .i64 x.c) ∧ W.cell? ⟨g1, o1 + n * 4 + 3, none⟩ = some (.int .i64 x.d) ∧ W.cell? ⟨g2, o2 + n * 4, none⟩ = some (.int .i64 y.a) ∧ W.cell? ⟨g2, o2 + n * 4 + 1, none⟩ = some (.int .u32 (y.b : Int)) ∧ W.cell? ⟨g2, o2 + n * 4 + 2, none⟩ = some (.int .i64 y.c) ∧ W.cell? ⟨g2, o2 + n * 4 + 3, none⟩ = some (.int .i64 y.d)) (by kernel_rfl) (⟨XD.out.1, a0, a1, a2, a3, a4, a5, a6, a7, a8, b0, b1, b2, b3, b4, b5, b6, b7, b8, x0, x1, x2, x3, y0, y1, y2, y3⟩) (fun hHeld => ?_)
              refine wpAnyH_take (i := 0) (oi := ⟨(some 148), _, _, _, _, _⟩) (v := ?_) rfl (by kernel_rfl) (by kernel_rfl) (by kernel_rfl) (fun _ _ _ h => h) (Or.inl ⟨by kernel_rfl, ?_⟩) (by assumption) ?_; rotate_left; (focus (intro w hSw; (try dsimp only at hSw); go_simp; (try with_reducible rfl)))
              simp only [Act.put, List.setIfInBounds_toArray, List.set_cons_zero, List.set_cons_succ]
              refine wpAnyH_take (i := 1) (oi := ⟨(some 149), _, _, _, _, _⟩) (v := ?_) rfl (by kernel_rfl) (by kernel_rfl) (by kernel_rfl) (fun _ _ _ h => h) (Or.inl ⟨by kernel_rfl, ?_⟩) (by assumption) ?_; rotate_left; (focus (intro w hSw; (try dsimp only at hSw); go_simp; (try with_reducible rfl)))
              simp only [Act.put, List.setIfInBounds_toArray, List.set_cons_zero, List.set_cons_succ]
              refine wpAnyH_take (i := 2) (oi := ⟨(some 150), _, _, _, _, _⟩) (v := ?_) rfl (by kernel_rfl) (by kernel_rfl) (by kernel_rfl) (fun _ _ _ h => h) (Or.inl ⟨by kernel_rfl, ?_⟩) (by assumption) ?_; rotate_left; (focus (intro w hSw; (try dsimp only at hSw); go_simp; (try with_reducible rfl)))
              simp only [Act.put, List.setIfInBounds_toArray, List.set_cons_zero, List.set_cons_succ]
              refine wpAnyH_take (i := 3) (oi := ⟨(some 151), _, _, _, _, _⟩) (v := ?_) rfl (by kernel_rfl) (by kernel_rfl) (by kernel_rfl) (fun _ _ _ h => h) (Or.inl ⟨by kernel_rfl, ?_⟩) (by assumption) ?_; rotate_left; (focus (intro w hSw; (try dsimp only at hSw); go_simp; (try with_reducible rfl)))
              simp only [Act.put, List.setIfInBounds_toArray, List.set_cons_zero, List.set_cons_succ]
              refine wpAnyH_take (i := 4) (oi := ⟨(some 152), _, _, _, _, _⟩) (v := ?_) rfl (by kernel_rfl) (by kernel_rfl) (by kernel_rfl) (fun _ _ _ h => h) (Or.inl ⟨by kernel_rfl, ?_⟩) (by assumption) ?_; rotate_left; (focus (intro w hSw; (try dsimp only at hSw); go_simp; (try with_reducible rfl)))
              simp only [Act.put, List.setIfInBounds_toArray, List.set_cons_zero, List.set_cons_succ]
              refine wpAnyH_take (i := 5) (oi := ⟨(some 153), _, _, _, _, _⟩) (v := ?_) rfl (by kernel_rfl) (by kernel_rfl) (by kernel_rfl) (fun _ _ _ h => h) (Or.inl ⟨by kernel_rfl, ?_⟩) (by assumption) ?_; rotate_left; (focus (intro w hSw; (try dsimp only at hSw); go_simp; (try with_reducible rfl)))
              simp only [Act.put, List.setIfInBounds_toArray, List.set_cons_zero, List.set_cons_succ]
              refine wpAnyH_take (i := 6) (oi := ⟨(some 154), _, _, _, _, _⟩) (v := ?_) rfl (by kernel_rfl) (by kernel_rfl) (by kernel_rfl) (fun _ _ _ h => h) (Or.inl ⟨by kernel_rfl, ?_⟩) (by assumption) ?_; rotate_left; (focus (intro w hSw; (try dsimp only at hSw); go_simp; (try with_reducible rfl)))
              simp only [Act.put, List.setIfInBounds_toArray, List.set_cons_zero, List.set_cons_succ]
              refine wpAnyH_take (i := 7) (oi := ⟨(some 155), _, _, _, _, _⟩) (v := ?_) rfl (by kernel_rfl) (by kernel_rfl) (by kernel_rfl) (fun _ _ _ h => h) (Or.inl ⟨by kernel_rfl, ?_⟩) (by assumption) ?_; rotate_left; (focus (intro w hSw; (try dsimp only at hSw); go_simp; (try with_reducible rfl)))
              simp only [Act.put, List.setIfInBounds_toArray, List.set_cons_zero, List.set_cons_succ]
              refine wpAnyH_take (i := 8) (oi := ⟨(some 156), _, _, _, _, _⟩) (v := ?_) rfl (by kernel_rfl) (by kernel_rfl) (by kernel_rfl) (fun _ _ _ h => h) (Or.inl ⟨by kernel_rfl, ?_⟩) (by assumption) ?_; rotate_left; (focus (intro w hSw; (try dsimp only at hSw); go_simp; (try with_reducible rfl)))
              simp only [Act.put, List.setIfInBounds_toArray, List.set_cons_zero, List.set_cons_succ]
              refine wpAnyH_take (i := 9) (oi := ⟨(some 157), _, _, _, _, _⟩) (v := ?_) rfl (by kernel_rfl) (by kernel_rfl) (by kernel_rfl) (fun _ _ _ h => h) (Or.inl ⟨by kernel_rfl, ?_⟩) (by assumption) ?_; rotate_left; (focus (intro w hSw; (try dsimp only at hSw); go_simp; (try with_reducible rfl)))
              simp only [Act.put, List.setIfInBounds_toArray, List.set_cons_zero, List.set_cons_succ]
              refine wpAnyH_take (i := 10) (oi := ⟨(some 158), _, _, _, _, _⟩) (v := ?_) rfl (by kernel_rfl) (by kernel_rfl) (by kernel_rfl) (fun _ _ _ h => h) (Or.inl ⟨by kernel_rfl, ?_⟩) (by assumption) ?_; rotate_left; (focus (intro w hSw; (try dsimp only at hSw); go_simp; (try with_reducible rfl)))
              simp only [Act.put, List.setIfInBounds_toArray, List.set_cons_zero, List.set_cons_succ]
              refine wpAnyH_done (by kernel_rfl) ?_ _
              clear hHeld
              go_wp2
              go_roundw
              case rel => exact ⟨n + 1, by omega, by go_num, B3, HJ2⟩
              case measure => simp [intOf]; omega
            · have QL := Lib.hid (show c.links = d.links from list_eq (by rw [← HM.out.nL, ← HG.out.nL, H_links.out]) (fun j u v hu hv => HI.out j u v (by have := lt_of_get hu; rw [← HM.out.nL] at this; omega) hu hv))
              go_wp2
              clear a0 a1 a2 a3 a4 a5 a6 a7 a8 b0 b1 b2 b3 b4 b5 b6 b7 b8
              have HQ2 := Lib.hid (show q = true by
                rw [HQ.out, eqC_iff]
                exact ⟨H_hosts.out, H_cycle.out, H_delay.out, H_window.out, H_precision.out, QD.out, QE.out, QL.out, H_queue.out⟩)
              go_ret
              exact ⟨by rw [HQ2.out]; rfl, X.out.b0⟩
end Go.Proofs.Ythgfgnphncpoaaa.ConfW

