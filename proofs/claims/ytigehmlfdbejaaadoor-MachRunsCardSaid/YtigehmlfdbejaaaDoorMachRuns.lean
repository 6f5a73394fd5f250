/- tocsinlaw13.MachRuns answers true at every input: a run of anything that happens is its steps, from off on, and each machine in it may be. Conditions: the table deBruijn32tab of math/bits is as its initialiser lays it (tied by the card); what comes in fits into memory. -/
import Derived.Test.YtigehmlfdbejaaaDoorMachLay
import Derived.Deep.RegionHeld3
import Derived.Deep.RegionLaw
namespace Go.Proofs.YtigehmlfdbejaaaDoor.MachW.MachRuns
open Go.ChangeShapes Go.WideShapes Go.ChangeAt Go.RowKit Shell
open CrewW (Tz)
abbrev rb (a : Mc) : Obj := rb4 a.s a.c a.m a.x
/-- The machine in the box has turned; the rows stay. -/
theorem turnR {w0 w : World} {p g d : Nat} {a b : Mc} {l : List Mc} {k : List Int} (H : Stay w0 [(p, rb a), (g, mrow l), (d, nrow k)] w) (hp : w0.heap.size ≤ p) (pg : p ≠ g) (pd : p ≠ d) :
    Stay w0 [(p, rb b), (g, mrow l), (d, nrow k)] ((((w.setCell ⟨p, 0, none⟩ (.int .i64 b.s)).setCell ⟨p, 1, none⟩ (.int .u32 (b.c : Int))).setCell ⟨p, 2, none⟩ (.int .i64 b.m)).setCell ⟨p, 3, none⟩ (.int .i64 b.x)) :=
  H.turn (kept40 w p _ _ _ _) (put4 (H.at 0 rfl) _ _ _ _) hp (fun x hx => by
    simp only [List.mem_cons, List.not_mem_nil, or_false] at hx
    rcases hx with rfl | rfl
    · exact fun e => pg e.symm
    · exact fun e => pd e.symm)
set_option maxHeartbeats 4000000 in
theorem walkNo (h : Int) (A : Option Addr) (n cp : Nat) (w : World) (hh : hostB h = false) (hT : Tz w) :
    Calls Tryd.prog 3 #[.int .i64 h, .slice A n cp] w fun e w' => e = .returned (.bool true) ∧ Below w.heap.size w w' := by
  have HT := Lib.hid hT
  have HR := Lib.hid (fun W => runNo_any h A n cp W hh)
  by_cases h0 : h < 0
  · have H0 := Lib.hid hh
    clear hh hT
    go_enter Tryd.func3, Tryd.ntmps3
    go_wp2_with (first
      | (go_at_call 8; (refine (fixed_any _ HT.out).mono ?_); rintro r w1 ⟨rfl, b1⟩)
      | (go_at_call 9; (refine (HR.out _).mono ?_); rintro r w9 ⟨rfl, hw⟩; obtain rfl := hw.symm))
    go_ret
    exact ⟨rfl, b1⟩
  · have h5 : 5 < h := by
      rw [← Bool.not_eq_true, hostB_iff] at hh
      omega
    clear hh hT
    go_enter Tryd.func3, Tryd.ntmps3
    go_wp2_with (first
      | (go_at_call 8; (refine (fixed_any _ HT.out).mono ?_); rintro r w1 ⟨rfl, b1⟩)
      | (go_at_call 9; (refine (HR.out _).mono ?_); rintro r w9 ⟨rfl, hw⟩; obtain rfl := hw.symm))
    go_ret
    exact ⟨rfl, b1⟩
set_option maxHeartbeats 16000000 in
set_option maxRecDepth 100000 in
theorem walkYes (h : Int) (A : Option Addr) (n cp : Nat) (E : Nat → Int × Nat) (w : World) (hh : hostB h = true) (hE : EV w A n E) (hn : 32 * n ≤ 281474976710656) (hT : Tz w) :
    Calls Tryd.prog 3 #[.int .i64 h, .slice A n cp] w fun e w' => e = .returned (.bool true) ∧ Below w.heap.size w w' := by
  have HT := Lib.hid hT
  have HE := Lib.hid hE
  have HN := Lib.hid hn
  have HB := Lib.hid hh
  have HR := Lib.hid (fun W (e : EV W A n E) T => run_any h A n cp E W hh e hn T)
  have h0 := (hostB_iff.1 hh).1
  have h5 : h ≤ 5 := by have := (hostB_iff.1 hh).2; omega
  have e1 : decide (h < 0) = false := decide_eq_false (by omega)
  have e2 : decide (5 < h) = false := decide_eq_false (by omega)
  clear hT hE hh hn
  go_enter Tryd.func3, Tryd.ntmps3
  go_wp2_with fail
  refine (fixed_any _ HT.out).mono ?_
  rintro r w1 ⟨rfl, b1⟩
  have B1 := Lib.hid b1
  clear b1
  go_wp2_with fail
  refine (HR.out _ (HE.out.below B1.out) (HT.out.below B1.out)).mono ?_
  rintro r w2 ⟨g, d, rfl, hg, hd, b2⟩
  have X2 := Lib.hid (((((Stay.start w).next B1.out).next b2).add hd).add hg)
  have HGD := Lib.hid (And.intro (lt_of_heap hg) (lt_of_heap hd))
  clear b2 hg hd HR
  go_wp2_with fail
  have X3 := Lib.hid (X2.out.alloc (rb (mc h E 0)))
  obtain ⟨p, hp⟩ : ∃ p, p = w2.heap.size := ⟨_, rfl⟩
  have HP := Lib.hid (show p ≠ g ∧ p ≠ d ∧ w.heap.size ≤ p by have := HGD.out; have := X2.out.b.size; omega)
  rw [← hp] at X3
  rw [← hp]
  clear hp
  have X4 := Lib.hid (show Stay w [(p, rb (mc h E 0)), (g, mrow (mcs h E n n)), (d, nrow (dns h E n n))] (w2.alloc (rb4 1 0 0 0)) from X3.out)
  generalize w2.alloc _ = w3 at *
  clear X2 X3 HGD
  go_loopw [48] (fun iv wr => ∃ (i : Nat), i ≤ n ∧ iv = .int .i64 i ∧ Hid (Stay w [(p, rb (mc h E i)), (g, mrow (mcs h E n n)), (d, nrow (dns h E n n))] wr)) (fun iv _ => n - (intOf iv).toNat)
  case atStart => exact ⟨0, Nat.zero_le _, rfl, X4⟩
  case round =>
    clear X4
    obtain ⟨i, hi, rfl, HX⟩ := hrel
    by_cases hlt : i < n
    · obtain ⟨b, off, rfl, hc1, hc2, he32⟩ := (HE.out.below HX.out.b) i hlt
      have hlt' : (i : Int) < (n : Int) := by omega
      have HA := Lib.hid (mcs_get h E (n := n) (i := n) (j := i) hlt hlt)
      have HD := Lib.hid (dns_get h E (n := n) (i := n) (j := i) hlt hlt)
      have HSt := Lib.hid (fun W => refStep_any h (mc h E i) (E i).1 (E i).2 W)
      have HQ := Lib.hid (show stp h (mc h E i) (E i).1 (E i).2 = (mc h E (i + 1), dn h E i) from rfl)
      have HMY := Lib.hid (fun W => may_any h (mc h E (i + 1)) W (mc32 HB.out E (i + 1)))
      rw [may_mc HB.out E (i + 1)] at HMY
      obtain ⟨x0, x1, x2, x3⟩ := cells4 (HX.out.at 0 rfl)
      have X5 := Lib.hid (HX.out.next (al (Below.refl _ _) (eb (E i).1 (E i).2)))
      generalize (E i).1 = k at *
      generalize (E i).2 = ee at *
      rw [HQ.out] at HSt
      clear HQ he32
      obtain ⟨a, ha⟩ : ∃ a, a = mc h E (i + 1) := ⟨_, rfl⟩
      have HAA := Lib.hid ha
      rw [← ha] at HSt HA HMY
      clear ha
      obtain ⟨zs, zc, zm, zx⟩ := a
      generalize dn h E i = dd at *
      obtain ⟨z0, z1, z2, z3⟩ := cells4 (X5.out.at 0 rfl)
      go_upto_region 14 with (go_at_call 10; (refine (HSt.out _).mono ?_); rintro r w4 ⟨rfl, b4⟩; have X5b := Lib.hid (X5.out.next b4); clear b4; obtain ⟨y0, y1, y2, y3⟩ := cells4 (X5b.out.at 0 rfl); obtain ⟨f0, f1, f2, f3⟩ := frozen4 (X5b.out.at 0 rfl))
      have X6 := Lib.hid (turnR (b := ⟨zs, zc, zm, zx⟩) X5b.out HP.out.2.2 HP.out.1 HP.out.2.1)
      clear hc1 hc2 x0 x1 x2 x3 z0 z1 z2 z3 y0 y1 y2 y3 f0 f1 f2 f3 HSt X5 X5b HX
      generalize ((((w4.setCell ⟨p, 0, none⟩ (.int .i64 zs)).setCell ⟨p, 1, none⟩ (.int .u32 (zc : Int))).setCell ⟨p, 2, none⟩ (.int .i64 zm)).setCell ⟨p, 3, none⟩ (.int .i64 zx)) = w5 at *
      have q1 := neq_ref zs zc zm zx zs zc zm zx
      rw [show (!decide (zs = zs ∧ (zc : Int) = (zc : Int) ∧ zm = zm ∧ zx = zx)) = false by simp] at q1
      have q2 := guardR
      apply wp_some (S := fun W : World => Stay w [(p, rb4 zs zc zm zx), (g, mrow (mcs h E n n)), (d, nrow (dns h E n n))] W)
      case h =>
        refine wp_region_noPanic ?_
        refine wp_region_held_drew (S := fun W : World => Stay w [(p, rb4 zs zc zm zx), (g, mrow (mcs h E n n)), (d, nrow (dns h E n n))] W) (by kernel_rfl) (X6.out.drew) (fun hHeld => ?_)
        refine wpAnyH_take (i := 0) (oi := ⟨some 63, _, _, _, _, _⟩) (v := ?_) rfl (by kernel_rfl) (by kernel_rfl) (by kernel_rfl) (fun _ _ _ h => h) (Or.inl ⟨by kernel_rfl, ?_⟩) (by assumption) ?_; rotate_left; (focus (intro w hSw; (try dsimp only at hSw); go_simp; (try with_reducible rfl)))
        simp only [Act.put, List.setIfInBounds_toArray, List.set_cons_zero, List.set_cons_succ]
        refine wpAnyH_take (i := 1) (oi := ⟨some 64, _, _, _, _, _⟩) (v := ?_) rfl (by kernel_rfl) (by kernel_rfl) (by kernel_rfl) (fun _ _ _ h => h) (Or.inl ⟨by kernel_rfl, ?_⟩) (by assumption) ?_; rotate_left; (focus (intro w hSw; (try dsimp only at hSw); go_simp; (try with_reducible rfl)))
        simp only [Act.put, List.setIfInBounds_toArray, List.set_cons_zero, List.set_cons_succ]
        refine wpAnyH_take (i := 2) (oi := ⟨some 65, _, _, _, _, _⟩) (v := ?_) rfl (by kernel_rfl) (by kernel_rfl) (by kernel_rfl) (fun _ _ _ h => h) (Or.inl ⟨by kernel_rfl, ?_⟩) (by assumption) ?_; rotate_left; (focus (intro w hSw; (try dsimp only at hSw); go_simp; (try with_reducible rfl)))
        simp only [Act.put, List.setIfInBounds_toArray, List.set_cons_zero, List.set_cons_succ]
        refine wpAnyH_take (i := 3) (oi := ⟨some 66, _, _, _, _, _⟩) (v := ?_) rfl (by kernel_rfl) (by kernel_rfl) (by kernel_rfl) (fun _ _ _ h => h) (Or.inl ⟨by kernel_rfl, ?_⟩) (by assumption) ?_; rotate_left; (focus (intro w hSw; (try dsimp only at hSw); obtain ⟨x0, x1, x2, x3⟩ := cells4 (Stay.at hSw 0 rfl); obtain ⟨y0, y1, y2, y3⟩ := mrow_get (Stay.at hSw 1 rfl) HA.out; have z0 := nrow_get (Stay.at hSw 2 rfl) HD.out; go_simp; (try with_reducible rfl)))
        simp only [Act.put, List.setIfInBounds_toArray, List.set_cons_zero, List.set_cons_succ]
        refine wpAnyH_take (i := 5) (oi := ⟨some 68, _, _, _, _, _⟩) (v := ?_) rfl (by kernel_rfl) (by kernel_rfl) (by kernel_rfl) (fun _ _ _ h => h) (Or.inl ⟨by kernel_rfl, ?_⟩) (by assumption) ?_; rotate_left; (focus (intro w hSw; (try dsimp only at hSw); obtain ⟨x0, x1, x2, x3⟩ := cells4 (Stay.at hSw 0 rfl); obtain ⟨y0, y1, y2, y3⟩ := mrow_get (Stay.at hSw 1 rfl) HA.out; have z0 := nrow_get (Stay.at hSw 2 rfl) HD.out; go_simp; (try with_reducible rfl)))
        simp only [Act.put, List.setIfInBounds_toArray, List.set_cons_zero, List.set_cons_succ]
        refine wpAnyH_ready (rs := [4]) (by kernel_rfl) (by simp) ?_
        refine AllReadyH.cons (o := ⟨some 67, _, _, _, _, _⟩) rfl (fun K hK => ?_) AllReadyH.nil
        rw [if_pos (by kernel_rfl)]
        go_simp
        refine (of_any ⟨zs, zc, zm, zx⟩ _).mono ?_
        rintro e w7 ⟨rfl, b7⟩
        have hSw := Stay.next (by assumption) b7
        clear b7
        go_simp
        refine hK.out _ _ (by assumption) (fun hHeld => ?_)
        clear hK K
        refine wpAnyH_take (i := 6) (oi := ⟨some 69, _, _, _, _, _⟩) (v := ?_) rfl (by kernel_rfl) (by kernel_rfl) (by kernel_rfl) (fun _ _ _ h => h) (Or.inl ⟨by kernel_rfl, ?_⟩) (by assumption) ?_; rotate_left; (focus (intro w hSw; (try dsimp only at hSw); go_simp; (try with_reducible rfl)))
        simp only [Act.put, List.setIfInBounds_toArray, List.set_cons_zero, List.set_cons_succ]
        refine wpAnyH_take (i := 7) (oi := ⟨some 70, _, _, _, _, _⟩) (v := ?_) rfl (by kernel_rfl) (by kernel_rfl) (by kernel_rfl) (fun _ _ _ h => h) (Or.inl ⟨by kernel_rfl, ?_⟩) (by assumption) ?_; rotate_left; (focus (intro w hSw; (try dsimp only at hSw); go_simp; (try with_reducible rfl)))
        simp only [Act.put, List.setIfInBounds_toArray, List.set_cons_zero, List.set_cons_succ]
        refine wpAnyH_take (i := 8) (oi := ⟨some 71, _, _, _, _, _⟩) (v := ?_) rfl (by kernel_rfl) (by kernel_rfl) (by kernel_rfl) (fun _ _ _ h => h) (Or.inl ⟨by kernel_rfl, ?_⟩) (by assumption) ?_; rotate_left; (focus (intro w hSw; (try dsimp only at hSw); go_simp; (try with_reducible rfl)))
        simp only [Act.put, List.setIfInBounds_toArray, List.set_cons_zero, List.set_cons_succ]
        refine wpAnyH_take (i := 9) (oi := ⟨some 72, _, _, _, _, _⟩) (v := ?_) rfl (by kernel_rfl) (by kernel_rfl) (by kernel_rfl) (fun _ _ _ h => h) (Or.inl ⟨by kernel_rfl, ?_⟩) (by assumption) ?_; rotate_left; (focus (intro w hSw; (try dsimp only at hSw); go_simp; (try with_reducible rfl)))
        simp only [Act.put, List.setIfInBounds_toArray, List.set_cons_zero, List.set_cons_succ]
        refine wpAnyH_take (i := 10) (oi := ⟨some 73, _, _, _, _, _⟩) (v := ?_) rfl (by kernel_rfl) (by kernel_rfl) (by kernel_rfl) (fun _ _ _ h => h) (Or.inl ⟨by kernel_rfl, ?_⟩) (by assumption) ?_; rotate_left; (focus (intro w hSw; (try dsimp only at hSw); go_simp; (try with_reducible rfl)))
        simp only [Act.put, List.setIfInBounds_toArray, List.set_cons_zero, List.set_cons_succ]
        refine wpAnyH_take (i := 11) (oi := ⟨some 74, _, _, _, _, _⟩) (v := ?_) rfl (by kernel_rfl) (by kernel_rfl) (by kernel_rfl) (fun _ _ _ h => h) (Or.inl ⟨by kernel_rfl, ?_⟩) (by assumption) ?_; rotate_left; (focus (intro w hSw; (try dsimp only at hSw); obtain ⟨x0, x1, x2, x3⟩ := cells4 (Stay.at hSw 0 rfl); obtain ⟨y0, y1, y2, y3⟩ := mrow_get (Stay.at hSw 1 rfl) HA.out; have z0 := nrow_get (Stay.at hSw 2 rfl) HD.out; go_simp; (try with_reducible rfl)))
        simp only [Act.put, List.setIfInBounds_toArray, List.set_cons_zero, List.set_cons_succ]
        refine wpAnyH_take (i := 12) (oi := ⟨some 75, _, _, _, _, _⟩) (v := ?_) rfl (by kernel_rfl) (by kernel_rfl) (by kernel_rfl) (fun _ _ _ h => h) (Or.inl ⟨by kernel_rfl, ?_⟩) (by assumption) ?_; rotate_left; (focus (intro w hSw; (try dsimp only at hSw); go_simp; (try with_reducible rfl)))
        simp only [Act.put, List.setIfInBounds_toArray, List.set_cons_zero, List.set_cons_succ]
        refine wpAnyH_take (i := 13) (oi := ⟨some 76, _, _, _, _, _⟩) (v := ?_) rfl (by kernel_rfl) (by kernel_rfl) (by kernel_rfl) (fun _ _ _ h => h) (Or.inl ⟨by kernel_rfl, ?_⟩) (by assumption) ?_; rotate_left; (focus (intro w hSw; (try dsimp only at hSw); go_simp; (try with_reducible rfl)))
        simp only [Act.put, List.setIfInBounds_toArray, List.set_cons_zero, List.set_cons_succ]
        refine wpAnyH_take (i := 14) (oi := ⟨some 77, _, _, _, _, _⟩) (v := ?_) rfl (by kernel_rfl) (by kernel_rfl) (by kernel_rfl) (fun _ _ _ h => h) (Or.inl ⟨by kernel_rfl, ?_⟩) (by assumption) ?_; rotate_left; (focus (intro w hSw; (try dsimp only at hSw); go_simp; (try with_reducible rfl)))
        simp only [Act.put, List.setIfInBounds_toArray, List.set_cons_zero, List.set_cons_succ]
        refine wpAnyH_take (i := 15) (oi := ⟨some 78, _, _, _, _, _⟩) (v := ?_) rfl (by kernel_rfl) (by kernel_rfl) (by kernel_rfl) (fun _ _ _ h => h) (Or.inl ⟨by kernel_rfl, ?_⟩) (by assumption) ?_; rotate_left; (focus (intro w hSw; (try dsimp only at hSw); go_simp; (try with_reducible rfl)))
        simp only [Act.put, List.setIfInBounds_toArray, List.set_cons_zero, List.set_cons_succ]
        refine wpAnyH_take (i := 16) (oi := ⟨some 79, _, _, _, _, _⟩) (v := ?_) rfl (by kernel_rfl) (by kernel_rfl) (by kernel_rfl) (fun _ _ _ h => h) (Or.inl ⟨by kernel_rfl, ?_⟩) (by assumption) ?_; rotate_left; (focus (intro w hSw; (try dsimp only at hSw); go_simp; (try with_reducible rfl)))
        simp only [Act.put, List.setIfInBounds_toArray, List.set_cons_zero, List.set_cons_succ]
        refine wpAnyH_take (i := 17) (oi := ⟨some 80, _, _, _, _, _⟩) (v := ?_) rfl (by kernel_rfl) (by kernel_rfl) (by kernel_rfl) (fun _ _ _ h => h) (Or.inl ⟨by kernel_rfl, ?_⟩) (by assumption) ?_; rotate_left; (focus (intro w hSw; (try dsimp only at hSw); go_simp; (try with_reducible rfl)))
        simp only [Act.put, List.setIfInBounds_toArray, List.set_cons_zero, List.set_cons_succ]
        refine wpAnyH_take (i := 18) (oi := ⟨some 81, _, _, _, _, _⟩) (v := ?_) rfl (by kernel_rfl) (by kernel_rfl) (by kernel_rfl) (fun _ _ _ h => h) (Or.inl ⟨by kernel_rfl, ?_⟩) (by assumption) ?_; rotate_left; (focus (intro w hSw; (try dsimp only at hSw); go_simp; (try with_reducible rfl)))
        simp only [Act.put, List.setIfInBounds_toArray, List.set_cons_zero, List.set_cons_succ]
        refine wpAnyH_take (i := 19) (oi := ⟨some 82, _, _, _, _, _⟩) (v := ?_) rfl (by kernel_rfl) (by kernel_rfl) (by kernel_rfl) (fun _ _ _ h => h) (Or.inl ⟨by kernel_rfl, ?_⟩) (by assumption) ?_; rotate_left; (focus (intro w hSw; (try dsimp only at hSw); go_simp; (try with_reducible rfl)))
        simp only [Act.put, List.setIfInBounds_toArray, List.set_cons_zero, List.set_cons_succ]
        refine wpAnyH_take (i := 20) (oi := ⟨some 83, _, _, _, _, _⟩) (v := ?_) rfl (by kernel_rfl) (by kernel_rfl) (by kernel_rfl) (fun _ _ _ h => h) (Or.inl ⟨by kernel_rfl, ?_⟩) (by assumption) ?_; rotate_left; (focus (intro w hSw; (try dsimp only at hSw); obtain ⟨x0, x1, x2, x3⟩ := cells4 (Stay.at hSw 0 rfl); obtain ⟨y0, y1, y2, y3⟩ := mrow_get (Stay.at hSw 1 rfl) HA.out; have z0 := nrow_get (Stay.at hSw 2 rfl) HD.out; go_simp; (try with_reducible rfl)))
        simp only [Act.put, List.setIfInBounds_toArray, List.set_cons_zero, List.set_cons_succ]
        refine wpAnyH_ready (rs := [21]) (by kernel_rfl) (by simp) ?_
        refine AllReadyH.cons (o := ⟨some 84, _, _, _, _, _⟩) rfl (fun K hK => ?_) AllReadyH.nil
        rw [if_pos (by kernel_rfl)]
        go_simp
        refine (HMY.out _).mono ?_
        rintro e w8 ⟨rfl, b8⟩
        have hSw := Stay.next (by assumption) b8
        clear b8
        go_simp
        refine hK.out _ _ (by assumption) (fun hHeld => ?_)
        clear hK K
        refine wpAnyH_take (i := 22) (oi := ⟨some 85, _, _, _, _, _⟩) (v := ?_) rfl (by kernel_rfl) (by kernel_rfl) (by kernel_rfl) (fun _ _ _ h => h) (Or.inl ⟨by kernel_rfl, ?_⟩) (by assumption) ?_; rotate_left; (focus (intro w hSw; (try dsimp only at hSw); go_simp; (try with_reducible rfl)))
        simp only [Act.put, List.setIfInBounds_toArray, List.set_cons_zero, List.set_cons_succ]
        refine wpAnyH_take (i := 23) (oi := ⟨some 86, _, _, _, _, _⟩) (v := ?_) rfl (by kernel_rfl) (by kernel_rfl) (by kernel_rfl) (fun _ _ _ h => h) (Or.inl ⟨by kernel_rfl, ?_⟩) (by assumption) ?_; rotate_left; (focus (intro w hSw; (try dsimp only at hSw); go_simp; (try with_reducible rfl)))
        simp only [Act.put, List.setIfInBounds_toArray, List.set_cons_zero, List.set_cons_succ]
        refine wpAnyH_done (by kernel_rfl) ?_ _
        exact NoPanic.normal ⟨rfl, rfl, by assumption⟩
      case hm =>
        intro w6 S6
        have S7 := Lib.hid (show Stay w [(p, rb ⟨zs, zc, zm, zx⟩), (g, mrow (mcs h E n n)), (d, nrow (dns h E n n))] w6 from S6)
        rw [HAA.out] at S7
        have hnn := HN.out
        go_wp2
        go_roundw
        case rel => exact ⟨i + 1, by omega, by go_num, S7⟩
        case measure => simp [intOf]; omega
    · obtain rfl : i = n := by omega
      go_wp2
      go_ret
      exact ⟨rfl, HX.out.b⟩
theorem walk (h : Int) (A : Option Addr) (rows : List (List Int)) (cp : Nat) (w : World) (hl : RL w [.i64, .u32] A rows) (hn : 32 * rows.length ≤ 281474976710656) (hT : Tz w) :
    Calls Tryd.prog 3 #[.int .i64 h, .slice A rows.length cp] w fun e w' => e = .returned (.bool true) ∧ Below w.heap.size w w' := by
  cases hh : hostB h
  · exact walkNo h A rows.length cp w hh hT
  · exact walkYes h A rows.length cp (evs rows) w hh (ev_of hl) hn hT
set_option maxRecDepth 100000 in
/-- What the walk gives, for every argument and every world. -/
theorem contract (H : Type) (enc : TypeId × Value → H) (W : World) (base : Nat) (args : Array Value) (ds gs : List (DataW H)) (before : List MemPlace)
    (hval : ∀ (j : Nat) t v, Tryd.f3.params[j]? = some t → args[j]? = some v → Value.okWide Tryd.prog W .any base t v)
    (hW : DataW.Whole enc Tryd.prog Tryd.f3.params.toList Rows.machRunsSpec.vars false W args.toList ds gs before) (hL : laidMetH Tryd.prog Rows.machRunsRow.laid W) (hz : (DataW.weightsEach Tryd.prog (Tryd.f3.params.toList ++ (OpenSpec.ofChange Rows.machRunsSpec).bare.plain.varTypes Tryd.prog) (ds ++ gs)).all (· ≤ reachBytes) = true) : 
    Calls Tryd.prog 3 args W fun e W' => ∃ v, e = .returned v ∧ Rows.machRunsSpec.post enc Tryd.prog Tryd.f3 false true false false W args v W' := by
  have hW' := hW
  obtain ⟨p, q, hA0, hV, rfl, hfz, hnd⟩ := hW
  have hA : DataW.TrodAll enc Tryd.prog W 0 (fun _ => true) true Tryd.f3.params.toList args.toList ds p := hA0
  rw [Tryd.params3] at hA hval
  obtain ⟨v0, vs0, d0, ds0, p0, q0, hargs, rfl, rfl, h0, r0⟩ := trodAll_cons hA
  obtain ⟨v1, vs1, d1, ds1, p1, q1, rfl, rfl, rfl, h1, r1⟩ := trodAll_cons r0
  obtain ⟨rfl, rfl, rfl⟩ := trodAll_nil r1
  obtain rfl : args = #[v0, v1] := by cases args; simp_all
  obtain ⟨rfl, rfl⟩ := trodVars_none hV
  obtain ⟨host, rfl, rfl, rfl, w0⟩ := open_int Tryd.underlying3 (hval 0 3 v0 rfl rfl) h0
  obtain ⟨A1, l, c1, rfl, f1, l1, lc1, sz1, nl1⟩ := open_rows (qs := [.i64, .u32]) Tryd.underlying22 Tryd.underlying32 (by kernel_rfl) (by decide) (fun i f q hf hq => by
    match i, hf, hq with
    | 0, hf, hq => cases hf; cases hq; exact ⟨rfl, by kernel_rfl, Tryd.underlying3⟩
    | 1, hf, hq => cases hf; cases hq; exact ⟨rfl, by kernel_rfl, Tryd.underlying28⟩) (hval 1 22 v1 rfl rfl) h1
  have z1 : l.length * 16 ≤ 140737488351232 := by
    rcases sz1 with h | ⟨es, sp, hd, hl⟩
    · rw [h]; decide
    · have := sized_slice hz (j := 1) (t := 22) (e := 32) (elems := es) (spare := sp) (by rw [Tryd.params3]; rfl) (by rw [hd]; rfl) Tryd.underlying22
      rw [show Tryd.prog.bytesOf 32 = 16 by kernel_rfl, show reachBytes = 140737488351232 from rfl] at this
      omega
  refine (walk host A1 l c1 W f1 (by omega) (tz_of hL)).mono fun e W' ⟨he, hb⟩ => ?_
  exact ⟨_, he, Shell.post_law laidOut (by kernel_rfl) rfl Tryd.underlying4 rfl hW' rfl hb⟩
theorem reads (os : Os) {H : Type} (enc : TypeId × Value → H) : ∃ places, DataW.whole enc Tryd.prog ((laidWorld os).forCall (fun _ _ => 0) ⟨#[], #[.int .i64 0, .slice none 0 0], []⟩).memory Tryd.f3.params.toList Rows.machRunsSpec.vars false (#[Value.int .i64 0, Value.slice none 0 0]).toList 8 = some ([.lit (.int .i64 0), .nil], [], places) :=
  ⟨[], by kernel_rfl⟩
set_option maxRecDepth 100000 in
theorem lifted (os : Os) (started : os.Started) (H : Type) (enc : TypeId × Value → H) (F : Stop.Interp) :
    ReturnsInHanded {} Tryd.checked os 3 .any ((OpenSpec.ofChange Rows.machRunsSpec).preRow enc Tryd.prog Tryd.f3 Rows.machRunsRow.domain false Rows.machRunsRow.laid) (((OpenSpec.ofChange Rows.machRunsSpec).at F).post enc Tryd.prog Tryd.f3 false true false false) := by
  obtain ⟨places, hx⟩ := reads os enc
  refine returnsInHanded_of_row (C := Tryd.checked) (s := OpenSpec.ofChange Rows.machRunsSpec) own started (by kernel_rfl) Tryd.func3
    (witness_row_atRef (enc := enc) (C := Tryd.checked) false (laidWorld os) #[.int .i64 0, .slice none 0 0] rfl (by kernel_rfl) (by kernel_rfl) (by kernel_rfl)
      (OpenSpec.preRow_of_cond 8 hx (by kernel_rfl) (fun k hk => by cases hk) (by kernel_rfl) (laid_met os _))) ?_
  intro W base args ds gs before hval hW _ _ hz hL _ _
  exact contract H enc W base args ds gs before hval hW hL hz
theorem said : Rows.MachRunsSaid :=
  OpenClaim.holds_of_cond 3 Tryd.f3 rfl rfl rfl rfl rfl rfl rfl ⟨rfl, rfl, rfl, rfl, rfl⟩ rfl rfl rfl rfl rfl (by kernel_rfl) Tryd.func3 (by kernel_rfl)
    (of_decide_eq_true (by kernel_rfl)) (by unfold Func.isWrapper; first | (rw [if_pos (by decide +kernel)]; kernel_rfl) | (rw [if_neg (by decide +kernel)]; exact ⟨rfl, rfl⟩))
    (fun os started H enc _ F => by rw [OpenClaim.pre_eq_preRow]; exact lifted os started H enc F)
theorem plain (f : FuncId) (fn : Func) (hf : Tryd.pinned.checked.prog.funcNamed "tocsin/tocsinlaw13.MachRuns" = some f) (hfn : Tryd.pinned.checked.prog.funcs[f]? = some fn) :
    false = Tryd.pinned.checked.prog.looks [] ∧ ∀ (j : Nat) t, fn.params[j]? = some t → Tryd.pinned.checked.prog.wantsStandIn t = false := by
  obtain rfl : f = 3 := Option.some.inj ((show Tryd.prog.funcNamed "tocsin/tocsinlaw13.MachRuns" = some 3 by kernel_rfl).symm.trans hf) |>.symm
  obtain rfl : fn = Tryd.f3 := (Option.some.inj (Tryd.func3.symm.trans hfn)).symm
  refine ⟨by kernel_rfl, fun j t ht => ?_⟩
  rw [Tryd.params3] at ht
  have hall : ∀ t ∈ Tryd.f3.params.toList, Tryd.prog.wantsStandIn t = false := by
    rw [Tryd.params3]
    have h : ((#[3, 22] : Array TypeId).toList.all fun t => !Tryd.prog.wantsStandIn t) = true := by kernel_rfl
    intro t ht
    simpa using (List.all_eq_true.1 h) t ht
  exact hall t (by rw [Tryd.params3]; exact Array.mem_toList_iff.2 (Array.mem_of_getElem? ht))
theorem card : Rows.MachRunsCardSaid :=
  Claim7.holds_tied_plain_at .later [] _ _ _ _ said (fun _ h => by cases h) (by kernel_rfl) (fun _ h => by cases h) machRuns_row_tie rfl ⟨rfl, rfl⟩ (by kernel_rfl) rfl plain (by kernel_rfl)
end Go.Proofs.YtigehmlfdbejaaaDoor.MachW.MachRuns
