/- ReadControl. -/
import Derived.Test.YtjejljjahmbhiaaFrameI
namespace Go.Proofs.Ytjejljjahmbhiaa.FrameW
open Go.RowKit
theorem results_ctl {fn : Func} {p u : Tmp} (h : fn.results = #[.cell p 24, .tmp u]) (tmps : Array Value) (w : World) (g : Nat) (t : TypeId) (x1 x2 x3 x4 x5 : Value) (fr : Nat × Nat)
    (hp : tmps.getD p undef = .pointer (some ⟨g, 0, none⟩)) (hg : w.heap[g]? = some (.cells #[x1, x2, x3, x4, x5] t fr)) :
    (results fn tmps).run Try.prog w = .ok (.tuple #[.agg #[x1, x2, x3, x4, x5], tmps.getD u undef]) w := by
  have hp' : tmps[p]?.getD undef = .pointer (some ⟨g, 0, none⟩) := by simpa using hp
  simp [results, h, hp', asAddr, run_loadVar_row w g t 24 #[x1, x2, x3, x4, x5] fr _ hg Try.underlying24 rfl (by kernel_rfl)]
theorem ret_ctl {fn : Func} {R : Ending → World → Prop} {p u : Tmp} (h : fn.results = #[.cell p 24, .tmp u]) {tmps : Array Value} {w : World} {g : Nat} {x1 x2 x3 x4 x5 : Value} {t : TypeId} {fr : Nat × Nat}
    (hp : tmps.getD p undef = .pointer (some ⟨g, 0, none⟩)) (hg : w.heap[g]? = some (.cells #[x1, x2, x3, x4, x5] t fr)) (hR : R (.returned (.tuple #[.agg #[x1, x2, x3, x4, x5], tmps.getD u undef])) w) :
    bodyPost Try.prog fn R .ret { tmps := tmps, defers := [] } w :=
  bodyPost_ret (results_ctl h tmps w g t x1 x2 x3 x4 x5 fr hp hg) rfl hR
theorem set5 {W : World} {g : Nat} {t : TypeId} {a0 a1 a2 a3 a4 x0 x1 x2 x3 x4 : Value} (h : W.heap[g]? = some (.cells #[a0, a1, a2, a3, a4] t (0, 0))) :
    (((((W.setCell ⟨g, 0, none⟩ x0).setCell ⟨g, 1, none⟩ x1).setCell ⟨g, 2, none⟩ x2).setCell ⟨g, 3, none⟩ x3).setCell ⟨g, 4, none⟩ x4).heap[g]? = some (.cells #[x0, x1, x2, x3, x4] t (0, 0)) :=
  heap_setCell_same _ g 4 _ _ _ (heap_setCell_same _ g 3 _ _ _ (heap_setCell_same _ g 2 _ _ _ (heap_setCell_same _ g 1 _ _ _ (heap_setCell_same _ g 0 _ _ _ h))))
theorem keep5 {w W : World} {g : Nat} {x0 x1 x2 x3 x4 : Value} (h : Below w.heap.size w W) (hg : w.heap.size ≤ g) :
    Below w.heap.size w (((((W.setCell ⟨g, 0, none⟩ x0).setCell ⟨g, 1, none⟩ x1).setCell ⟨g, 2, none⟩ x2).setCell ⟨g, 3, none⟩ x3).setCell ⟨g, 4, none⟩ x4) :=
  ((((h.setCell hg _).setCell hg _).setCell hg _).setCell hg _).setCell hg _
/-- A stretch of code that has but one way out. -/
theorem wp_cut {P : Program} {c : Code} {Q : Exit → Act → World → Prop} {a : Act} {w : World} (A2 : Act) (W2 : World) (h : c.wp P (fun e a' w' => e = Exit.normal ∧ a' = A2 ∧ w' = W2) a w) (hm : Q .normal A2 W2) : c.wp P Q a w :=
  Code.wp_mono (fun _ _ _ ⟨h1, h2, h3⟩ => by subst h1; subst h2; subst h3; exact hm) h
/-- What ReadControl tells. -/
def rcE (l : List Int) : Int := if okC l then 0 else if chk l 1 34 34 = 0 then 2 else chk l 1 34 34
def rcV (l : List Int) : Value := if okC l then CV (kOf l) (fOf l) (cyOf l) (crOf l) (clOf l) else CV 0 0 0 0 0
theorem rc_no {l : List Int} (h : chk l 1 34 34 ≠ 0) : rcE l = chk l 1 34 34 ∧ rcV l = CV 0 0 0 0 0 := by
  unfold rcE rcV
  rw [if_neg (fun h2 => h h2.1), if_neg h, if_neg (fun h2 => h h2.1)]
  exact ⟨rfl, rfl⟩
theorem rc_bad {l : List Int} (h : chk l 1 34 34 = 0) (h2 : ¬ okC l) : rcE l = 2 ∧ rcV l = CV 0 0 0 0 0 := by
  unfold rcE rcV
  rw [if_neg h2, if_pos h, if_neg h2]
  exact ⟨rfl, rfl⟩
theorem rc_ok {l : List Int} (h2 : okC l) : rcE l = 0 ∧ rcV l = CV (kOf l) (fOf l) (cyOf l) (crOf l) (clOf l) := by
  unfold rcE rcV
  rw [if_pos h2, if_pos h2]
  exact ⟨rfl, rfl⟩
theorem right_wrap {k f cy cr cl : Int} (h1 : 0 ≤ cy) (h2 : cy < 18446744073709551616) (h3 : 0 ≤ cl) (h4 : cl < 18446744073709551616) : rightC k f (IntKind.i64.wrap cy) cr (IntKind.i64.wrap cl) ↔ rightC k f cy cr cl := by
  unfold rightC
  rw [IntKind.wrap_i64, IntKind.wrap_i64]
  omega
theorem wrap_right {x : Int} (h1 : 0 ≤ x) (h2 : x ≤ 1125899906842624) : IntKind.i64.wrap x = x := by rw [IntKind.wrap_i64]; omega
/-- number at bytes p to q of a slice. -/
theorem number_at {w : World} {a : Addr} {xs : List Int} (h : BL w (some a) xs) (p q c m : Nat) (b : Addr) (hb : b = a.add p) (hm : m = q - p) (h1 : p ≤ q) (h2 : q ≤ xs.length) (h8 : m ≤ 8) :
    Calls Try.prog 31 #[.slice (some b) m c] w fun e w' => e = .returned (.int .u64 (val (sl xs p q))) ∧ w' = w := by
  subst hb
  have := number_any (some (a.add p)) c (sl xs p q) w (h.sl p q) (by rw [sl_len h1 h2]; omega)
  rwa [sl_len h1 h2, ← hm] at this
theorem val_small2 {l : List Int} (h : By l) (p q : Nat) (h1 : p ≤ q) (h2 : q ≤ l.length) : val (sl l p q) < 256 ^ (q - p) := by
  have := val_lt (sl_by h p q)
  rwa [sl_len h1 h2] at this
set_option maxHeartbeats 4000000 in
theorem readControl_any (A : Option Addr) (c : Nat) (xs : List Int) (w : World) (h : BL w A xs) (hl : xs.length ≤ 9223372036854775807) (hc : xs.length ≤ c) :
    Calls Try.prog 14 #[.slice A xs.length c] w fun e w' => e = .returned (.tuple #[rcV xs, .int .i64 (rcE xs)]) ∧ Below w.heap.size w w' := by
  have C := fun W (hW : Below w.heap.size w W) => check_any A c xs 1 34 34 W (h.below hW) hl hc (by decide)
  by_cases hk : chk xs 1 34 34 = 0
  · rw [hk] at C
    obtain ⟨g1, g2, -, -⟩ := chk_ok.1 hk
    have hlen : xs.length = 34 := by omega
    have hA : ∃ a, A = some a := h.some (by omega)
    obtain ⟨a, rfl⟩ := hA
    have HX := Lib.hid h
    have hy := h.by
    have v1 := val_small2 hy 2 3 (by decide) (by omega)
    have v2 := val_small2 hy 3 4 (by decide) (by omega)
    have v3 := val_small2 hy 4 12 (by decide) (by omega)
    have v4 := val_small2 hy 12 16 (by decide) (by omega)
    have v5 := val_small2 hy 16 24 (by decide) (by omega)
    have HRR := Lib.hid (right_wrap (k := kOf xs) (f := fOf xs) (cy := cyOf xs) (cr := crOf xs) (cl := clOf xs) (by unfold cyOf; omega) (by unfold cyOf; omega) (by unfold clOf; omega) (by unfold clOf; omega))
    have e1 : IntKind.i64.wrap (kOf xs) = kOf xs := wrap_right (by unfold kOf; omega) (by unfold kOf; omega)
    have e2 : IntKind.i64.wrap (fOf xs) = fOf xs := wrap_right (by unfold fOf; omega) (by unfold fOf; omega)
    have e4 : IntKind.u32.wrap (crOf xs) = crOf xs := by rw [IntKind.wrap_u32']; unfold crOf; omega
    have e4b : crOf xs % 4294967296 = crOf xs := by unfold crOf; omega
    have HCR := Lib.hid (show 0 ≤ crOf xs by unfold crOf; omega)
    have N1 := fun W (hW : BL W (some a) xs) (d : Nat) (b : Addr) (hb : b = a.add 2) => number_at hW 2 3 d 1 b hb rfl (by decide) (by omega) (by decide)
    have N2 := fun W (hW : BL W (some a) xs) (d : Nat) (b : Addr) (hb : b = a.add 3) => number_at hW 3 4 d 1 b hb rfl (by decide) (by omega) (by decide)
    have N3 := fun W (hW : BL W (some a) xs) (d : Nat) (b : Addr) (hb : b = a.add 4) => number_at hW 4 12 d 8 b hb rfl (by decide) (by omega) (by decide)
    have N4 := fun W (hW : BL W (some a) xs) (d : Nat) (b : Addr) (hb : b = a.add 12) => number_at hW 12 16 d 4 b hb rfl (by decide) (by omega) (by decide)
    have N5 := fun W (hW : BL W (some a) xs) (d : Nat) (b : Addr) (hb : b = a.add 16) => number_at hW 16 24 d 8 b hb rfl (by decide) (by omega) (by decide)
    have BK := fun W (hW : BL W (some a) xs) (d : Nat) (b : Addr) (hb : b = a.add 24) => blank_any (some b) d (sl xs 24 30) W (by rw [hb]; exact hW.sl 24 30) (by rw [sl_len (by decide) (by omega)]; decide)
    rw [sl_len (by decide) (by omega)] at BK
    rw [show (val (sl xs 2 3) : Int) = kOf xs from rfl] at N1
    rw [show (val (sl xs 3 4) : Int) = fOf xs from rfl] at N2
    rw [show (val (sl xs 4 12) : Int) = cyOf xs from rfl] at N3
    rw [show (val (sl xs 12 16) : Int) = crOf xs from rfl] at N4
    rw [show (val (sl xs 16 24) : Int) = clOf xs from rfl] at N5
    have HOK := Lib.hid (show rightC (kOf xs) (fOf xs) (cyOf xs) (crOf xs) (clOf xs) → blank (sl xs 24 30) → rcE xs = 0 ∧ rcV xs = CV (kOf xs) (fOf xs) (IntKind.i64.wrap (cyOf xs)) (crOf xs) (IntKind.i64.wrap (clOf xs)) from fun r b => by
      rw [wrap_right (x := cyOf xs) r.2.2.2.1 r.2.2.2.2.1, wrap_right (x := clOf xs) r.2.2.2.2.2.2.2.1 (by have := r.2.2.2.2.2.2.2.2; omega)]
      exact rc_ok ⟨hk, r, b⟩)
    have HBAD := Lib.hid (show ¬ (rightC (kOf xs) (fOf xs) (cyOf xs) (crOf xs) (clOf xs) ∧ blank (sl xs 24 30)) → rcE xs = 2 ∧ rcV xs = CV 0 0 0 0 0 from fun r => rc_bad hk (fun o => r ⟨o.2.1, o.2.2⟩))
    have HR := Lib.hid (show ∀ W, Calls Try.prog 27 #[CV (kOf xs) (fOf xs) (IntKind.i64.wrap (cyOf xs)) (crOf xs) (IntKind.i64.wrap (clOf xs))] W fun e w' => e = .returned (.bool (decide (rightC (kOf xs) (fOf xs) (cyOf xs) (crOf xs) (clOf xs)))) ∧ Below W.heap.size W w' from fun W => by
      have h := rightControl_any (kOf xs) (fOf xs) (IntKind.i64.wrap (cyOf xs)) (crOf xs) (IntKind.i64.wrap (clOf xs)) W HCR.out
      have e : decide (rightC (kOf xs) (fOf xs) (IntKind.i64.wrap (cyOf xs)) (crOf xs) (IntKind.i64.wrap (clOf xs))) = decide (rightC (kOf xs) (fOf xs) (cyOf xs) (crOf xs) (clOf xs)) := decide_eq_decide.2 HRR.out
      rwa [e] at h)
    clear HRR
    have hcc : 34 ≤ c := by omega
    have n2 : ¬ c = 2 := by omega
    have n3 : ¬ c = 3 := by omega
    have n4 : ¬ c = 4 := by omega
    have n12 : ¬ c = 12 := by omega
    have n16 : ¬ c = 16 := by omega
    have n24 : ¬ c = 24 := by omega
    have i3 : (3 : Int) ≤ (c : Int) := by omega
    have i4 : (4 : Int) ≤ (c : Int) := by omega
    have i12 : (12 : Int) ≤ (c : Int) := by omega
    have i16 : (16 : Int) ≤ (c : Int) := by omega
    have i24 : (24 : Int) ≤ (c : Int) := by omega
    have i30 : (30 : Int) ≤ (c : Int) := by omega
    rw [hlen] at C ⊢
    generalize rcE xs = E at *
    generalize rcV xs = V at *
    generalize sl xs 24 30 = B at *
    generalize kOf xs = k at *
    generalize fOf xs = f at *
    generalize cyOf xs = cy at *
    generalize crOf xs = cr at *
    generalize clOf xs = cl at *
    have HC := Lib.hid C
    have H1 := Lib.hid N1
    have H2 := Lib.hid N2
    have H3 := Lib.hid N3
    have H4 := Lib.hid N4
    have H5 := Lib.hid N5
    have H6 := Lib.hid BK
    clear C N1 N2 N3 N4 N5 BK h hy v1 v2 v3 v4 v5 g1 g2 hl hc hk
    generalize hcy : IntKind.i64.wrap cy = cy' at *
    generalize hcl : IntKind.i64.wrap cl = cl' at *
    go_enter Try.func14, Try.ntmps14
    go_wp2_with fail
    refine (HC.out _ (al (Below.refl _ _) _)).mono ?_
    rintro e w1 ⟨rfl, b1⟩
    have X1 := Lib.hid (show w1.heap[w.heap.size]? = some (cbox 0 0 0 0 0) from row_below b1 (heap_alloc_new w _))
    have B1 := Lib.hid ((al (Below.refl w.heap.size w) (cbox 0 0 0 0 0)).trans (b1.mono (by simp)))
    have Y1 := HX.out.below B1.out
    clear b1
    go_wp2_with fail
    apply wp_cut
    case h =>
     go_region_held3 (fun _ => True) (trivial) (first
       | (go_at_call 31; (with_reducible refine (H1.out _ ?_ _ _ ?_).mono ?_); (first | exact Y1 | exact Y1.below (al (Below.refl _ _) _).drew | exact Y1.below (al (Below.refl _ _) _)); rfl; rintro e w9 ⟨rfl, hw⟩; cases hw)
       | (go_at_call 31; (with_reducible refine (H2.out _ ?_ _ _ ?_).mono ?_); (first | exact Y1 | exact Y1.below (al (Below.refl _ _) _).drew | exact Y1.below (al (Below.refl _ _) _)); rfl; rintro e w9 ⟨rfl, hw⟩; cases hw)
       | (go_at_call 31; (with_reducible refine (H3.out _ ?_ _ _ ?_).mono ?_); (first | exact Y1 | exact Y1.below (al (Below.refl _ _) _).drew | exact Y1.below (al (Below.refl _ _) _)); rfl; rintro e w9 ⟨rfl, hw⟩; cases hw)
       | (go_at_call 31; (with_reducible refine (H4.out _ ?_ _ _ ?_).mono ?_); (first | exact Y1 | exact Y1.below (al (Below.refl _ _) _).drew | exact Y1.below (al (Below.refl _ _) _)); rfl; rintro e w9 ⟨rfl, hw⟩; cases hw)
       | (go_at_call 31; (with_reducible refine (H5.out _ ?_ _ _ ?_).mono ?_); (first | exact Y1 | exact Y1.below (al (Below.refl _ _) _).drew | exact Y1.below (al (Below.refl _ _) _)); rfl; rintro e w9 ⟨rfl, hw⟩; cases hw))
     all_goals exact ⟨rfl, rfl, rfl⟩
    case hm =>
      have Z2 := heap_alloc_new w1 (cbox k f cy' cr cl')
      have B2 := (al (Below.refl w1.heap.size w1) (cbox k f cy' cr cl')).drew
      go_wp2_with fail
      refine (HR.out _).mono ?_
      rintro e w3 ⟨rfl, b3⟩
      have B3 := B2.trans (b3.mono B2.size)
      have Z3 := Lib.hid (show w3.heap[w1.heap.size]? = some (cbox k f cy' cr cl') from row_below b3 Z2)
      have X3 := Lib.hid (row_below B3 X1.out)
      have Y3 := Y1.below B3
      have W3 := Lib.hid (B1.out.trans (B3.mono B1.out.size))
      obtain ⟨d0, d1, d2, d3, d4⟩ := cells5 Z3.out
      obtain ⟨c0, c1, c2, c3, c4⟩ := cells5 X3.out
      have f0 := frozen_of_row w3 w.heap.size 0 _ _ X3.out
      have f1 := frozen_of_row w3 w.heap.size 1 _ _ X3.out
      have f2 := frozen_of_row w3 w.heap.size 2 _ _ X3.out
      have f3 := frozen_of_row w3 w.heap.size 3 _ _ X3.out
      have f4 := frozen_of_row w3 w.heap.size 4 _ _ X3.out
      clear b3 B3 B2 Z2
      by_cases hr : rightC k f cy cr cl
      · rw [decide_eq_true hr]
        by_cases hb : blank B
        · obtain ⟨hE, hV⟩ := HOK.out hr hb
          have HE := Lib.hid hE
          have HV := Lib.hid hV
          have HBT := Lib.hid (decide_eq_true hb)
          clear hE hV hr hb
          go_wp2_with (go_at_call 32; refine (H6.out _ Y3 _ _ rfl).mono ?_; rintro e w9 ⟨rfl, rfl⟩; rw [HBT.out])
          exact ret_ctl rfl rfl (set5 X3.out) ⟨by rw [HE.out, HV.out]; rfl, keep5 W3.out (Nat.le_refl _)⟩
        · obtain ⟨hE, hV⟩ := HBAD.out (fun h => hb h.2)
          have HE := Lib.hid hE
          have HV := Lib.hid hV
          have HBT := Lib.hid (decide_eq_false hb)
          clear hE hV hr hb
          go_wp2_with (go_at_call 32; refine (H6.out _ Y3 _ _ rfl).mono ?_; rintro e w9 ⟨rfl, rfl⟩; rw [HBT.out])
          exact ret_ctl rfl rfl (set5 X3.out) ⟨by rw [HE.out, HV.out]; rfl, keep5 W3.out (Nat.le_refl _)⟩
      · rw [decide_eq_false hr]
        obtain ⟨hE, hV⟩ := HBAD.out (fun h => hr h.1)
        have HE := Lib.hid hE
        have HV := Lib.hid hV
        clear hE hV hr
        go_wp2
        exact ret_ctl rfl rfl (set5 X3.out) ⟨by rw [HE.out, HV.out]; rfl, keep5 W3.out (Nat.le_refl _)⟩
  · obtain ⟨hE, hV⟩ := rc_no hk
    rw [hE, hV]
    have hkb : (chk xs 1 34 34 != 0) = true := by simp [hk]
    generalize chk xs 1 34 34 = E at *
    have HC := Lib.hid C
    clear C h hE hV hl hc hk
    go_enter Try.func14, Try.ntmps14
    go_wp2_with fail
    refine (HC.out _ (al (Below.refl _ _) _)).mono ?_
    rintro e w1 ⟨rfl, b1⟩
    have X1 := Lib.hid (show w1.heap[w.heap.size]? = some (cbox 0 0 0 0 0) from row_below b1 (heap_alloc_new w _))
    have B1 := Lib.hid ((al (Below.refl w.heap.size w) (cbox 0 0 0 0 0)).trans (b1.mono (by simp)))
    obtain ⟨c0, c1, c2, c3, c4⟩ := cells5 X1.out
    have f0 := frozen_of_row w1 w.heap.size 0 _ _ X1.out
    have f1 := frozen_of_row w1 w.heap.size 1 _ _ X1.out
    have f2 := frozen_of_row w1 w.heap.size 2 _ _ X1.out
    have f3 := frozen_of_row w1 w.heap.size 3 _ _ X1.out
    have f4 := frozen_of_row w1 w.heap.size 4 _ _ X1.out
    clear b1
    go_wp2
    exact ret_ctl rfl rfl (set5 X1.out) ⟨rfl, keep5 B1.out (Nat.le_refl _)⟩
end Go.Proofs.Ytjejljjahmbhiaa.FrameW
