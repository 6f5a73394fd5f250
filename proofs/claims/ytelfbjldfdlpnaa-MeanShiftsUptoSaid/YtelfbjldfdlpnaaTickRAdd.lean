/- The document's numbers: Add, Turn. -/
import Derived.Test.YtelfbjldfdlpnaaTickMinus
import Derived.Test.YtelfbjldfdlpnaaTickAdd
namespace Go.Proofs.Ytelfbjldfdlpnaa.TickW
open Go.RowKit
theorem pow_mono {n k : Nat} (h : n ≤ k) : 65536 ^ n ≤ 65536 ^ k := Nat.pow_le_pow_right (by decide) h
theorem lt_pow_of_len {x n : Nat} (h : (dl x).length ≤ n) : x < 65536 ^ n := Nat.lt_of_lt_of_le (lt_pow_len x) (pow_mono h)
theorem dl_len_mono {x y : Nat} (h : x ≤ y) : (dl x).length ≤ (dl y).length := dl_length_le (Nat.lt_of_le_of_lt h (lt_pow_len y))
theorem dl_len_add {x y n : Nat} (hx : (dl x).length ≤ n) (hy : (dl y).length ≤ n) : (dl (x + y)).length ≤ n + 1 := by
  refine dl_length_le ?_
  have h1 := lt_pow_of_len hx
  have h2 := lt_pow_of_len hy
  rw [Nat.pow_succ]
  omega
theorem refplus_ans (A B : Option Addr) (c c2 x y : Nat) (w : World) (ha : DL w A (dl x)) (hb : DL w B (dl y)) (hl : (dl (x + y)).length ≤ 1000) :
    Calls Try.prog 48 #[.slice A (dl x).length c, .slice B (dl y).length c2] w fun e w' => (∃ A' c' ds, e = .returned (.slice A' ds.length c') ∧ DL w' A' ds ∧ ds.length ≤ c' ∧ ds.length ≤ 1000 ∧ (∀ d ∈ ds, d < 65536) ∧ val ds = x + y) ∧ Below w.heap.size w w' := by
  refine (refplus_any A B c c2 x y w ha hb hl).mono ?_
  rintro e w' ⟨⟨A', c', he, hd, hc⟩, hb⟩
  exact ⟨⟨A', c', dl (x + y), he, hd, hc, hl, dl_lt _, val_dl _⟩, hb⟩
theorem setRef_below {w W : World} {g : Nat} (h : Below w.heap.size w W) (hg : w.heap.size ≤ g) (x y : Value) : Below w.heap.size w ((W.setCell ⟨g, 0, none⟩ x).setCell ⟨g, 1, none⟩ y) := (h.setCell (p := ⟨g, 0, none⟩) hg x).setCell (p := ⟨g, 1, none⟩) hg y
theorem dl_store {w : World} {A : Option Addr} {ds : List Nat} {g : Nat} {A0 : Option Addr} {n0 c0 : Nat} {t : TypeId} {b : Bool} {fr : Nat × Nat} (h : DL w A ds) (hg : w.heap[g]? = some (.cells #[.slice A0 n0 c0, .bool b] t fr)) (x y : Value) : DL ((w.setCell ⟨g, 0, none⟩ x).setCell ⟨g, 1, none⟩ y) A ds := by
  intro k d hd
  obtain ⟨a, ha, hc⟩ := h k d hd
  refine ⟨a, ha, ?_⟩
  have z0 : w.cell? ⟨g, 0, none⟩ = some (.slice A0 n0 c0) := cell_of_row w g 0 _ _ _ hg
  have z1 : w.cell? ⟨g, 1, none⟩ = some (.bool b) := cell_of_row w g 1 _ _ _ hg
  rw [World.cell?_setCell_other, World.cell?_setCell_other]
  · exact hc
  · intro h1; rw [h1, hc] at z0; cases z0
  · intro h1; rw [h1, hc] at z1; cases z1
theorem alloc3 (w : World) (o1 o2 o3 : Obj) : ((((w.alloc o1).alloc o2).alloc o3).heap[w.heap.size]? = some o1 ∧ (((w.alloc o1).alloc o2).alloc o3).heap[w.heap.size + 1]? = some o2 ∧ (((w.alloc o1).alloc o2).alloc o3).heap[w.heap.size + 1 + 1]? = some o3) ∧ Below w.heap.size w (((w.alloc o1).alloc o2).alloc o3) := by
  have s2 : (w.alloc o1).heap.size = w.heap.size + 1 := World.size_alloc _ _
  have s3 : ((w.alloc o1).alloc o2).heap.size = w.heap.size + 1 + 1 := by rw [World.size_alloc, s2]
  exact ⟨⟨row_below (al (Below.refl _ _) _) (row_below (al (Below.refl _ _) _) (heap_alloc_new w o1)), row_below (al (Below.refl _ _) _) (heap_at s2 o2), heap_at s3 o3⟩, al (al (al (Below.refl _ _) _) _) _⟩
set_option maxHeartbeats 4000000 in
set_option maxRecDepth 100000 in
theorem refAdd_raw (A B : Option Addr) (c c2 x y : Nat) (p q : Bool) (w : World) (ha : DL w A (dl x)) (hb : DL w B (dl y)) (hl : (dl x).length ≤ 900) (hl2 : (dl y).length ≤ 900) :
    Calls Try.prog 41 #[.agg #[.slice A (dl x).length c, .bool p], .agg #[.slice B (dl y).length c2, .bool q]] w fun e w' => (∃ (A' : Option Addr) (c' m : Nat) (n : Bool), e = .returned (.agg #[.slice A' (dl m).length c', .bool (n && decide (0 < m))]) ∧ DL w' A' (dl m) ∧ (dl m).length ≤ c' ∧ ((p = q ∧ n = p ∧ m = x + y) ∨ (p ≠ q ∧ y ≤ x ∧ n = p ∧ m = x - y) ∨ (p ≠ q ∧ x < y ∧ n = q ∧ m = y - x))) ∧ Below w.heap.size w w' := by
  have HA := Lib.hid ha
  have HB := Lib.hid hb
  have HLS := Lib.hid (show (dl (x + y)).length ≤ 1000 by have := dl_len_add hl hl2; omega)
  have HLX := Lib.hid (show (dl x).length ≤ 1000 by omega)
  have HLY := Lib.hid (show (dl y).length ≤ 1000 by omega)
  clear ha hb hl hl2
  go_enter Try.func41, Try.ntmps41
  go_upto_region 1 with (fail)
  have h3 := alloc3 w (Obj.cells #[.slice A (dl x).length c, .bool p] 62) (Obj.cells #[.slice B (dl y).length c2, .bool q] 62) (Obj.cells #[.slice none 0 0, .bool false] 62)
  generalize ((w.alloc (Obj.cells #[.slice A (dl x).length c, .bool p] 62)).alloc (Obj.cells #[.slice B (dl y).length c2, .bool q] 62)).alloc (Obj.cells #[.slice none 0 0, .bool false] 62) = W0 at *
  obtain ⟨⟨h1, h2, h3⟩, hb0⟩ := h3
  have BW := Lib.hid hb0
  have R := Lib.hid h3
  have HA0 := Lib.hid (HA.out.below hb0)
  have HB0 := Lib.hid (HB.out.below hb0)
  have g0 : W0.cell? ⟨w.heap.size, 0, none⟩ = some (.slice A (dl x).length c) := cell_of_row W0 _ 0 _ _ _ h1
  have g1 : W0.cell? ⟨w.heap.size, 1, none⟩ = some (.bool p) := cell_of_row W0 _ 1 _ _ _ h1
  have g2 : W0.cell? ⟨w.heap.size + 1, 0, none⟩ = some (.slice B (dl y).length c2) := cell_of_row W0 _ 0 _ _ _ h2
  have g3 : W0.cell? ⟨w.heap.size + 1, 1, none⟩ = some (.bool q) := cell_of_row W0 _ 1 _ _ _ h2
  have a0 := Lib.hid g0
  have a1 := Lib.hid g1
  have a2 := Lib.hid g2
  have a3 := Lib.hid g3
  clear h1 h2 h3 hb0
  cases hpq : (p == q) with
  | true =>
    have hpq2 : p = q := by simpa using hpq
    have HPQ := Lib.hid hpq2
    go_wp2_with fail
    clear g0 g1 g2 g3 hpq hpq2
    have P := refplus_ans A B c c2 x y W0.drew (HA0.out.below (Below.refl _ W0).drew) (HB0.out.below (Below.refl _ W0).drew) HLS.out
    go_region_held3 (fun w' => w'.cell? ⟨w.heap.size, 0, none⟩ = some (.slice A (dl x).length c) ∧ w'.cell? ⟨w.heap.size, 1, none⟩ = some (.bool p) ∧ w'.cell? ⟨w.heap.size + 1, 0, none⟩ = some (.slice B (dl y).length c2) ∧ w'.cell? ⟨w.heap.size + 1, 1, none⟩ = some (.bool q)) (first | exact ⟨a0.out, a1.out, a2.out, a3.out⟩ | exact ⟨k0.out, k1.out, k2.out, k3.out⟩ | exact ⟨l0.out, l1.out, l2.out, l3.out⟩ | exact ⟨set2_keep l0.out (show w.heap.size < w.heap.size + 1 + 1 by omega) _ _, set2_keep l1.out (show w.heap.size < w.heap.size + 1 + 1 by omega) _ _, set2_keep l2.out (show w.heap.size + 1 < w.heap.size + 1 + 1 by omega) _ _, set2_keep l3.out (show w.heap.size + 1 < w.heap.size + 1 + 1 by omega) _ _⟩) (first
      | (go_at_call 48; (with_reducible refine P.mono ?_); rintro e w1 ⟨⟨A1, c1, ds, rfl, hd1, hc1, hl1, hx1, hv1⟩, b1⟩; have HD1 := Lib.hid hd1; have HC1 := Lib.hid hc1; have HL1 := Lib.hid hl1; have HX1 := Lib.hid hx1; have HV1 := Lib.hid hv1; have k0 := Lib.hid (cell_keep (show W0.drew.cell? _ = some _ from a0.out) b1); have k1 := Lib.hid (cell_keep (show W0.drew.cell? _ = some _ from a1.out) b1); have k2 := Lib.hid (cell_keep (show W0.drew.cell? _ = some _ from a2.out) b1); have k3 := Lib.hid (cell_keep (show W0.drew.cell? _ = some _ from a3.out) b1); have r1 := Lib.hid (row_below b1 (show W0.drew.heap[w.heap.size + 1 + 1]? = _ from R.out)); have B1 := Lib.hid (BW.out.trans ((of_drew b1).mono BW.out.size)); clear hd1 hc1 hl1 hx1 hv1 b1)
      | (go_at_call 47; (with_reducible refine (trim_any A1 c1 ds p _ HD1.out HX1.out HC1.out HL1.out).mono ?_); rintro e w2 ⟨rfl, hd2, hc2, b2⟩; have HD2 := Lib.hid hd2; have HC2 := Lib.hid hc2; have l0 := Lib.hid (cell_keep k0.out b2); have l1 := Lib.hid (cell_keep k1.out b2); have l2 := Lib.hid (cell_keep k2.out b2); have l3 := Lib.hid (cell_keep k3.out b2); have r2 := Lib.hid (row_below b2 r1.out); have B2 := Lib.hid (B1.out.trans (b2.mono B1.out.size)); have z0 : w2.cell? ⟨w.heap.size + 1 + 1, 0, none⟩ = some (.slice none 0 0) := cell_of_row w2 (w.heap.size + 1 + 1) 0 _ _ _ r2.out; have z1 : w2.cell? ⟨w.heap.size + 1 + 1, 1, none⟩ = some (.bool false) := cell_of_row w2 (w.heap.size + 1 + 1) 1 _ _ _ r2.out; have fr0 := frozen_of_row w2 (w.heap.size + 1 + 1) 0 _ _ r2.out; have fr1 := frozen_of_row w2 (w.heap.size + 1 + 1) 1 _ _ r2.out; rw [HV1.out] at *; clear hd2 hc2 b2))
    go_wp2
    refine ret_ref_set rfl rfl r2.out ⟨⟨A1, c1, _, p, rfl, dl_store HD2.out r2.out _ _, HC2.out, ?_⟩, setRef_below B2.out (by omega) _ _⟩
    exact Or.inl ⟨HPQ.out, rfl, rfl⟩
  | false =>
    have hpq2 : p ≠ q := by simpa using hpq
    have HPQ := Lib.hid hpq2
    have CM := compare_any A B c c2 x y W0 HA0.out HB0.out HLX.out
    obtain ⟨z, hz⟩ : ∃ z, z = cmpI x y := ⟨_, rfl⟩
    rw [← hz] at CM
    have HZ := Lib.hid hz
    clear hpq2 hz
    by_cases hyx : y ≤ x
    · have kz : z ≥ 0 := by rw [HZ.out]; unfold cmpI; rw [if_neg (by omega)]; split <;> omega
      have HYX := Lib.hid hyx
      clear hyx
      go_upto_region 4 with ((go_at_call 49; (with_reducible refine CM.mono ?_); rintro e w3 ⟨rfl, b3⟩))
      clear g0 g1 g2 g3 hpq kz CM
      have BW2 := Lib.hid (BW.out.trans (b3.mono BW.out.size))
      have R2 := Lib.hid (row_below b3 R.out)
      have HA2 := Lib.hid (HA.out.below BW2.out)
      have HB2 := Lib.hid (HB.out.below BW2.out)
      have c0 := Lib.hid (cell_keep a0.out b3)
      have c1 := Lib.hid (cell_keep a1.out b3)
      have c2' := Lib.hid (cell_keep a2.out b3)
      have c3 := Lib.hid (cell_keep a3.out b3)
      clear BW R HA0 HB0 a0 a1 a2 a3 b3
      clear W0
      obtain ⟨W0, hW0⟩ : ∃ W0, W0 = w3 := ⟨_, rfl⟩
      subst hW0
      have BW := BW2
      have R := R2
      have HA0 := HA2
      have HB0 := HB2
      have a0 := c0
      have a1 := c1
      have a2 := c2'
      have a3 := c3
      clear BW2 R2 HA2 HB2 c0 c1 c2' c3
      have P := refminus_any A B c c2 x y W0.drew (HA0.out.below (Below.refl _ W0).drew) (HB0.out.below (Below.refl _ W0).drew) HYX.out HLX.out
      go_region_held3 (fun w' => w'.cell? ⟨w.heap.size, 0, none⟩ = some (.slice A (dl x).length c) ∧ w'.cell? ⟨w.heap.size, 1, none⟩ = some (.bool p) ∧ w'.cell? ⟨w.heap.size + 1, 0, none⟩ = some (.slice B (dl y).length c2) ∧ w'.cell? ⟨w.heap.size + 1, 1, none⟩ = some (.bool q)) (first | exact ⟨a0.out, a1.out, a2.out, a3.out⟩ | exact ⟨k0.out, k1.out, k2.out, k3.out⟩ | exact ⟨l0.out, l1.out, l2.out, l3.out⟩ | exact ⟨set2_keep l0.out (show w.heap.size < w.heap.size + 1 + 1 by omega) _ _, set2_keep l1.out (show w.heap.size < w.heap.size + 1 + 1 by omega) _ _, set2_keep l2.out (show w.heap.size + 1 < w.heap.size + 1 + 1 by omega) _ _, set2_keep l3.out (show w.heap.size + 1 < w.heap.size + 1 + 1 by omega) _ _⟩) (first
        | (go_at_call 50; (with_reducible refine P.mono ?_); rintro e w1 ⟨⟨A1, c1, ds, rfl, hd1, hc1, hl1, hx1, hv1⟩, b1⟩; have HD1 := Lib.hid hd1; have HC1 := Lib.hid hc1; have HL1 := Lib.hid hl1; have HX1 := Lib.hid hx1; have HV1 := Lib.hid hv1; have k0 := Lib.hid (cell_keep (show W0.drew.cell? _ = some _ from a0.out) b1); have k1 := Lib.hid (cell_keep (show W0.drew.cell? _ = some _ from a1.out) b1); have k2 := Lib.hid (cell_keep (show W0.drew.cell? _ = some _ from a2.out) b1); have k3 := Lib.hid (cell_keep (show W0.drew.cell? _ = some _ from a3.out) b1); have r1 := Lib.hid (row_below b1 (show W0.drew.heap[w.heap.size + 1 + 1]? = _ from R.out)); have B1 := Lib.hid (BW.out.trans ((of_drew b1).mono BW.out.size)); clear hd1 hc1 hl1 hx1 hv1 b1)
        | (go_at_call 47; (with_reducible refine (trim_any A1 c1 ds p _ HD1.out HX1.out HC1.out HL1.out).mono ?_); rintro e w2 ⟨rfl, hd2, hc2, b2⟩; have HD2 := Lib.hid hd2; have HC2 := Lib.hid hc2; have l0 := Lib.hid (cell_keep k0.out b2); have l1 := Lib.hid (cell_keep k1.out b2); have l2 := Lib.hid (cell_keep k2.out b2); have l3 := Lib.hid (cell_keep k3.out b2); have r2 := Lib.hid (row_below b2 r1.out); have B2 := Lib.hid (B1.out.trans (b2.mono B1.out.size)); have z0 : w2.cell? ⟨w.heap.size + 1 + 1, 0, none⟩ = some (.slice none 0 0) := cell_of_row w2 (w.heap.size + 1 + 1) 0 _ _ _ r2.out; have z1 : w2.cell? ⟨w.heap.size + 1 + 1, 1, none⟩ = some (.bool false) := cell_of_row w2 (w.heap.size + 1 + 1) 1 _ _ _ r2.out; have fr0 := frozen_of_row w2 (w.heap.size + 1 + 1) 0 _ _ r2.out; have fr1 := frozen_of_row w2 (w.heap.size + 1 + 1) 1 _ _ r2.out; rw [HV1.out] at *; clear hd2 hc2 b2))
      go_wp2
      refine ret_ref_set rfl rfl r2.out ⟨⟨A1, c1, _, p, rfl, dl_store HD2.out r2.out _ _, HC2.out, ?_⟩, setRef_below B2.out (by omega) _ _⟩
      exact Or.inr (Or.inl ⟨HPQ.out, HYX.out, rfl, rfl⟩)
    · have kz : ¬ z ≥ 0 := by rw [HZ.out]; unfold cmpI; rw [if_pos (by omega)]; omega
      have HYX := Lib.hid (Nat.lt_of_not_le hyx)
      clear hyx
      go_upto_region 5 with ((go_at_call 49; (with_reducible refine CM.mono ?_); rintro e w3 ⟨rfl, b3⟩))
      clear g0 g1 g2 g3 hpq kz CM
      have BW2 := Lib.hid (BW.out.trans (b3.mono BW.out.size))
      have R2 := Lib.hid (row_below b3 R.out)
      have HA2 := Lib.hid (HA.out.below BW2.out)
      have HB2 := Lib.hid (HB.out.below BW2.out)
      have c0 := Lib.hid (cell_keep a0.out b3)
      have c1 := Lib.hid (cell_keep a1.out b3)
      have c2' := Lib.hid (cell_keep a2.out b3)
      have c3 := Lib.hid (cell_keep a3.out b3)
      clear BW R HA0 HB0 a0 a1 a2 a3 b3
      clear W0
      obtain ⟨W0, hW0⟩ : ∃ W0, W0 = w3 := ⟨_, rfl⟩
      subst hW0
      have BW := BW2
      have R := R2
      have HA0 := HA2
      have HB0 := HB2
      have a0 := c0
      have a1 := c1
      have a2 := c2'
      have a3 := c3
      clear BW2 R2 HA2 HB2 c0 c1 c2' c3
      have P := refminus_any B A c2 c y x W0.drew (HB0.out.below (Below.refl _ W0).drew) (HA0.out.below (Below.refl _ W0).drew) (Nat.le_of_lt HYX.out) HLY.out
      go_region_held3 (fun w' => w'.cell? ⟨w.heap.size, 0, none⟩ = some (.slice A (dl x).length c) ∧ w'.cell? ⟨w.heap.size, 1, none⟩ = some (.bool p) ∧ w'.cell? ⟨w.heap.size + 1, 0, none⟩ = some (.slice B (dl y).length c2) ∧ w'.cell? ⟨w.heap.size + 1, 1, none⟩ = some (.bool q)) (first | exact ⟨a0.out, a1.out, a2.out, a3.out⟩ | exact ⟨k0.out, k1.out, k2.out, k3.out⟩ | exact ⟨l0.out, l1.out, l2.out, l3.out⟩ | exact ⟨set2_keep l0.out (show w.heap.size < w.heap.size + 1 + 1 by omega) _ _, set2_keep l1.out (show w.heap.size < w.heap.size + 1 + 1 by omega) _ _, set2_keep l2.out (show w.heap.size + 1 < w.heap.size + 1 + 1 by omega) _ _, set2_keep l3.out (show w.heap.size + 1 < w.heap.size + 1 + 1 by omega) _ _⟩) (first
        | (go_at_call 50; (with_reducible refine P.mono ?_); rintro e w1 ⟨⟨A1, c1, ds, rfl, hd1, hc1, hl1, hx1, hv1⟩, b1⟩; have HD1 := Lib.hid hd1; have HC1 := Lib.hid hc1; have HL1 := Lib.hid hl1; have HX1 := Lib.hid hx1; have HV1 := Lib.hid hv1; have k0 := Lib.hid (cell_keep (show W0.drew.cell? _ = some _ from a0.out) b1); have k1 := Lib.hid (cell_keep (show W0.drew.cell? _ = some _ from a1.out) b1); have k2 := Lib.hid (cell_keep (show W0.drew.cell? _ = some _ from a2.out) b1); have k3 := Lib.hid (cell_keep (show W0.drew.cell? _ = some _ from a3.out) b1); have r1 := Lib.hid (row_below b1 (show W0.drew.heap[w.heap.size + 1 + 1]? = _ from R.out)); have B1 := Lib.hid (BW.out.trans ((of_drew b1).mono BW.out.size)); clear hd1 hc1 hl1 hx1 hv1 b1)
        | (go_at_call 47; (with_reducible refine (trim_any A1 c1 ds q _ HD1.out HX1.out HC1.out HL1.out).mono ?_); rintro e w2 ⟨rfl, hd2, hc2, b2⟩; have HD2 := Lib.hid hd2; have HC2 := Lib.hid hc2; have l0 := Lib.hid (cell_keep k0.out b2); have l1 := Lib.hid (cell_keep k1.out b2); have l2 := Lib.hid (cell_keep k2.out b2); have l3 := Lib.hid (cell_keep k3.out b2); have r2 := Lib.hid (row_below b2 r1.out); have B2 := Lib.hid (B1.out.trans (b2.mono B1.out.size)); have z0 : w2.cell? ⟨w.heap.size + 1 + 1, 0, none⟩ = some (.slice none 0 0) := cell_of_row w2 (w.heap.size + 1 + 1) 0 _ _ _ r2.out; have z1 : w2.cell? ⟨w.heap.size + 1 + 1, 1, none⟩ = some (.bool false) := cell_of_row w2 (w.heap.size + 1 + 1) 1 _ _ _ r2.out; have fr0 := frozen_of_row w2 (w.heap.size + 1 + 1) 0 _ _ r2.out; have fr1 := frozen_of_row w2 (w.heap.size + 1 + 1) 1 _ _ r2.out; rw [HV1.out] at *; clear hd2 hc2 b2))
      go_wp2
      refine ret_ref_set rfl rfl r2.out ⟨⟨A1, c1, _, q, rfl, dl_store HD2.out r2.out _ _, HC2.out, ?_⟩, setRef_below B2.out (by omega) _ _⟩
      exact Or.inr (Or.inr ⟨HPQ.out, HYX.out, rfl, rfl⟩)
end Go.Proofs.Ytelfbjldfdlpnaa.TickW

