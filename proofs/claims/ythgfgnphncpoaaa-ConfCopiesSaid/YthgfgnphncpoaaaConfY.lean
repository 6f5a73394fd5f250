/- The chapter's examples. -/
import Derived.Test.YthgfgnphncpoaaaConfX
import Derived.Test.YthgfgnphncpoaaaConfT
import Derived.Test.YthgfgnphncpoaaaConfJ
namespace Go.Proofs.Ythgfgnphncpoaaa.ConfW
open Go.RowKit Shell
/-- A copy is a configuration in memory. -/
theorem Dup.mem {w : World} {lo gd : Nat} {c : Cfg} {vs : List Value} {vE vL : Value} (h : Dup w lo c gd vs vE vL) (h1 : ∀ r ∈ c.delays, Wf .i64 r ∧ r.length ≤ maxLen) (h2 : ∀ e ∈ c.entries, e.b < 4294967296) (h3 : ∀ e ∈ c.links, e.b < 4294967296) (h4 : c.delays.length ≤ maxLen) :
    ∃ E L ce cl, vE = .slice E c.entries.length ce ∧ vL = .slice L c.links.length cl ∧ CM w c (some ⟨gd, 0, none⟩) E L c.delays.length c.delays.length c.entries.length ce c.links.length cl := by
  have he := h.ent
  have hl := h.lnk
  obtain ⟨E, ce, rfl, e1, e2, e3, _⟩ := own_form he
  obtain ⟨L, cl, rfl, l1, l2, l3, _⟩ := own_form hl
  refine ⟨E, L, ce, cl, rfl, rfl, ?_⟩
  exact { hd := fun k r hk => by
            obtain ⟨v, hv, ho⟩ := h.row k r hk
            obtain ⟨A, c', rfl, a1, a2, a3, _⟩ := own_form ho
            have hm := h1 r (List.mem_of_getElem? hk)
            have ha : (⟨gd, 0, none⟩ : Addr).add k = ⟨gd, k, none⟩ := by unfold Addr.add; split <;> simp_all
            exact ⟨⟨gd, 0, none⟩, A, c', rfl, by rw [ha]; exact box_cell h.hd (by rw [List.getElem?_toArray]; exact hv), own_cl ho hm.1, hm.2, a1, a3⟩
          he := own_ml he h2, hl := own_ml hl h3, nD := rfl, nE := rfl, nL := rfl, mD := h4, mE := e2, mL := l2, cD := Nat.le_refl _, cE := e1, cL := l1, zD := (fun hn => by cases hn), zE := e3, zL := l3 }
theorem CM.wf {w : World} (c : Cfg) (D E L : Option Addr) (nd cd ne ce nl cl : Nat) (h : CM w c D E L nd cd ne ce nl cl) : ∀ r ∈ c.delays, Wf .i64 r ∧ r.length ≤ maxLen := by
  intro r hr
  obtain ⟨k, hk⟩ := List.getElem?_of_mem hr
  obtain ⟨_, _, _, _, _, h3, h4, _⟩ := h.hd k r hk
  exact ⟨h3.wf, h4⟩
def C43 : Cfg := { hosts := 4, cycle := 2000000, delay := 2000, window := 1000, precision := 500, delays := [[100, 150], [200, 250], [300, 350], [400, 450]], entries := [⟨0, 14, 10000, 64⟩, ⟨1, 13, 60000, 65⟩, ⟨2, 11, 110000, 66⟩], links := [], queue := 8 }
def D43 : Cfg := { C43 with hosts := 3 }
def e0 : R4 := ⟨0, 14, 10000, 64⟩
theorem fam43 : famC 4 3 = C43 := by kernel_rfl
theorem chk43 : chk C43 = 0 := by decide +kernel
theorem chk33 : chk D43 = 4 := by decide +kernel
theorem eq43 : eqC C43 D43 = false := by decide +kernel
theorem fwd0 : fwd C43 e0 = 13512 := by decide +kernel
theorem ear0 : ear C43 e0 = 13524 := by decide +kernel
theorem lat0 : lat C43 e0 = 16524 := by decide +kernel
theorem qui0 : quiet C43 = 7000 := by decide +kernel
theorem at00 : at0 C43 e0 = 10012 := by decide +kernel
theorem at10 : at1 C43 e0 = 13012 := by decide +kernel
theorem family43 (w : World) : Calls Try.prog 10 #[.int .i64 4, .int .i64 3] w fun r w' => ∃ D E cd ce, r = .returned (.agg #[.int .i64 4, .int .i64 2000000, .int .i64 2000, .int .i64 1000, .int .i64 500, .slice D 4 cd, .slice E 3 ce, .slice none 0 0, .int .i64 8]) ∧ CM w' C43 D E none 4 cd 3 ce 0 0 ∧ Below w.heap.size w w' :=
  (family_any 4 3 w).mono fun r w' ⟨D, E, nd, cd, ne, ce, hr, hm, hb⟩ => by
    rw [fam43] at hr hm
    have h1 : nd = 4 := hm.nD
    have h2 : ne = 3 := hm.nE
    subst h1
    subst h2
    exact ⟨D, E, cd, ce, hr, hm, hb⟩
theorem check43 (D E : Option Addr) (cd ce : Nat) (w : World) (h : CM w C43 D E none 4 cd 3 ce 0 0) : Calls Try.prog 9 #[.agg #[.int .i64 4, .int .i64 2000000, .int .i64 2000, .int .i64 1000, .int .i64 500, .slice D 4 cd, .slice E 3 ce, .slice none 0 0, .int .i64 8]] w fun r w' => r = .returned (.int .i64 0) ∧ Below w.heap.size w w' := by
  have := check_any C43 D E none 4 cd 3 ce 0 0 w h
  rw [chk43] at this
  exact this
theorem check33 (D E L : Option Addr) (cd ce cl : Nat) (w : World) (h : CM w D43 D E L 4 cd 3 ce 0 cl) : Calls Try.prog 9 #[.agg #[.int .i64 3, .int .i64 2000000, .int .i64 2000, .int .i64 1000, .int .i64 500, .slice D 4 cd, .slice E 3 ce, .slice L 0 cl, .int .i64 8]] w fun r w' => r = .returned (.int .i64 4) ∧ Below w.heap.size w w' := by
  have := check_any D43 D E L 4 cd 3 ce 0 cl w h
  rw [chk33] at this
  exact this
theorem copy43 (D E : Option Addr) (cd ce : Nat) (w : World) (h : CM w C43 D E none 4 cd 3 ce 0 0) : Calls Try.prog 7 #[.agg #[.int .i64 4, .int .i64 2000000, .int .i64 2000, .int .i64 1000, .int .i64 500, .slice D 4 cd, .slice E 3 ce, .slice none 0 0, .int .i64 8]] w fun r w' => ∃ D2 E2 L2 cd2 ce2 cl2, r = .returned (.agg #[.int .i64 4, .int .i64 2000000, .int .i64 2000, .int .i64 1000, .int .i64 500, .slice D2 4 cd2, .slice E2 3 ce2, .slice L2 0 cl2, .int .i64 8]) ∧ CM w' D43 D2 E2 L2 4 cd2 3 ce2 0 cl2 ∧ Below w.heap.size w w' :=
  (copy_any C43 D E none 4 cd 3 ce 0 0 w h (by decide) (by decide) (by decide) (by decide)).mono fun r w' ⟨gd, vs, vE, vL, hr, hb, hd⟩ => by
    obtain ⟨E2, L2, ce2, cl2, rfl, rfl, hm⟩ := hd.mem (CM.wf C43 D E none 4 cd 3 ce 0 0 h) h.he.u32 h.hl.u32 (by decide)
    exact ⟨some ⟨gd, 0, none⟩, E2, L2, 4, ce2, cl2, hr, { hm with }, hb⟩
theorem equal43 (D E : Option Addr) (cd ce : Nat) (w : World) (h : CM w C43 D E none 4 cd 3 ce 0 0) : Calls Try.prog 5 #[.agg #[.int .i64 4, .int .i64 2000000, .int .i64 2000, .int .i64 1000, .int .i64 500, .slice D 4 cd, .slice E 3 ce, .slice none 0 0, .int .i64 8], .agg #[.int .i64 4, .int .i64 2000000, .int .i64 2000, .int .i64 1000, .int .i64 500, .slice D 4 cd, .slice E 3 ce, .slice none 0 0, .int .i64 8]] w fun r w' => r = .returned (.bool true) ∧ Below w.heap.size w w' := by
  have := equal_any C43 D E none 4 cd 3 ce 0 0 C43 D E none 4 cd 3 ce 0 0 w h h
  rw [eqC_self] at this
  exact this
theorem equal33 (D E : Option Addr) (cd ce : Nat) (D2 E2 L2 : Option Addr) (cd2 ce2 cl2 : Nat) (w : World) (h : CM w C43 D E none 4 cd 3 ce 0 0) (g : CM w D43 D2 E2 L2 4 cd2 3 ce2 0 cl2) : Calls Try.prog 5 #[.agg #[.int .i64 4, .int .i64 2000000, .int .i64 2000, .int .i64 1000, .int .i64 500, .slice D 4 cd, .slice E 3 ce, .slice none 0 0, .int .i64 8], .agg #[.int .i64 3, .int .i64 2000000, .int .i64 2000, .int .i64 1000, .int .i64 500, .slice D2 4 cd2, .slice E2 3 ce2, .slice L2 0 cl2, .int .i64 8]] w fun r w' => r = .returned (.bool false) ∧ Below w.heap.size w w' := by
  have := equal_any C43 D E none 4 cd 3 ce 0 0 D43 D2 E2 L2 4 cd2 3 ce2 0 cl2 w h g
  rw [eq43] at this
  exact this
theorem at43 (D E : Option Addr) (cd ce : Nat) (w : World) : Calls Try.prog 11 #[.agg #[.int .i64 4, .int .i64 2000000, .int .i64 2000, .int .i64 1000, .int .i64 500, .slice D 4 cd, .slice E 3 ce, .slice none 0 0, .int .i64 8], .agg #[.int .i64 0, .int .u32 14, .int .i64 10000, .int .i64 64]] w fun r w' => r = .returned (.tuple #[.int .i64 10012, .int .i64 13012]) ∧ Below w.heap.size w w' := by
  have := at_any C43 D E none 4 cd 3 ce 0 0 e0 w (by decide)
  rw [at00, at10] at this
  exact this
theorem fwd43 (D E : Option Addr) (cd ce : Nat) (w : World) : Calls Try.prog 12 #[.agg #[.int .i64 4, .int .i64 2000000, .int .i64 2000, .int .i64 1000, .int .i64 500, .slice D 4 cd, .slice E 3 ce, .slice none 0 0, .int .i64 8], .agg #[.int .i64 0, .int .u32 14, .int .i64 10000, .int .i64 64]] w fun r w' => r = .returned (.int .i64 13512) ∧ Below w.heap.size w w' := by
  have := forward_any C43 D E none 4 cd 3 ce 0 0 e0 w (by decide)
  rw [fwd0] at this
  exact this
theorem ear43 (D E : Option Addr) (cd ce : Nat) (w : World) : Calls Try.prog 13 #[.agg #[.int .i64 4, .int .i64 2000000, .int .i64 2000, .int .i64 1000, .int .i64 500, .slice D 4 cd, .slice E 3 ce, .slice none 0 0, .int .i64 8], .agg #[.int .i64 0, .int .u32 14, .int .i64 10000, .int .i64 64]] w fun r w' => r = .returned (.int .i64 13524) ∧ Below w.heap.size w w' := by
  have := early_any C43 D E none 4 cd 3 ce 0 0 e0 w (by decide)
  rw [ear0] at this
  exact this
theorem lat43 (D E : Option Addr) (cd ce : Nat) (w : World) : Calls Try.prog 14 #[.agg #[.int .i64 4, .int .i64 2000000, .int .i64 2000, .int .i64 1000, .int .i64 500, .slice D 4 cd, .slice E 3 ce, .slice none 0 0, .int .i64 8], .agg #[.int .i64 0, .int .u32 14, .int .i64 10000, .int .i64 64]] w fun r w' => r = .returned (.int .i64 16524) ∧ Below w.heap.size w w' := by
  have := late_any C43 D E none 4 cd 3 ce 0 0 e0 w (by decide)
  rw [lat0] at this
  exact this
theorem qui43 (D E : Option Addr) (cd ce : Nat) (w : World) : Calls Try.prog 15 #[.agg #[.int .i64 4, .int .i64 2000000, .int .i64 2000, .int .i64 1000, .int .i64 500, .slice D 4 cd, .slice E 3 ce, .slice none 0 0, .int .i64 8]] w fun r w' => r = .returned (.int .i64 7000) ∧ Below w.heap.size w w' := by
  have := quiet_any C43 D E none 4 cd 3 ce 0 0 w
  rw [qui0] at this
  exact this
/-- The examples' three boxes, and what they speak of. -/
structure FY (w0 : World) (g1 g2 g3 : Nat) (D E : Option Addr) (cd ce : Nat) (D2 E2 L2 : Option Addr) (cd2 ce2 cl2 : Nat) (W : World) : Prop where
  b : Below w0.heap.size w0 W
  x : W.heap[g1]? = some (Obj.cells #[.int .i64 4, .int .i64 2000000, .int .i64 2000, .int .i64 1000, .int .i64 500, .slice D 4 cd, .slice E 3 ce, .slice none 0 0, .int .i64 8] 26)
  y : W.heap[g2]? = some (Obj.cells #[.int .i64 3, .int .i64 2000000, .int .i64 2000, .int .i64 1000, .int .i64 500, .slice D2 4 cd2, .slice E2 3 ce2, .slice L2 0 cl2, .int .i64 8] 26)
  z : W.heap[g3]? = some (Obj.cells #[.int .i64 0, .int .u32 14, .int .i64 10000, .int .i64 64] 33)
  m : CM W C43 D E none 4 cd 3 ce 0 0
  n : CM W D43 D2 E2 L2 4 cd2 3 ce2 0 cl2
theorem FY.next {w0 W W1 : World} {g1 g2 g3 : Nat} {D E D2 E2 L2 : Option Addr} {cd ce cd2 ce2 cl2 : Nat} (h : FY w0 g1 g2 g3 D E cd ce D2 E2 L2 cd2 ce2 cl2 W) (b : Below W.heap.size W W1) : FY w0 g1 g2 g3 D E cd ce D2 E2 L2 cd2 ce2 cl2 W1 :=
  ⟨h.b.trans (b.mono h.b.size), row_below b h.x, row_below b h.y, row_below b h.z, h.m.below b, h.n.below b⟩
theorem FY.s {w0 W : World} {g1 g2 g3 : Nat} {D E D2 E2 L2 : Option Addr} {cd ce cd2 ce2 cl2 : Nat} (h : FY w0 g1 g2 g3 D E cd ce D2 E2 L2 cd2 ce2 cl2 W) : Hid (FY w0 g1 g2 g3 D E cd ce D2 E2 L2 cd2 ce2 cl2 W) ∧ W.cell? ⟨g1, 0, none⟩ = some (.int .i64 4) ∧ W.cell? ⟨g1, 1, none⟩ = some (.int .i64 2000000) ∧ W.cell? ⟨g1, 2, none⟩ = some (.int .i64 2000) ∧ W.cell? ⟨g1, 3, none⟩ = some (.int .i64 1000) ∧ W.cell? ⟨g1, 4, none⟩ = some (.int .i64 500) ∧ W.cell? ⟨g1, 5, none⟩ = some (.slice D 4 cd) ∧ W.cell? ⟨g1, 6, none⟩ = some (.slice E 3 ce) ∧ W.cell? ⟨g1, 7, none⟩ = some (.slice none 0 0) ∧ W.cell? ⟨g1, 8, none⟩ = some (.int .i64 8) ∧ W.cell? ⟨g2, 0, none⟩ = some (.int .i64 3) ∧ W.cell? ⟨g2, 1, none⟩ = some (.int .i64 2000000) ∧ W.cell? ⟨g2, 2, none⟩ = some (.int .i64 2000) ∧ W.cell? ⟨g2, 3, none⟩ = some (.int .i64 1000) ∧ W.cell? ⟨g2, 4, none⟩ = some (.int .i64 500) ∧ W.cell? ⟨g2, 5, none⟩ = some (.slice D2 4 cd2) ∧ W.cell? ⟨g2, 6, none⟩ = some (.slice E2 3 ce2) ∧ W.cell? ⟨g2, 7, none⟩ = some (.slice L2 0 cl2) ∧ W.cell? ⟨g2, 8, none⟩ = some (.int .i64 8) ∧ W.cell? ⟨g3, 0, none⟩ = some (.int .i64 0) ∧ W.cell? ⟨g3, 1, none⟩ = some (.int .u32 14) ∧ W.cell? ⟨g3, 2, none⟩ = some (.int .i64 10000) ∧ W.cell? ⟨g3, 3, none⟩ = some (.int .i64 64) :=
  ⟨Lib.hid h, box_cell h.x rfl, box_cell h.x rfl, box_cell h.x rfl, box_cell h.x rfl, box_cell h.x rfl, box_cell h.x rfl, box_cell h.x rfl, box_cell h.x rfl, box_cell h.x rfl, box_cell h.y rfl, box_cell h.y rfl, box_cell h.y rfl, box_cell h.y rfl, box_cell h.y rfl, box_cell h.y rfl, box_cell h.y rfl, box_cell h.y rfl, box_cell h.y rfl, box_cell h.z rfl, box_cell h.z rfl, box_cell h.z rfl, box_cell h.z rfl⟩
set_option maxHeartbeats 8000000 in
set_option maxRecDepth 100000 in
theorem fixed_any (w : World) : Calls Try.prog 4 #[] w fun r w' => r = .returned (.bool true) ∧ Below w.heap.size w w' := by
  go_enter Try.func4, Try.ntmps4
  go_wp2_with fail
  refine (family43 w).mono ?_
  rintro r w1 ⟨D, E, cd, ce, rfl, hm, hb⟩
  have M1 := Lib.hid hm
  have B1 := Lib.hid hb
  clear hm hb
  have X1 := Lib.hid (heap_alloc_new w1 (Obj.cells #[.int .i64 4, .int .i64 2000000, .int .i64 2000, .int .i64 1000, .int .i64 500, .slice D 4 cd, .slice E 3 ce, .slice none 0 0, .int .i64 8] 26))
  have B2 := Lib.hid (B1.out.alloc B1.out.size (Obj.cells #[.int .i64 4, .int .i64 2000000, .int .i64 2000, .int .i64 1000, .int .i64 500, .slice D 4 cd, .slice E 3 ce, .slice none 0 0, .int .i64 8] 26))
  have M2 := Lib.hid (M1.out.below (al (Below.refl w1.heap.size w1) (Obj.cells #[.int .i64 4, .int .i64 2000000, .int .i64 2000, .int .i64 1000, .int .i64 500, .slice D 4 cd, .slice E 3 ce, .slice none 0 0, .int .i64 8] 26)))
  go_wp2_with fail
  refine (check43 D E cd ce _ M2.out).mono ?_
  rintro r w2 ⟨rfl, hb⟩
  have X2 := Lib.hid (row_below hb X1.out)
  have B3 := Lib.hid (B2.out.trans (hb.mono B2.out.size))
  have M3 := Lib.hid (M2.out.below hb)
  clear hb
  obtain ⟨g1, hg1⟩ : ∃ g1, g1 = w1.heap.size := ⟨_, rfl⟩
  rw [← hg1] at X2 ⊢
  clear hg1 X1 B2 M2
  have a0 := box_cell (i := 0) X2.out rfl
  have a1 := box_cell (i := 1) X2.out rfl
  have a2 := box_cell (i := 2) X2.out rfl
  have a3 := box_cell (i := 3) X2.out rfl
  have a4 := box_cell (i := 4) X2.out rfl
  have a5 := box_cell (i := 5) X2.out rfl
  have a6 := box_cell (i := 6) X2.out rfl
  have a7 := box_cell (i := 7) X2.out rfl
  have a8 := box_cell (i := 8) X2.out rfl
  go_wp2_with fail
  refine (copy43 D E cd ce _ M3.out).mono ?_
  rintro r w3 ⟨D2, E2, L2, cd2, ce2, cl2, rfl, hn, hb⟩
  have X3 := Lib.hid (row_below hb X2.out)
  have B4 := Lib.hid (B3.out.trans (hb.mono B3.out.size))
  have M4 := Lib.hid (M3.out.below hb)
  have N4 := Lib.hid hn
  clear hn hb a0 a1 a2 a3 a4 a5 a6 a7 a8 X2 B3 M3
  have a0 := box_cell (i := 0) X3.out rfl
  have a1 := box_cell (i := 1) X3.out rfl
  have a2 := box_cell (i := 2) X3.out rfl
  have a3 := box_cell (i := 3) X3.out rfl
  have a4 := box_cell (i := 4) X3.out rfl
  have a5 := box_cell (i := 5) X3.out rfl
  have a6 := box_cell (i := 6) X3.out rfl
  have a7 := box_cell (i := 7) X3.out rfl
  have a8 := box_cell (i := 8) X3.out rfl
  have X5 := Lib.hid (row_below (al (Below.refl w3.heap.size w3) (Obj.cells #[.int .i64 3, .int .i64 2000000, .int .i64 2000, .int .i64 1000, .int .i64 500, .slice D2 4 cd2, .slice E2 3 ce2, .slice L2 0 cl2, .int .i64 8] 26)) X3.out)
  have Y5 := Lib.hid (heap_alloc_new w3 (Obj.cells #[.int .i64 3, .int .i64 2000000, .int .i64 2000, .int .i64 1000, .int .i64 500, .slice D2 4 cd2, .slice E2 3 ce2, .slice L2 0 cl2, .int .i64 8] 26))
  have B5 := Lib.hid (B4.out.alloc B4.out.size (Obj.cells #[.int .i64 3, .int .i64 2000000, .int .i64 2000, .int .i64 1000, .int .i64 500, .slice D2 4 cd2, .slice E2 3 ce2, .slice L2 0 cl2, .int .i64 8] 26))
  have M5 := Lib.hid (M4.out.below (al (Below.refl w3.heap.size w3) (Obj.cells #[.int .i64 3, .int .i64 2000000, .int .i64 2000, .int .i64 1000, .int .i64 500, .slice D2 4 cd2, .slice E2 3 ce2, .slice L2 0 cl2, .int .i64 8] 26)))
  have N5 := Lib.hid (N4.out.below (al (Below.refl w3.heap.size w3) (Obj.cells #[.int .i64 3, .int .i64 2000000, .int .i64 2000, .int .i64 1000, .int .i64 500, .slice D2 4 cd2, .slice E2 3 ce2, .slice L2 0 cl2, .int .i64 8] 26)))
  obtain ⟨bE, oE, hE, ⟨q0, q1, q2, q3⟩, -⟩ := M5.out.he 0 e0 rfl
  subst hE
  simp only [Nat.zero_mul, Nat.add_zero] at q0 q1 q2 q3
  dsimp only [e0] at q0 q1 q2 q3
  rw [show ((14 : Nat) : Int) = 14 from rfl] at q1
  have c6 := box_cell (i := 6) X5.out rfl
  have FA := Lib.hid (show FY w g1 w3.heap.size (w3.heap.size + 1) D (some ⟨bE, oE, none⟩) cd ce D2 E2 L2 cd2 ce2 cl2 ((w3.alloc (Obj.cells #[.int .i64 3, .int .i64 2000000, .int .i64 2000, .int .i64 1000, .int .i64 500, .slice D2 4 cd2, .slice E2 3 ce2, .slice L2 0 cl2, .int .i64 8] 26)).alloc (Obj.cells #[.int .i64 0, .int .u32 14, .int .i64 10000, .int .i64 64] 33)) from by
    have bb := al (Below.refl (w3.alloc (Obj.cells #[.int .i64 3, .int .i64 2000000, .int .i64 2000, .int .i64 1000, .int .i64 500, .slice D2 4 cd2, .slice E2 3 ce2, .slice L2 0 cl2, .int .i64 8] 26)).heap.size (w3.alloc (Obj.cells #[.int .i64 3, .int .i64 2000000, .int .i64 2000, .int .i64 1000, .int .i64 500, .slice D2 4 cd2, .slice E2 3 ce2, .slice L2 0 cl2, .int .i64 8] 26))) (Obj.cells #[.int .i64 0, .int .u32 14, .int .i64 10000, .int .i64 64] 33)
    exact ⟨B5.out.trans (bb.mono B5.out.size), row_below bb X5.out, row_below bb Y5.out, by
      have h := heap_alloc_new (w3.alloc (Obj.cells #[.int .i64 3, .int .i64 2000000, .int .i64 2000, .int .i64 1000, .int .i64 500, .slice D2 4 cd2, .slice E2 3 ce2, .slice L2 0 cl2, .int .i64 8] 26)) (Obj.cells #[.int .i64 0, .int .u32 14, .int .i64 10000, .int .i64 64] 33)
      rwa [show (w3.alloc (Obj.cells #[.int .i64 3, .int .i64 2000000, .int .i64 2000, .int .i64 1000, .int .i64 500, .slice D2 4 cd2, .slice E2 3 ce2, .slice L2 0 cl2, .int .i64 8] 26)).heap.size = w3.heap.size + 1 by simp] at h, M5.out.below bb, N5.out.below bb⟩)
  obtain ⟨-, ax0, ax1, ax2, ax3, ax4, ax5, ax6, ax7, ax8, ay0, ay1, ay2, ay3, ay4, ay5, ay6, ay7, ay8, az0, az1, az2, az3⟩ := FA.out.s
  clear X3 X5 Y5 B4 B5 M4 M5 N4 N5 M1 B1
  go_wp2_with fail
  refine (at43 D _ cd ce _).mono ?_
  rintro r v0 ⟨rfl, hb⟩
  have FB := Lib.hid (FA.out.next hb)
  clear hb ax0 ax1 ax2 ax3 ax4 ax5 ax6 ax7 ax8 ay0 ay1 ay2 ay3 ay4 ay5 ay6 ay7 ay8 az0 az1 az2 az3 c6 q0 q1 q2 q3 a0 a1 a2 a3 a4 a5 a6 a7 a8
  obtain ⟨-, bx0, bx1, bx2, bx3, bx4, bx5, bx6, bx7, bx8, by0, by1, by2, by3, by4, by5, by6, by7, by8, bz0, bz1, bz2, bz3⟩ := FB.out.s
  clear FA
  go_wp2_with fail
  refine (check33 D2 E2 L2 cd2 ce2 cl2 _ FB.out.n).mono ?_
  rintro r v1 ⟨rfl, hb⟩
  have FC := Lib.hid (FB.out.next hb)
  clear hb bx0 bx1 bx2 bx3 bx4 bx5 bx6 bx7 bx8 by0 by1 by2 by3 by4 by5 by6 by7 by8 bz0 bz1 bz2 bz3
  obtain ⟨-, cx0, cx1, cx2, cx3, cx4, cx5, cx6, cx7, cx8, cy0, cy1, cy2, cy3, cy4, cy5, cy6, cy7, cy8, cz0, cz1, cz2, cz3⟩ := FC.out.s
  clear FB
  go_wp2_with fail
  refine (equal43 D _ cd ce _ FC.out.m).mono ?_
  rintro r v2 ⟨rfl, hb⟩
  have FD := Lib.hid (FC.out.next hb)
  clear hb cx0 cx1 cx2 cx3 cx4 cx5 cx6 cx7 cx8 cy0 cy1 cy2 cy3 cy4 cy5 cy6 cy7 cy8 cz0 cz1 cz2 cz3
  obtain ⟨-, dx0, dx1, dx2, dx3, dx4, dx5, dx6, dx7, dx8, dy0, dy1, dy2, dy3, dy4, dy5, dy6, dy7, dy8, dz0, dz1, dz2, dz3⟩ := FD.out.s
  clear FC
  go_wp2_with fail
  refine (equal33 D _ cd ce D2 E2 L2 cd2 ce2 cl2 _ FD.out.m FD.out.n).mono ?_
  rintro r v3 ⟨rfl, hb⟩
  have FE := Lib.hid (FD.out.next hb)
  clear hb dx0 dx1 dx2 dx3 dx4 dx5 dx6 dx7 dx8 dy0 dy1 dy2 dy3 dy4 dy5 dy6 dy7 dy8 dz0 dz1 dz2 dz3
  obtain ⟨-, ex0, ex1, ex2, ex3, ex4, ex5, ex6, ex7, ex8, ey0, ey1, ey2, ey3, ey4, ey5, ey6, ey7, ey8, ez0, ez1, ez2, ez3⟩ := FE.out.s
  clear FD
  go_wp2_with fail
  refine (fwd43 D _ cd ce _).mono ?_
  rintro r v4 ⟨rfl, hb⟩
  have FF := Lib.hid (FE.out.next hb)
  clear hb ex0 ex1 ex2 ex3 ex4 ex5 ex6 ex7 ex8 ey0 ey1 ey2 ey3 ey4 ey5 ey6 ey7 ey8 ez0 ez1 ez2 ez3
  obtain ⟨-, fx0, fx1, fx2, fx3, fx4, fx5, fx6, fx7, fx8, fy0, fy1, fy2, fy3, fy4, fy5, fy6, fy7, fy8, fz0, fz1, fz2, fz3⟩ := FF.out.s
  clear FE
  go_wp2_with fail
  refine (ear43 D _ cd ce _).mono ?_
  rintro r v5 ⟨rfl, hb⟩
  have FG := Lib.hid (FF.out.next hb)
  clear hb fx0 fx1 fx2 fx3 fx4 fx5 fx6 fx7 fx8 fy0 fy1 fy2 fy3 fy4 fy5 fy6 fy7 fy8 fz0 fz1 fz2 fz3
  obtain ⟨-, gx0, gx1, gx2, gx3, gx4, gx5, gx6, gx7, gx8, gy0, gy1, gy2, gy3, gy4, gy5, gy6, gy7, gy8, gz0, gz1, gz2, gz3⟩ := FG.out.s
  clear FF
  go_wp2_with fail
  refine (lat43 D _ cd ce _).mono ?_
  rintro r v6 ⟨rfl, hb⟩
  have FH := Lib.hid (FG.out.next hb)
  clear hb gx0 gx1 gx2 gx3 gx4 gx5 gx6 gx7 gx8 gy0 gy1 gy2 gy3 gy4 gy5 gy6 gy7 gy8 gz0 gz1 gz2 gz3
  obtain ⟨-, hx0, hx1, hx2, hx3, hx4, hx5, hx6, hx7, hx8, hy0, hy1, hy2, hy3, hy4, hy5, hy6, hy7, hy8, hz0, hz1, hz2, hz3⟩ := FH.out.s
  clear FG
  go_wp2_with fail
  refine (qui43 D _ cd ce _).mono ?_
  rintro r v7 ⟨rfl, hb⟩
  have FI := Lib.hid (FH.out.next hb)
  clear hb hx0 hx1 hx2 hx3 hx4 hx5 hx6 hx7 hx8 hy0 hy1 hy2 hy3 hy4 hy5 hy6 hy7 hy8 hz0 hz1 hz2 hz3
  obtain ⟨-, ix0, ix1, ix2, ix3, ix4, ix5, ix6, ix7, ix8, iy0, iy1, iy2, iy3, iy4, iy5, iy6, iy7, iy8, iz0, iz1, iz2, iz3⟩ := FI.out.s
  clear FH
  go_wp2
  go_ret
  exact ⟨rfl, FI.out.b⟩
end Go.Proofs.Ythgfgnphncpoaaa.ConfW

