/- Copy. -/
import Derived.Test.YtnlimdlmhfnkiaaConfU
import Derived.Deep.OwnRows
import Derived.Test.YtnlimdlmhfnkiaaConfPJa
import Derived.Test.YtnlimdlmhfnkiaaCrewAJa
namespace Go.Proofs.Ytnlimdlmhfnkiaa.ConfW
open Go.RowKit Shell
theorem made_nil (n : Nat) : madeCells #[Value.slice none 0 0] n = (List.replicate n (Value.slice none 0 0)).toArray := by
  apply Array.toList_inj.1
  rw [toList_madeCells_one]
/-- Copy's loop: k rows are copied. -/
structure DX (w0 : World) (c : Cfg) (D E L : Option Addr) (nd cd ne ce nl cl : Nat) (vs : List Value) (k : Nat) (w : World) : Prop where
  x : CX w0 c D E L nd cd ne ce nl cl w
  r : w.heap[w0.heap.size + 1]? = some (.cells #[.int .i64 0, .int .i64 0, .int .i64 0, .int .i64 0, .int .i64 0, .slice none 0 0, .slice none 0 0, .slice none 0 0, .int .i64 0] 26)
  hd : w.heap[w0.heap.size + 1 + 1]? = some (.cells vs.toArray 88)
  len : vs.length = nd
  row : ∀ (j : Nat) (r : List Int), j < k → c.delays[j]? = some r → ∃ v, vs[j]? = some v ∧ w.ownsRow (w0.heap.size + 1 + 1 + 1) 2 1 v r.length (nums .i64 r)
  far : ∀ (i j : Nat) (v u : Value) (x : Nat), i < j → j < k → vs[i]? = some v → vs[j]? = some u → v.ownBlock = some x → u.ownBlock ≠ some x
  nil : ∀ j, k ≤ j → j < nd → vs[j]? = some (.slice none 0 0)
section
variable {w0 w w1 w2 : World} {c : Cfg} {D E L : Option Addr} {nd cd ne ce nl cl : Nat}
theorem DX.step {vs : List Value} {k : Nat} {r : List Int} {v : Value} (h : DX w0 c D E L nd cd ne ce nl cl vs k w) (b : Below w.heap.size w w2) (hr : c.delays[k]? = some r) (hk : k < nd) (hn : nd = c.delays.length) (o : w2.ownsRow w.heap.size 2 1 v r.length (nums .i64 r)) :
    DX w0 c D E L nd cd ne ce nl cl (vs.set k v) (k + 1) (w2.setCell ⟨w0.heap.size + 1 + 1, k, none⟩ v) := by
  have hgd := row_lt h.hd
  have hs := b.size
  have h2 : ∀ j, ¬ j = w0.heap.size + 1 + 1 → (w2.setCell ⟨w0.heap.size + 1 + 1, k, none⟩ v).heap[j]? = w2.heap[j]? := fun j hj => heap_setCell_other w2 _ j v hj
  have ups : Up (w0.heap.size + 1 + 1 + 1) w2 (w2.setCell ⟨w0.heap.size + 1 + 1, k, none⟩ v) := ⟨by simp, fun j hj _ => h2 j (by omega)⟩
  refine ⟨⟨(h.x.next b).b.setCell (by simp; omega) _, by rw [h2 _ (by omega)]; exact (h.x.next b).x⟩, by rw [h2 _ (by omega)]; exact row_below b h.r, ?_, by rw [List.length_set]; exact h.len, ?_, ?_, ?_⟩
  · have := heap_setCell_same w2 (w0.heap.size + 1 + 1) k vs.toArray 88 v (row_below b h.hd)
    rwa [List.setIfInBounds_toArray] at this
  · intro j s hj hs2
    by_cases hjk : j = k
    · subst hjk
      rw [hr] at hs2
      cases hs2
      refine ⟨v, by rw [List.getElem?_set_self (by rw [h.len]; exact hk)], ?_⟩
      exact own_up (own_base o (by omega)) (Nat.le_refl _) ups
    · obtain ⟨u, hu, ho⟩ := h.row j s (by omega) hs2
      refine ⟨u, by rw [List.getElem?_set_ne (fun e => hjk e.symm)]; exact hu, ?_⟩
      exact own_up (own_up ho (Nat.le_refl _) (Up.of _ b)) (Nat.le_refl _) ups
  · intro i j a u x hij hj ha hu hx
    have hik : ¬ k = i := by omega
    rw [List.getElem?_set_ne hik] at ha
    by_cases hjk : j = k
    · subst hjk
      rw [List.getElem?_set_self (by rw [h.len]; exact hk)] at hu
      cases hu
      obtain ⟨s, hsi⟩ : ∃ s, c.delays[i]? = some s := ⟨_, List.getElem?_eq_getElem (by omega)⟩
      obtain ⟨a2, ha2, ho⟩ := h.row i s hij hsi
      rw [ha] at ha2
      cases ha2
      have l1 := (ho.lt x hx).2
      intro hy
      have l2 := (o.lt x hy).1
      omega
    · rw [List.getElem?_set_ne (fun e => hjk e.symm)] at hu
      exact h.far i j a u x hij (by omega) ha hu hx
  · intro j hj hjn
    rw [List.getElem?_set_ne (by omega)]
    exact h.nil j (by omega) hjn
theorem DX.start : DX w0 c D E L nd cd ne ce nl cl (List.replicate nd (.slice none 0 0)) 0 (((w0.alloc (Obj.cells #[.int .i64 c.hosts, .int .i64 c.cycle, .int .i64 c.delay, .int .i64 c.window, .int .i64 c.precision, .slice D nd cd, .slice E ne ce, .slice L nl cl, .int .i64 c.queue] 26)).alloc (.cells #[.int .i64 0, .int .i64 0, .int .i64 0, .int .i64 0, .int .i64 0, .slice none 0 0, .slice none 0 0, .slice none 0 0, .int .i64 0] 26)).alloc (.cells (List.replicate nd (Value.slice none 0 0)).toArray 88)) := by
  have h1 : (w0.alloc (Obj.cells #[.int .i64 c.hosts, .int .i64 c.cycle, .int .i64 c.delay, .int .i64 c.window, .int .i64 c.precision, .slice D nd cd, .slice E ne ce, .slice L nl cl, .int .i64 c.queue] 26)).heap[w0.heap.size]? = some (Obj.cells #[.int .i64 c.hosts, .int .i64 c.cycle, .int .i64 c.delay, .int .i64 c.window, .int .i64 c.precision, .slice D nd cd, .slice E ne ce, .slice L nl cl, .int .i64 c.queue] 26) := heap_alloc_new w0 _
  have h2 : ((w0.alloc (Obj.cells #[.int .i64 c.hosts, .int .i64 c.cycle, .int .i64 c.delay, .int .i64 c.window, .int .i64 c.precision, .slice D nd cd, .slice E ne ce, .slice L nl cl, .int .i64 c.queue] 26)).alloc (.cells #[.int .i64 0, .int .i64 0, .int .i64 0, .int .i64 0, .int .i64 0, .slice none 0 0, .slice none 0 0, .slice none 0 0, .int .i64 0] 26)).heap[w0.heap.size + 1]? = some (.cells #[.int .i64 0, .int .i64 0, .int .i64 0, .int .i64 0, .int .i64 0, .slice none 0 0, .slice none 0 0, .slice none 0 0, .int .i64 0] 26) := by
    have h := heap_alloc_new (w0.alloc (Obj.cells #[.int .i64 c.hosts, .int .i64 c.cycle, .int .i64 c.delay, .int .i64 c.window, .int .i64 c.precision, .slice D nd cd, .slice E ne ce, .slice L nl cl, .int .i64 c.queue] 26)) (.cells #[.int .i64 0, .int .i64 0, .int .i64 0, .int .i64 0, .int .i64 0, .slice none 0 0, .slice none 0 0, .slice none 0 0, .int .i64 0] 26)
    rwa [show (w0.alloc (Obj.cells #[.int .i64 c.hosts, .int .i64 c.cycle, .int .i64 c.delay, .int .i64 c.window, .int .i64 c.precision, .slice D nd cd, .slice E ne ce, .slice L nl cl, .int .i64 c.queue] 26)).heap.size = w0.heap.size + 1 by simp] at h
  refine ⟨⟨al (al (al (Below.refl _ _) _) _) _, row_below (al (Below.refl _ _) _) (row_below (al (Below.refl _ _) _) h1)⟩, row_below (al (Below.refl _ _) _) h2, third_new w0 _ _ _, by simp, fun j r hj => by omega, fun i j v u x _ hj => by omega, ?_⟩
  intro j _ hj
  rw [List.getElem?_replicate, if_pos hj]
end
/-- Behind Copy's loop: the copy's box, the answer's box, and what lies behind them. -/
structure RX (w0 wr : World) (c : Cfg) (vD vE vL : Value) (W : World) : Prop where
  b : Below w0.heap.size w0 W
  x : W.heap[w0.heap.size]? = some (.cells #[.int .i64 c.hosts, .int .i64 c.cycle, .int .i64 c.delay, .int .i64 c.window, .int .i64 c.precision, vD, vE, vL, .int .i64 c.queue] 26)
  r : W.heap[w0.heap.size + 1]? = some (.cells #[.int .i64 0, .int .i64 0, .int .i64 0, .int .i64 0, .int .i64 0, .slice none 0 0, .slice none 0 0, .slice none 0 0, .int .i64 0] 26)
  up : Up (w0.heap.size + 1 + 1) wr W
section
variable {w0 wr W W1 : World} {c : Cfg} {vD vE vL : Value}
theorem RX.next (h : RX w0 wr c vD vE vL W) (b : Below W.heap.size W W1) : RX w0 wr c vD vE vL W1 := ⟨h.b.trans (b.mono h.b.size), row_below b h.x, row_below b h.r, h.up.trans (Up.of _ b)⟩
theorem RX.set5 (h : RX w0 wr c vD vE vL W) (v : Value) : RX w0 wr c v vE vL (W.setCell ⟨w0.heap.size, 5, none⟩ v) :=
  ⟨h.b.setCell (Nat.le_refl _) _, heap_setCell_same W _ 5 _ _ v h.x, by rw [heap_setCell_other W _ _ v (by simp)]; exact h.r, h.up.set _ _ (by simp; omega)⟩
theorem RX.set6 (h : RX w0 wr c vD vE vL W) (v : Value) : RX w0 wr c vD v vL (W.setCell ⟨w0.heap.size, 6, none⟩ v) :=
  ⟨h.b.setCell (Nat.le_refl _) _, heap_setCell_same W _ 6 _ _ v h.x, by rw [heap_setCell_other W _ _ v (by simp)]; exact h.r, h.up.set _ _ (by simp; omega)⟩
theorem RX.set7 (h : RX w0 wr c vD vE vL W) (v : Value) : RX w0 wr c vD vE v (W.setCell ⟨w0.heap.size, 7, none⟩ v) :=
  ⟨h.b.setCell (Nat.le_refl _) _, heap_setCell_same W _ 7 _ _ v h.x, by rw [heap_setCell_other W _ _ v (by simp)]; exact h.r, h.up.set _ _ (by simp; omega)⟩
theorem RX.cells (h : RX w0 wr c vD vE vL W) : W.cell? ⟨w0.heap.size, 0, none⟩ = some (.int .i64 c.hosts) ∧ W.cell? ⟨w0.heap.size, 1, none⟩ = some (.int .i64 c.cycle) ∧ W.cell? ⟨w0.heap.size, 2, none⟩ = some (.int .i64 c.delay) ∧ W.cell? ⟨w0.heap.size, 3, none⟩ = some (.int .i64 c.window) ∧
    W.cell? ⟨w0.heap.size, 4, none⟩ = some (.int .i64 c.precision) ∧ W.cell? ⟨w0.heap.size, 5, none⟩ = some vD ∧ W.cell? ⟨w0.heap.size, 6, none⟩ = some vE ∧ W.cell? ⟨w0.heap.size, 7, none⟩ = some vL ∧ W.cell? ⟨w0.heap.size, 8, none⟩ = some (.int .i64 c.queue) :=
  ⟨box_cell h.x rfl, box_cell h.x rfl, box_cell h.x rfl, box_cell h.x rfl, box_cell h.x rfl, box_cell h.x rfl, box_cell h.x rfl, box_cell h.x rfl, box_cell h.x rfl⟩
end
theorem set9 {W : World} {g : Nat} {t : TypeId} {a0 a1 a2 a3 a4 a5 a6 a7 a8 x0 x1 x2 x3 x4 x5 x6 x7 x8 : Value} (h : W.heap[g]? = some (.cells #[a0, a1, a2, a3, a4, a5, a6, a7, a8] t (0, 0))) :
    (((((((((W.setCell ⟨g, 0, none⟩ x0).setCell ⟨g, 1, none⟩ x1).setCell ⟨g, 2, none⟩ x2).setCell ⟨g, 3, none⟩ x3).setCell ⟨g, 4, none⟩ x4).setCell ⟨g, 5, none⟩ x5).setCell ⟨g, 6, none⟩ x6).setCell ⟨g, 7, none⟩ x7).setCell ⟨g, 8, none⟩ x8).heap[g]? = some (.cells #[x0, x1, x2, x3, x4, x5, x6, x7, x8] t (0, 0)) := by
  have h0 : (W.setCell ⟨g, 0, none⟩ x0).heap[g]? = some (.cells #[x0, a1, a2, a3, a4, a5, a6, a7, a8] t (0, 0)) := heap_setCell_same W g 0 #[a0, a1, a2, a3, a4, a5, a6, a7, a8] t x0 h
  have h1 : ((W.setCell ⟨g, 0, none⟩ x0).setCell ⟨g, 1, none⟩ x1).heap[g]? = some (.cells #[x0, x1, a2, a3, a4, a5, a6, a7, a8] t (0, 0)) := heap_setCell_same (W.setCell ⟨g, 0, none⟩ x0) g 1 #[x0, a1, a2, a3, a4, a5, a6, a7, a8] t x1 h0
  have h2 : (((W.setCell ⟨g, 0, none⟩ x0).setCell ⟨g, 1, none⟩ x1).setCell ⟨g, 2, none⟩ x2).heap[g]? = some (.cells #[x0, x1, x2, a3, a4, a5, a6, a7, a8] t (0, 0)) := heap_setCell_same ((W.setCell ⟨g, 0, none⟩ x0).setCell ⟨g, 1, none⟩ x1) g 2 #[x0, x1, a2, a3, a4, a5, a6, a7, a8] t x2 h1
  have h3 : ((((W.setCell ⟨g, 0, none⟩ x0).setCell ⟨g, 1, none⟩ x1).setCell ⟨g, 2, none⟩ x2).setCell ⟨g, 3, none⟩ x3).heap[g]? = some (.cells #[x0, x1, x2, x3, a4, a5, a6, a7, a8] t (0, 0)) := heap_setCell_same (((W.setCell ⟨g, 0, none⟩ x0).setCell ⟨g, 1, none⟩ x1).setCell ⟨g, 2, none⟩ x2) g 3 #[x0, x1, x2, a3, a4, a5, a6, a7, a8] t x3 h2
  have h4 : (((((W.setCell ⟨g, 0, none⟩ x0).setCell ⟨g, 1, none⟩ x1).setCell ⟨g, 2, none⟩ x2).setCell ⟨g, 3, none⟩ x3).setCell ⟨g, 4, none⟩ x4).heap[g]? = some (.cells #[x0, x1, x2, x3, x4, a5, a6, a7, a8] t (0, 0)) := heap_setCell_same ((((W.setCell ⟨g, 0, none⟩ x0).setCell ⟨g, 1, none⟩ x1).setCell ⟨g, 2, none⟩ x2).setCell ⟨g, 3, none⟩ x3) g 4 #[x0, x1, x2, x3, a4, a5, a6, a7, a8] t x4 h3
  have h5 : ((((((W.setCell ⟨g, 0, none⟩ x0).setCell ⟨g, 1, none⟩ x1).setCell ⟨g, 2, none⟩ x2).setCell ⟨g, 3, none⟩ x3).setCell ⟨g, 4, none⟩ x4).setCell ⟨g, 5, none⟩ x5).heap[g]? = some (.cells #[x0, x1, x2, x3, x4, x5, a6, a7, a8] t (0, 0)) := heap_setCell_same (((((W.setCell ⟨g, 0, none⟩ x0).setCell ⟨g, 1, none⟩ x1).setCell ⟨g, 2, none⟩ x2).setCell ⟨g, 3, none⟩ x3).setCell ⟨g, 4, none⟩ x4) g 5 #[x0, x1, x2, x3, x4, a5, a6, a7, a8] t x5 h4
  have h6 : (((((((W.setCell ⟨g, 0, none⟩ x0).setCell ⟨g, 1, none⟩ x1).setCell ⟨g, 2, none⟩ x2).setCell ⟨g, 3, none⟩ x3).setCell ⟨g, 4, none⟩ x4).setCell ⟨g, 5, none⟩ x5).setCell ⟨g, 6, none⟩ x6).heap[g]? = some (.cells #[x0, x1, x2, x3, x4, x5, x6, a7, a8] t (0, 0)) := heap_setCell_same ((((((W.setCell ⟨g, 0, none⟩ x0).setCell ⟨g, 1, none⟩ x1).setCell ⟨g, 2, none⟩ x2).setCell ⟨g, 3, none⟩ x3).setCell ⟨g, 4, none⟩ x4).setCell ⟨g, 5, none⟩ x5) g 6 #[x0, x1, x2, x3, x4, x5, a6, a7, a8] t x6 h5
  have h7 : ((((((((W.setCell ⟨g, 0, none⟩ x0).setCell ⟨g, 1, none⟩ x1).setCell ⟨g, 2, none⟩ x2).setCell ⟨g, 3, none⟩ x3).setCell ⟨g, 4, none⟩ x4).setCell ⟨g, 5, none⟩ x5).setCell ⟨g, 6, none⟩ x6).setCell ⟨g, 7, none⟩ x7).heap[g]? = some (.cells #[x0, x1, x2, x3, x4, x5, x6, x7, a8] t (0, 0)) := heap_setCell_same (((((((W.setCell ⟨g, 0, none⟩ x0).setCell ⟨g, 1, none⟩ x1).setCell ⟨g, 2, none⟩ x2).setCell ⟨g, 3, none⟩ x3).setCell ⟨g, 4, none⟩ x4).setCell ⟨g, 5, none⟩ x5).setCell ⟨g, 6, none⟩ x6) g 7 #[x0, x1, x2, x3, x4, x5, x6, a7, a8] t x7 h6
  have h8 : (((((((((W.setCell ⟨g, 0, none⟩ x0).setCell ⟨g, 1, none⟩ x1).setCell ⟨g, 2, none⟩ x2).setCell ⟨g, 3, none⟩ x3).setCell ⟨g, 4, none⟩ x4).setCell ⟨g, 5, none⟩ x5).setCell ⟨g, 6, none⟩ x6).setCell ⟨g, 7, none⟩ x7).setCell ⟨g, 8, none⟩ x8).heap[g]? = some (.cells #[x0, x1, x2, x3, x4, x5, x6, x7, x8] t (0, 0)) := heap_setCell_same ((((((((W.setCell ⟨g, 0, none⟩ x0).setCell ⟨g, 1, none⟩ x1).setCell ⟨g, 2, none⟩ x2).setCell ⟨g, 3, none⟩ x3).setCell ⟨g, 4, none⟩ x4).setCell ⟨g, 5, none⟩ x5).setCell ⟨g, 6, none⟩ x6).setCell ⟨g, 7, none⟩ x7) g 8 #[x0, x1, x2, x3, x4, x5, x6, x7, a8] t x8 h7
  exact h8
theorem keep9 {w W : World} {g : Nat} {x0 x1 x2 x3 x4 x5 x6 x7 x8 : Value} (h : Below w.heap.size w W) (hg : w.heap.size ≤ g) :
    Below w.heap.size w (((((((((W.setCell ⟨g, 0, none⟩ x0).setCell ⟨g, 1, none⟩ x1).setCell ⟨g, 2, none⟩ x2).setCell ⟨g, 3, none⟩ x3).setCell ⟨g, 4, none⟩ x4).setCell ⟨g, 5, none⟩ x5).setCell ⟨g, 6, none⟩ x6).setCell ⟨g, 7, none⟩ x7).setCell ⟨g, 8, none⟩ x8) :=
  ((((((((h.setCell hg _).setCell hg _).setCell hg _).setCell hg _).setCell hg _).setCell hg _).setCell hg _).setCell hg _).setCell hg _
theorem up9 {lo : Nat} {w W : World} {g : Nat} {x0 x1 x2 x3 x4 x5 x6 x7 x8 : Value} (h : Up lo w W) (hg : g < lo) :
    Up lo w (((((((((W.setCell ⟨g, 0, none⟩ x0).setCell ⟨g, 1, none⟩ x1).setCell ⟨g, 2, none⟩ x2).setCell ⟨g, 3, none⟩ x3).setCell ⟨g, 4, none⟩ x4).setCell ⟨g, 5, none⟩ x5).setCell ⟨g, 6, none⟩ x6).setCell ⟨g, 7, none⟩ x7).setCell ⟨g, 8, none⟩ x8) :=
  ((((((((h.set _ _ hg).set _ _ hg).set _ _ hg).set _ _ hg).set _ _ hg).set _ _ hg).set _ _ hg).set _ _ hg).set _ _ hg
theorem results_nine {fn : Func} {p : Tmp} (h : fn.results = #[.cell p 26]) (tmps : Array Value) (w : World) (g : Nat) (t : TypeId) (x0 x1 x2 x3 x4 x5 x6 x7 x8 : Value) (fr : Nat × Nat)
    (hp : tmps.getD p undef = .pointer (some ⟨g, 0, none⟩)) (hg : w.heap[g]? = some (.cells #[x0, x1, x2, x3, x4, x5, x6, x7, x8] t fr)) :
    (results fn tmps).run Try.prog w = .ok (.agg #[x0, x1, x2, x3, x4, x5, x6, x7, x8]) w := by
  have hp' : tmps[p]?.getD undef = .pointer (some ⟨g, 0, none⟩) := by simpa using hp
  simp [results, h, hp', asAddr, run_loadVar_row w g t 26 #[x0, x1, x2, x3, x4, x5, x6, x7, x8] fr _ hg Try.underlying26 rfl (by kernel_rfl)]
theorem ret_nine {fn : Func} {R : Ending → World → Prop} {p : Tmp} (h : fn.results = #[.cell p 26]) {tmps : Array Value} {w : World} {g : Nat} {x0 x1 x2 x3 x4 x5 x6 x7 x8 : Value} {t : TypeId} {fr : Nat × Nat}
    (hp : tmps.getD p undef = .pointer (some ⟨g, 0, none⟩)) (hg : w.heap[g]? = some (.cells #[x0, x1, x2, x3, x4, x5, x6, x7, x8] t fr)) (hR : R (.returned (.agg #[x0, x1, x2, x3, x4, x5, x6, x7, x8])) w) :
    bodyPost Try.prog fn R .ret { tmps := tmps, defers := [] } w :=
  bodyPost_ret (results_nine h tmps w g t x0 x1 x2 x3 x4 x5 x6 x7 x8 fr hp hg) rfl hR
/-- A configuration of its own, in memory from block lo on. -/
structure Dup (w : World) (lo : Nat) (c : Cfg) (gd : Nat) (vs : List Value) (vE vL : Value) : Prop where
  hg : lo ≤ gd
  hd : w.heap[gd]? = some (.cells vs.toArray 88)
  len : vs.length = c.delays.length
  row : ∀ (j : Nat) (r : List Int), c.delays[j]? = some r → ∃ v, vs[j]? = some v ∧ w.ownsRow (gd + 1) 2 1 v r.length (nums .i64 r)
  far : ∀ (i j : Nat) (v u : Value) (x : Nat), i < j → vs[i]? = some v → vs[j]? = some u → v.ownBlock = some x → u.ownBlock ≠ some x
  ent : w.ownsRow (gd + 1) 56 4 vE c.entries.length (ents c.entries)
  lnk : w.ownsRow (gd + 1) 64 4 vL c.links.length (ents c.links)
set_option maxHeartbeats 8000000 in
set_option maxRecDepth 100000 in
theorem copy_any (c : Cfg) (D E L : Option Addr) (nd cd ne ce nl cl : Nat) (w : World) (h : CM w c D E L nd cd ne ce nl cl) (bd : nd * 24 ≤ 140737488355328) (br : ∀ r ∈ c.delays, r.length * 8 ≤ 140737488355328) (be : ne * 32 ≤ 140737488355328) (bl : nl * 32 ≤ 140737488355328) :
    Calls Try.prog 21 #[.agg #[.int .i64 c.hosts, .int .i64 c.cycle, .int .i64 c.delay, .int .i64 c.window, .int .i64 c.precision, .slice D nd cd, .slice E ne ce, .slice L nl cl, .int .i64 c.queue]] w fun r w' => ∃ gd vs vE vL, r = .returned (.agg #[.int .i64 c.hosts, .int .i64 c.cycle, .int .i64 c.delay, .int .i64 c.window, .int .i64 c.precision, .slice (some ⟨gd, 0, none⟩) nd nd, vE, vL, .int .i64 c.queue]) ∧
      Below w.heap.size w w' ∧ Dup w' w.heap.size c gd vs vE vL := by
  have hmk : ∀ w : World, (Instr.makeSlice 22 (.int .i64 (nd : Int)) (.int .i64 (nd : Int))).run Try.prog w = .ok (.slice (some ⟨w.heap.size, 0, none⟩) nd nd) (w.alloc (.cells (madeCells #[.slice none 0 0] nd) 88)) := fun w =>
    run_make_row' 22 88 (.slice none 0 0) 24 Try.underlying22 (by kernel_rfl) rfl .i64 .i64 nd (by omega) (by omega) w
  rw [made_nil] at hmk
  have HM := Lib.hid h
  have HB := Lib.hid (And.intro br (And.intro be bl))
  have hmd : nd ≤ 9223372036854775807 := h.mD
  have S0 := Lib.hid (DX.start (w0 := w) (c := c) (D := D) (E := E) (L := L) (nd := nd) (cd := cd) (ne := ne) (ce := ce) (nl := nl) (cl := cl))
  clear h bd br be bl
  go_enter Try.func21, Try.ntmps21
  go_wp2
  clear hmk
  go_loopw [13] (fun iv wr => ∃ (k : Nat), k ≤ nd ∧ iv = .int .i64 k ∧ Hid (∃ vs, DX w c D E L nd cd ne ce nl cl vs k wr)) (fun iv _ => nd - (intOf iv).toNat)
  case atStart => exact ⟨0, Nat.zero_le _, rfl, Lib.hid ⟨_, S0.out⟩⟩
  case round =>
    clear S0
    obtain ⟨k, hk, rfl, HD⟩ := hrel
    obtain ⟨vs, hd⟩ := HD.out
    have X := Lib.hid hd
    clear HD hd
    obtain ⟨-, a0, a1, a2, a3, a4, a5, a6, a7, a8⟩ := X.out.x.s
    by_cases hlt : (k : Int) < (nd : Int)
    · obtain ⟨r, hr⟩ : ∃ r, c.delays[k]? = some r := ⟨_, List.getElem?_eq_getElem (by rw [← HM.out.nD]; omega)⟩
      obtain ⟨a, A, cp, rfl, hcell, hrow, hrm, hrc, hrz⟩ := (HM.out.hd.below X.out.x.b) k r hr
      have C := Lib.hid (clone_i64 A r.length cp r wr hrow rfl (HB.out.1 r (List.mem_of_getElem? hr)) hrz)
      have HR := Lib.hid hr
      clear hr hrow hrm hrc hrz
      go_wp2_with fail
      refine C.out.mono ?_
      rintro e w2 ⟨v, rfl, ho, hb⟩
      obtain ⟨A', c', rfl, -⟩ := own_form ho
      have X2 := Lib.hid (X.out.step hb HR.out (by omega) HM.out.nD ho)
      have hg2 := row_below hb X.out.hd
      have t0 : ∃ u, w2.cell? ⟨w.heap.size + 1 + 1, k, none⟩ = some u := ⟨_, box_cell hg2 (i := k) (by
        rw [List.getElem?_toArray]
        exact X.out.nil k (Nat.le_refl _) (by omega))⟩
      obtain ⟨u0, t1⟩ := t0
      have t2 := frozen_of_row w2 (w.heap.size + 1 + 1) k _ _ hg2
      clear hg2 ho hb C
      go_wp2
      go_roundw
      case rel => exact ⟨k + 1, by omega, by go_num, Lib.hid ⟨_, X2.out⟩⟩
      case measure => simp [intOf]; omega
    · obtain rfl : k = nd := by omega
      have f5 := frozen_of_row wr w.heap.size 5 _ _ X.out.x.x
      have X3 := Lib.hid (RX.set5 (W := wr) (wr := wr) (w0 := w) (c := c) ⟨X.out.x.b, X.out.x.x, X.out.r, Up.refl _ _⟩ (.slice (some ⟨w.heap.size + 1 + 1, 0, none⟩) k k))
      have C2 := Lib.hid (clone_Entry E ne ce c.entries _ (HM.out.he.below X3.out.b) HM.out.nE HB.out.2.1 HM.out.zE)
      go_wp2_with fail
      refine C2.out.mono ?_
      rintro e w4 ⟨vE, rfl, oE, bE⟩
      have X4 := Lib.hid (X3.out.next bE)
      obtain ⟨AE, cE, rfl, -⟩ := own_form oE
      have OE := Lib.hid oE
      obtain ⟨b0, b1, b2, b3, b4, b5, b6, b7, b8⟩ := X4.out.cells
      have f6 := frozen_of_row w4 w.heap.size 6 _ _ X4.out.x
      have X5 := Lib.hid (X4.out.set6 (.slice AE ne cE))
      have C3 := Lib.hid (clone_Link L nl cl c.links _ (HM.out.hl.below X5.out.b) HM.out.nL HB.out.2.2 HM.out.zL)
      clear a0 a1 a2 a3 a4 a5 a6 a7 a8 f5 oE bE C2 X3
      go_wp2_with fail
      refine C3.out.mono ?_
      rintro e w6 ⟨vL, rfl, oL, bL⟩
      have X6 := Lib.hid (X5.out.next bL)
      obtain ⟨AL, cL, rfl, -⟩ := own_form oL
      have OL := Lib.hid oL
      have BL := Lib.hid bL
      have X7 := Lib.hid (X6.out.set7 (.slice AL nl cL))
      obtain ⟨d0, d1, d2, d3, d4, d5, d6, d7, d8⟩ := X6.out.cells
      have f7 := frozen_of_row w6 w.heap.size 7 _ _ X6.out.x
      obtain ⟨e0, e1, e2, e3, e4, e5, e6, e7, e8⟩ := X7.out.cells
      have hr7 := X7.out.r
      have r0 := box_cell (i := 0) hr7 rfl
      have r1 := box_cell (i := 1) hr7 rfl
      have r2 := box_cell (i := 2) hr7 rfl
      have r3 := box_cell (i := 3) hr7 rfl
      have r4 := box_cell (i := 4) hr7 rfl
      have r5 := box_cell (i := 5) hr7 rfl
      have r6 := box_cell (i := 6) hr7 rfl
      have r7 := box_cell (i := 7) hr7 rfl
      have r8 := box_cell (i := 8) hr7 rfl
      have g0 := frozen_of_row _ (w.heap.size + 1) 0 _ _ hr7
      have g1 := frozen_of_row _ (w.heap.size + 1) 1 _ _ hr7
      have g2 := frozen_of_row _ (w.heap.size + 1) 2 _ _ hr7
      have g3 := frozen_of_row _ (w.heap.size + 1) 3 _ _ hr7
      have g4 := frozen_of_row _ (w.heap.size + 1) 4 _ _ hr7
      have g5 := frozen_of_row _ (w.heap.size + 1) 5 _ _ hr7
      have g6 := frozen_of_row _ (w.heap.size + 1) 6 _ _ hr7
      have g7 := frozen_of_row _ (w.heap.size + 1) 7 _ _ hr7
      have g8 := frozen_of_row _ (w.heap.size + 1) 8 _ _ hr7
      have HR7 := Lib.hid hr7
      clear b0 b1 b2 b3 b4 b5 b6 b7 b8 f6 oL bL C3 hr7
      go_wp2
      refine ret_nine rfl rfl (set9 HR7.out) ?_
      have UP := up9 (x0 := .int .i64 c.hosts) (x1 := .int .i64 c.cycle) (x2 := .int .i64 c.delay) (x3 := .int .i64 c.window) (x4 := .int .i64 c.precision) (x5 := .slice (some ⟨w.heap.size + 1 + 1, 0, none⟩) k k) (x6 := .slice AE ne cE) (x7 := .slice AL nl cL) (x8 := .int .i64 c.queue) (g := w.heap.size + 1) X7.out.up (by omega)
      have hgd := row_lt X.out.hd
      have U4 := up9 (x0 := .int .i64 c.hosts) (x1 := .int .i64 c.cycle) (x2 := .int .i64 c.delay) (x3 := .int .i64 c.window) (x4 := .int .i64 c.precision) (x5 := .slice (some ⟨w.heap.size + 1 + 1, 0, none⟩) k k) (x6 := .slice AE ne cE) (x7 := .slice AL nl cL) (x8 := .int .i64 c.queue) (g := w.heap.size + 1) ((((Up.refl (w.heap.size + 1 + 1) w4).set ⟨w.heap.size, 6, none⟩ (.slice AE ne cE) (by simp; omega)).trans (Up.of _ BL.out)).set ⟨w.heap.size, 7, none⟩ (.slice AL nl cL) (by simp; omega)) (by omega)
      have U6 := up9 (x0 := .int .i64 c.hosts) (x1 := .int .i64 c.cycle) (x2 := .int .i64 c.delay) (x3 := .int .i64 c.window) (x4 := .int .i64 c.precision) (x5 := .slice (some ⟨w.heap.size + 1 + 1, 0, none⟩) k k) (x6 := .slice AE ne cE) (x7 := .slice AL nl cL) (x8 := .int .i64 c.queue) (g := w.heap.size + 1) ((Up.refl (w.heap.size + 1 + 1) w6).set ⟨w.heap.size, 7, none⟩ (.slice AL nl cL) (by simp; omega)) (by omega)
      have sz : w.heap.size + 1 + 1 + 1 ≤ wr.heap.size := hgd
      have s3 := OE.out
      have s4 := OL.out
      refine ⟨w.heap.size + 1 + 1, vs, .slice AE ne cE, .slice AL nl cL, rfl, keep9 X7.out.b (by omega), ⟨by omega, (UP.block _ (Nat.le_refl _) hgd).trans X.out.hd, by rw [X.out.len, HM.out.nD], ?_, ?_, ?_, ?_⟩⟩
      · intro j r hj
        obtain ⟨v, hv, ho⟩ := X.out.row j r (by have := lt_of_get hj; rw [← HM.out.nD] at this; exact this) hj
        exact ⟨v, hv, own_up ho (by omega) UP⟩
      · intro i j v u x hij hi hj hx
        exact X.out.far i j v u x hij (by have := lt_of_get hj; rw [X.out.len] at this; exact this) hi hj hx
      · rw [← HM.out.nE]
        exact own_up (own_base s3 (by simp; omega)) (by omega) U4
      · rw [← HM.out.nL]
        have z5 := X5.out.up.size
        exact own_up (own_base s4 (by omega)) (by omega) U6
end Go.Proofs.Ytnlimdlmhfnkiaa.ConfW


/- Family. -/
namespace Go.Proofs.Ytnlimdlmhfnkiaa.ConfW
open Go.RowKit Shell
/-- The hosts below k but one. -/
def othL (b : Nat) : Nat → List Int
  | 0 => []
  | k + 1 => if k = b then othL b k else othL b k ++ [(k : Int)]
theorem int_one : One Try.prog 87 3 .i64 8 := ⟨Try.underlying87, info_parts (show (Try.prog.info? 3).map (fun i => (i.zero, i.size, i.bytes)) = some (some (.int .i64 0), 1, 8) by kernel_rfl)⟩
theorem i64_lit {x : Int} (h1 : -9223372036854775808 ≤ x) (h2 : x ≤ 9223372036854775807) : (Lit.int .i64 x).wf = true := by
  simp [Lit.wf]
  exact ⟨h1, h2⟩
theorem one_cl (w : World) (x : Int) (h1 : -9223372036854775808 ≤ x) (h2 : x ≤ 9223372036854775807) (t : TypeId) : CL (w.alloc (.cells #[.int .i64 x] t)) .i64 (some ⟨w.heap.size, 0, none⟩) [x] :=
  new_cl w .i64 [x] t (by intro y hy; rw [List.mem_singleton] at hy; subst hy; exact i64_lit h1 h2)
/-- A family's entry. -/
def famE (h i : Nat) : R4 := ⟨((i % h : Nat) : Int), CrewW.of (othL (i % h) h), 10000 + 50000 * (i : Int), 64 + (i : Int)⟩
def zero4 : R4 := ⟨0, 0, 0, 0⟩
section
variable {w0 w w1 : World} {g : Nat} {l : List R4}
end
def famEs (h n : Nat) : List R4 := if h = 1 then [] else (List.range n).map (famE h)
theorem zero_info : ∃ (i : TypeInfo), Try.prog.info? 56 = some i ∧ i.zero = some (.agg #[.int .i64 0, .int .u32 0, .int .i64 0, .int .i64 0]) ∧ i.size = 4 ∧ i.bytes = 32 :=
  info_parts (show (Try.prog.info? 56).map (fun i => (i.zero, i.size, i.bytes)) = some (some (.agg #[.int .i64 0, .int .u32 0, .int .i64 0, .int .i64 0]), 4, 32) by kernel_rfl)
theorem tmod_nat (i h : Nat) : Int.tmod (i : Int) (h : Int) = ((i % h : Nat) : Int) := rfl
/-- A family's row of delays. -/
def famR (i : Nat) : List Int := [100 * ((i : Int) + 1) + 50 * 0, 100 * ((i : Int) + 1) + 50 * 1]
def famD (h : Nat) : List (List Int) := (List.range h).map famR
theorem or_up {w w' : World} {lo base : Nat} {e : TypeId} {q : IntKind} {v : Value} {xs : List Int} (h : OR w base e q v xs) (hb : lo ≤ base) (u : Up lo w w') : OR w' base e q v xs := ⟨own_up h.1 hb u, h.2⟩
theorem i64_one : One Try.prog 88 2 .i64 8 := ⟨Try.underlying88, info_parts (show (Try.prog.info? 2).map (fun i => (i.zero, i.size, i.bytes)) = some (some (.int .i64 0), 1, 8) by kernel_rfl)⟩
/-- A family's configuration. -/
def clampH (x : Int) : Nat := if x < 1 then 1 else if 6 < x then 6 else x.toNat
def clampN (x : Int) : Nat := if x < 0 then 0 else if 16 < x then 16 else x.toNat
def famC (x y : Int) : Cfg := { hosts := (clampH x : Nat), cycle := 2000000, delay := 2000, window := 1000, precision := 500, delays := famD (clampH x), entries := famEs (clampH x) (clampN y), links := [], queue := 8 }
theorem clampH_in (x : Int) : 1 ≤ clampH x ∧ clampH x ≤ 6 := by unfold clampH; split <;> (try split) <;> omega
theorem clampN_in (x : Int) : clampN x ≤ 16 := by unfold clampN; split <;> (try split) <;> omega
theorem clampH_cases (x : Int) : (x < 1 ∧ (1 : Int) = (clampH x : Nat)) ∨ (¬ x < 1 ∧ 6 < x ∧ (6 : Int) = (clampH x : Nat)) ∨ (¬ x < 1 ∧ x ≤ 6 ∧ x = (clampH x : Nat)) := by
  unfold clampH
  by_cases h1 : x < 1
  · left; simp [h1]
  · by_cases h2 : 6 < x
    · right; left; simp [h1, h2]
    · right; right; simp [h1, h2]; omega
theorem clampN_cases (x : Int) : (x < 0 ∧ (0 : Int) = (clampN x : Nat)) ∨ (¬ x < 0 ∧ 16 < x ∧ (16 : Int) = (clampN x : Nat)) ∨ (¬ x < 0 ∧ x ≤ 16 ∧ x = (clampN x : Nat)) := by
  unfold clampN
  by_cases h1 : x < 0
  · left; simp [h1]
  · by_cases h2 : 16 < x
    · right; left; simp [h1, h2]
    · right; right; simp [h1, h2]; omega
end Go.Proofs.Ytnlimdlmhfnkiaa.ConfW

