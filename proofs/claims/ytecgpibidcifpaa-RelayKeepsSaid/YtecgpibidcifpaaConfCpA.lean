/- What the document's own Copy builds: rows that grow side by side, one after another. -/
import Derived.Test.YtecgpibidcifpaaConfFam
import Derived.Test.YtecgpibidcifpaaSmallJa
namespace Go.Proofs.Ytecgpibidcifpaa.ConfW
open Go.RowKit Shell
/-- Loop 1: k rows are copied; vs are their slices, vD the slice of them all. -/
structure RcX (w0 : World) (c : Cfg) (D E L : Option Addr) (nd cd ne ce nl cl : Nat) (k : Nat) (vs : List Value) (vD : Value) (W : World) : Prop where
  b : Below w0.heap.size w0 W
  p : W.heap[w0.heap.size]? = some (Obj.cells #[.int .i64 c.hosts, .int .i64 c.cycle, .int .i64 c.delay, .int .i64 c.window, .int .i64 c.precision, .slice D nd cd, .slice E ne ce, .slice L nl cl, .int .i64 c.queue] 26)
  r : W.heap[w0.heap.size + 1]? = some (.cells #[.int .i64 0, .int .i64 0, .int .i64 0, .int .i64 0, .int .i64 0, .slice none 0 0, .slice none 0 0, .slice none 0 0, .int .i64 0] 26)
  x : W.heap[w0.heap.size + 1 + 1]? = some (.cells #[.int .i64 c.hosts, .int .i64 c.cycle, .int .i64 c.delay, .int .i64 c.window, .int .i64 c.precision, vD, .slice none 0 0, .slice none 0 0, .int .i64 c.queue] 26)
  d : W.ownsRow (w0.heap.size + 1 + 1 + 1) 53 1 vD k vs
  row : ∀ (j : Nat) (r : List Int), j < k → c.delays[j]? = some r → ∃ v, vs[j]? = some v ∧ OR W (w0.heap.size + 1 + 1 + 1) 2 .i64 v r ∧ ∀ g, v.ownBlock = some g → vD.ownBlock ≠ some g
section
variable {w0 W W1 W3 : World} {c : Cfg} {D E L : Option Addr} {nd cd ne ce nl cl k : Nat} {vs : List Value} {vD vl v' : Value} {r : List Int}
theorem RcX.next (X : RcX w0 c D E L nd cd ne ce nl cl k vs vD W) (b : Below W.heap.size W W1) : RcX w0 c D E L nd cd ne ce nl cl k vs vD W1 := by
  refine ⟨X.b.trans (b.mono X.b.size), row_below b X.p, row_below b X.r, row_below b X.x, own_up X.d (Nat.le_refl _) (Up.of _ b), ?_⟩
  intro j r hj hr
  obtain ⟨v, h1, h2, h3⟩ := X.row j r hj hr
  exact ⟨v, h1, h2.below b, h3⟩
theorem RcX.step (X : RcX w0 c D E L nd cd ne ce nl cl k vs vD W) (hr : c.delays[k]? = some r) (ol : OR W (w0.heap.size + 1 + 1 + 1) 2 .i64 vl r) (hne : ∀ g, vl.ownBlock = some g → vD.ownBlock ≠ some g) (o : W3.ownsRow (w0.heap.size + 1 + 1 + 1) 53 1 v' (k + 1) (vs ++ [vl])) (st : Step W vD W3 v') :
    RcX w0 c D E L nd cd ne ce nl cl (k + 1) (vs ++ [vl]) v' (W3.setCell ⟨w0.heap.size + 1 + 1, 5, none⟩ v') := by
  have hl := X.d.1
  rw [Nat.mul_one] at hl
  have mv : ∀ q, q < W.heap.size → vD.ownBlock ≠ some q → v'.ownBlock ≠ some q := by
    intro q hq hn e
    rcases st.m with h1 | ⟨i, h1, h2⟩
    · exact hn (h1.symm.trans e)
    · rw [h1] at e; cases e; omega
  have nD : ∀ q, q < w0.heap.size + 1 + 1 + 1 → vD.ownBlock ≠ some q := fun q hq e => by have := (X.d.lt q e).1; omega
  have k3 : ∀ q, q < W.heap.size → vD.ownBlock ≠ some q → W3.heap[q]? = W.heap[q]? := fun q hq hn => st.g.block q hq (fun e => hn e.symm)
  have kp : ∀ q, q < W.heap.size → q ≠ w0.heap.size + 1 + 1 → vD.ownBlock ≠ some q → (W3.setCell ⟨w0.heap.size + 1 + 1, 5, none⟩ v').heap[q]? = W.heap[q]? := by
    intro q hq hne hn
    rw [heap_setCell_other _ _ _ _ (by exact hne)]
    exact k3 q hq hn
  have hb3 : Below w0.heap.size W W3 := ⟨st.g.os, st.g.tape, st.g.output, st.g.size, fun q hq => st.g.block q (by have := X.b.size; omega) (fun e => by have := (X.d.lt q e.symm).1; omega)⟩
  have sx := row_lt X.x
  have sr := row_lt X.r
  have sp := row_lt X.p
  have ups : Up (w0.heap.size + 1 + 1 + 1) W3 (W3.setCell ⟨w0.heap.size + 1 + 1, 5, none⟩ v') := (Up.refl _ _).set _ _ (by simp)
  have orK : ∀ (v : Value) (r : List Int), OR W (w0.heap.size + 1 + 1 + 1) 2 .i64 v r → (∀ g, v.ownBlock = some g → vD.ownBlock ≠ some g) → OR (W3.setCell ⟨w0.heap.size + 1 + 1, 5, none⟩ v') (w0.heap.size + 1 + 1 + 1) 2 .i64 v r ∧ ∀ g, v.ownBlock = some g → v'.ownBlock ≠ some g := by
    intro v r h1 h2
    refine ⟨or_up ⟨h1.1.kept st.g ?_, h1.2⟩ (Nat.le_refl _) ups, fun g hg => mv g (h1.lt g hg).2 (h2 g hg)⟩
    cases hub : v.ownBlock with
    | none => exact Or.inl rfl
    | some q => exact Or.inr (fun e => h2 q hub e.symm)
  refine ⟨(X.b.trans hb3).setCell (by simp; omega) _, ?_, ?_, ?_, own_up o (Nat.le_refl _) ups, ?_⟩
  · rw [kp _ sp (by omega) (nD _ (by omega))]; exact X.p
  · rw [kp _ sr (by omega) (nD _ (by omega))]; exact X.r
  · have h3 := (k3 _ sx (nD _ (by omega))).trans X.x
    exact heap_setCell_same W3 (w0.heap.size + 1 + 1) 5 _ _ v' h3
  · intro j q hj hq
    by_cases hjk : j = k
    · subst hjk
      rw [hr] at hq
      cases hq
      have h9 := orK vl r ol hne
      exact ⟨vl, by rw [List.getElem?_append_right (by omega), hl, Nat.sub_self]; rfl, h9.1, h9.2⟩
    · obtain ⟨v, h1, h2, h3⟩ := X.row j q (by omega) hq
      have h9 := orK v q h2 h3
      exact ⟨v, by rw [List.getElem?_append_left (by omega)]; exact h1, h9.1, h9.2⟩
end
/-- A field of a box that grows by whole entries, above a world that stays as it was. -/
structure GrY (w1 : World) (g i : Nat) (bx : Value → Obj) (t : TypeId) (m : Nat) (v : Value) (es : List R4) (W : World) : Prop where
  kp : Kept g w1 W
  x : W.heap[g]? = some (bx v)
  l : g < w1.heap.size
  e : W.ownsRow w1.heap.size t 4 v m (ents es)
section
variable {w1 W W1 W3 : World} {g i m : Nat} {bx : Value → Obj} {t : TypeId} {v v' : Value} {es : List R4} {e : R4}
theorem GrY.next (Y : GrY w1 g i bx t m v es W) (b : Below W.heap.size W W1) : GrY w1 g i bx t m v es W1 :=
  ⟨Y.kp.trans (Kept.of b), row_below b Y.x, Y.l, own_up Y.e (Nat.le_refl _) (Up.of _ b)⟩
theorem GrY.step (Y : GrY w1 g i bx t m v es W) (hs : ∀ W : World, W.heap[g]? = some (bx v) → (W.setCell ⟨g, i, none⟩ v').heap[g]? = some (bx v')) (o : W3.ownsRow w1.heap.size t 4 v' (m + 1) (ents es ++ ents [e])) (st : W.grownBy W3 v.ownBlock) :
    GrY w1 g i bx t (m + 1) v' (es ++ [e]) (W3.setCell ⟨g, i, none⟩ v') := by
  have nE : ∀ q, q < w1.heap.size → v.ownBlock ≠ some q := fun q hq e => by have := (Y.e.lt q e).1; omega
  have k3 : ∀ q, q < w1.heap.size → W3.heap[q]? = W.heap[q]? := fun q hq => st.block q (Nat.lt_of_lt_of_le hq Y.kp.size) (fun e => nE q hq e.symm)
  refine ⟨⟨st.os.trans Y.kp.os, st.tape.trans Y.kp.tape, st.output.trans Y.kp.output, by rw [World.size_setCell]; exact Nat.le_trans Y.kp.size st.size, ?_⟩, hs W3 ((k3 g Y.l).trans Y.x), Y.l, ?_⟩
  · intro j hj hs
    rw [heap_setCell_other _ _ _ _ (by exact hj)]
    exact (k3 j hs).trans (Y.kp.block j hj hs)
  · rw [ents_app]
    exact own_up o (Nat.le_refl _) ((Up.refl w1.heap.size W3).set _ _ Y.l)
end
/-- A configuration whose rows all are the call's own, from block lo on. -/
structure Own (W : World) (lo : Nat) (c : Cfg) (vs : List Value) (vD vE vL : Value) : Prop where
  d : W.ownsRow lo 53 1 vD c.delays.length vs
  row : ∀ (j : Nat) (r : List Int), c.delays[j]? = some r → ∃ v, vs[j]? = some v ∧ OR W lo 2 .i64 v r
  ent : W.ownsRow lo 58 4 vE c.entries.length (ents c.entries)
  lnk : W.ownsRow lo 52 4 vL c.links.length (ents c.links)
theorem Own.up {W W' : World} {lo lo2 : Nat} {c : Cfg} {vs : List Value} {vD vE vL : Value} (h : Own W lo c vs vD vE vL) (hl : lo2 ≤ lo) (u : Up lo2 W W') : Own W' lo c vs vD vE vL :=
  ⟨own_up h.d hl u, fun j r hj => by obtain ⟨v, h1, h2⟩ := h.row j r hj; exact ⟨v, h1, or_up h2 hl u⟩, own_up h.ent hl u, own_up h.lnk hl u⟩
theorem Own.mem {w : World} {lo : Nat} {c : Cfg} {vs : List Value} {vD vE vL : Value} (h : Own w lo c vs vD vE vL) (h1 : ∀ r ∈ c.delays, Wf .i64 r ∧ r.length ≤ maxLen) (h2 : ∀ e ∈ c.entries, e.b < 4294967296) (h3 : ∀ e ∈ c.links, e.b < 4294967296) :
    ∃ D E L cd ce cl, vD = .slice D c.delays.length cd ∧ vE = .slice E c.entries.length ce ∧ vL = .slice L c.links.length cl ∧ CM w c D E L c.delays.length cd c.entries.length ce c.links.length cl := by
  have hd := h.d
  have he := h.ent
  have hl := h.lnk
  obtain ⟨E, ce, rfl, e1, e2, e3, _⟩ := own_form he
  obtain ⟨L, cl, rfl, l1, l2, l3, _⟩ := own_form hl
  obtain ⟨D, cd, rfl, d1, d2, d3, _⟩ := own_form hd
  refine ⟨D, E, L, cd, ce, cl, rfl, rfl, rfl, ?_⟩
  exact { hd := fun k r hk => by
            obtain ⟨v, hv, ho⟩ := h.row k r hk
            obtain ⟨A, c', rfl, a1, a2, a3, _⟩ := own_form ho.1
            have hm := h1 r (List.mem_of_getElem? hk)
            obtain ⟨g, cap, hgv, -, hcell, -⟩ := own_cell hd hv
            cases hgv
            have ha : (⟨g, 0, none⟩ : Addr).add k = ⟨g, k, none⟩ := by unfold Addr.add; split <;> simp_all
            exact ⟨⟨g, 0, none⟩, A, c', rfl, by rw [ha]; exact hcell, own_cl ho.1 hm.1, hm.2, a1, a3⟩
          he := own_ml he h2, hl := own_ml hl h3, nD := rfl, nE := rfl, nL := rfl, mD := d2, mE := e2, mL := l2, cD := d1, cE := e1, cL := l1, zD := d3, zE := e3, zL := l3 }
end Go.Proofs.Ytecgpibidcifpaa.ConfW

