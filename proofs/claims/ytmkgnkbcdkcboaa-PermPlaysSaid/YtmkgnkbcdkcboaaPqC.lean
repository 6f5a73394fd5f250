/- A pile's row in memory. -/
import Derived.Test.YtmkgnkbcdkcboaaPqB
import Derived.Laws.IdiomCopy
namespace Go.Proofs.Ytmkgnkbcdkcboaa.QueueW
open Go.RowKit
def It.cs (x : It) : List Value := [.int .i64 x.time, .int .i64 x.rank, .int .i64 x.node, .int .i64 x.place, .int .i64 x.k, .int .i64 x.f, .int .i64 x.y, .int .u32 x.c, .int .i64 x.l]
def flat : List It → List Value
  | [] => []
  | x :: L => x.cs ++ flat L
theorem flat_length : ∀ L, (flat L).length = L.length * 9
  | [] => rfl
  | x :: L => by simp only [flat, List.length_append, flat_length L, List.length_cons]; simp only [It.cs, List.length_cons, List.length_nil]; omega
theorem flat_append : ∀ L M, flat (L ++ M) = flat L ++ flat M
  | [], _ => rfl
  | x :: L, M => by simp only [List.cons_append, flat, flat_append L M, List.append_assoc]
theorem flat_at : ∀ (L : List It) (i c : Nat) (x : It), L[i]? = some x → c < 9 → (flat L)[i * 9 + c]? = x.cs[c]?
  | y :: L, 0, c, x, h, hc => by
    simp only [List.getElem?_cons_zero, Option.some.injEq] at h
    subst h
    rw [flat, Nat.zero_mul, Nat.zero_add, List.getElem?_append_left (by simp only [It.cs, List.length_cons, List.length_nil]; omega)]
  | y :: L, i + 1, c, x, h, hc => by
    simp only [List.getElem?_cons_succ] at h
    rw [flat, List.getElem?_append_right (by simp only [It.cs, List.length_cons, List.length_nil]; omega)]
    rw [show (i + 1) * 9 + c - y.cs.length = i * 9 + c by simp only [It.cs, List.length_cons, List.length_nil]; omega]
    exact flat_at L i c x h hc
/-- A row of things that the call owns. -/
def Row (w : World) (T : TypeId) (base : Nat) (v : Value) (L : List It) : Prop := w.ownsRow base T 9 v L.length (flat L)
theorem Row.cells {w : World} {T : TypeId} {base g n cap : Nat} {L : List It} (h : Row w T base (.slice (some ⟨g, 0, none⟩) n cap) L) {i : Nat} (hi : i < L.length) :
    w.cell? ⟨g, i * 9, none⟩ = some (.int .i64 (nth L i).time) ∧ w.cell? ⟨g, i * 9 + 1, none⟩ = some (.int .i64 (nth L i).rank) ∧ w.cell? ⟨g, i * 9 + 2, none⟩ = some (.int .i64 (nth L i).node) ∧ w.cell? ⟨g, i * 9 + 3, none⟩ = some (.int .i64 (nth L i).place) ∧ w.cell? ⟨g, i * 9 + 4, none⟩ = some (.int .i64 (nth L i).k) ∧ w.cell? ⟨g, i * 9 + 5, none⟩ = some (.int .i64 (nth L i).f) ∧ w.cell? ⟨g, i * 9 + 6, none⟩ = some (.int .i64 (nth L i).y) ∧ w.cell? ⟨g, i * 9 + 7, none⟩ = some (.int .u32 (nth L i).c) ∧ w.cell? ⟨g, i * 9 + 8, none⟩ = some (.int .i64 (nth L i).l) := by
  have c := World.ownsRow.cells h (g := g) rfl
  have e : ∀ j, (⟨g, 0, none⟩ : Addr).add j = ⟨g, j, none⟩ := fun j => by unfold Addr.add; split <;> simp_all
  have f := fun c hc => flat_at L i c _ (some_nth hi) hc
  have k : ∀ j u, j < 9 → (nth L i).cs[j]? = some u → w.cell? ⟨g, i * 9 + j, none⟩ = some u := fun j u hc hu => by
    have := c (i * 9 + j) u ((f j hc).trans hu)
    rwa [e] at this
  exact ⟨k 0 _ (by omega) rfl, k 1 _ (by omega) rfl, k 2 _ (by omega) rfl, k 3 _ (by omega) rfl, k 4 _ (by omega) rfl, k 5 _ (by omega) rfl, k 6 _ (by omega) rfl, k 7 _ (by omega) rfl, k 8 _ (by omega) rfl⟩
/-- The block behind a row that isn't nil. -/
theorem Row.block {w : World} {T : TypeId} {base g n cap : Nat} {L : List It} (h : Row w T base (.slice (some ⟨g, 0, none⟩) n cap) L) :
    n = L.length ∧ base ≤ g ∧ ∃ rest : List Value, w.heap[g]? = some (.cells (flat L ++ rest).toArray T (0, 0)) ∧ (flat L ++ rest).length = cap * 9 ∧ cap ≤ maxLen := by
  rcases h.2 with ⟨h1, _⟩ | ⟨g', cap', cur, hv, hb, hg, hn, hm, hs, ht⟩
  · cases h1
  · injection hv with e1 e2 e3
    subst e2; subst e3
    injection e1 with e1
    injection e1 with e1 _ _
    subst e1
    refine ⟨rfl, hb, cur.toList.drop (L.length * 9), ?_, ?_, hm⟩
    · rw [← ht, List.take_append_drop]
      exact hg
    · rw [← ht, List.take_append_drop]
      simpa using hs
theorem Row.mk {w : World} {T : TypeId} {base g cap : Nat} {L : List It} {rest : List Value} (hb : base ≤ g) (hg : w.heap[g]? = some (.cells (flat L ++ rest).toArray T (0, 0))) (hl : (flat L ++ rest).length = cap * 9) (hm : cap ≤ maxLen) : Row w T base (.slice (some ⟨g, 0, none⟩) L.length cap) L := by
  refine ⟨by rw [flat_length], Or.inr ⟨g, cap, _, rfl, hb, hg, ?_, hm, ?_, ?_⟩⟩
  · rw [List.length_append, flat_length] at hl; omega
  · simpa using hl
  · rw [← flat_length L]
    exact List.take_left
theorem Row.nil_form {w : World} {T : TypeId} {base : Nat} {v : Value} {L : List It} (h : Row w T base v L) : (v = .slice none 0 0 ∧ L = []) ∨ ∃ g cap, v = .slice (some ⟨g, 0, none⟩) L.length cap ∧ base ≤ g := by
  rcases h.2 with ⟨h1, h2⟩ | ⟨g, cap, cur, hv, hb, _⟩
  · exact Or.inl ⟨h1, List.eq_nil_of_length_eq_zero h2⟩
  · exact Or.inr ⟨g, cap, hv, hb⟩
theorem Row.of_block {w w1 : World} {T : TypeId} {base : Nat} {v : Value} {L : List It} (h : Row w T base v L) (hk : ∀ g, v.ownBlock = some g → w1.heap[g]? = w.heap[g]?) : Row w1 T base v L := by
  refine ⟨h.1, ?_⟩
  rcases h.2 with h1 | ⟨g, cap, cur, hv, hb, hg, hr⟩
  · exact Or.inl h1
  · refine Or.inr ⟨g, cap, cur, hv, hb, ?_, hr⟩
    rw [hk g (by rw [hv]; rfl)]
    exact hg
theorem Row.lt {w : World} {T : TypeId} {base : Nat} {v : Value} {L : List It} (h : Row w T base v L) {g : Nat} (hg : v.ownBlock = some g) : g < w.heap.size := by
  rcases h.2 with ⟨rfl, _⟩ | ⟨g', cap, cur, rfl, _, hh, _⟩
  · cases hg
  · injection hg with hg
    subst hg
    exact lt_heap hh
theorem Row.rebase {w : World} {T : TypeId} {base base' : Nat} {v : Value} {L : List It} (h : Row w T base v L) (hb : ∀ g, v.ownBlock = some g → base' ≤ g) : Row w T base' v L := by
  refine ⟨h.1, ?_⟩
  rcases h.2 with h1 | ⟨g, cap, cur, hv, hb0, hr⟩
  · exact Or.inl h1
  · exact Or.inr ⟨g, cap, cur, hv, hb g (by rw [hv]; rfl), hr⟩
/-- Stores of cells side by side into a block. -/
theorem heap_setCells {g : Nat} {T : TypeId} : ∀ (vs old pre post : List Value) (w : World), old.length = vs.length → w.heap[g]? = some (.cells (pre ++ old ++ post).toArray T (0, 0)) →
    (w.setCells g pre.length vs).heap[g]? = some (.cells (pre ++ vs ++ post).toArray T (0, 0))
  | [], old, pre, post, w, hl, h => by
    have : old = [] := List.eq_nil_of_length_eq_zero hl
    subst this
    exact h
  | v :: vs, o :: old, pre, post, w, hl, h => by
    have h1 := Go.heap_setCell_same w g pre.length _ _ v h
    have e : (pre ++ o :: old ++ post).toArray.setIfInBounds pre.length v = ((pre ++ [v]) ++ old ++ post).toArray := by
      simp [List.append_assoc, List.setIfInBounds_toArray]
    rw [e] at h1
    have h2 := heap_setCells vs old (pre ++ [v]) post (w.setCell ⟨g, pre.length, none⟩ v) (by simpa using hl) h1
    rw [show (pre ++ v :: vs ++ post) = (pre ++ [v]) ++ vs ++ post by simp]
    rw [show (pre ++ [v]).length = pre.length + 1 by simp] at h2
    exact h2
theorem flat_parts (L : List It) (i : Nat) (hi : i < L.length) (x : It) : flat L = flat (L.take i) ++ (nth L i).cs ++ flat (L.drop (i + 1)) ∧ flat (L.set i x) = flat (L.take i) ++ x.cs ++ flat (L.drop (i + 1)) ∧ (flat (L.take i)).length = i * 9 := by
  have e : nth L i = L[i] := nth_some (List.getElem?_eq_getElem hi)
  refine ⟨?_, ?_, ?_⟩
  · conv => lhs; rw [← List.take_append_drop i L, List.drop_eq_getElem_cons hi, flat_append]
    rw [e, flat, List.append_assoc]
  · rw [List.set_eq_take_append_cons_drop, if_pos hi, flat_append, flat, List.append_assoc]
  · rw [flat_length, List.length_take, Nat.min_eq_left (by omega)]
theorem Row.set {w : World} {T : TypeId} {base g cap : Nat} {L : List It} (h : Row w T base (.slice (some ⟨g, 0, none⟩) L.length cap) L) {i : Nat} (hi : i < L.length) (x : It) : Row (w.setCells g (i * 9) x.cs) T base (.slice (some ⟨g, 0, none⟩) L.length cap) (L.set i x) := by
  obtain ⟨_, hb, rest, hg, hl, hm⟩ := h.block
  obtain ⟨e1, e2, e3⟩ := flat_parts L i hi x
  rw [e1, List.append_assoc] at hg
  have h1 := heap_setCells x.cs (nth L i).cs (flat (L.take i)) (flat (L.drop (i + 1)) ++ rest) w rfl (by simpa [List.append_assoc] using hg)
  rw [e3] at h1
  have := Row.mk (L := L.set i x) (cap := cap) (rest := rest) hb (by rw [e2]; simpa [List.append_assoc] using h1) (by rw [List.length_append, flat_length] at hl ⊢; rw [List.length_set]; exact hl) hm
  rwa [List.length_set] at this
theorem of_drew {W w1 : World} (b : Below W.drew.heap.size W.drew w1) : Below W.heap.size W w1 := ⟨b.os, b.tape, b.output, b.size, b.block⟩
theorem cell_keep {w1 w2 : World} {a : Addr} {v : Value} (h : w1.cell? a = some v) (b : Below w1.heap.size w1 w2) : w2.cell? a = some v := (b.cell (World.block_lt_of_cell? _ _ h)).trans h
theorem keep9 {w w1 : World} {g o : Nat} {u0 u1 u2 u3 u4 u5 u6 u7 u8 : Value} (h : w.cell? ⟨g, o, none⟩ = some u0 ∧ w.cell? ⟨g, o + 1, none⟩ = some u1 ∧ w.cell? ⟨g, o + 2, none⟩ = some u2 ∧ w.cell? ⟨g, o + 3, none⟩ = some u3 ∧ w.cell? ⟨g, o + 4, none⟩ = some u4 ∧ w.cell? ⟨g, o + 5, none⟩ = some u5 ∧ w.cell? ⟨g, o + 6, none⟩ = some u6 ∧ w.cell? ⟨g, o + 7, none⟩ = some u7 ∧ w.cell? ⟨g, o + 8, none⟩ = some u8) (b : Below w.heap.size w w1) :
    w1.cell? ⟨g, o, none⟩ = some u0 ∧ w1.cell? ⟨g, o + 1, none⟩ = some u1 ∧ w1.cell? ⟨g, o + 2, none⟩ = some u2 ∧ w1.cell? ⟨g, o + 3, none⟩ = some u3 ∧ w1.cell? ⟨g, o + 4, none⟩ = some u4 ∧ w1.cell? ⟨g, o + 5, none⟩ = some u5 ∧ w1.cell? ⟨g, o + 6, none⟩ = some u6 ∧ w1.cell? ⟨g, o + 7, none⟩ = some u7 ∧ w1.cell? ⟨g, o + 8, none⟩ = some u8 :=
  ⟨cell_keep h.1 b, cell_keep h.2.1 b, cell_keep h.2.2.1 b, cell_keep h.2.2.2.1 b, cell_keep h.2.2.2.2.1 b, cell_keep h.2.2.2.2.2.1 b, cell_keep h.2.2.2.2.2.2.1 b, cell_keep h.2.2.2.2.2.2.2.1 b, cell_keep h.2.2.2.2.2.2.2.2 b⟩
theorem Row.frozen9 {w : World} {T : TypeId} {base g n cap : Nat} {L : List It} (h : Row w T base (.slice (some ⟨g, 0, none⟩) n cap) L) (i : Nat) :
    w.frozen? ⟨g, i * 9, none⟩ = false ∧ w.frozen? ⟨g, i * 9 + 1, none⟩ = false ∧ w.frozen? ⟨g, i * 9 + 2, none⟩ = false ∧ w.frozen? ⟨g, i * 9 + 3, none⟩ = false ∧ w.frozen? ⟨g, i * 9 + 4, none⟩ = false ∧ w.frozen? ⟨g, i * 9 + 5, none⟩ = false ∧ w.frozen? ⟨g, i * 9 + 6, none⟩ = false ∧ w.frozen? ⟨g, i * 9 + 7, none⟩ = false ∧ w.frozen? ⟨g, i * 9 + 8, none⟩ = false := by
  obtain ⟨_, _, rest, hg, _⟩ := h.block
  exact ⟨frozen_of_row w g _ _ _ hg, frozen_of_row w g _ _ _ hg, frozen_of_row w g _ _ _ hg, frozen_of_row w g _ _ _ hg, frozen_of_row w g _ _ _ hg, frozen_of_row w g _ _ _ hg, frozen_of_row w g _ _ _ hg, frozen_of_row w g _ _ _ hg, frozen_of_row w g _ _ _ hg⟩
/-- Nothing but X's blocks has turned. -/
structure Chg (X : Nat → Prop) (w w' : World) : Prop where
  os : w'.os = w.os
  tape : w'.tape = w.tape
  output : w'.output = w.output
  size : w.heap.size ≤ w'.heap.size
  block : ∀ j, j < w.heap.size → ¬ X j → w'.heap[j]? = w.heap[j]?
theorem Chg.refl (X : Nat → Prop) (w : World) : Chg X w w := ⟨rfl, rfl, rfl, Nat.le_refl _, fun _ _ _ => rfl⟩
theorem Chg.of {X : Nat → Prop} {w w' : World} (h : Below w.heap.size w w') : Chg X w w' := ⟨h.os, h.tape, h.output, h.size, fun j hj _ => h.block j hj⟩
theorem Chg.trans {X Y : Nat → Prop} {a b c : World} (h : Chg X a b) (g : Chg Y b c) (hY : ∀ j, j < a.heap.size → Y j → X j) : Chg X a c :=
  ⟨g.os.trans h.os, g.tape.trans h.tape, g.output.trans h.output, Nat.le_trans h.size g.size, fun j hj hx => (g.block j (Nat.lt_of_lt_of_le hj h.size) (fun y => hx (hY j hj y))).trans (h.block j hj hx)⟩
theorem Chg.drew {X : Nat → Prop} {a b : World} (h : Chg X a b) : Chg X a b.drew := ⟨h.os, h.tape, h.output, h.size, h.block⟩
theorem Chg.of_drew {X : Nat → Prop} {a b : World} (h : Chg X a.drew b) : Chg X a b := ⟨h.os, h.tape, h.output, h.size, h.block⟩
theorem Chg.alloc {X : Nat → Prop} {a b : World} (h : Chg X a b) (o : Obj) : Chg X a (b.alloc o) :=
  ⟨h.os, h.tape, h.output, Nat.le_trans h.size (by simp), fun j hj hx => (heap_alloc_old _ _ (Nat.lt_of_lt_of_le hj h.size)).trans (h.block j hj hx)⟩
theorem Chg.setCell {X : Nat → Prop} {a b : World} (h : Chg X a b) {p : Addr} (hp : X p.block) (v : Value) : Chg X a (b.setCell p v) :=
  ⟨h.os, h.tape, h.output, by simpa using h.size, fun j hj hx => (Go.heap_setCell_other b p j v (fun e => hx (e ▸ hp))).trans (h.block j hj hx)⟩
theorem Chg.setCells {X : Nat → Prop} {a : World} {g : Nat} (hp : X g) : ∀ {b : World} (_ : Chg X a b) (o : Nat) (vs : List Value), Chg X a (b.setCells g o vs)
  | _, h, _, [] => h
  | _, h, o, v :: vs => Chg.setCells hp (h.setCell (p := ⟨g, o, none⟩) hp v) (o + 1) vs
theorem Chg.below {X : Nat → Prop} {B : Nat} {w w' : World} (h : Chg X w w') (hB : ∀ j, j < B → ¬ X j) (hs : B ≤ w.heap.size) : Below B w w' := ⟨h.os, h.tape, h.output, h.size, fun j hj => h.block j (by omega) (hB j hj)⟩
theorem Chg.mono {X Y : Nat → Prop} {a b : World} (h : Chg X a b) (hY : ∀ j, j < a.heap.size → X j → Y j) : Chg Y a b := ⟨h.os, h.tape, h.output, h.size, fun j hj hn => h.block j hj (fun x => hn (hY j hj x))⟩
theorem Chg.cell {X : Nat → Prop} {w w' : World} (h : Chg X w w') {p : Addr} {v : Value} (hc : w.cell? p = some v) (hx : ¬ X p.block) : w'.cell? p = some v :=
  (World.cell?_of_block (h.block p.block (World.block_lt_of_cell? _ _ hc) hx)).trans hc
theorem Chg.heap {X : Nat → Prop} {w w' : World} (h : Chg X w w') {j : Nat} {o : Obj} (hc : w.heap[j]? = some o) (hx : ¬ X j) : w'.heap[j]? = some o := (h.block j (lt_heap hc) hx).trans hc
theorem Row.drew {w : World} {T : TypeId} {base : Nat} {v : Value} {L : List It} (h : Row w T base v L) : Row w.drew T base v L := Row.of_block h fun _ _ => rfl
theorem Row.swp {w : World} {T : TypeId} {base g c i j : Nat} {L : List It} (h : Row w T base (.slice (some ⟨g, 0, none⟩) L.length c) L) (hi : i < L.length) (hj : j < L.length) :
    Row ((w.setCells g (i * 9) (nth L j).cs).setCells g (j * 9) (nth L i).cs).drew T base (.slice (some ⟨g, 0, none⟩) L.length c) (swp L i j) ∧ Chg (fun k => k = g) w ((w.setCells g (i * 9) (nth L j).cs).setCells g (j * 9) (nth L i).cs).drew := by
  unfold QueueW.swp
  generalize nth L i = x
  generalize nth L j = y
  have h1 := Row.set h hi y
  have c1 : Chg (fun k => k = g) w (w.setCells g (i * 9) y.cs) := Chg.setCells (X := fun k => k = g) rfl (Chg.refl _ _) _ _
  generalize w.setCells g (i * 9) y.cs = w1 at *
  have e : L.length = (L.set i y).length := by rw [List.length_set]
  rw [e] at h1 hj ⊢
  generalize L.set i y = M at *
  have h2 := Row.set h1 hj x
  have c2 : Chg (fun k => k = g) w (w1.setCells g (j * 9) x.cs) := Chg.setCells (X := fun k => k = g) rfl c1 _ _
  generalize w1.setCells g (j * 9) x.cs = w2 at *
  exact ⟨h2.drew, c2.drew⟩
end Go.Proofs.Ytmkgnkbcdkcboaa.QueueW
