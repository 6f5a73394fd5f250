/- A slice of structs at any place of a block of one's own (a queue: its head is cut off, its end grows). All programs at once. -/
import Derived.Test.YtpliidkfllacpaaRowG
import Derived.Deep.AppendSrc
namespace Go.Proofs.Ytpliidkfllacpaa.Shell
open Go.ChangeShapes Go.WideShapes Go.ChangeAt Go.RowKit
theorem kept_cells {a : World} {g : Nat} : ∀ {b : World} (_ : Kept g a b) (o : Nat) (vs : List Value), Kept g a (b.setCells g o vs)
  | _, h, _, [] => h
  | _, h, o, v :: vs => kept_cells (h.trans (kept1 _ g o v)) (o + 1) vs
theorem grown_of {g : Nat} {a b : World} (h : Kept g a b) : a.grownBy b (some g) := ⟨h.os, h.tape, h.output, h.size, fun j hj hn => h.block j (fun e => hn (by rw [e])) hj⟩
section
variable {α : Type} {F : Flat α}
/-- Structs that lie at a place of a block, with room behind them. -/
structure LA (F : Flat α) (w : World) (g off cap : Nat) (L : List α) : Prop where
  le : L.length ≤ cap
  max : cap ≤ maxLen
  lt : g < w.heap.size
  holds : ∀ (j : Nat) (u : Value), (F.fl L)[j]? = some u → w.cell? ⟨g, off + j, none⟩ = some u
  there : ∀ j, j < cap * F.n → (w.cell? ⟨g, off + j, none⟩).isSome = true ∧ w.frozen? ⟨g, off + j, none⟩ = false
/-- A slice of structs in a block of the call's own. -/
def LS (F : Flat α) (w : World) (base : Nat) (v : Value) (L : List α) : Prop :=
  (v = .slice none 0 0 ∧ L = []) ∨ ∃ g off cap, v = .slice (some ⟨g, off, none⟩) L.length cap ∧ base ≤ g ∧ LA F w g off cap L
theorem LA.of_block {w w1 : World} {g off cap : Nat} {L : List α} (h : LA F w g off cap L) (hk : w1.heap[g]? = w.heap[g]?) (hs : w.heap.size ≤ w1.heap.size) : LA F w1 g off cap L :=
  ⟨h.le, h.max, Nat.lt_of_lt_of_le h.lt hs, fun j u hj => (World.cell?_of_block (a := ⟨g, off + j, none⟩) hk).trans (h.holds j u hj), fun j hj => by
    rw [World.cell?_of_block (a := ⟨g, off + j, none⟩) hk, World.frozen?_of_block (a := ⟨g, off + j, none⟩) hk]
    exact h.there j hj⟩
theorem LS.nil (w : World) (base : Nat) : LS F w base (.slice none 0 0) [] := Or.inl ⟨rfl, rfl⟩
theorem LS.lt {w : World} {base : Nat} {v : Value} {L : List α} (h : LS F w base v L) : ∀ j, v.ownBlock = some j → base ≤ j ∧ j < w.heap.size := by
  intro j hj
  rcases h with ⟨rfl, _⟩ | ⟨g, off, cap, rfl, hb, h⟩
  · cases hj
  · injection hj with hj
    subst hj
    exact ⟨hb, h.lt⟩
theorem LS.of_block {w w1 : World} {base : Nat} {v : Value} {L : List α} (h : LS F w base v L) (hk : ∀ g, v.ownBlock = some g → w1.heap[g]? = w.heap[g]?) (hs : w.heap.size ≤ w1.heap.size) : LS F w1 base v L := by
  rcases h with h | ⟨g, off, cap, rfl, hb, h⟩
  · exact Or.inl h
  · exact Or.inr ⟨g, off, cap, rfl, hb, h.of_block (hk g rfl) hs⟩
theorem LS.below {w w1 : World} {base : Nat} {v : Value} {L : List α} (h : LS F w base v L) (b : Below w.heap.size w w1) : LS F w1 base v L :=
  h.of_block (fun g hg => b.block g (h.lt g hg).2) b.size
theorem LS.alloc {w : World} {base : Nat} {v : Value} {L : List α} (h : LS F w base v L) (o : Obj) : LS F (w.alloc o) base v L := h.below (al (Below.refl _ _) o)
theorem LS.drew {w : World} {base : Nat} {v : Value} {L : List α} (h : LS F w base v L) : LS F w.drew base v L := h.below (Below.refl _ _).drew
theorem LS.step {w w1 : World} {base : Nat} {v u u' : Value} {L : List α} (h : LS F w base v L) (s : Step w u w1 u') (hn : ∀ j, v.ownBlock = some j → u.ownBlock ≠ some j) : LS F w1 base v L :=
  h.of_block (fun g hg => s.g.block g (h.lt g hg).2 (fun e => hn g hg e.symm)) s.g.size
theorem LS.kept {w w1 : World} {base k : Nat} {v : Value} {L : List α} (h : LS F w base v L) (kp : Kept k w w1) (hk : v.ownBlock ≠ some k) : LS F w1 base v L :=
  h.of_block (fun g hg => kp.block g (fun e => hk (by rw [← e]; exact hg)) (h.lt g hg).2) kp.size
theorem LS.rebase {w : World} {base base' : Nat} {v : Value} {L : List α} (h : LS F w base v L) (hb : base' ≤ base) : LS F w base' v L := by
  rcases h with h | ⟨g, off, cap, rfl, h1, h⟩
  · exact Or.inl h
  · exact Or.inr ⟨g, off, cap, rfl, Nat.le_trans hb h1, h⟩
theorem LS.form {w : World} {base : Nat} {v : Value} {L : List α} (h : LS F w base v L) : ∃ A cap, v = .slice A L.length cap ∧ L.length ≤ cap ∧ (A = none → cap = 0) ∧ ∀ a, A = some a → a.spot = none ∧ LA F w a.block a.off cap L := by
  rcases h with ⟨rfl, rfl⟩ | ⟨g, off, cap, rfl, hb, h⟩
  · exact ⟨none, 0, rfl, Nat.le_refl _, fun _ => rfl, fun a ha => by cases ha⟩
  · exact ⟨_, cap, rfl, h.le, (fun e => by cases e), fun a ha => by cases ha; exact ⟨rfl, h⟩⟩
/-- A cell of one of them. -/
theorem LA.cell {w : World} {g off cap : Nat} {L : List α} (h : LA F w g off cap L) {i c : Nat} {x : α} {u : Value} (hi : L[i]? = some x) (hu : (F.cs x)[c]? = some u) : w.cell? ⟨g, off + i * F.n + c, none⟩ = some u := by
  have hc : c < F.n := by rw [← F.len x]; exact lt_of_get hu
  rw [Nat.add_assoc]
  exact h.holds _ u ((fl_at F L i c x hi hc).trans hu)
theorem LA.frozen {w : World} {g off cap : Nat} {L : List α} (h : LA F w g off cap L) {i c : Nat} (hi : i < cap) (hc : c < F.n) : w.frozen? ⟨g, off + i * F.n + c, none⟩ = false := by
  rw [Nat.add_assoc]
  refine (h.there (i * F.n + c) ?_).2
  have : (i + 1) * F.n ≤ cap * F.n := Nat.mul_le_mul_right _ hi
  rw [Nat.add_mul, Nat.one_mul] at this
  omega
theorem LA.sg {w : World} {g off cap : Nat} {L : List α} (h : LA F w g off cap L) : SG F w (some ⟨g, off, none⟩) L := fun _ _ hk => ⟨g, off, rfl, h.lt, fun _ _ hu => h.cell hk hu⟩
/-- The head cut off. -/
theorem LA.tail {w : World} {g off cap : Nat} {x : α} {L : List α} (h : LA F w g off cap (x :: L)) : LA F w g (off + F.n) (cap - 1) L := by
  have le := h.le
  rw [List.length_cons] at le
  refine ⟨by omega, by have := h.max; omega, h.lt, fun j u hj => ?_, fun j hj => ?_⟩
  · rw [show off + F.n + j = off + (j + F.n) by omega]
    refine h.holds (j + F.n) u ?_
    rw [Flat.fl, List.getElem?_append_right (by rw [F.len]; omega), F.len, Nat.add_sub_cancel]
    exact hj
  · rw [show off + F.n + j = off + (j + F.n) by omega]
    refine h.there (j + F.n) ?_
    have : (cap - 1 + 1) * F.n = cap * F.n := by rw [Nat.sub_add_cancel (by omega)]
    rw [Nat.add_mul, Nat.one_mul] at this
    omega
/-- Nothing left of it. -/
theorem LA.none {w : World} {g : Nat} (hg : g < w.heap.size) (off : Nat) : LA F w g off 0 [] :=
  ⟨Nat.le_refl _, Nat.zero_le _, hg, fun j u hj => by simp [Flat.fl] at hj, fun j hj => by rw [Nat.zero_mul] at hj; omega⟩
/-- A row of one's own lies so. -/
theorem LS.of_og {w : World} {base : Nat} {e : TypeId} {v : Value} {L : List α} (h : OG F w base e v L) : LS F w base v L := by
  rcases h.2 with ⟨hv, h0⟩ | ⟨g, cap, cur, hv, hb, hg, h5, h6, h7, htake⟩
  · exact Or.inl ⟨hv, List.eq_nil_of_length_eq_zero h0⟩
  · refine Or.inr ⟨g, 0, cap, hv, hb, h5, h6, lt_of_heap hg, fun j u hj => ?_, fun j hj => ⟨?_, frozen_of_row w g _ _ _ hg⟩⟩
    · have c := World.ownsRow.cells h (g := g) (by rw [hv]; rfl) j u hj
      have e : (⟨g, 0, Option.none⟩ : Addr).add j = ⟨g, 0 + j, Option.none⟩ := by unfold Addr.add; split <;> simp_all
      rwa [e] at c
    · rw [Nat.zero_add, cell_of_row w g _ _ _ _ hg, Array.getElem?_eq_getElem (by omega)]
      rfl
end
section
variable {P : Program} {α : Type} {F : Flat α} {t e : TypeId} {bytes : Nat}
theorem run_append_ls (O : OneG P t e F.n bytes) {w : World} {base : Nat} {v : Value} {L : List α} (h : LS F w base v L) (hb : base ≤ w.heap.size) (ty : TypeId) (y : α) (ad : Addr) (c : Nat) (hn : ∀ j u, (F.cs y)[j]? = some u → w.cell? (ad.add j) = some u) (hl : (L.length + 1) * bytes ≤ 140737488355328) (hp : 0 < bytes) :
    ∃ v' w', (Builtin.append_ #[t, t] ty #[v, .slice (some ad) 1 c]).run P w = .ok v' w' ∧ LS F w' base v' (L ++ [y]) ∧ Step w v w' v' := by
  obtain ⟨i, z, hi, hz, hs, hby, hzs⟩ := O.i
  have hL : L.length + 1 ≤ 140737488355328 := Nat.le_trans (Nat.le_mul_of_pos_right _ hp) hl
  have hsrc : Src P i.size t (.slice (some ad) 1 c) 1 (F.cs y) w := Src.ofSlice w O.u ad 1 c (F.cs y) (by rw [hs, F.len, Nat.one_mul]) hn (F.one y)
  have hll : (L ++ [y]).length = L.length + 1 := by simp
  have hfl : F.fl (L ++ [y]) = F.fl L ++ F.cs y := by rw [fl_app]; simp [Flat.fl]
  have hfn : (F.fl L ++ F.cs y).length = (L.length + 1) * F.n := by rw [← hfl, fl_len, hll]
  have grow : ∀ (bs : Option Addr) (sc : Nat), v = .slice bs L.length sc → sc < L.length + 1 → (Builtin.firstCells i.size L.length (.slice bs L.length sc)).run P w.drew = .ok (F.fl L).toArray w.drew →
      ∃ v' w', (Builtin.append_ #[t, t] ty #[v, .slice (some ad) 1 c]).run P w = .ok v' w' ∧ LS F w' base v' (L ++ [y]) ∧ Step w v w' v' := by
    rintro bs sc rfl hg hold
    have hrun := run_append_grow_src (P := P) w t t ty e i z O.u hi hz bs L.length sc (F.fl L) hold _ 1 (F.cs y) hsrc hg (by omega) (growslice_fits hg (by rw [hby]; exact hl))
    have hge := grownCap_ge w (L.length + 1) sc e
    have hcm := grownCap_le_maxLen w (L.length + 1) sc e (by simp only [maxLen]; omega)
    generalize grownCap w (L.length + 1) sc e = gc at *
    have e1 : ∀ j, (w.drew.alloc (.cells ((F.fl L ++ F.cs y).toArray ++ Builtin.zeroCells z.cells (gc - (L.length + 1))) e)).cell? ⟨w.heap.size, j, none⟩ = ((F.fl L ++ F.cs y).toArray ++ Builtin.zeroCells z.cells (gc - (L.length + 1)))[j]? := fun j => World.cell?_alloc_new w.drew _ _ j
    have hsz : ((F.fl L ++ F.cs y).toArray ++ Builtin.zeroCells z.cells (gc - (L.length + 1))).size = gc * F.n := by
      rw [Array.size_append, List.size_toArray, hfn, size_zeroCells, hzs, ← Nat.add_mul, Nat.add_sub_of_le hge]
    refine ⟨_, _, hrun, Or.inr ⟨w.heap.size, 0, gc, by rw [hll], hb, by rw [hll]; exact hge, hcm, by show w.heap.size < (w.drew.alloc _).heap.size; simp, fun j u hj => ?_, fun j hj => ⟨?_, ?_⟩⟩, ⟨(Step.drew w (.slice bs L.length sc)).g.andThen (World.grownBy_alloc w.drew _ none) (fun j hj => by cases hj), Or.inr ⟨w.heap.size, rfl, Nat.le_refl _⟩⟩⟩
    · rw [hfl] at hj
      rw [Nat.zero_add, e1, Array.getElem?_append_left (by simp only [List.size_toArray]; exact (List.getElem?_eq_some_iff.1 hj).1), List.getElem?_toArray]
      exact hj
    · rw [Nat.zero_add, e1, Array.getElem?_eq_getElem (by rw [hsz]; exact hj)]
      rfl
    · rw [Nat.zero_add]
      exact World.frozen?_alloc_new w.drew _ _ j
  rcases h with ⟨rfl, rfl⟩ | ⟨g, off, cap, rfl, hbg, h⟩
  · exact grow none 0 rfl (by simp) (run_firstCells_none w.drew i.size 0 0 0)
  · by_cases hr : L.length + 1 ≤ cap
    · have hroom : (L.length + 1) * F.n ≤ cap * F.n := Nat.mul_le_mul_right _ hr
      rw [Nat.add_mul, Nat.one_mul] at hroom
      have hylen := F.len y
      have hcs : ∀ j, j < (F.cs y).length → (w.cell? ⟨g, off + L.length * i.size + j, none⟩).isSome = true := fun j hj => by
        rw [hs, Nat.add_assoc]
        exact (h.there (L.length * F.n + j) (by omega)).1
      have hfz : ∀ j, j < (F.cs y).length → w.frozen? ⟨g, off + L.length * i.size + j, none⟩ = false := fun j hj => by
        rw [hs, Nat.add_assoc]
        exact (h.there (L.length * F.n + j) (by omega)).2
      have hrun := run_append_room_src (P := P) w t t ty e i O.u hi g off L.length cap _ 1 (F.cs y) hsrc hr hcs hfz
      rw [hs] at hrun hcs
      have hc : Kept g w (w.setCells g (off + L.length * F.n) (F.cs y)) := kept_cells (Kept.of (Below.refl _ _)) _ _
      refine ⟨_, _, hrun, Or.inr ⟨g, off, cap, by rw [hll], hbg, by rw [hll]; exact hr, h.max, Nat.lt_of_lt_of_le h.lt hc.size, fun j u hj => ?_, fun j hj => ⟨?_, (World.frozen?_setCells g _ _ _ _).trans (h.there j hj).2⟩⟩, ⟨grown_of hc, Or.inl rfl⟩⟩
      · rw [hfl] at hj
        by_cases hjl : j < (F.fl L).length
        · rw [List.getElem?_append_left hjl] at hj
          rw [fl_len] at hjl
          rw [World.cell?_setCells_out g _ _ _ _ (fun _ _ => Or.inl (by show off + j < off + L.length * F.n; omega))]
          exact h.holds j u hj
        · rw [List.getElem?_append_right (by omega)] at hj
          rw [fl_len] at hjl hj
          have hx := (List.getElem?_eq_some_iff.1 hj).1
          have := World.cell?_setCells_in g (F.cs y) (off + L.length * F.n) w hcs (j - L.length * F.n) hx
          rw [show off + L.length * F.n + (j - L.length * F.n) = off + j by omega] at this
          rw [this, ← hj, List.getElem?_eq_getElem hx]
      · by_cases hin : L.length * F.n ≤ j ∧ j < L.length * F.n + F.n
        · have hx : j - L.length * F.n < (F.cs y).length := by rw [hylen]; omega
          have := World.cell?_setCells_in g (F.cs y) (off + L.length * F.n) w hcs (j - L.length * F.n) hx
          rw [show off + L.length * F.n + (j - L.length * F.n) = off + j by omega] at this
          rw [this]
          rfl
        · rw [World.cell?_setCells_out g _ _ _ _ (fun _ _ => by show off + j < off + L.length * F.n ∨ off + L.length * F.n + (F.cs y).length ≤ off + j; rw [hylen]; omega)]
          exact (h.there j hj).1
    · refine grow (some ⟨g, off, none⟩) cap rfl (by omega) ?_
      refine run_firstCells_some w.drew i.size L.length ⟨g, off, none⟩ L.length cap (F.fl L) (by rw [fl_len, hs]) (fun j u hu => ?_)
      rw [Addr.add_lit]
      exact h.holds j u hu
/-- append of one struct to a slice at any place of a block of one's own. -/
theorem wpList_append_ls (O : OneG P t e F.n bytes) (w : World) {ops : Array Oper} {rest : List Oper} {o : Oper} {a : Act} {Q : Exit → Act → World → Prop} (hgd : o.guard = none) (s x : Operand)
    (ho : o.op = .call { callee := .builtin .append, args := #[s, x], argTypes := #[t, t] })
    {base : Nat} {v : Value} {L : List α} (hv : a.eval s = v) (h : LS F w base v L) (hb : base ≤ w.heap.size) (y : α) (ad : Addr) (c : Nat) (hx : a.eval x = .slice (some ad) 1 c) (hn : ∀ j u, (F.cs y)[j]? = some u → w.cell? (ad.add j) = some u) (hl : (L.length + 1) * bytes ≤ 140737488355328) (hp : 0 < bytes)
    (hK : ∀ v' w', LS F w' base v' (L ++ [y]) → Step w v w' v' → wpList P ops Q rest (a.put o.dst v') w') : wpList P ops Q (o :: rest) a w := by
  refine wpList_plain hgd fun K hK' => ?_
  obtain ⟨v', w', hrun, h1, h2⟩ := run_append_ls O h hb o.type y ad c hn hl hp
  unfold Oper.wp
  simp [execOp, ho, resolve, invoke, builtin, hv, hx, hrun, Result.andThen]
  exact hK' _ _ (hK v' w' h1 h2)
/-- The same as a step of a region that draws its order. -/
theorem step_append_ls (O : OneG P t e F.n bytes) {w : World} {ops : Array Oper} {o : Oper} {a : Act} {K : Act → World → Prop} {Q : Exit → Act → World → Prop} {E : Prop} (hgd : o.guard = none) (s x : Operand)
    (ho : o.op = .call { callee := .builtin .append, args := #[s, x], argTypes := #[t, t] })
    {base : Nat} {v : Value} {L : List α} (hv : a.eval s = v) (h : LS F w base v L) (hb : base ≤ w.heap.size) (y : α) (ad : Addr) (c : Nat) (hx : a.eval x = .slice (some ad) 1 c) (hn : ∀ j u, (F.cs y)[j]? = some u → w.cell? (ad.add j) = some u) (hl : (L.length + 1) * bytes ≤ 140737488355328) (hp : 0 < bytes)
    (hK : ∀ v' w', LS F w' base v' (L ++ [y]) → Step w v w' v' → K (a.put o.dst v') w') : if Region.wanted o (yielded ops a.tmps) = true then Oper.wp P o a w K Q else E := by
  rw [if_pos (by simp [Region.wanted, hgd])]
  obtain ⟨v', w', hrun, h1, h2⟩ := run_append_ls O h hb o.type y ad c hn hl hp
  unfold Oper.wp
  simp [execOp, ho, resolve, invoke, builtin, hv, hx, hrun, Result.andThen]
  exact hK v' w' h1 h2
end
end Go.Proofs.Ytpliidkfllacpaa.Shell
