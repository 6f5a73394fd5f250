/- What a script of a port's calls is in memory; a port beside the document's own list. -/
import Derived.Test.YtpliidkfllacpaaPortK
import Derived.Test.YtpliidkfllacpaaPortL
import Derived.Test.YtpliidkfllacpaaRowM
namespace Go.Proofs.Ytpliidkfllacpaa.PortW
open Go.ChangeShapes Go.WideShapes Go.ChangeAt Go.RowKit Shell
/-- The next one, its place, and what is left, class by class. -/
theorem nxt_re {L : List Da} {x : Da} {t : List Da} (h : R L ++ E L = x :: t) : ∃ i, nxt L = some i ∧ L[i]? = some x ∧ R (L.eraseIdx i) = tR (R L) ∧ E (L.eraseIdx i) = tE (R L) (E L) ∧ i < L.length := by
  obtain ⟨i, h1, h2, -, h4⟩ := nxt_ord (L := L) (show ord L = x :: t from h)
  cases hR : R L with
  | cons y r =>
    obtain ⟨j, g1, g2, g3, g4⟩ := fst_some hR
    have hj : nxt L = some j := by unfold nxt; rw [g1]
    rw [h1] at hj
    cases hj
    refine ⟨i, h1, h2, g3, ?_, h4⟩
    unfold tE
    rw [if_neg (List.cons_ne_nil y r)]
    exact g4
  | nil =>
    have hE := R_nil_all hR
    have hL : L = x :: t := by rw [hR, hE] at h; exact h
    have h0 : nxt L = some 0 := by
      unfold nxt
      rw [fst_none.2 hR]
      rw [hL]
      rfl
    rw [h1] at h0
    cases h0
    refine ⟨0, h1, h2, ?_, ?_, h4⟩
    · show R (L.eraseIdx 0) = [].tail
      rw [hL]
      show R t = []
      rw [hL, R_cons] at hR
      cases hr : rat x with
      | true => rw [hr] at hR; cases hR
      | false => rw [hr] at hR; exact hR
    · unfold tE
      rw [if_pos rfl, hE, hL]
      show E t = t
      rw [hL, R_cons] at hR
      cases hr : rat x with
      | true => rw [hr] at hR; cases hR
      | false => rw [hr] at hR; exact R_nil_all hR
theorem re_nil {L : List Da} (h : R L ++ E L = []) : L = [] := ord_nil.1 h
theorem nxI_of {L : List Da} {i : Nat} (h : nxt L = some i) : nxI L = (i : Int) := by unfold nxI; rw [h]
/-- A call of a script: its kind, its frame. -/
structure Op where
  k : Int
  x : Da
def opK : List Kd := [.num .i64, .num .i64, .num .i64, .num .i64, .str, .num .i64]
def toOp : List Value → Op
  | [.int _ k, .int _ c, .int _ l, .int _ n, .string p, .int _ s] => ⟨k, ⟨c, l, n, p, s⟩⟩
  | _ => ⟨0, zD⟩
/-- A script's calls in memory. -/
def OPS (w : World) (A : Option Addr) (os : List Op) : Prop := ∀ (k : Nat) (o : Op), os[k]? = some o → ∃ b off, A = some ⟨b, off, none⟩ ∧ b < w.heap.size ∧ o.x.p.size ≤ maxLen ∧
  w.cell? ⟨b, off + k * 6, none⟩ = some (.int .i64 o.k) ∧ w.cell? ⟨b, off + k * 6 + 1, none⟩ = some (.int .i64 o.x.c) ∧ w.cell? ⟨b, off + k * 6 + 2, none⟩ = some (.int .i64 o.x.l) ∧ w.cell? ⟨b, off + k * 6 + 3, none⟩ = some (.int .i64 o.x.n) ∧ w.cell? ⟨b, off + k * 6 + 4, none⟩ = some (.string o.x.p) ∧ w.cell? ⟨b, off + k * 6 + 5, none⟩ = some (.int .i64 o.x.s)
theorem OPS.below {w w1 : World} {A : Option Addr} {os : List Op} (h : OPS w A os) (b : Below w.heap.size w w1) : OPS w1 A os := by
  intro k o hk
  obtain ⟨g, off, hA, hg, hp, h0, h1, h2, h3, h4, h5⟩ := h k o hk
  exact ⟨g, off, hA, Nat.lt_of_lt_of_le hg b.size, hp, cell_keep h0 b, cell_keep h1 b, cell_keep h2 b, cell_keep h3 b, cell_keep h4 b, cell_keep h5 b⟩
theorem ops_of {w : World} {A : Option Addr} {rows : List (List Value)} (h : RM w opK A rows) : OPS w A (rows.map toOp) := by
  intro k o hk
  rw [List.getElem?_map, Option.map_eq_some_iff] at hk
  obtain ⟨xs, hx, rfl⟩ := hk
  obtain ⟨b, off, hA, hl, hc⟩ := h.cellAt (by decide) hx
  obtain ⟨v0, h0, ⟨k0, rfl, -⟩, c0⟩ := hc 0 _ rfl
  obtain ⟨v1, h1, ⟨k1, rfl, -⟩, c1⟩ := hc 1 _ rfl
  obtain ⟨v2, h2, ⟨k2, rfl, -⟩, c2⟩ := hc 2 _ rfl
  obtain ⟨v3, h3, ⟨k3, rfl, -⟩, c3⟩ := hc 3 _ rfl
  obtain ⟨v4, h4, ⟨k4, rfl, hs⟩, c4⟩ := hc 4 _ rfl
  obtain ⟨v5, h5, ⟨k5, rfl, -⟩, c5⟩ := hc 5 _ rfl
  have e : xs = [.int .i64 k0, .int .i64 k1, .int .i64 k2, .int .i64 k3, .string k4, .int .i64 k5] := by
    match xs, hl with
    | [a, b, c, d, e, f], _ =>
      simp only [List.getElem?_cons_zero, List.getElem?_cons_succ, Option.some.injEq] at h0 h1 h2 h3 h4 h5
      subst h0; subst h1; subst h2; subst h3; subst h4; subst h5
      rfl
  subst e
  exact ⟨b, off, hA, Lib.lt_of_cell c0, hs, c0, c1, c2, c3, c4, c5⟩
section
variable {H : Type} {enc : TypeId × Value → H}
theorem mixedD : Mixed Try.prog H enc 30 [.num .i64, .num .i64, .num .i64, .str, .num .i64] :=
  mixed_struct (kss := [[.num .i64], [.num .i64], [.num .i64], [.str], [.num .i64]]) Try.underlying30 (by decide) (fun i f q hf hq => by
    match i, hf, hq with
    | 0, hf, hq => cases hf; cases hq; exact ⟨rfl, by kernel_rfl, mixed_num Try.underlying3⟩
    | 1, hf, hq => cases hf; cases hq; exact ⟨rfl, by kernel_rfl, mixed_num Try.underlying3⟩
    | 2, hf, hq => cases hf; cases hq; exact ⟨rfl, by kernel_rfl, mixed_num Try.underlying3⟩
    | 3, hf, hq => cases hf; cases hq; exact ⟨rfl, by kernel_rfl, mixed_str Try.underlying9⟩
    | 4, hf, hq => cases hf; cases hq; exact ⟨rfl, by kernel_rfl, mixed_num Try.underlying3⟩)
theorem mixedO : Mixed Try.prog H enc 32 opK :=
  mixed_struct (kss := [[.num .i64], [.num .i64, .num .i64, .num .i64, .str, .num .i64]]) Try.underlying32 (by decide) (fun i f q hf hq => by
    match i, hf, hq with
    | 0, hf, hq => cases hf; cases hq; exact ⟨rfl, by kernel_rfl, mixed_num Try.underlying3⟩
    | 1, hf, hq => cases hf; cases hq; exact ⟨rfl, by kernel_rfl, mixedD⟩)
theorem open_ops {W : World} {r : Reach} {b0 : Nat} {v : Value} {d : DataW H} {ps : List MemPlace}
    (hval : Value.okWide Try.prog W r b0 22 v) (hd : DataW.Trod enc Try.prog W 0 (fun _ => true) true 22 v d ps) : ∃ (A : Option Addr) (os : List Op) (c : Nat), v = .slice A os.length c ∧ OPS W A os ∧ os.length ≤ maxLen ∧ os.length ≤ c ∧ (os = [] ∨ ∃ es sp, d = .slice es sp ∧ os.length = es.length) ∧ (A = none → c = 0) := by
  obtain ⟨A, rows, c, rfl, h1, h2, h3, h4, h5⟩ := open_rowsM (ks := opK) Try.underlying22 (by kernel_rfl) mixedO hval hd
  refine ⟨A, rows.map toOp, c, by rw [List.length_map], ops_of h1, by rw [List.length_map]; exact h2, by rw [List.length_map]; exact h3, ?_, h5⟩
  rcases h4 with rfl | ⟨es, sp, rfl, h⟩
  · exact Or.inl rfl
  · exact Or.inr ⟨es, sp, rfl, by rw [List.length_map]; exact h⟩
end
section
variable {PI : Nat → (Nat → Prop) → Nat → Nat → List Da → List Da → Nat → World → Prop}
/-- A port beside a row of frames of the call's own, and boxes. -/
structure ST (PI : Nat → (Nat → Prop) → Nat → Nat → List Da → List Da → Nat → World → Prop) (w0 : World) (X : Nat → Prop) (g m : Nat) (r e : List Da) (l : Nat) (v : Value) (T : List Da) (B : List (Nat × Obj)) (W : World) : Prop where
  p : PS PI w0 X g m r e l W
  o : OG FD W w0.heap.size 30 v T
  x : ∀ k, v.ownBlock = some k → ¬ X k
  bx : ∀ b ∈ B, W.heap[b.1]? = some b.2 ∧ ¬ X b.1 ∧ v.ownBlock ≠ some b.1
variable {w0 W W1 W2 : World} {X X' : Nat → Prop} {g m l l' j : Nat} {r e r' e' T T' : List Da} {v v' : Value} {B B' : List (Nat × Obj)} {ob : Obj}
theorem ST.next (S : Spec PI) (h : ST PI w0 X g m r e l v T B W) (b : Below W.heap.size W W1) : ST PI w0 X g m r e l v T B W1 :=
  ⟨h.p.next S b, h.o.below b, h.x, fun y hy => ⟨row_below b (h.bx y hy).1, (h.bx y hy).2⟩⟩
theorem ST.turn (S : Spec PI) (h : ST PI w0 X g m r e l v T B W) (q : PI w0.heap.size X' g m r' e' l' W1) (t : Turn X X' W W1) : ST PI w0 X' g m r' e' l' v T B W1 :=
  ⟨h.p.turn S q t, (t.row h.o h.x).1, (t.row h.o h.x).2, fun y hy => ⟨(t.bx (h.bx y hy).1 (h.bx y hy).2.1).1, (t.bx (h.bx y hy).1 (h.bx y hy).2.1).2, (h.bx y hy).2.2⟩⟩
theorem ST.box (S : Spec PI) (h : ST PI w0 X g m r e l v T B W) (ob : Obj) : ST PI w0 X g m r e l v T ((W.heap.size, ob) :: B) (W.alloc ob) := by
  have h1 := h.next S (al (Below.refl W.heap.size W) ob)
  refine ⟨h1.p, h1.o, h1.x, fun y hy => ?_⟩
  rcases List.mem_cons.1 hy with rfl | hy
  · refine ⟨heap_alloc_new _ _, fun hX => ?_, fun e => ?_⟩
    · exact h.p.new S (Nat.le_refl _) hX
    · exact absurd (h.o.lt _ e).2 (Nat.lt_irrefl _)
  · exact h1.bx y hy
theorem ST.at (h : ST PI w0 X g m r e l v T B W) (i : Nat) (hi : B[i]? = some (j, ob)) : W.heap[j]? = some ob := (h.bx (j, ob) (List.mem_of_getElem? hi)).1
theorem ST.sub (h : ST PI w0 X g m r e l v T B W) (hB : ∀ x ∈ B', x ∈ B) : ST PI w0 X g m r e l v T B' W := ⟨h.p, h.o, h.x, fun y hy => h.bx y (hB y hy)⟩
theorem ST.none (h : ST PI w0 X g m r e l v T B W) : ST PI w0 X g m r e l v T [] W := h.sub (fun x hx => by cases hx)
/-- The row has grown, or moved. -/
theorem ST.grow (S : Spec PI) (h : ST PI w0 X g m r e l v T B W) (o : OG FD W1 w0.heap.size 30 v' T') (s : Step W v W1 v') : ST PI w0 X g m r e l v' T' B W1 := by
  have hx : ∀ k, v'.ownBlock = some k → ¬ X k := fun k hk hX => by
    rcases s.m with h1 | ⟨i, h1, h2⟩
    · exact h.x k (h1 ▸ hk) hX
    · rw [h1] at hk
      cases hk
      have := (S.foot h.p.p _ hX).2
      omega
  have hk : ∀ i, i < W.heap.size → v.ownBlock ≠ some i → W1.heap[i]? = W.heap[i]? := fun i hi hn => s.g.block i hi (fun e => hn e.symm)
  refine ⟨⟨S.frame h.p.p s.g.size (fun i hi => hk i (S.foot h.p.p i hi).2 (fun e => h.x i e hi)), ?_⟩, o, hx, fun y hy => ?_⟩
  · refine ⟨s.g.os.trans h.p.b.os, s.g.tape.trans h.p.b.tape, s.g.output.trans h.p.b.output, Nat.le_trans h.p.b.size s.g.size, fun i hi => ?_⟩
    exact (hk i (Nat.lt_of_lt_of_le hi h.p.b.size) (fun e => by have := (h.o.lt i e).1; omega)).trans (h.p.b.block i hi)
  · obtain ⟨h1, h2, h3⟩ := h.bx y hy
    refine ⟨(hk y.1 (lt_of_heap h1) h3).trans h1, h2, fun e => ?_⟩
    rcases s.m with g1 | ⟨i, g1, g2⟩
    · exact h3 (g1 ▸ e)
    · rw [g1] at e
      cases e
      have := lt_of_heap h1
      omega
/-- Another row takes its place, that was just laid. -/
theorem ST.swap (S : Spec PI) (h : ST PI w0 X g m r e l v T B W) (b : Below W.heap.size W W1) (o : OG FD W1 W.heap.size 30 v' T') : ST PI w0 X g m r e l v' T' B W1 := by
  have h1 := h.next S b
  refine ⟨h1.p, o.base h.p.b.size, fun k hk hX => ?_, fun y hy => ⟨(h1.bx y hy).1, (h1.bx y hy).2.1, fun e => ?_⟩⟩
  · have := (o.lt k hk).1
    have := (S.foot h.p.p k hX).2
    omega
  · have := (o.lt _ e).1
    have := lt_of_heap (h.bx y hy).1
    omega
/-- A box of a frame written over. -/
theorem ST.put (S : Spec PI) {x y : Da} (h : ST PI w0 X g m r e l v T ((j, dbx y) :: B) W) (hj : w0.heap.size ≤ j) (hB : ∀ b ∈ B, b.1 ≠ j) : ST PI w0 X g m r e l v T ((j, dbx x) :: B) (st5 W j (.int .i64 x.c) (.int .i64 x.l) (.int .i64 x.n) (.string x.p) (.int .i64 x.s)) := by
  obtain ⟨h1, h2, h3⟩ := h.bx _ List.mem_cons_self
  have kp := kept5 W j (.int .i64 x.c) (.int .i64 x.l) (.int .i64 x.n) (.string x.p) (.int .i64 x.s)
  refine ⟨⟨S.frame h.p.p kp.size (fun i hi => kp.block i (fun e => h2 (e ▸ hi)) (S.foot h.p.p i hi).2), h.p.b.trans (kp.below hj h.p.b.size)⟩, h.o.kept kp h3, h.x, fun b hb => ?_⟩
  rcases List.mem_cons.1 hb with rfl | hb
  · exact ⟨put5 h1 _ _ _ _ _, h2, h3⟩
  · obtain ⟨g1, g2, g3⟩ := h.bx b (List.mem_cons_of_mem _ hb)
    exact ⟨(kp.block b.1 (hB b hb) (lt_of_heap g1)).trans g1, g2, g3⟩
/-- A port beside two rows of frames of the call's own, and boxes. -/
structure ST2 (PI : Nat → (Nat → Prop) → Nat → Nat → List Da → List Da → Nat → World → Prop) (w0 : World) (X : Nat → Prop) (g m : Nat) (r e : List Da) (l : Nat) (v : Value) (T : List Da) (u : Value) (U : List Da) (B : List (Nat × Obj)) (W : World) : Prop where
  s : ST PI w0 X g m r e l v T B W
  o : OG FD W w0.heap.size 30 u U
  x : ∀ k, u.ownBlock = some k → ¬ X k
  d : ∀ k, u.ownBlock = some k → v.ownBlock ≠ some k
  bd : ∀ b ∈ B, u.ownBlock ≠ some b.1
variable {u u' : Value} {U U' : List Da}
theorem ST2.next (S : Spec PI) (h : ST2 PI w0 X g m r e l v T u U B W) (b : Below W.heap.size W W1) : ST2 PI w0 X g m r e l v T u U B W1 :=
  ⟨h.s.next S b, h.o.below b, h.x, h.d, h.bd⟩
theorem ST2.turn (S : Spec PI) (h : ST2 PI w0 X g m r e l v T u U B W) (q : PI w0.heap.size X' g m r' e' l' W1) (t : Turn X X' W W1) : ST2 PI w0 X' g m r' e' l' v T u U B W1 :=
  ⟨h.s.turn S q t, (t.row h.o h.x).1, (t.row h.o h.x).2, h.d, h.bd⟩
theorem ST2.box (S : Spec PI) (h : ST2 PI w0 X g m r e l v T u U B W) (ob : Obj) : ST2 PI w0 X g m r e l v T u U ((W.heap.size, ob) :: B) (W.alloc ob) := by
  have h1 := h.next S (al (Below.refl W.heap.size W) ob)
  refine ⟨h.s.box S ob, h1.o, h.x, h.d, fun b hb e => ?_⟩
  rcases List.mem_cons.1 hb with rfl | hb
  · exact absurd (h.o.lt _ e).2 (Nat.lt_irrefl _)
  · exact h.bd b hb e
theorem ST2.start (h : ST PI w0 X g m r e l v T B W) : ST2 PI w0 X g m r e l v T (.slice none 0 0) [] B W :=
  ⟨h, OG.nil _ _ _, (fun k hk => by cases hk), (fun k hk => by cases hk), (fun b _ hk => by cases hk)⟩
theorem ST2.growU (S : Spec PI) (h : ST2 PI w0 X g m r e l v T u U B W) (o : OG FD W1 w0.heap.size 30 u' U') (s : Step W u W1 u') : ST2 PI w0 X g m r e l v T u' U' B W1 := by
  have hn : ∀ k, u'.ownBlock = some k → (¬ X k) ∧ v.ownBlock ≠ some k ∧ ∀ b ∈ B, b.1 ≠ k := fun k hk => by
    rcases s.m with h1 | ⟨i, h1, h2⟩
    · exact ⟨h.x k (h1 ▸ hk), h.d k (h1 ▸ hk), fun b hb e => h.bd b hb (by rw [← h1, hk, e])⟩
    · rw [h1] at hk
      cases hk
      refine ⟨fun hX => ?_, fun e => ?_, fun b hb e => ?_⟩
      · have := (S.foot h.s.p.p _ hX).2; omega
      · have := (h.s.o.lt _ e).2; omega
      · have := lt_of_heap (h.s.bx b hb).1; omega
  have hk : ∀ i, i < W.heap.size → u.ownBlock ≠ some i → W1.heap[i]? = W.heap[i]? := fun i hi hn => s.g.block i hi (fun e => hn e.symm)
  have hb : Below w0.heap.size w0 W1 := ⟨s.g.os.trans h.s.p.b.os, s.g.tape.trans h.s.p.b.tape, s.g.output.trans h.s.p.b.output, Nat.le_trans h.s.p.b.size s.g.size, fun i hi => (hk i (Nat.lt_of_lt_of_le hi h.s.p.b.size) (fun e => by have := (h.o.lt i e).1; omega)).trans (h.s.p.b.block i hi)⟩
  refine ⟨⟨⟨S.frame h.s.p.p s.g.size (fun i hi => hk i (S.foot h.s.p.p i hi).2 (fun e => h.x i e hi)), hb⟩, ?_, h.s.x, fun b hb => ?_⟩, o, fun k hk => (hn k hk).1, fun k hk => (hn k hk).2.1, fun b hb e => (hn _ e).2.2 b hb rfl⟩
  · exact h.s.o.block (fun k hv => hk k (h.s.o.lt k hv).2 (fun e => h.d k e hv))
  · obtain ⟨h1, h2, h3⟩ := h.s.bx b hb
    exact ⟨(hk b.1 (lt_of_heap h1) (h.bd b hb)).trans h1, h2, h3⟩
theorem ST2.grow (S : Spec PI) (h : ST2 PI w0 X g m r e l v T u U B W) (o : OG FD W1 w0.heap.size 30 v' T') (s : Step W v W1 v') : ST2 PI w0 X g m r e l v' T' u U B W1 :=
  ⟨h.s.grow S o s, h.o.block (fun k hk => s.g.block k (h.o.lt k hk).2 (fun e => h.d k hk e.symm)), h.x, fun k hk e => by
    rcases s.m with h1 | ⟨i, h1, h2⟩
    · exact h.d k hk (h1 ▸ e)
    · rw [h1] at e
      cases e
      have := (h.o.lt _ hk).2
      omega, h.bd⟩
theorem ST2.swap (S : Spec PI) (h : ST2 PI w0 X g m r e l v T u U B W) (b : Below W.heap.size W W1) (o : OG FD W1 W.heap.size 30 v' T') : ST2 PI w0 X g m r e l v' T' u U B W1 :=
  ⟨h.s.swap S b o, h.o.below b, h.x, fun k hk e => by
    have := (o.lt k e).1
    have := (h.o.lt k hk).2
    omega, h.bd⟩
theorem ST2.sub (h : ST2 PI w0 X g m r e l v T u U B W) (hB : ∀ x ∈ B', x ∈ B) : ST2 PI w0 X g m r e l v T u U B' W := ⟨h.s.sub hB, h.o, h.x, h.d, fun b hb => h.bd b (hB b hb)⟩
end
end Go.Proofs.Ytpliidkfllacpaa.PortW
