/- Rows of frames that came, in memory. -/
import Derived.Test.YtpjaijibkjmgiaaCompA
import Derived.Laws.AppendOwn
import Derived.Laws.OwnMore
import Derived.OwnWalk
namespace Go.Proofs.Ytpjaijibkjmgiaa.CompW
open Go.RowKit Shell
open FrameW (CV rightC)
def cs6 (x : Fr) : List Value := [.int .i64 x.t, .int .i64 1, .int .i64 (x.f : Int), .int .i64 x.y, .int .u32 x.c, .int .i64 x.l]
def fl6 : List Fr → List Value
  | [] => []
  | x :: L => cs6 x ++ fl6 L
theorem fl6_len : ∀ L, (fl6 L).length = L.length * 6
  | [] => rfl
  | x :: L => by simp only [fl6, List.length_append, fl6_len L, List.length_cons]; simp only [cs6, List.length_cons, List.length_nil]; omega
theorem fl6_app : ∀ L M, fl6 (L ++ M) = fl6 L ++ fl6 M
  | [], _ => rfl
  | x :: L, M => by simp only [List.cons_append, fl6, fl6_app L M, List.append_assoc]
theorem fl6_at : ∀ (L : List Fr) (i c : Nat) (x : Fr), L[i]? = some x → c < 6 → (fl6 L)[i * 6 + c]? = (cs6 x)[c]?
  | y :: L, 0, c, x, h, hc => by
    simp only [List.getElem?_cons_zero, Option.some.injEq] at h
    subst h
    rw [fl6, Nat.zero_mul, Nat.zero_add, List.getElem?_append_left (by simp only [cs6, List.length_cons, List.length_nil]; omega)]
  | y :: L, i + 1, c, x, h, hc => by
    simp only [List.getElem?_cons_succ] at h
    rw [fl6, List.getElem?_append_right (by simp only [cs6, List.length_cons, List.length_nil]; omega)]
    rw [show (i + 1) * 6 + c - (cs6 y).length = i * 6 + c by simp only [cs6, List.length_cons, List.length_nil]; omega]
    exact fl6_at L i c x h hc
/-- The six cells of a frame that came at a place. -/
def At6 (w : World) (g o : Nat) (x : Fr) : Prop :=
  w.cell? ⟨g, o, none⟩ = some (.int .i64 x.t) ∧ w.cell? ⟨g, o + 1, none⟩ = some (.int .i64 1) ∧ w.cell? ⟨g, o + 2, none⟩ = some (.int .i64 (x.f : Int)) ∧ w.cell? ⟨g, o + 3, none⟩ = some (.int .i64 x.y) ∧ w.cell? ⟨g, o + 4, none⟩ = some (.int .u32 x.c) ∧ w.cell? ⟨g, o + 5, none⟩ = some (.int .i64 x.l)
/-- A slice's cells are these frame that cames. -/
def HL (w : World) (A : Option Addr) (L : List Fr) : Prop := L = [] ∨ ∃ g off, A = some ⟨g, off, none⟩ ∧ g < w.heap.size ∧ ∀ (k : Nat) (x : Fr), L[k]? = some x → At6 w g (off + k * 6) x
theorem At6.block {w w1 : World} {g o : Nat} {x : Fr} (h : At6 w g o x) (b : w1.heap[g]? = w.heap[g]?) : At6 w1 g o x := by
  obtain ⟨h0, h1, h2, h3, h4, h5⟩ := h
  exact ⟨(World.cell?_of_block b).trans h0, (World.cell?_of_block b).trans h1, (World.cell?_of_block b).trans h2, (World.cell?_of_block b).trans h3, (World.cell?_of_block b).trans h4, (World.cell?_of_block b).trans h5⟩
theorem HL.block {w w1 : World} {A : Option Addr} {L : List Fr} (h : HL w A L) (hs : w.heap.size ≤ w1.heap.size) (b : ∀ a, A = some a → w1.heap[a.block]? = w.heap[a.block]?) : HL w1 A L := by
  rcases h with h | ⟨g, off, rfl, hg, h⟩
  · exact Or.inl h
  · exact Or.inr ⟨g, off, rfl, by omega, fun k x hk => (h k x hk).block (b _ rfl)⟩
theorem HL.below {w w1 : World} {A : Option Addr} {L : List Fr} (h : HL w A L) (b : Below w.heap.size w w1) : HL w1 A L := by
  rcases h with h | ⟨g, off, rfl, hg, h⟩
  · exact Or.inl h
  · exact Or.inr ⟨g, off, rfl, Nat.lt_of_lt_of_le hg b.size, fun k x hk => (h k x hk).block (b.block g hg)⟩
theorem HL.tail {w : World} {A : Option Addr} {x : Fr} {L : List Fr} (h : HL w A (x :: L)) : ∃ g off, A = some ⟨g, off, none⟩ ∧ g < w.heap.size ∧ At6 w g off x ∧ HL w (some ⟨g, off + 6, none⟩) L := by
  rcases h with h | ⟨g, off, rfl, hg, h⟩
  · cases h
  · refine ⟨g, off, rfl, hg, ?_, Or.inr ⟨g, off + 6, rfl, hg, fun k y hk => ?_⟩⟩
    · have := h 0 x rfl
      rwa [Nat.zero_mul, Nat.add_zero] at this
    · have := h (k + 1) y hk
      rwa [show off + (k + 1) * 6 = off + 6 + k * 6 by omega] at this
/-- A row of frame that cames that the call owns. -/
def OL (w : World) (base : Nat) (v : Value) (L : List Fr) : Prop := w.ownsRow base 43 6 v L.length (fl6 L)
theorem OL.form {w : World} {base : Nat} {v : Value} {L : List Fr} (h : OL w base v L) : ∃ A c, v = .slice A L.length c ∧ HL w A L ∧ (∀ a, A = some a → base ≤ a.block ∧ a.block < w.heap.size) ∧ L.length ≤ c := by
  rcases h.2 with ⟨rfl, h2⟩ | ⟨g, cap, cur, rfl, hb, hg, hr⟩
  · have : L = [] := List.eq_nil_of_length_eq_zero h2
    subst this
    exact ⟨none, 0, rfl, Or.inl rfl, fun a ha => (by cases ha), Nat.le_refl _⟩
  · refine ⟨_, cap, rfl, Or.inr ⟨g, 0, rfl, lt_of_heap hg, fun k x hk => ?_⟩, fun a ha => ?_, hr.1⟩
    · have c := World.ownsRow.cells h (g := g) rfl
      have e : ∀ j, (⟨g, 0, none⟩ : Addr).add j = ⟨g, j, none⟩ := fun j => by unfold Addr.add; split <;> simp_all
      have f := fun c hc => fl6_at L k c x hk hc
      have z : ∀ j u, j < 6 → (cs6 x)[j]? = some u → w.cell? ⟨g, 0 + k * 6 + j, none⟩ = some u := fun j u hc hu => by
        have := c (k * 6 + j) u ((f j hc).trans hu)
        rw [e] at this
        rwa [Nat.zero_add]
      exact ⟨z 0 _ (by omega) rfl, z 1 _ (by omega) rfl, z 2 _ (by omega) rfl, z 3 _ (by omega) rfl, z 4 _ (by omega) rfl, z 5 _ (by omega) rfl⟩
    · injection ha with ha
      subst ha
      exact ⟨hb, lt_of_heap hg⟩
theorem info6 : (Try.prog.info? 43).map (fun i => (i.zero.map (fun z => z.cells.size), i.size, i.bytes)) = some (some 6, 6, 48) := by kernel_rfl
theorem info6_parts : ∃ (i : TypeInfo) (z : Value), Try.prog.info? 43 = some i ∧ i.zero = some z ∧ i.size = 6 ∧ i.bytes = 48 ∧ z.cells.size = 6 := by
  have h := info6
  revert h
  cases Try.prog.info? 43 with
  | none => intro h; cases h
  | some i =>
    intro h
    simp only [Option.map_some, Option.some.injEq, Prod.mk.injEq] at h
    obtain ⟨h1, h2, h3⟩ := h
    cases hz : i.zero with
    | none => rw [hz] at h1; cases h1
    | some z =>
      rw [hz] at h1
      simp only [Option.map_some, Option.some.injEq] at h1
      exact ⟨i, z, rfl, hz, h2, h3, h1⟩
theorem OL.below {w w1 : World} {base : Nat} {v : Value} {L : List Fr} (h : OL w base v L) (b : Below w.heap.size w w1) : OL w1 base v L :=
  World.ownsRow.kept h (row := none) ⟨b.os, b.tape, b.output, b.size, fun k hk _ => b.block k hk⟩ (by
    cases hv : v.ownBlock with
    | none => exact Or.inl rfl
    | some k => exact Or.inr (by simp))
theorem OL.lt {w : World} {base : Nat} {v : Value} {L : List Fr} (h : OL w base v L) : ∀ k, v.ownBlock = some k → base ≤ k ∧ k < w.heap.size := World.ownsRow.lt h
theorem OL.nil (w : World) (base : Nat) : OL w base (.slice none 0 0) [] := World.ownsRow_nil _ _ _ _
theorem OL.turn {w w1 : World} {base : Nat} {v : Value} {L : List Fr} {g : Nat} (h : OL w base v L) (k : Kept g w w1) (hv : v.ownBlock ≠ some g) : OL w1 base v L := by
  rcases h.2 with e | ⟨i, cap, cur, e, hb, hg, hr⟩
  · exact ⟨h.1, Or.inl e⟩
  · refine ⟨h.1, Or.inr ⟨i, cap, cur, e, hb, ?_, hr⟩⟩
    have hi : i ≠ g := fun e2 => hv (by rw [e, ← e2]; rfl)
    exact (k.block i hi (lt_of_heap hg)).trans hg
/-- A row of frames that came, where it lies. -/
structure Six (w : World) (g off : Nat) (L : List Fr) : Prop where
  lt : g < w.heap.size
  at6 : ∀ (k : Nat) (z : Fr), L[k]? = some z → At6 w g (off + k * 6) z
theorem HL.six {w : World} {A : Option Addr} {x : Fr} {S : List Fr} (h : HL w A (x :: S)) : ∃ g off, A = some ⟨g, off, none⟩ ∧ Six w g off (x :: S) := by
  rcases h with h | ⟨g, off, rfl, hg, h⟩
  · cases h
  · exact ⟨g, off, rfl, hg, h⟩
theorem Six.below {w w1 : World} {g off : Nat} {L : List Fr} (h : Six w g off L) (b : Below w.heap.size w w1) : Six w1 g off L :=
  ⟨Nat.lt_of_lt_of_le h.lt b.size, fun k z hk => (h.at6 k z hk).block (b.block g h.lt)⟩
theorem Six.first {w : World} {g off : Nat} {x : Fr} {L : List Fr} (h : Six w g off (x :: L)) : At6 w g off x := by
  have := h.at6 0 x rfl
  rwa [Nat.zero_mul, Nat.add_zero] at this
theorem fl6_one (x : Fr) : fl6 [x] = cs6 x := by simp [fl6]
theorem cs6_one (x : Fr) : ∀ u ∈ cs6 x, u.oneCell' = true := by
  intro u hu
  simp only [cs6, List.mem_cons, List.not_mem_nil, or_false] at hu
  rcases hu with rfl | rfl | rfl | rfl | rfl | rfl <;> rfl
/-- One frame more behind a row that the call owns. -/
theorem wpList_append_ol {ops : Array Oper} {rest : List Oper} {o : Oper} {a : Act} {Q : Exit → Act → World → Prop} (w : World) (hgd : o.guard = none) (s x : Operand)
    (ho : o.op = .call { callee := .builtin .append, args := #[s, x], argTypes := #[28, 28] })
    (base : Nat) (v : Value) (L : List Fr) (hs : a.eval s = v) (hown : OL w base v L) (g : Nat) (z : Fr) (t : TypeId) (hx : a.eval x = .slice (some ⟨g, 0, none⟩) 1 1) (hg : w.heap[g]? = some (.cells (cs6 z).toArray t (0, 0)))
    (hl : L.length ≤ 1000) (hbase : base ≤ w.heap.size)
    (h : ∀ v' w', OL w' base v' (L ++ [z]) → Step w v w' v' → wpList Try.prog ops Q rest (a.put o.dst v') w') : wpList Try.prog ops Q (o :: rest) a w := by
  obtain ⟨i, z0, hi, hz, hsz, hby, hzs⟩ := info6_parts
  obtain ⟨v', w', hr, h2, h3, h4⟩ := run_append_moved (P := Try.prog) w base 28 o.type 43 i z0 6 48 Try.underlying28 hi hz hsz hby hzs (by decide) v L.length (fl6 L) hown ⟨g, 0, none⟩ 1 1 (cs6 z) rfl
    (fun j u hj => by
      have hjl : j < 6 := lt_of_get hj
      have ha : (⟨g, 0, none⟩ : Addr).add j = ⟨g, j, none⟩ := by unfold Addr.add; split <;> simp_all
      rw [ha]
      unfold World.cell?
      rw [hg]
      simpa using hj) (cs6_one z) (by simp only [maxLen]; omega) (by omega) hbase
  refine wpList_plain hgd fun _ hK => ?_
  unfold Oper.wp execOp
  simp only [ho, resolve, invoke, builtin, Sem.run_bind, Sem.run_pure, Result.andThen_ok, List.map_toArray, List.map_cons, List.map_nil, hs, hx, hr]
  refine hK _ _ (h v' w' ?_ ⟨h3, h4⟩)
  show w'.ownsRow base 43 6 v' (L ++ [z]).length (fl6 (L ++ [z]))
  rw [List.length_append, fl6_app, fl6_one]
  exact h2
end Go.Proofs.Ytpjaijibkjmgiaa.CompW
