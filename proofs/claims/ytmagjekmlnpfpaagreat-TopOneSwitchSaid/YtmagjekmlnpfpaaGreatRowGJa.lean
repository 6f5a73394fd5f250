/- Rows of structs, whatever their cells: in memory, of one's own; append to them, in a line and as a step of a region that draws its order. All programs at once. -/
import Derived.Test.YtmagjekmlnpfpaaGreatRow1
import Derived.Test.YtmagjekmlnpfpaaGreatSmall
import Derived.Deep.AppendLies
import Derived.Deep.RegionLaw
import Derived.Test.YtmagjekmlnpfpaaGreatProg
namespace Go.Proofs.YtmagjekmlnpfpaaGreat.Shell
open Go.ChangeShapes Go.WideShapes Go.ChangeAt Go.RowKit
/-- What an element's cells are. -/
structure Flat (α : Type) where
  n : Nat
  cs : α → List Value
  len : ∀ x, (cs x).length = n
  one : ∀ x, ∀ u ∈ cs x, u.oneCell' = true
  pos : 0 < n
section
variable {α : Type} (F : Flat α)
def Flat.fl : List α → List Value
  | [] => []
  | x :: L => F.cs x ++ Flat.fl L
theorem fl_len : ∀ L : List α, (F.fl L).length = L.length * F.n
  | [] => by simp [Flat.fl]
  | x :: L => by rw [Flat.fl, List.length_append, fl_len L, F.len, List.length_cons, Nat.add_mul, Nat.one_mul, Nat.add_comm]
theorem fl_app : ∀ L M : List α, F.fl (L ++ M) = F.fl L ++ F.fl M
  | [], _ => rfl
  | x :: L, M => by rw [List.cons_append, Flat.fl, Flat.fl, fl_app L M, List.append_assoc]
theorem fl_at : ∀ (L : List α) (i c : Nat) (x : α), L[i]? = some x → c < F.n → (F.fl L)[i * F.n + c]? = (F.cs x)[c]?
  | y :: L, 0, c, x, h, hc => by
    simp only [List.getElem?_cons_zero, Option.some.injEq] at h
    subst h
    rw [Flat.fl, Nat.zero_mul, Nat.zero_add, List.getElem?_append_left (by rw [F.len]; exact hc)]
  | y :: L, i + 1, c, x, h, hc => by
    simp only [List.getElem?_cons_succ] at h
    have e : (i + 1) * F.n + c = i * F.n + c + F.n := by rw [Nat.add_mul, Nat.one_mul]; omega
    rw [Flat.fl, List.getElem?_append_right (by rw [F.len]; omega), F.len, e, Nat.add_sub_cancel]
    exact fl_at L i c x h hc
theorem fl_one : ∀ (L : List α), ∀ u ∈ F.fl L, u.oneCell' = true
  | [], u, h => by cases h
  | x :: L, u, h => by
    rcases List.mem_append.1 h with h | h
    · exact F.one x u h
    · exact fl_one L u h
/-- A place in the flat row: of which element, and which of its cells. -/
theorem fl_place {L : List α} {j : Nat} {u : Value} (h : (F.fl L)[j]? = some u) : ∃ i c x, j = i * F.n + c ∧ c < F.n ∧ L[i]? = some x ∧ (F.cs x)[c]? = some u := by
  have hj := lt_of_get h
  rw [fl_len] at hj
  have hm := Nat.mod_lt j F.pos
  have hd : j = j / F.n * F.n + j % F.n := by rw [Nat.mul_comm]; exact (Nat.div_add_mod j F.n).symm
  have hi : j / F.n < L.length := Nat.div_lt_of_lt_mul (by rw [Nat.mul_comm]; exact hj)
  refine ⟨j / F.n, j % F.n, L[j / F.n], hd, hm, List.getElem?_eq_getElem hi, ?_⟩
  rw [← fl_at F L (j / F.n) (j % F.n) _ (List.getElem?_eq_getElem hi) hm, ← hd]
  exact h
/-- A slice's cells are these structs. -/
def SG (w : World) (A : Option Addr) (L : List α) : Prop :=
  ∀ (k : Nat) (x : α), L[k]? = some x → ∃ b off, A = some ⟨b, off, none⟩ ∧ b < w.heap.size ∧ ∀ (c : Nat) (u : Value), (F.cs x)[c]? = some u → w.cell? ⟨b, off + k * F.n + c, none⟩ = some u
variable {F}
theorem SG.below {w w1 : World} {A : Option Addr} {L : List α} (h : SG F w A L) (b : Below w.heap.size w w1) : SG F w1 A L := by
  intro k x hk
  obtain ⟨g, off, hA, hg, hc⟩ := h k x hk
  exact ⟨g, off, hA, Nat.lt_of_lt_of_le hg b.size, fun c u hu => cell_keep (hc c u hu) b⟩
theorem SG.empty (w : World) (A : Option Addr) : SG F w A [] := fun k x h => by simp at h
theorem SG.nil {w : World} {L : List α} (h : SG F w none L) : L = [] := by
  rcases L with _ | ⟨x, L⟩
  · rfl
  · obtain ⟨_, _, hA, _⟩ := h 0 x rfl
    cases hA
theorem SG.some {w : World} {A : Option Addr} {L : List α} (h : SG F w A L) (hl : 0 < L.length) : ∃ b off, A = some ⟨b, off, none⟩ ∧ b < w.heap.size := by
  obtain ⟨b, off, hA, hb, -⟩ := h 0 L[0] (List.getElem?_eq_getElem hl)
  exact ⟨b, off, hA, hb⟩
theorem SG.drop {w : World} {b off : Nat} {L : List α} (h : SG F w (Option.some ⟨b, off, none⟩) L) (p : Nat) : SG F w (Option.some ⟨b, off + p * F.n, none⟩) (L.drop p) := by
  intro k x hk
  rw [List.getElem?_drop] at hk
  obtain ⟨b', off', hA, hb, hc⟩ := h (p + k) x hk
  cases hA
  refine ⟨b, _, rfl, hb, fun c u hu => ?_⟩
  have := hc c u hu
  rwa [Nat.add_mul, ← Nat.add_assoc] at this
theorem SG.take {w : World} {A : Option Addr} {L : List α} (h : SG F w A L) (n : Nat) : SG F w A (L.take n) := by
  intro k x hk
  rw [List.getElem?_take] at hk
  split at hk
  · exact h k x hk
  · cases hk
theorem SG.step {w w' : World} {v v' : Value} {A : Option Addr} {L : List α} (h : SG F w A L) (s : Step w v w' v') (f : ∀ a, A = Option.some a → Option.some a.block ≠ v.ownBlock) : SG F w' A L := by
  intro k x hk
  obtain ⟨b, off, hA, hb, hc⟩ := h k x hk
  refine ⟨b, off, hA, Nat.lt_of_lt_of_le hb s.g.size, fun c u hu => s.g.cell (hc c u hu) (show Option.some b ≠ v.ownBlock from f _ hA)⟩
/-- The cells of a slice, one after another. -/
theorem SG.news {w : World} {b off : Nat} {L : List α} (h : SG F w (Option.some ⟨b, off, none⟩) L) : ∀ (j : Nat) (u : Value), (F.fl L)[j]? = Option.some u → w.cell? ((⟨b, off, none⟩ : Addr).add j) = Option.some u := by
  intro j u hj
  obtain ⟨i, c, x, rfl, hc, hx, hu⟩ := fl_place F hj
  obtain ⟨b', off', hA, -, hcell⟩ := h i x hx
  cases hA
  have e : (⟨b, off, none⟩ : Addr).add (i * F.n + c) = ⟨b, off + i * F.n + c, none⟩ := by unfold Addr.add; split <;> simp_all; omega
  rw [e]
  exact hcell c u hu
/-- A block that holds a row. -/
theorem SG.row {w : World} {g : Nat} {L : List α} {t : TypeId} {fr : Nat × Nat} (h : w.heap[g]? = Option.some (.cells (F.fl L).toArray t fr)) : SG F w (Option.some ⟨g, 0, none⟩) L := by
  intro k x hk
  refine ⟨g, 0, rfl, lt_of_heap h, fun c u hu => ?_⟩
  rw [Nat.zero_add, cell_of_row w g _ _ t fr h]
  have hc : c < F.n := by rw [← F.len x]; exact lt_of_get hu
  rw [← hu, ← fl_at F L k c x hk hc]
  simp
theorem SG.one {w : World} {g : Nat} {x : α} {t : TypeId} {fr : Nat × Nat} (h : w.heap[g]? = Option.some (.cells (F.cs x).toArray t fr)) : SG F w (Option.some ⟨g, 0, none⟩) [x] :=
  SG.row (fr := fr) (t := t) (by rw [h]; simp [Flat.fl])
/-- A row of structs of our own. -/
def OG (F : Flat α) (w : World) (base : Nat) (e : TypeId) (v : Value) (L : List α) : Prop := w.ownsRow base e F.n v L.length (F.fl L)
theorem OG.nil (w : World) (base : Nat) (e : TypeId) : OG F w base e (.slice none 0 0) [] := World.ownsRow_nil _ _ _ _
theorem OG.form {w : World} {base : Nat} {e : TypeId} {v : Value} {L : List α} (h : OG F w base e v L) : ∃ A c, v = .slice A L.length c ∧ SG F w A L ∧ L.length ≤ c ∧ (A = none → c = 0) ∧ (∀ a, A = Option.some a → a.off = 0 ∧ a.spot = none ∧ base ≤ a.block ∧ a.block < w.heap.size) := by
  rcases h.2 with ⟨hv, h0⟩ | ⟨g, cap, cur, hv, hb, hg, h5, h6, h7, htake⟩
  · have hd : L = [] := List.eq_nil_of_length_eq_zero h0
    subst hd
    exact ⟨_, 0, hv, SG.empty _ _, Nat.le_refl _, fun _ => rfl, fun a ha => by cases ha⟩
  · have c := World.ownsRow.cells h (g := g) (by rw [hv]; rfl)
    refine ⟨_, cap, hv, fun k x hk => ⟨g, 0, rfl, lt_of_heap hg, fun i u hu => ?_⟩, h5, (fun h => by cases h), fun a ha => ?_⟩
    · have hi : i < F.n := by rw [← F.len x]; exact lt_of_get hu
      have := c (k * F.n + i) u (by rw [fl_at F L k i x hk hi]; exact hu)
      have e : (⟨g, 0, none⟩ : Addr).add (k * F.n + i) = ⟨g, 0 + k * F.n + i, none⟩ := by unfold Addr.add; split <;> simp_all
      rwa [e] at this
    · cases ha
      exact ⟨rfl, rfl, hb, lt_of_heap hg⟩
theorem OG.lt {w : World} {base : Nat} {e : TypeId} {v : Value} {L : List α} (h : OG F w base e v L) : ∀ k, v.ownBlock = some k → base ≤ k ∧ k < w.heap.size := World.ownsRow.lt h
theorem OG.alloc {w : World} {base : Nat} {e : TypeId} {v : Value} {L : List α} (h : OG F w base e v L) (o : Obj) : OG F (w.alloc o) base e v L := World.ownsRow.alloc h o
theorem OG.drew {w : World} {base : Nat} {e : TypeId} {v : Value} {L : List α} (h : OG F w base e v L) : OG F w.drew base e v L := World.ownsRow.drew h
theorem OG.block {w w1 : World} {base : Nat} {e : TypeId} {v : Value} {L : List α} (h : OG F w base e v L) (b : ∀ k, v.ownBlock = some k → w1.heap[k]? = w.heap[k]?) : OG F w1 base e v L := by
  refine ⟨h.1, ?_⟩
  rcases h.2 with h1 | ⟨g, cap, cur, rfl, h2, h3, h4⟩
  · exact Or.inl h1
  · exact Or.inr ⟨g, cap, cur, rfl, h2, (b g rfl).trans h3, h4⟩
theorem OG.below {w w1 : World} {base : Nat} {e : TypeId} {v : Value} {L : List α} (h : OG F w base e v L) (b : Below w.heap.size w w1) : OG F w1 base e v L := h.block (fun k hk => b.block k (h.lt k hk).2)
theorem OG.kept {w w1 : World} {base k : Nat} {e : TypeId} {v : Value} {L : List α} (h : OG F w base e v L) (kp : Kept k w w1) (hk : v.ownBlock ≠ some k) : OG F w1 base e v L :=
  h.block (fun j hj => kp.block j (fun e => hk (by rw [← e]; exact hj)) (h.lt j hj).2)
theorem OG.base {w : World} {base b1 : Nat} {e : TypeId} {v : Value} {L : List α} (h : OG F w base e v L) (hb : b1 ≤ base) : OG F w b1 e v L := by
  refine ⟨h.1, ?_⟩
  rcases h.2 with h1 | ⟨g, cap, cur, h1, h2, h3⟩
  · exact Or.inl h1
  · exact Or.inr ⟨g, cap, cur, h1, Nat.le_trans hb h2, h3⟩
theorem OG.row {w : World} {base g : Nat} {e : TypeId} {L : List α} (h : w.heap[g]? = some (.cells (F.fl L).toArray e (0, 0))) (hb : base ≤ g) (hl : L.length ≤ maxLen) : OG F w base e (.slice (some ⟨g, 0, none⟩) L.length L.length) L := by
  refine ⟨by rw [fl_len], Or.inr ⟨g, L.length, _, rfl, hb, h, Nat.le_refl _, hl, ?_, ?_⟩⟩
  · simp [fl_len]
  · rw [List.take_of_length_le (by simp [fl_len])]
theorem OG.stay {w0 w w1 : World} {LL : List (Nat × Obj)} {base : Nat} {e : TypeId} {v v' : Value} {L : List α} (S : Stay w0 LL w) (h : OG F w base e v L) (s : Step w v w1 v') (hb : w0.heap.size ≤ base) (hL : ∀ x ∈ LL, v.ownBlock ≠ some x.1) : Stay w0 LL w1 :=
  ⟨S.b.grown s.g S.b.size (fun k hk => Nat.le_trans hb (h.lt k hk).1), fun x hx => (s.g.block _ (lt_of_heap (S.h x hx)) (fun e => hL x hx e.symm)).trans (S.h x hx)⟩
theorem Step.belowG {w w' : World} {v v' : Value} {base : Nat} {e : TypeId} {L : List α} (h : Step w v w' v') (o : OG F w base e v L) (hb : base ≤ w.heap.size) : Below base w w' :=
  ⟨h.g.os, h.g.tape, h.g.output, h.g.size, fun k hk => h.g.block k (by omega) (fun e => by have := (o.lt k e.symm).1; omega)⟩
end
/-- An element's look: so many cells, so many bytes. -/
structure OneG (P : Program) (t e : TypeId) (n bytes : Nat) : Prop where
  u : P.underlying t = some (.slice e)
  i : ∃ (i0 : TypeInfo) (z : Value), P.info? e = some i0 ∧ i0.zero = some z ∧ i0.size = n ∧ i0.bytes = bytes ∧ z.cells.size = n
theorem oneG_of {P : Program} {t e : TypeId} {n bytes : Nat} (u : P.underlying t = some (.slice e)) (h : (P.info? e).map (fun i => (i.zero.map (fun z => z.cells.size), i.size, i.bytes)) = some (some n, n, bytes)) : OneG P t e n bytes := by
  refine ⟨u, ?_⟩
  revert h
  cases P.info? e with
  | none => intro h; cases h
  | some i =>
    intro h
    simp only [Option.map_some, Option.some.injEq, Prod.mk.injEq, Option.map_eq_some_iff] at h
    obtain ⟨⟨z, hz, hs⟩, h2, h3⟩ := h
    exact ⟨i, z, rfl, hz, h2, h3, hs⟩
section
variable {P : Program} {α : Type} {F : Flat α} {t e : TypeId} {bytes : Nat}
/-- append to a row of our own; what is appended may be nil. -/
theorem wpList_append_og (O : OneG P t e F.n bytes) (w : World) {ops : Array Oper} {rest : List Oper} {o : Oper} {a : Act} {Q : Exit → Act → World → Prop} (hgd : o.guard = none) (s x : Operand)
    (ho : o.op = .call { callee := .builtin .append, args := #[s, x], argTypes := #[t, t] })
    (base : Nat) (v : Value) (L : List α) (hs : a.eval s = v) (hown : OG F w base e v L)
    (A : Option Addr) (m c : Nat) (M : List α) (hx : a.eval x = .slice A m c) (hl : M.length = m) (hb : SG F w A M) (hn : A = none → c = 0) (hA : ∀ ad, A = some ad → ad.spot = none)
    (h63 : (L.length + m) * bytes ≤ 140737488355328) (hp : 0 < bytes) (hbase : base ≤ w.heap.size)
    (h : ∀ v' w', OG F w' base e v' (L ++ M) → Step w v w' v' → wpList P ops Q rest (a.put o.dst v') w') : wpList P ops Q (o :: rest) a w := by
  obtain ⟨i0, z0, hi, hz0, hz1, hz2, hz3⟩ := O.i
  have hle : L.length + m ≤ (L.length + m) * bytes := Nat.le_mul_of_pos_right _ hp
  cases A with
  | some ad =>
    obtain ⟨b, off, spot⟩ := ad
    obtain rfl : spot = none := hA _ rfl
    obtain ⟨v', w', hr, h2, h3, h4⟩ := run_append_moved (P := P) w base t o.type e i0 z0 F.n bytes O.u hi hz0 hz1 hz2 hz3 F.pos v L.length (F.fl L) hown ⟨b, off, none⟩ m c (F.fl M) (by rw [fl_len, hl])
      hb.news (fl_one F M) (by simp only [maxLen]; omega) h63 hbase
    refine wpList_plain hgd fun _ hK => ?_
    unfold Oper.wp execOp
    simp only [ho, resolve, invoke, builtin, Sem.run_bind, Sem.run_pure, Result.andThen_ok, List.map_toArray, List.map_cons, List.map_nil, hs, hx, hr]
    refine hK _ _ (h v' w' ?_ ⟨h3, h4⟩)
    unfold OG
    rw [List.length_append, hl, fl_app]
    exact h2
  | none =>
    obtain rfl := hb.nil
    have hm : m = 0 := hl.symm
    have hc := hn rfl
    subst hm; subst hc
    exact wpList_append_own_none hgd s x t ho base e i0 F.n O.u hi v L.length (F.fl L) hs hown hx (h v w (by rw [List.append_nil]; exact hown) (Step.refl w v))
/-- append of one struct that was just built. -/
theorem wpList_append_one (O : OneG P t e F.n bytes) (w : World) {ops : Array Oper} {rest : List Oper} {o : Oper} {a : Act} {Q : Exit → Act → World → Prop} (hgd : o.guard = none) (s x : Operand)
    (ho : o.op = .call { callee := .builtin .append, args := #[s, x], argTypes := #[t, t] })
    (base : Nat) (v : Value) (L : List α) (hs : a.eval s = v) (hown : OG F w base e v L)
    (z : α) (g : Nat) (hx : a.eval x = .slice (some ⟨g, 0, none⟩) 1 1) (hg : w.heap[g]? = some (.cells (F.cs z).toArray e (0, 0)))
    (h63 : (L.length + 1) * bytes ≤ 140737488355328) (hp : 0 < bytes) (hbase : base ≤ w.heap.size)
    (h : ∀ v' w', OG F w' base e v' (L ++ [z]) → Step w v w' v' → wpList P ops Q rest (a.put o.dst v') w') : wpList P ops Q (o :: rest) a w :=
  wpList_append_og O w hgd s x ho base v L hs hown (some ⟨g, 0, none⟩) 1 1 [z] hx rfl (SG.one hg) (fun h => by cases h) (fun ad h => by cases h; rfl) h63 hp hbase h
/-- The same as a step of a region that draws its order. -/
theorem step_append_og (O : OneG P t e F.n bytes) {w : World} {ops : Array Oper} {o : Oper} {a : Act} {K : Act → World → Prop} {Q : Exit → Act → World → Prop} {E : Prop} (hgd : o.guard = none) (s x : Operand)
    (ho : o.op = .call { callee := .builtin .append, args := #[s, x], argTypes := #[t, t] })
    (base : Nat) (v : Value) (L : List α) (hs : a.eval s = v) (hown : OG F w base e v L)
    (b off m c : Nat) (M : List α) (hx : a.eval x = .slice (some ⟨b, off, none⟩) m c) (hl : M.length = m) (hb : SG F w (some ⟨b, off, none⟩) M)
    (h63 : (L.length + m) * bytes ≤ 140737488355328) (hp : 0 < bytes) (hbase : base ≤ w.heap.size)
    (h : ∀ v' w', OG F w' base e v' (L ++ M) → Step w v w' v' → K (a.put o.dst v') w') : if Region.wanted o (yielded ops a.tmps) = true then Oper.wp P o a w K Q else E := by
  rw [if_pos (by simp [Region.wanted, hgd])]
  obtain ⟨i0, z0, hi, hz0, hz1, hz2, hz3⟩ := O.i
  have hle : L.length + m ≤ (L.length + m) * bytes := Nat.le_mul_of_pos_right _ hp
  obtain ⟨v', w', hr, h2, h3, h4⟩ := run_append_moved (P := P) w base t o.type e i0 z0 F.n bytes O.u hi hz0 hz1 hz2 hz3 F.pos v L.length (F.fl L) hown ⟨b, off, none⟩ m c (F.fl M) (by rw [fl_len, hl])
    hb.news (fl_one F M) (by simp only [maxLen]; omega) h63 hbase
  unfold Oper.wp execOp
  simp only [ho, resolve, invoke, builtin, Sem.run_bind, Sem.run_pure, Result.andThen_ok, List.map_toArray, List.map_cons, List.map_nil, hs, hx, hr]
  refine h v' w' ?_ ⟨h3, h4⟩
  unfold OG
  rw [List.length_append, hl, fl_app]
  exact h2
end
end Go.Proofs.YtmagjekmlnpfpaaGreat.Shell



/- Rows of numbers. -/
namespace Go.Proofs.YtmagjekmlnpfpaaGreat.RoundW
open Go.RowKit Shell
/-- Rows of numbers. -/
def FI : Flat Int where
  n := 1
  cs x := [.int .i64 x]
  len _ := rfl
  one x u hu := by
    simp only [List.mem_cons, List.not_mem_nil, or_false] at hu
    subst hu
    rfl
  pos := by decide
theorem oneI : OneG Tryz.prog 35 2 FI.n 8 := oneG_of Tryz.underlying35 (by kernel_rfl)
theorem oneN : OneG Tryz.prog 36 3 FI.n 8 := oneG_of Tryz.underlying36 (by kernel_rfl)
theorem take_snoc {α : Type} {L : List α} {i : Nat} {x : α} (h : L[i]? = some x) : L.take (i + 1) = L.take i ++ [x] := by rw [List.take_add_one, h]; rfl
abbrev nilS : Value := .slice none 0 0
/-- Two slices that share nothing. -/
def Dj (v u : Value) : Prop := ∀ k, v.ownBlock = some k → u.ownBlock ≠ some k
theorem dj_nil (u : Value) : Dj (.slice none 0 0) u := fun k h => by simp [Value.ownBlock] at h
theorem Dj.symm {v u : Value} (h : Dj v u) : Dj u v := fun k h1 h2 => h k h2 h1
section
variable {α : Type} {F : Flat α}
theorem og_step {w w' : World} {base : Nat} {e : TypeId} {v u u' : Value} {L : List α} (h : OG F w base e v L) (s : Step w u w' u') (d : Dj v u) : OG F w' base e v L := h.block (fun k hk => s.g.block k (h.lt k hk).2 (fun e => d k hk e.symm))
theorem dj_step {w w' : World} {base : Nat} {e : TypeId} {v u u' : Value} {L : List α} (h : OG F w base e v L) (s : Step w u w' u') (d : Dj v u) : Dj v u' := fun k hk hu => by
  rcases s.m with e | ⟨j, e, hj⟩
  · exact d k hk (e.symm.trans hu)
  · rw [e] at hu
    cases hu
    have := (h.lt k hk).2
    omega
end
theorem cell_b {w w1 : World} {z : Nat} {a : Addr} {v : Value} (b : Below z w w1) (h : w.cell? a = some v ∧ a.block < z) : w1.cell? a = some v := (b.cell h.2).trans h.1
theorem step_row {w w' : World} {v v' : Value} {e : Nat} {o : Obj} (s : Step w v w' v') (h : w.heap[e]? = some o) (hn : v.ownBlock ≠ some e) : w'.heap[e]? = some o := (s.g.block e (lt_of_heap h) (fun h2 => hn h2.symm)).trans h
end Go.Proofs.YtmagjekmlnpfpaaGreat.RoundW

