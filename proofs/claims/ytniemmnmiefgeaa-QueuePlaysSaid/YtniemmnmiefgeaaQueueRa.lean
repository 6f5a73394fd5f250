/- The document's own list of things in memory. -/
import Derived.Test.YtniemmnmiefgeaaQueueR
import Derived.Deep.AppendSrc
namespace Go.Proofs.Ytniemmnmiefgeaa.QueueW
open Go.RowKit
structure Ri where
  t : Int
  r : Int
  d : Int
  z : Int
instance : Inhabited Ri := ⟨⟨0, 0, 0, 0⟩⟩
def Ri.cs (x : Ri) : List Value := [.int .i64 x.t, .int .i64 x.r, .int .i64 x.d, .int .i64 x.z]
def rflat : List Ri → List Value
  | [] => []
  | x :: L => x.cs ++ rflat L
theorem rflat_length : ∀ L, (rflat L).length = L.length * 4
  | [] => rfl
  | x :: L => by simp only [rflat, List.length_append, rflat_length L, List.length_cons]; simp only [Ri.cs, List.length_cons, List.length_nil]; omega
theorem rflat_append : ∀ L M, rflat (L ++ M) = rflat L ++ rflat M
  | [], _ => rfl
  | x :: L, M => by simp only [List.cons_append, rflat, rflat_append L M, List.append_assoc]
theorem rflat_at : ∀ (L : List Ri) (i c : Nat) (x : Ri), L[i]? = some x → c < 4 → (rflat L)[i * 4 + c]? = x.cs[c]?
  | y :: L, 0, c, x, h, hc => by
    simp only [List.getElem?_cons_zero, Option.some.injEq] at h
    subst h
    rw [rflat, Nat.zero_mul, Nat.zero_add, List.getElem?_append_left (by simp only [Ri.cs, List.length_cons, List.length_nil]; omega)]
  | y :: L, i + 1, c, x, h, hc => by
    simp only [List.getElem?_cons_succ] at h
    rw [rflat, List.getElem?_append_right (by simp only [Ri.cs, List.length_cons, List.length_nil]; omega)]
    rw [show (i + 1) * 4 + c - y.cs.length = i * 4 + c by simp only [Ri.cs, List.length_cons, List.length_nil]; omega]
    exact rflat_at L i c x h hc
theorem rflat_set : ∀ (L : List Ri) (i : Nat) (x : Ri) (j : Nat), i < L.length → (rflat (L.set i x))[j]? = if i * 4 ≤ j ∧ j < i * 4 + 4 then x.cs[j - i * 4]? else (rflat L)[j]?
  | y :: L, 0, x, j, _ => by
    rw [List.set_cons_zero, rflat, rflat]
    by_cases h : j < 4
    · rw [if_pos ⟨by omega, by omega⟩, List.getElem?_append_left (by exact h), Nat.zero_mul, Nat.sub_zero]
    · rw [if_neg (by omega), List.getElem?_append_right (by show 4 ≤ j; omega), List.getElem?_append_right (by show 4 ≤ j; omega)]
      rfl
  | y :: L, i + 1, x, j, h => by
    rw [List.set_cons_succ, rflat, rflat]
    by_cases hj : j < 4
    · rw [if_neg (by omega), List.getElem?_append_left (by exact hj), List.getElem?_append_left (by exact hj)]
    · rw [List.getElem?_append_right (by show 4 ≤ j; omega), List.getElem?_append_right (by show 4 ≤ j; omega), rflat_set L i x (j - y.cs.length) (by simpa using h)]
      have e : y.cs.length = 4 := rfl
      rw [e]
      by_cases hc : i * 4 ≤ j - 4 ∧ j - 4 < i * 4 + 4
      · rw [if_pos hc, if_pos (by omega)]
        congr 1
        omega
      · rw [if_neg hc, if_neg (by omega)]
theorem cs_one4 (x : Ri) : ∀ u ∈ x.cs, u.oneCell' = true := fun u hu => by
  simp only [Ri.cs, List.mem_cons, List.not_mem_nil, or_false] at hu
  rcases hu with rfl | rfl | rfl | rfl <;> rfl
/-- Things that lie at a place of a block, with room behind them. -/
structure LA (w : World) (g off cap : Nat) (L : List Ri) : Prop where
  le : L.length ≤ cap
  max : cap ≤ maxLen
  lt : g < w.heap.size
  holds : ∀ j u, (rflat L)[j]? = some u → w.cell? ⟨g, off + j, none⟩ = some u
  there : ∀ j, j < cap * 4 → (w.cell? ⟨g, off + j, none⟩).isSome = true ∧ w.frozen? ⟨g, off + j, none⟩ = false
/-- A slice of things in a block of the call's own. -/
def LS (w : World) (base : Nat) (v : Value) (L : List Ri) : Prop :=
  (v = .slice none 0 0 ∧ L = []) ∨ ∃ g off cap, v = .slice (some ⟨g, off, none⟩) L.length cap ∧ base ≤ g ∧ LA w g off cap L
theorem LA.of_block {w w1 : World} {g off cap : Nat} {L : List Ri} (h : LA w g off cap L) (hk : w1.heap[g]? = w.heap[g]?) (hs : w.heap.size ≤ w1.heap.size) : LA w1 g off cap L :=
  ⟨h.le, h.max, Nat.lt_of_lt_of_le h.lt hs, fun j u hj => (World.cell?_of_block (a := ⟨g, off + j, none⟩) hk).trans (h.holds j u hj), fun j hj => by
    rw [World.cell?_of_block (a := ⟨g, off + j, none⟩) hk, World.frozen?_of_block (a := ⟨g, off + j, none⟩) hk]
    exact h.there j hj⟩
theorem LS.lt {w : World} {base : Nat} {v : Value} {L : List Ri} (h : LS w base v L) : ∀ j, v.ownBlock = some j → base ≤ j ∧ j < w.heap.size := by
  intro j hj
  rcases h with ⟨rfl, _⟩ | ⟨g, off, cap, rfl, hb, h⟩
  · cases hj
  · injection hj with hj
    subst hj
    exact ⟨hb, h.lt⟩
theorem LS.of_block {w w1 : World} {base : Nat} {v : Value} {L : List Ri} (h : LS w base v L) (hk : ∀ g, v.ownBlock = some g → w1.heap[g]? = w.heap[g]?) (hs : w.heap.size ≤ w1.heap.size) : LS w1 base v L := by
  rcases h with h | ⟨g, off, cap, rfl, hb, h⟩
  · exact Or.inl h
  · exact Or.inr ⟨g, off, cap, rfl, hb, h.of_block (hk g rfl) hs⟩
theorem LS.chg {w w1 : World} {base : Nat} {v : Value} {L : List Ri} {X : Nat → Prop} (h : LS w base v L) (c : Chg X w w1) (hx : ∀ j, v.ownBlock = some j → ¬ X j) : LS w1 base v L :=
  h.of_block (fun g hg => c.block g (h.lt g hg).2 (hx g hg)) c.size
theorem LS.below {w w1 : World} {base : Nat} {v : Value} {L : List Ri} (h : LS w base v L) (b : Below w.heap.size w w1) : LS w1 base v L :=
  h.of_block (fun g hg => b.block g (h.lt g hg).2) b.size
theorem LS.rebase {w : World} {base base' : Nat} {v : Value} {L : List Ri} (h : LS w base v L) (hb : base' ≤ base) : LS w base' v L := by
  rcases h with h | ⟨g, off, cap, rfl, h1, h⟩
  · exact Or.inl h
  · exact Or.inr ⟨g, off, cap, rfl, Nat.le_trans hb h1, h⟩
theorem LA.cells {w : World} {g off cap : Nat} {L : List Ri} (h : LA w g off cap L) {i : Nat} {x : Ri} (hi : L[i]? = some x) :
    w.cell? ⟨g, off + i * 4, none⟩ = some (.int .i64 x.t) ∧ w.cell? ⟨g, off + i * 4 + 1, none⟩ = some (.int .i64 x.r) ∧ w.cell? ⟨g, off + i * 4 + 2, none⟩ = some (.int .i64 x.d) ∧ w.cell? ⟨g, off + i * 4 + 3, none⟩ = some (.int .i64 x.z) := by
  have k : ∀ c u, c < 4 → x.cs[c]? = some u → w.cell? ⟨g, off + i * 4 + c, none⟩ = some u := fun c u hc hu => by
    rw [Nat.add_assoc]
    exact h.holds _ u ((rflat_at L i c x hi hc).trans hu)
  exact ⟨k 0 _ (by omega) rfl, k 1 _ (by omega) rfl, k 2 _ (by omega) rfl, k 3 _ (by omega) rfl⟩
theorem LA.frozen4 {w : World} {g off cap : Nat} {L : List Ri} (h : LA w g off cap L) {i : Nat} (hi : i < cap) :
    w.frozen? ⟨g, off + i * 4, none⟩ = false ∧ w.frozen? ⟨g, off + i * 4 + 1, none⟩ = false ∧ w.frozen? ⟨g, off + i * 4 + 2, none⟩ = false ∧ w.frozen? ⟨g, off + i * 4 + 3, none⟩ = false := by
  have k : ∀ c, c < 4 → w.frozen? ⟨g, off + i * 4 + c, none⟩ = false := fun c hc => by
    rw [Nat.add_assoc]
    exact (h.there (i * 4 + c) (by omega)).2
  exact ⟨k 0 (by omega), k 1 (by omega), k 2 (by omega), k 3 (by omega)⟩
theorem LA.set {w : World} {g off cap : Nat} {L : List Ri} (h : LA w g off cap L) {i : Nat} (hi : i < L.length) (x : Ri) : LA (w.setCells g (off + i * 4) x.cs) g off cap (L.set i x) := by
  have le := h.le
  have hs : ∀ j, j < x.cs.length → (w.cell? ⟨g, off + i * 4 + j, none⟩).isSome = true := fun j hj => by
    have : j < 4 := hj
    rw [Nat.add_assoc]
    exact (h.there (i * 4 + j) (by omega)).1
  have e1 : ∀ j, ¬ (i * 4 ≤ j ∧ j < i * 4 + 4) → (w.setCells g (off + i * 4) x.cs).cell? ⟨g, off + j, none⟩ = w.cell? ⟨g, off + j, none⟩ := fun j hj =>
    World.cell?_setCells_out g _ _ _ _ (fun _ _ => by show off + j < off + i * 4 ∨ off + i * 4 + 4 ≤ off + j; omega)
  have e2 : ∀ j, i * 4 ≤ j ∧ j < i * 4 + 4 → (w.setCells g (off + i * 4) x.cs).cell? ⟨g, off + j, none⟩ = x.cs[j - i * 4]? := fun j hj => by
    have hl : j - i * 4 < x.cs.length := by show j - i * 4 < 4; omega
    have := World.cell?_setCells_in g x.cs (off + i * 4) w hs (j - i * 4) hl
    rw [show off + i * 4 + (j - i * 4) = off + j by omega] at this
    rw [this, List.getElem?_eq_getElem hl]
  refine ⟨by rw [List.length_set]; exact le, h.max, ?_, fun j u hj => ?_, fun j hj => ⟨?_, (World.frozen?_setCells g _ _ _ _).trans (h.there j hj).2⟩⟩
  · have := (Chg.setCells (X := fun _ => True) (g := g) trivial (Chg.refl _ w) (off + i * 4) x.cs).size
    exact Nat.lt_of_lt_of_le h.lt this
  · rw [rflat_set L i x j hi] at hj
    split at hj
    · rename_i hc
      rw [e2 j hc]
      exact hj
    · rename_i hc
      rw [e1 j hc]
      exact h.holds j u hj
  · by_cases hc : i * 4 ≤ j ∧ j < i * 4 + 4
    · rw [e2 j hc, List.getElem?_eq_getElem (by show j - i * 4 < 4; omega)]
      rfl
    · rw [e1 j hc]
      exact (h.there j hj).1
theorem LA.tail {w : World} {g off cap : Nat} {x : Ri} {L : List Ri} (h : LA w g off cap (x :: L)) : LA w g (off + 4) (cap - 1) L := by
  have le := h.le
  rw [List.length_cons] at le
  refine ⟨by omega, by have := h.max; omega, h.lt, fun j u hj => ?_, fun j hj => ?_⟩
  · rw [show off + 4 + j = off + (j + 4) by omega]
    refine h.holds (j + 4) u ?_
    rw [rflat, List.getElem?_append_right (by show 4 ≤ j + 4; omega)]
    exact hj
  · rw [show off + 4 + j = off + (j + 4) by omega]
    exact h.there (j + 4) (by omega)
theorem infoR : (Try.prog.info? 34).map (fun i => (i.zero.map (fun z => z.cells.size), i.size, i.bytes)) = some (some 4, 4, 32) := by kernel_rfl
theorem infoR_parts : ∃ (i : TypeInfo) (z : Value), Try.prog.info? 34 = some i ∧ i.zero = some z ∧ i.size = 4 ∧ i.bytes = 32 ∧ z.cells.size = 4 := by
  have h := infoR
  revert h
  cases Try.prog.info? 34 with
  | none => intro h; cases h
  | some i =>
    intro h
    simp only [Option.map_some, Option.some.injEq, Prod.mk.injEq] at h
    obtain ⟨h1, h2, h3⟩ := h
    cases hz : i.zero with
    | none => rw [hz] at h1; cases h1
    | some z =>
      rw [hz] at h1
      exact ⟨i, z, rfl, hz, h2, h3, by simpa using h1⟩
theorem run_append_ls {w : World} {base : Nat} {v : Value} {L : List Ri} (h : LS w base v L) (hb : base ≤ w.heap.size) (ty : TypeId) (y : Ri) (ad : Addr) (c : Nat) (hn : ∀ j u, y.cs[j]? = some u → w.cell? (ad.add j) = some u) (hl : L.length ≤ 1000000) :
    ∃ v' w', (Builtin.append_ #[26, 26] ty #[v, .slice (some ad) 1 c]).run Try.prog w = .ok v' w' ∧ LS w' base v' (L ++ [y]) ∧ (∀ j, v'.ownBlock = some j → v.ownBlock = some j ∨ w.heap.size ≤ j) ∧ Chg (fun j => v.ownBlock = some j) w w' := by
  obtain ⟨i, z, hi, hz, hs, hby, hzs⟩ := infoR_parts
  have hsrc : Src Try.prog i.size 26 (.slice (some ad) 1 c) 1 y.cs w := Src.ofSlice w Try.underlying26 ad 1 c y.cs (by rw [hs]; rfl) hn (cs_one4 y)
  have hll : (L ++ [y]).length = L.length + 1 := by simp
  have hfl : rflat (L ++ [y]) = rflat L ++ y.cs := by rw [rflat_append]; simp [rflat]
  have hfn : (rflat L ++ y.cs).length = (L.length + 1) * 4 := by rw [← hfl, rflat_length, hll]
  have grow : ∀ (bs : Option Addr) (sc : Nat), v = .slice bs L.length sc → sc < L.length + 1 → (Builtin.firstCells i.size L.length (.slice bs L.length sc)).run Try.prog w.drew = .ok (rflat L).toArray w.drew →
      ∃ v' w', (Builtin.append_ #[26, 26] ty #[v, .slice (some ad) 1 c]).run Try.prog w = .ok v' w' ∧ LS w' base v' (L ++ [y]) ∧ (∀ j, v'.ownBlock = some j → v.ownBlock = some j ∨ w.heap.size ≤ j) ∧ Chg (fun j => v.ownBlock = some j) w w' := by
    rintro bs sc rfl hg hold
    have hrun := run_append_grow_src (P := Try.prog) w 26 26 ty 34 i z Try.underlying26 hi hz bs L.length sc (rflat L) hold _ 1 y.cs hsrc hg (by omega) (growslice_fits hg (by rw [hby]; omega))
    have hge := grownCap_ge w (L.length + 1) sc 34
    have hcm := grownCap_le_maxLen w (L.length + 1) sc 34 (by simp only [maxLen]; omega)
    generalize grownCap w (L.length + 1) sc 34 = gc at *
    have e1 : ∀ j, (w.drew.alloc (.cells ((rflat L ++ y.cs).toArray ++ Builtin.zeroCells z.cells (gc - (L.length + 1))) 34)).cell? ⟨w.heap.size, j, none⟩ = ((rflat L ++ y.cs).toArray ++ Builtin.zeroCells z.cells (gc - (L.length + 1)))[j]? := fun j => World.cell?_alloc_new w.drew _ _ j
    have hsz : ((rflat L ++ y.cs).toArray ++ Builtin.zeroCells z.cells (gc - (L.length + 1))).size = gc * 4 := by
      rw [Array.size_append, List.size_toArray, hfn, size_zeroCells, hzs, ← Nat.add_mul, Nat.add_sub_of_le hge]
    refine ⟨_, _, hrun, Or.inr ⟨w.heap.size, 0, gc, by rw [hll], hb, by rw [hll]; exact hge, hcm, by show w.heap.size < (w.drew.alloc _).heap.size; simp, fun j u hj => ?_, fun j hj => ⟨?_, ?_⟩⟩, fun j hj => Or.inr (Nat.le_of_eq (Option.some.inj hj)), (Chg.refl _ w).drew.alloc _⟩
    · rw [hfl] at hj
      rw [Nat.zero_add, e1, Array.getElem?_append_left (by simp only [List.size_toArray]; exact (List.getElem?_eq_some_iff.1 hj).1), List.getElem?_toArray]
      exact hj
    · rw [Nat.zero_add, e1, Array.getElem?_eq_getElem (by rw [hsz]; exact hj)]
      rfl
    · rw [Nat.zero_add]
      exact World.frozen?_alloc_new w.drew _ _ j
  rcases h with ⟨rfl, rfl⟩ | ⟨g, off, cap, rfl, hbg, h⟩
  · exact grow none 0 rfl (by simp) (run_firstCells_none w.drew i.size 0 0 0)
  · by_cases hr : L.length + 1 ≤ cap
    · have hcs : ∀ j, j < y.cs.length → (w.cell? ⟨g, off + L.length * i.size + j, none⟩).isSome = true := fun j hj => by
        have : j < 4 := hj
        rw [hs, Nat.add_assoc]
        exact (h.there (L.length * 4 + j) (by omega)).1
      have hfz : ∀ j, j < y.cs.length → w.frozen? ⟨g, off + L.length * i.size + j, none⟩ = false := fun j hj => by
        have : j < 4 := hj
        rw [hs, Nat.add_assoc]
        exact (h.there (L.length * 4 + j) (by omega)).2
      have hrun := run_append_room_src (P := Try.prog) w 26 26 ty 34 i Try.underlying26 hi g off L.length cap _ 1 y.cs hsrc hr hcs hfz
      rw [hs] at hrun hcs
      have hc := Chg.setCells (X := fun j => j = g) (g := g) rfl (Chg.refl _ w) (off + L.length * 4) y.cs
      refine ⟨_, _, hrun, Or.inr ⟨g, off, cap, by rw [hll], hbg, by rw [hll]; exact hr, h.max, Nat.lt_of_lt_of_le h.lt hc.size, fun j u hj => ?_, fun j hj => ⟨?_, (World.frozen?_setCells g _ _ _ _).trans (h.there j hj).2⟩⟩, fun j hj => Or.inl hj, hc.mono (fun j _ e => by subst e; rfl)⟩
      · rw [hfl] at hj
        by_cases hjl : j < (rflat L).length
        · rw [List.getElem?_append_left hjl] at hj
          rw [rflat_length] at hjl
          rw [World.cell?_setCells_out g _ _ _ _ (fun _ _ => Or.inl (by show off + j < off + L.length * 4; omega))]
          exact h.holds j u hj
        · rw [List.getElem?_append_right (by omega)] at hj
          rw [rflat_length] at hjl hj
          have hx := (List.getElem?_eq_some_iff.1 hj).1
          have := World.cell?_setCells_in g y.cs (off + L.length * 4) w hcs (j - L.length * 4) hx
          rw [show off + L.length * 4 + (j - L.length * 4) = off + j by omega] at this
          rw [this, ← hj, List.getElem?_eq_getElem hx]
      · by_cases hin : L.length * 4 ≤ j ∧ j < L.length * 4 + 4
        · have hx : j - L.length * 4 < y.cs.length := by show j - L.length * 4 < 4; omega
          have := World.cell?_setCells_in g y.cs (off + L.length * 4) w hcs (j - L.length * 4) hx
          rw [show off + L.length * 4 + (j - L.length * 4) = off + j by omega] at this
          rw [this]
          rfl
        · rw [World.cell?_setCells_out g _ _ _ _ (fun _ _ => by show off + j < off + L.length * 4 ∨ off + L.length * 4 + 4 ≤ off + j; omega)]
          exact (h.there j hj).1
    · refine grow (some ⟨g, off, none⟩) cap rfl (by omega) ?_
      refine run_firstCells_some w.drew i.size L.length ⟨g, off, none⟩ L.length cap (rflat L) (by rw [rflat_length, hs]) (fun j u hu => ?_)
      rw [Addr.add_lit]
      exact h.holds j u hu
theorem wpList_append_ls (w : World) {ops : Array Oper} {rest : List Oper} {o : Oper} {a : Act} {Q : Exit → Act → World → Prop} (hgd : o.guard = none) (s x : Operand)
    (ho : o.op = .call { callee := .builtin .append, args := #[s, x], argTypes := #[26, 26] })
    {base : Nat} {v : Value} {L : List Ri} (hv : a.eval s = v) (h : LS w base v L) (hb : base ≤ w.heap.size) (y : Ri) (ad : Addr) (c : Nat) (hx : a.eval x = .slice (some ad) 1 c) (hn : ∀ j u, y.cs[j]? = some u → w.cell? (ad.add j) = some u) (hl : L.length ≤ 1000000)
    (hK : ∀ v' w', LS w' base v' (L ++ [y]) → (∀ j, v'.ownBlock = some j → v.ownBlock = some j ∨ w.heap.size ≤ j) → Chg (fun j => v.ownBlock = some j) w w' → wpList Try.prog ops Q rest (a.put o.dst v') w') : wpList Try.prog ops Q (o :: rest) a w := by
  refine wpList_plain hgd fun K hK' => ?_
  obtain ⟨v', w', hrun, h1, h2, h3⟩ := run_append_ls h hb o.type y ad c hn hl
  unfold Oper.wp
  simp [execOp, ho, resolve, invoke, builtin, hv, hx, hrun, Result.andThen]
  exact hK' _ _ (hK v' w' h1 h2 h3)
end Go.Proofs.Ytniemmnmiefgeaa.QueueW
