/- What tocsinlaw01.NumKeeps needs of memory: a row with spare room, and rows that are written behind it. -/
import Derived.Test.YtgcmjmnolkojhaaDoorNumLay
import Derived.Test.YtgcmjmnolkojhaaDoorNumShell
import Derived.Deep.DeepAppendRoom
import Derived.Laws.AppendOwnNone
import Derived.Deep.QuietTactic
import Derived.BigQuiet
namespace Go.Proofs.YtgcmjmnolkojhaaDoor.NumC.Keeps
open Go.ChangeShapes Go.WideShapes Go.ChangeAt Go.RowKit NumP NumW
/-- A row of float64 that lies whole in its block. -/
def Blk (w : World) (g : Nat) (C : Array Value) : Prop := w.heap[g]? = some (.cells C 22 (0, 0))
theorem Blk.lt {w : World} {g : Nat} {C : Array Value} (h : Blk w g C) : g < w.heap.size := by
  rcases Nat.lt_or_ge g w.heap.size with h1 | h1
  · exact h1
  · unfold Blk at h; rw [Array.getElem?_eq_none h1] at h; cases h
theorem Blk.cell {w : World} {g : Nat} {C : Array Value} (h : Blk w g C) (i : Nat) : w.cell? ⟨g, i, none⟩ = C[i]? := by
  unfold Blk at h
  unfold World.cell?
  rw [h]
  simp
theorem Blk.free {w : World} {g : Nat} {C : Array Value} (h : Blk w g C) (i : Nat) : w.frozen? ⟨g, i, none⟩ = false := by
  unfold Blk at h
  unfold World.frozen?
  rw [h]
  simp
theorem Blk.below {w w' : World} {g B : Nat} {C : Array Value} (h : Blk w g C) (hb : Below B w w') (hg : g < B) : Blk w' g C := (hb.block g hg).trans h
theorem Blk.set {w : World} {g : Nat} {C : Array Value} (h : Blk w g C) (i : Nat) (u : Value) : Blk (w.setCell ⟨g, i, none⟩ u) g (C.setIfInBounds i u) := by
  unfold Blk at h ⊢
  simp [World.setCell, Array.getElem?_modify, h]
/-- The block's first cells are the words; the one behind them is 7. -/
def Room (xs : List Nat) (C : Array Value) : Prop := C.size = xs.length + 2 ∧ (∀ (j x : Nat), xs[j]? = some x → C[j]? = some (.float .f64 x)) ∧ C[xs.length]? = some (.float .f64 4619567317775286272)
theorem own_blk {w : World} {base g n : Nat} {xs : List Value} (h : w.ownsRow base 22 1 (.slice (some ⟨g, 0, none⟩) n (n + 2)) n xs) : ∃ C, Blk w g C ∧ C.size = n + 2 ∧ (∀ j, j < n → C[j]? = xs[j]?) ∧ base ≤ g := by
  rcases h.2 with ⟨h0, _⟩ | ⟨g', cap', cur, hv, hbg, hg, hnc, hcm, hcs, htake⟩
  · cases h0
  · injection hv with e1 e2 e3
    injection e1 with e1
    injection e1 with e1
    subst e1; subst e3
    refine ⟨cur, hg, by rw [hcs, Nat.mul_one], fun j hj => ?_, hbg⟩
    have := htake
    rw [Nat.mul_one] at this
    rw [← this, List.getElem?_take_of_lt hj, Array.getElem?_toList]
theorem blk_own {w : World} {base g n : Nat} {C : Array Value} (h : Blk w g C) (hb : base ≤ g) (hC : C.size = n) (hn : n ≤ maxLen) : w.ownsRow base 22 1 (.slice (some ⟨g, 0, none⟩) n n) n C.toList := by
  refine ⟨by simp [hC], .inr ⟨g, n, C, rfl, hb, h, Nat.le_refl _, hn, by rw [hC, Nat.mul_one], ?_⟩⟩
  rw [Nat.mul_one, List.take_of_length_le (by simp [hC])]
theorem Blk.set_other {w : World} {g : Nat} {C : Array Value} (h : Blk w g C) (p : Addr) (hp : g ≠ p.block) (u : Value) : Blk (w.setCell p u) g C := (Below.heap_setCell w p u g hp).trans h
theorem Blk.alloc {w : World} {g : Nat} {C : Array Value} (h : Blk w g C) (o : Obj) : Blk (w.alloc o) g C := (Below.heap_alloc w o g h.lt).trans h
theorem Blk.grown {w w' : World} {g : Nat} {C : Array Value} {row : Option Nat} (h : Blk w g C) (hg : w.grownBy w' row) (hr : ∀ k, row = some k → g + 1 ≤ k) : Blk w' g C :=
  (hg.block g h.lt (fun e => by have := hr g e.symm; omega)).trans h
/-- What the row holds that was made and filled: the words, ahead of two cells. -/
theorem own_words {w : World} {base g : Nat} {xs : List Nat} (h : w.ownsRow base 22 1 (.slice (some ⟨g, 0, none⟩) xs.length (xs.length + 2)) xs.length (xs.map (Value.float .f64))) : ∃ C, Blk w g C ∧ C.size = xs.length + 2 ∧ (∀ (j x : Nat), xs[j]? = some x → C[j]? = some (.float .f64 x)) := by
  obtain ⟨C, h1, h2, h3, _⟩ := own_blk h
  refine ⟨C, h1, h2, fun j x hx => ?_⟩
  have hj : j < xs.length := by
    rcases Nat.lt_or_ge j xs.length with h4 | h4
    · exact h4
    · rw [List.getElem?_eq_none h4] at hx; cases hx
  rw [h3 j hj, List.getElem?_map, hx, Option.map_some]
theorem room_set {xs : List Nat} {C : Array Value} (h1 : C.size = xs.length + 2) (h2 : ∀ (j x : Nat), xs[j]? = some x → C[j]? = some (.float .f64 x)) : Room xs (C.setIfInBounds xs.length (.float .f64 4619567317775286272)) := by
  refine ⟨by rw [Array.size_setIfInBounds]; exact h1, fun j x hx => ?_, ?_⟩
  · have hj : j < xs.length := by
      rcases Nat.lt_or_ge j xs.length with h4 | h4
      · exact h4
      · rw [List.getElem?_eq_none h4] at hx; cases hx
    rw [Array.getElem?_setIfInBounds, if_neg (by omega)]
    exact h2 j x hx
  · rw [Array.getElem?_setIfInBounds, if_pos rfl, if_pos (by omega)]
theorem Room.fl {w : World} {g : Nat} {xs : List Nat} {C : Array Value} (h : Blk w g C) (hr : Room xs C) (hx : ∀ (k x : Nat), xs[k]? = some x → x < 18446744073709551616) : FL w (some ⟨g, 0, none⟩) xs := by
  intro k x hk
  refine ⟨_, rfl, ?_, hx k x hk⟩
  rw [show (⟨g, 0, none⟩ : Addr).add k = ⟨g, k, none⟩ by unfold Addr.add; split <;> simp_all, h.cell]
  exact hr.2.1 k x hk
theorem FL.lt {w : World} {A : Option Addr} {xs : List Nat} (h : FL w A xs) (k x : Nat) (hk : xs[k]? = some x) : x < 18446744073709551616 := (h k x hk).choose_spec.2.2
theorem FL.cells {w : World} {a : Addr} {xs : List Nat} (h : FL w (some a) xs) (j : Nat) (u : Value) (hj : (xs.map (Value.float .f64))[j]? = some u) : w.cell? (a.add j) = some u := by
  rw [List.getElem?_map] at hj
  cases hx : xs[j]? with
  | none => rw [hx] at hj; cases hj
  | some x =>
    rw [hx] at hj
    cases hj
    obtain ⟨ad, e, hc, _⟩ := h j x hx
    cases e
    exact hc
theorem words_one {xs : List Nat} (u : Value) (h : u ∈ xs.map (Value.float .f64)) : u.oneCell' = true := by
  obtain ⟨x, _, rfl⟩ := List.mem_map.1 h
  rfl
/-- An owned row with room, still empty, takes all that came in: nil or not. -/
theorem wpList_append_src {P : Program} {w : World} {ops : Array Oper} {rest : List Oper} {o : Oper} {a : Act} {Q : Exit → Act → World → Prop} (hgd : o.guard = none) (s x : Operand) (t : TypeId)
    (ho : o.op = .call { callee := .builtin .append, args := #[s, x], argTypes := #[t, t] })
    (base : Nat) (e : TypeId) (i : TypeInfo) (ht : P.underlying t = some (.slice e)) (hi : P.info? e = some i) (hsize : i.size = 1)
    (g cap : Nat) (hs : a.eval s = .slice (some ⟨g, 0, none⟩) 0 cap) (hown : w.ownsRow base e 1 (.slice (some ⟨g, 0, none⟩) 0 cap) 0 [])
    (A : Option Addr) (xs : List Nat) (c : Nat) (hx : a.eval x = .slice A xs.length c) (hf : FL w A xs) (hn : A = none → c = 0) (hroom : xs.length ≤ cap)
    (h : ∀ w', w'.ownsRow base e 1 (.slice (some ⟨g, 0, none⟩) xs.length cap) xs.length (xs.map (Value.float .f64)) → w.grownBy w' (some g) → wpList P ops Q rest (a.put o.dst (.slice (some ⟨g, 0, none⟩) xs.length cap)) w') :
    wpList P ops Q (o :: rest) a w := by
  cases A with
  | some ad =>
    refine wpList_append_own_spare _ hgd s x t ho base e i 1 ht hi hsize g 0 cap [] hs hown ad xs.length c (xs.map (Value.float .f64)) hx (by rw [List.length_map, Nat.mul_one]) (FL.cells hf) words_one (by omega) ?_
    intro w' h1 h2
    rw [List.nil_append, Nat.zero_add] at h1
    rw [Nat.zero_add]
    exact h w' h1 h2
  | none =>
    have hx0 : xs = [] := by
      cases xs with
      | nil => rfl
      | cons y ys => obtain ⟨_, h1, _⟩ := hf 0 y rfl; cases h1
    subst hx0
    cases hn rfl
    exact wpList_append_own_none hgd s x t ho base e i 1 ht hi _ 0 [] hs hown hx (h w hown ⟨rfl, rfl, rfl, Nat.le_refl _, fun _ _ _ => rfl⟩)
end Go.Proofs.YtgcmjmnolkojhaaDoor.NumC.Keeps
