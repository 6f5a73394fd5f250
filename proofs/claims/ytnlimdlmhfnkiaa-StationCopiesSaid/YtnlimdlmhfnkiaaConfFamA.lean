/- What the document's own Family builds: rows that grow side by side. -/
import Derived.Test.YtnlimdlmhfnkiaaConfVJa
namespace Go.Proofs.Ytnlimdlmhfnkiaa.ConfW
open Go.RowKit Shell
def idx (k : Nat) : List Int := (List.range k).map fun i : Nat => (i : Int)
theorem idx_len (k : Nat) : (idx k).length = k := by simp [idx]
theorem idx_succ (k : Nat) : idx (k + 1) = idx k ++ [(k : Int)] := by simp [idx, List.range_succ]
theorem famR_eq (k : Nat) : famR k = [100 * ((k : Int) + 1), 100 * ((k : Int) + 1) + 50] := by simp [famR]
theorem row_info : ∃ (i : TypeInfo), Try.prog.info? 88 = some i ∧ i.zero = some (.slice none 0 0) ∧ i.size = 1 ∧ i.bytes = 24 :=
  info_parts (show (Try.prog.info? 88).map (fun i => (i.zero, i.size, i.bytes)) = some (some (.slice none 0 0), 1, 24) by kernel_rfl)
/-- append of some cells to a row of our own. -/
theorem wpList_append_row {P : Program} {t e : TypeId} {i : TypeInfo} {z : Value} {size bytes : Nat} (ht : P.underlying t = some (.slice e)) (hi : P.info? e = some i) (hz : i.zero = some z) (hs1 : i.size = size) (hb1 : i.bytes = bytes) (hzs : z.cells.size = size) (hsz : 0 < size)
    (w : World) {ops : Array Oper} {rest : List Oper} {o : Oper} {a : Act} {Q : Exit → Act → World → Prop} (hgd : o.guard = none) (s x : Operand)
    (ho : o.op = .call { callee := .builtin .append, args := #[s, x], argTypes := #[t, t] })
    (base : Nat) (v : Value) (n : Nat) (xs : List Value) (hs : a.eval s = v) (hown : w.ownsRow base e size v n xs)
    (ad : Addr) (m c : Nat) (news : List Value) (hx : a.eval x = .slice (some ad) m c) (hl : news.length = m * size) (hnews : ∀ j u, news[j]? = some u → w.cell? (ad.add j) = some u) (h1 : ∀ u ∈ news, u.oneCell' = true)
    (h63 : n + m ≤ maxLen) (hbytes : (n + m) * bytes ≤ 140737488355328) (hbase : base ≤ w.heap.size)
    (h : ∀ v' w', w'.ownsRow base e size v' (n + m) (xs ++ news) → Step w v w' v' → wpList P ops Q rest (a.put o.dst v') w') : wpList P ops Q (o :: rest) a w := by
  obtain ⟨v', w', hr, h2, h3, h4⟩ := run_append_moved (P := P) w base t o.type e i z size bytes ht hi hz hs1 hb1 hzs hsz v n xs hown ad m c news hl hnews h1 h63 hbytes hbase
  refine wpList_plain hgd fun _ hK => ?_
  unfold Oper.wp execOp
  simp only [ho, resolve, invoke, builtin, Sem.run_bind, Sem.run_pure, Result.andThen_ok, List.map_toArray, List.map_cons, List.map_nil, hs, hx, hr]
  exact hK _ _ (h v' w' h2 ⟨h3, h4⟩)
/-- Loop 1: k rows of delays, ka hosts. -/
structure FamX (w0 : World) (h k ka : Nat) (vs : List Value) (vD vA : Value) (W : World) : Prop where
  b : Below w0.heap.size w0 W
  r : W.heap[w0.heap.size]? = some (.cells #[.int .i64 0, .int .i64 0, .int .i64 0, .int .i64 0, .int .i64 0, .slice none 0 0, .slice none 0 0, .slice none 0 0, .int .i64 0] 26)
  x : W.heap[w0.heap.size + 1]? = some (.cells #[.int .i64 (h : Int), .int .i64 2000000, .int .i64 2000, .int .i64 1000, .int .i64 500, vD, .slice none 0 0, .slice none 0 0, .int .i64 8] 26)
  d : W.ownsRow (w0.heap.size + 1 + 1) 88 1 vD k vs
  a : OR W (w0.heap.size + 1 + 1) 3 .i64 vA (idx ka)
  row : ∀ j, j < k → ∃ g, vs[j]? = some (.slice (some ⟨g, 0, none⟩) 2 2) ∧ w0.heap.size + 1 + 1 ≤ g ∧ W.heap[g]? = some (.cells (nums .i64 (famR j)).toArray 2) ∧ vD.ownBlock ≠ some g ∧ vA.ownBlock ≠ some g
  far : ∀ g, vD.ownBlock = some g → vA.ownBlock ≠ some g
section
variable {w0 W W1 W3 : World} {h k ka : Nat} {vs : List Value} {vD vA v' : Value}
theorem FamX.next (X : FamX w0 h k ka vs vD vA W) (b : Below W.heap.size W W1) : FamX w0 h k ka vs vD vA W1 := by
  refine ⟨X.b.trans (b.mono X.b.size), row_below b X.r, row_below b X.x, own_up X.d (Nat.le_refl _) (Up.of _ b), X.a.below b, ?_, X.far⟩
  intro j hj
  obtain ⟨g, h1, h2, h3, h4⟩ := X.row j hj
  exact ⟨g, h1, h2, row_below b h3, h4⟩
theorem FamX.stepD {g : Nat} (X : FamX w0 h k ka vs vD vA W) (o : W3.ownsRow (w0.heap.size + 1 + 1) 88 1 v' (k + 1) (vs ++ [.slice (some ⟨g, 0, none⟩) 2 2])) (st : Step W vD W3 v') (hg : W.heap[g]? = some (.cells (nums .i64 (famR k)).toArray 2)) (hlo : w0.heap.size + 1 + 1 ≤ g) (hD : vD.ownBlock ≠ some g) (hA : vA.ownBlock ≠ some g) :
    FamX w0 h (k + 1) ka (vs ++ [.slice (some ⟨g, 0, none⟩) 2 2]) v' vA (W3.setCell ⟨w0.heap.size + 1, 5, none⟩ v') := by
  have hl := X.d.1
  rw [Nat.mul_one] at hl
  have mv : ∀ q, q < W.heap.size → vD.ownBlock ≠ some q → v'.ownBlock ≠ some q := by
    intro q hq hn e
    rcases st.m with h1 | ⟨i, h1, h2⟩
    · exact hn (h1.symm.trans e)
    · rw [h1] at e; cases e; omega
  have nD : ∀ q, q < w0.heap.size + 1 + 1 → vD.ownBlock ≠ some q := fun q hq e => by have := (X.d.lt q e).1; omega
  have k3 : ∀ q, q < W.heap.size → vD.ownBlock ≠ some q → W3.heap[q]? = W.heap[q]? := fun q hq hn => st.g.block q hq (fun e => hn e.symm)
  have kp : ∀ q, q < W.heap.size → q ≠ w0.heap.size + 1 → vD.ownBlock ≠ some q → (W3.setCell ⟨w0.heap.size + 1, 5, none⟩ v').heap[q]? = W.heap[q]? := by
    intro q hq hne hn
    rw [heap_setCell_other _ _ _ _ (by exact hne)]
    exact k3 q hq hn
  have hb3 : Below w0.heap.size W W3 := ⟨st.g.os, st.g.tape, st.g.output, st.g.size, fun q hq => st.g.block q (by have := X.b.size; omega) (fun e => by have := (X.d.lt q e.symm).1; omega)⟩
  have sx := row_lt X.x
  have sr := row_lt X.r
  have ups : Up (w0.heap.size + 1 + 1) W3 (W3.setCell ⟨w0.heap.size + 1, 5, none⟩ v') := (Up.refl _ _).set _ _ (by simp)
  refine ⟨(X.b.trans hb3).setCell (by simp) _, ?_, ?_, own_up o (Nat.le_refl _) ups, or_up ⟨X.a.1.kept st.g ?_, X.a.2⟩ (Nat.le_refl _) ups, ?_, ?_⟩
  · rw [kp _ sr (by omega) (nD _ (by omega))]; exact X.r
  · have h3 := (k3 _ sx (nD _ (by omega))).trans X.x
    exact heap_setCell_same W3 (w0.heap.size + 1) 5 _ _ v' h3
  · cases hub : vA.ownBlock with
    | none => exact Or.inl rfl
    | some q => exact Or.inr (fun e => X.far q e.symm hub)
  · intro j hj
    by_cases hjk : j = k
    · subst hjk
      refine ⟨g, ?_, hlo, ?_, mv g (row_lt hg) hD, hA⟩
      · rw [List.getElem?_append_right (by omega), hl, Nat.sub_self]; rfl
      · rw [kp _ (row_lt hg) (by omega) hD]; exact hg
    · obtain ⟨q, h1, h2, h3, h4, h5⟩ := X.row j (by omega)
      refine ⟨q, ?_, h2, ?_, mv q (row_lt h3) h4, h5⟩
      · rw [List.getElem?_append_left (by omega)]; exact h1
      · rw [kp _ (row_lt h3) (by omega) h4]; exact h3
  · intro q hq e
    exact mv q (X.a.lt q e).2 (fun hd => X.far q hd e) hq
theorem FamX.stepA (X : FamX w0 h k ka vs vD vA W) (o : OR W3 (w0.heap.size + 1 + 1) 3 .i64 v' (idx (ka + 1))) (st : Step W vA W3 v') : FamX w0 h k (ka + 1) vs vD v' W3 := by
  have mv : ∀ q, q < W.heap.size → vA.ownBlock ≠ some q → v'.ownBlock ≠ some q := by
    intro q hq hn e
    rcases st.m with h1 | ⟨i, h1, h2⟩
    · exact hn (h1.symm.trans e)
    · rw [h1] at e; cases e; omega
  have nA : ∀ q, q < w0.heap.size + 1 + 1 → vA.ownBlock ≠ some q := fun q hq e => by have := (X.a.lt q e).1; omega
  have kp : ∀ q, q < W.heap.size → vA.ownBlock ≠ some q → W3.heap[q]? = W.heap[q]? := fun q hq hn => st.g.block q hq (fun e => hn e.symm)
  have hb3 : Below w0.heap.size W W3 := ⟨st.g.os, st.g.tape, st.g.output, st.g.size, fun q hq => st.g.block q (by have := X.b.size; omega) (fun e => by have := (X.a.lt q e.symm).1; omega)⟩
  refine ⟨X.b.trans hb3, (kp _ (row_lt X.r) (nA _ (by omega))).trans X.r, (kp _ (row_lt X.x) (nA _ (by omega))).trans X.x, X.d.kept st.g ?_, o, ?_, ?_⟩
  · cases hub : vD.ownBlock with
    | none => exact Or.inl rfl
    | some q => exact Or.inr (fun e => X.far q hub e.symm)
  · intro j hj
    obtain ⟨q, h1, h2, h3, h4, h5⟩ := X.row j hj
    exact ⟨q, h1, h2, (kp _ (row_lt h3) h5).trans h3, h4, mv q (row_lt h3) h5⟩
  · intro q hq
    exact mv q (X.d.lt q hq).2 (X.far q hq)
end
/-- Loop 2: what loop 1 left lies there, but the configuration's box; m entries. -/
structure FamY (w0 w1 : World) (h m : Nat) (vD vE : Value) (es : List R4) (W : World) : Prop where
  b : Below w0.heap.size w0 W
  x : W.heap[w0.heap.size + 1]? = some (.cells #[.int .i64 (h : Int), .int .i64 2000000, .int .i64 2000, .int .i64 1000, .int .i64 500, vD, vE, .slice none 0 0, .int .i64 8] 26)
  s : w1.heap.size ≤ W.heap.size
  l : w0.heap.size + 1 < w1.heap.size
  k : ∀ j, j < w1.heap.size → j ≠ w0.heap.size + 1 → W.heap[j]? = w1.heap[j]?
  e : W.ownsRow w1.heap.size 56 4 vE m (ents es)
section
variable {w0 w1 W W1 W3 : World} {h m : Nat} {vD vE v' : Value} {es : List R4} {e : R4}
theorem FamY.next (Y : FamY w0 w1 h m vD vE es W) (b : Below W.heap.size W W1) : FamY w0 w1 h m vD vE es W1 :=
  ⟨Y.b.trans (b.mono Y.b.size), row_below b Y.x, Nat.le_trans Y.s b.size, Y.l, fun j hj hn => (b.block j (Nat.lt_of_lt_of_le hj Y.s)).trans (Y.k j hj hn), own_up Y.e (Nat.le_refl _) (Up.of _ b)⟩
theorem FamY.step (Y : FamY w0 w1 h m vD vE es W) (o : W3.ownsRow w1.heap.size 56 4 v' (m + 1) (ents es ++ ents [e])) (st : W.grownBy W3 vE.ownBlock) : FamY w0 w1 h (m + 1) vD v' (es ++ [e]) (W3.setCell ⟨w0.heap.size + 1, 6, none⟩ v') := by
  have nE : ∀ q, q < w1.heap.size → vE.ownBlock ≠ some q := fun q hq e => by have := (Y.e.lt q e).1; omega
  have k3 : ∀ q, q < w1.heap.size → W3.heap[q]? = W.heap[q]? := fun q hq => st.block q (Nat.lt_of_lt_of_le hq Y.s) (fun e => nE q hq e.symm)
  have hl := Y.l
  have hb3 : Below w0.heap.size W W3 := ⟨st.os, st.tape, st.output, st.size, fun q hq => k3 q (by omega)⟩
  refine ⟨(Y.b.trans hb3).setCell (by simp) _, ?_, by rw [World.size_setCell]; exact Nat.le_trans Y.s st.size, hl, ?_, ?_⟩
  · exact heap_setCell_same W3 (w0.heap.size + 1) 6 _ _ v' ((k3 _ hl).trans Y.x)
  · intro j hj hn
    rw [heap_setCell_other _ _ _ _ (by exact hn)]
    exact (k3 j hj).trans (Y.k j hj hn)
  · rw [ents_app]
    exact own_up o (Nat.le_refl _) ((Up.refl w1.heap.size W3).set _ _ (by simpa using hl))
end
theorem of_two : ∀ h ∈ List.range 7, ∀ m ∈ List.range h, (CrewW.of (idx h) : Int) - (CrewW.of [(m : Int)] : Int) = (CrewW.of (othL m h) : Int) := by decide +kernel
theorem famEs_snoc {h n i : Nat} (hh : ¬ h = 1) (hi : i < n) : (famEs h n).take (i + 1) = (famEs h n).take i ++ [famE h i] := by
  unfold famEs
  rw [if_neg hh, List.take_add_one, List.getElem?_map, List.getElem?_range hi]
  rfl
end Go.Proofs.Ytnlimdlmhfnkiaa.ConfW

