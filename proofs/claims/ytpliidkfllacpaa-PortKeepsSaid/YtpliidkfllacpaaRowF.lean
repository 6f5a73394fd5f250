/- A slice of structs whose cells are all whole numbers, whatever structs lie within; a row of eight, where it lies. -/
import Derived.Test.YtpliidkfllacpaaOpen
namespace Go.Proofs.Ytpliidkfllacpaa.Shell
open Go.ChangeShapes Go.WideShapes Go.ChangeAt Go.RowKit
section
variable {P : Program} {H : Type} {enc : TypeId × Value → H}
/-- What is asked of an element's type: its cells are numbers of these kinds. -/
def Nums (P : Program) (H : Type) (enc : TypeId × Value → H) (e : TypeId) (qs : List IntKind) : Prop :=
  ∀ (w : World) (base : Nat) (spare : Nat → Bool) (held : Bool) (n : Nat) (cs : List Value) (x : DataW H × List MemPlace), DataW.trod enc P w base spare held n e cs = some x → cs.length = qs.length →
    ∀ (j : Nat) (q : IntKind), qs[j]? = some q → ∃ b : Int, cs[j]? = some (.int q b) ∧ (Lit.int q b).wf = true
theorem open_rowsF {W : World} {r : Reach} {b0 : Nat} {t e : TypeId} {qs : List IntKind} (ht : P.underlying t = some (.slice e)) (hc : P.cellsOf e = qs.length) (hF : Nums P H enc e qs) {v : Value} {d : DataW H} {ps : List MemPlace}
    (hval : Value.okWide P W r b0 t v) (hd : DataW.Trod enc P W 0 (fun _ => true) true t v d ps) : ∃ (A : Option Addr) (rows : List (List Int)) (c : Nat), v = .slice A rows.length c ∧ RL W qs A rows ∧ rows.length ≤ maxLen ∧ rows.length ≤ c ∧ (rows = [] ∨ ∃ es sp, d = .slice es sp ∧ rows.length = es.length) ∧ (A = none → c = 0) := by
  obtain ⟨A, n, c, rfl⟩ := slice_val ht hval
  obtain ⟨fuel, hf⟩ := hd
  rcases Go.Deep.open_slice ht hf with ⟨h1, _⟩ | ⟨a, len, cap, m, k, D, Pl, h1, _, hl, hm, hmm, hdat, hx⟩
  · simp only [Value.cells] at h1
    injection h1 with h1 _
    injection h1 with e1 e2 e3
    subst e1; subst e2; subst e3
    exact ⟨none, [], 0, rfl, fun k x h => by simp at h, by decide, Nat.le_refl _, Or.inl rfl, fun _ => rfl⟩
  · simp only [Value.cells] at h1
    injection h1 with h1 _
    injection h1 with e1 e2 e3
    subst e1; subst e2; subst e3
    have each : ∀ i, i < n → ∃ xs : List Int, xs.length = qs.length ∧ ∀ (j : Nat) (q : IntKind) (x : Int), qs[j]? = some q → xs[j]? = some x → W.cell? (a.add (i * qs.length + j)) = some (.int q x) ∧ (Lit.int q x).wf = true := by
      intro i hi
      obtain ⟨cs, h2, h3⟩ := hx i (by rw [hmm]; simp; omega)
      rw [hc] at h2
      obtain ⟨-, hlen, hcell⟩ := World.cells?_some h2
      have one : ∀ j, j < qs.length → ∃ b : Int, ∀ q, qs[j]? = some q → W.cell? (a.add (i * qs.length + j)) = some (.int q b) ∧ (Lit.int q b).wf = true := by
        intro j hj
        obtain ⟨q, hq⟩ : ∃ q, qs[j]? = some q := ⟨_, List.getElem?_eq_getElem hj⟩
        obtain ⟨b, hb, hw⟩ := hF _ _ _ _ _ _ _ h3 hlen j q hq
        refine ⟨b, fun q' hq' => ?_⟩
        rw [hq] at hq'
        obtain rfl := Option.some.inj hq'
        have h5 := hcell j (by omega)
        rw [Go.Deep.add_add, hb] at h5
        exact ⟨h5, hw⟩
      obtain ⟨g, hgn⟩ := Go.Deep.choose_lt (α := Int) one
      refine ⟨(List.range qs.length).map g, by simp, fun j q x hq hx => ?_⟩
      have hj : j < qs.length := by
        rcases Nat.lt_or_ge j qs.length with h | h
        · exact h
        · rw [List.getElem?_eq_none h] at hq; cases hq
      have : x = g j := by
        rw [List.getElem?_map, List.getElem?_range hj] at hx
        exact (Option.some.inj hx).symm
      subst this
      exact hgn j hj q hq
    obtain ⟨f, hfn⟩ := Go.Deep.choose_lt (α := List Int) each
    refine ⟨some a, (List.range n).map f, c, by simp, ?_, by simp; omega, by simp; exact hl, Or.inr ⟨_, _, congrArg (·.1) hdat, by simp⟩, fun h => by cases h⟩
    intro i x hix
    have hi : i < n := by
      rcases Nat.lt_or_ge i n with h | h
      · exact h
      · rw [List.getElem?_eq_none (by simpa using h)] at hix; cases hix
    have : x = f i := by
      rw [List.getElem?_map, List.getElem?_range hi] at hix
      exact (Option.some.inj hix).symm
    subst this
    exact ⟨(hfn i hi).1, a, rfl, (hfn i hi).2⟩
/-- A field of a struct in cells. -/
theorem fieldC {w : World} {base : Nat} {spare : Nat → Bool} {held : Bool} {n : Nat} {fs : Array Field} {cs : List Value} {ys : List (DataW H × List MemPlace)}
    (hg : ∀ (i : Nat) (f : Field), fs[i]? = some f → DataW.trod enc P w base spare held n f.type ((cs.drop f.offset).take (P.cellsOf f.type)) = ys[i]?) (hl : ys.length = fs.size)
    (i : Nat) (t : TypeId) (f : Field) (o k : Nat) (hf : fs[i]? = some f) (ho : f.offset = o) (ht : f.type = t) (hc : P.cellsOf t = k) : ∃ y, DataW.trod enc P w base spare held n t ((cs.drop o).take k) = some y := by
  have h := hg i f hf
  have hi : i < ys.length := by
    rw [hl]
    rcases Nat.lt_or_ge i fs.size with h | h
    · exact h
    · rw [Array.getElem?_eq_none h] at hf; cases hf
  rw [ht, ho, hc, List.getElem?_eq_getElem hi] at h
  exact ⟨_, h⟩
end
/-- Where a row's cell lies. -/
theorem RL.cellAt {w : World} {qs : List IntKind} {A : Option Addr} {rows : List (List Int)} (h : RL w qs A rows) (hq : 0 < qs.length) {k : Nat} {xs : List Int} (hk : rows[k]? = some xs) :
    ∃ b off, A = some ⟨b, off, none⟩ ∧ xs.length = qs.length ∧ ∀ (i : Nat) (q : IntKind) (x : Int), qs[i]? = some q → xs[i]? = some x → w.cell? ⟨b, off + k * qs.length + i, none⟩ = some (.int q x) ∧ (Lit.int q x).wf = true := by
  obtain ⟨hl, ⟨b, off, spot⟩, rfl, hc⟩ := h k xs hk
  have hspot : spot = none := by
    have hlt : k < rows.length := (List.getElem?_eq_some_iff.1 hk).1
    obtain ⟨hl', a', ha', hc'⟩ := h 0 _ (List.getElem?_eq_getElem (show 0 < rows.length by omega))
    cases ha'
    obtain ⟨q, hq0⟩ : ∃ q, qs[0]? = some q := ⟨_, List.getElem?_eq_getElem hq⟩
    have h0 : 0 < rows.length := by omega
    obtain ⟨u, hu⟩ : ∃ u, (rows[0]'h0)[0]? = some u := ⟨_, List.getElem?_eq_getElem (show 0 < (rows[0]'h0).length by rw [hl']; exact hq)⟩
    have h3 := World.cell?_spot (hc' 0 q u hq0 hu).1
    simpa [Addr.add] using h3
  subst hspot
  refine ⟨b, off, rfl, hl, fun i q x hq hx => ?_⟩
  have e : (⟨b, off, none⟩ : Addr).add (k * qs.length + i) = ⟨b, off + k * qs.length + i, none⟩ := by unfold Addr.add; split <;> simp_all; omega
  have := hc i q x hq hx
  rw [e] at this
  exact this
theorem RL.row8 {w : World} {q0 q1 q2 q3 q4 q5 q6 q7 : IntKind} {A : Option Addr} {rows : List (List Int)} (h : RL w [q0, q1, q2, q3, q4, q5, q6, q7] A rows) {k : Nat} {xs : List Int} (hk : rows[k]? = some xs) :
    ∃ b off x0 x1 x2 x3 x4 x5 x6 x7, A = some ⟨b, off, none⟩ ∧ xs = [x0, x1, x2, x3, x4, x5, x6, x7] ∧ w.cell? ⟨b, off + k * 8, none⟩ = some (.int q0 x0) ∧ w.cell? ⟨b, off + k * 8 + 1, none⟩ = some (.int q1 x1) ∧ w.cell? ⟨b, off + k * 8 + 2, none⟩ = some (.int q2 x2) ∧ w.cell? ⟨b, off + k * 8 + 3, none⟩ = some (.int q3 x3) ∧
      w.cell? ⟨b, off + k * 8 + 4, none⟩ = some (.int q4 x4) ∧ w.cell? ⟨b, off + k * 8 + 5, none⟩ = some (.int q5 x5) ∧ w.cell? ⟨b, off + k * 8 + 6, none⟩ = some (.int q6 x6) ∧ w.cell? ⟨b, off + k * 8 + 7, none⟩ = some (.int q7 x7) ∧ (Lit.int q6 x6).wf = true := by
  obtain ⟨b, off, hA, hl, hc⟩ := h.cellAt (by simp) hk
  match xs, hl with
  | [x0, x1, x2, x3, x4, x5, x6, x7], _ =>
    exact ⟨b, off, x0, x1, x2, x3, x4, x5, x6, x7, hA, rfl, (hc 0 _ _ rfl rfl).1, (hc 1 _ _ rfl rfl).1, (hc 2 _ _ rfl rfl).1, (hc 3 _ _ rfl rfl).1, (hc 4 _ _ rfl rfl).1, (hc 5 _ _ rfl rfl).1, (hc 6 _ _ rfl rfl).1, (hc 7 _ _ rfl rfl).1, (hc 6 _ _ rfl rfl).2⟩
end Go.Proofs.Ytpliidkfllacpaa.Shell
