/- Arguments that came in, opened: an array of whole numbers; a slice of structs of whole numbers. -/
import Derived.Deep.Slices
import Derived.Laws.Cover2
import Derived.SizedLaws
import Derived.ProofKit
import Derived.OpenShut
import Derived.Lib.Hide
import Derived.Lib.AtoiErrMem
namespace Go.Proofs.Ytnlimdlmhfnkiaa.Shell
open Go.ChangeShapes Go.WideShapes Go.ChangeAt Go.RowKit
section
variable {P : Program} {H : Type} {enc : TypeId × Value → H}
theorem trod_num {w : World} {base : Nat} {spare : Nat → Bool} {held : Bool} {e : TypeId} {q : IntKind} (he : P.underlying e = some (.int q)) {n : Nat} {v : Value} {x : DataW H × List MemPlace} (h : DataW.trod enc P w base spare held n e [v] = some x) :
    ∃ b : Int, v = .int q b ∧ (Lit.int q b).wf = true := by
  obtain ⟨a, ea, rfl, wa⟩ := DataW.trod_int he h
  injection ea with ea _
  exact ⟨a, ea, wa⟩
theorem open_array {W : World} {r : Reach} {b0 n : Nat} {t e : TypeId} {q : IntKind} (ht : P.underlying t = some (.array n e)) (he : P.underlying e = some (.int q)) (hc : P.cellsOf e = 1) (hn : P.cellsOf t = n) {v : Value} {d : DataW H} {ps : List MemPlace}
    (hval : Value.okWide P W r b0 t v) (hd : DataW.Trod enc P W 0 (fun _ => true) true t v d ps) : ∃ xs : List Int, v = .agg (xs.map (Value.int q)).toArray ∧ xs.length = n ∧ ∀ x ∈ xs, (Lit.int q x).wf = true := by
  simp only [Value.okWide, ht] at hval
  obtain ⟨cs, rfl, hsz, -⟩ := hval
  rw [hn] at hsz
  obtain ⟨fuel, hf⟩ := hd
  obtain ⟨ys, m, -, -, -, hl, hg⟩ := DataW.trod_array ht hf
  have each : ∀ i, i < n → ∃ b : Int, cs[i]? = some (.int q b) ∧ (Lit.int q b).wf = true := by
    intro i hi
    have h := hg i hi
    rw [hc, Nat.mul_one, List.getElem?_eq_getElem (by omega)] at h
    have hv : (cs.toList.drop i).take 1 = [cs[i]] := by
      rw [List.drop_eq_getElem_cons (by simp; omega)]
      simp
    simp only [Value.cells] at h
    rw [hv] at h
    obtain ⟨b, hb, hw⟩ := trod_num he h
    exact ⟨b, by rw [Array.getElem?_eq_getElem (by omega), hb], hw⟩
  obtain ⟨f, hfn⟩ := Go.Deep.choose_lt (α := Int) (p := fun i b => cs[i]? = some (.int q b) ∧ (Lit.int q b).wf = true) each
  refine ⟨(List.range n).map f, ?_, by simp, ?_⟩
  · congr 1
    apply Array.ext_getElem?
    intro i
    rcases Nat.lt_or_ge i n with hi | hi
    · rw [(hfn i hi).1]
      simp [hi]
    · rw [Array.getElem?_eq_none (by omega)]
      simp [hi]
  · intro x hx
    obtain ⟨i, hi, rfl⟩ := List.mem_map.1 hx
    exact (hfn i (List.mem_range.1 hi)).2
theorem len3 {l : List Int} (h : l.length = 3) : ∃ a b c, l = [a, b, c] := by
  match l, h with
  | [a, b, c], _ => exact ⟨a, b, c, rfl⟩
theorem len2 {l : List Int} (h : l.length = 2) : ∃ a b, l = [a, b] := by
  match l, h with
  | [a, b], _ => exact ⟨a, b, rfl⟩
/-- A slice of structs of whole numbers, row by row. -/
def RL (w : World) (qs : List IntKind) (A : Option Addr) (rows : List (List Int)) : Prop :=
  ∀ (k : Nat) (xs : List Int), rows[k]? = some xs → xs.length = qs.length ∧ ∃ a, A = some a ∧ ∀ (i : Nat) (q : IntKind) (x : Int), qs[i]? = some q → xs[i]? = some x → w.cell? (a.add (k * qs.length + i)) = some (.int q x) ∧ (Lit.int q x).wf = true
theorem RL.below {w w1 : World} {qs : List IntKind} {A : Option Addr} {rows : List (List Int)} (h : RL w qs A rows) (b : Below w.heap.size w w1) : RL w1 qs A rows := by
  intro k xs hk
  obtain ⟨hl, a, ha, hc⟩ := h k xs hk
  refine ⟨hl, a, ha, fun i q x hq hx => ?_⟩
  obtain ⟨h1, h2⟩ := hc i q x hq hx
  exact ⟨(b.cell (Lib.lt_of_cell h1)).trans h1, h2⟩
theorem slice_val {w : World} {r : Reach} {b0 : Nat} {t e : TypeId} {v : Value} (ht : P.underlying t = some (.slice e)) (h : Value.okWide P w r b0 t v) : ∃ A n c, v = .slice A n c := by
  simp only [Value.okWide, ht, Cell.okWide] at h
  cases v <;> simp_all [Cell.ok]
theorem open_rows {W : World} {r : Reach} {b0 : Nat} {t e : TypeId} {fs : Array Field} {qs : List IntKind} (ht : P.underlying t = some (.slice e)) (he : P.underlying e = some (.struct fs)) (hc : P.cellsOf e = qs.length) (hs : fs.size = qs.length)
    (hF : ∀ (i : Nat) (f : Field) (q : IntKind), fs[i]? = some f → qs[i]? = some q → f.offset = i ∧ P.cellsOf f.type = 1 ∧ P.underlying f.type = some (.int q)) {v : Value} {d : DataW H} {ps : List MemPlace}
    (hval : Value.okWide P W r b0 t v) (hd : DataW.Trod enc P W 0 (fun _ => true) true t v d ps) : ∃ (A : Option Addr) (rows : List (List Int)) (c : Nat), v = .slice A rows.length c ∧ RL W qs A rows ∧ rows.length ≤ maxLen ∧ rows.length ≤ c ∧ (rows = [] ∨ ∃ es sp, d = .slice es sp ∧ rows.length = es.length) ∧ (A = none → c = 0) := by
  obtain ⟨A, n, c, rfl⟩ := slice_val ht hval
  obtain ⟨fuel, hf⟩ := hd
  rcases Go.Deep.open_slice ht hf with ⟨h1, _⟩ | ⟨a, len, cap, m, k, D, Pl, h1, _, hl, hm, hmm, hdat, hx⟩
  · simp only [Value.cells] at h1
    injection h1 with h1 _
    injection h1 with e1 e2 e3
    subst e1; subst e2; subst e3
    exact ⟨none, [], 0, rfl, fun k x h => by simp at h, by decide, Nat.le_refl _, Or.inl rfl, fun _ => rfl⟩
  · simp only [Value.cells] at h1
    injection h1 with h1 _
    injection h1 with e1 e2 e3
    subst e1; subst e2; subst e3
    have each : ∀ i, i < n → ∃ xs : List Int, xs.length = qs.length ∧ ∀ (j : Nat) (q : IntKind) (x : Int), qs[j]? = some q → xs[j]? = some x → W.cell? (a.add (i * qs.length + j)) = some (.int q x) ∧ (Lit.int q x).wf = true := by
      intro i hi
      obtain ⟨cs, h2, h3⟩ := hx i (by rw [hmm]; simp; omega)
      rw [hc] at h2
      obtain ⟨-, hlen, hcell⟩ := World.cells?_some h2
      obtain ⟨ys, k', -, -, -, hyl, hg⟩ := DataW.trod_struct he h3
      have one : ∀ j, j < qs.length → ∃ b : Int, ∀ q, qs[j]? = some q → W.cell? (a.add (i * qs.length + j)) = some (.int q b) ∧ (Lit.int q b).wf = true := by
        intro j hj
        obtain ⟨f, hfj⟩ : ∃ f, fs[j]? = some f := ⟨_, Array.getElem?_eq_getElem (by omega)⟩
        obtain ⟨q, hq⟩ : ∃ q, qs[j]? = some q := ⟨_, List.getElem?_eq_getElem hj⟩
        obtain ⟨ho, h1c, hu⟩ := hF j f q hfj hq
        have h4 := hg j f hfj
        rw [ho, h1c, List.getElem?_eq_getElem (by omega)] at h4
        have hv : (cs.drop j).take 1 = [cs[j]'(by omega)] := by
          rw [List.drop_eq_getElem_cons (by omega)]
          rfl
        rw [hv] at h4
        obtain ⟨b, hb, hw⟩ := trod_num hu h4
        refine ⟨b, fun q' hq' => ?_⟩
        rw [hq] at hq'
        obtain rfl := Option.some.inj hq'
        have h5 := hcell j (by omega)
        rw [Go.Deep.add_add, List.getElem?_eq_getElem (by omega), hb] at h5
        exact ⟨h5, hw⟩
      obtain ⟨g, hgn⟩ := Go.Deep.choose_lt (α := Int) one
      refine ⟨(List.range qs.length).map g, by simp, fun j q x hq hx => ?_⟩
      have hj : j < qs.length := by
        rcases Nat.lt_or_ge j qs.length with h | h
        · exact h
        · rw [List.getElem?_eq_none h] at hq; cases hq
      have : x = g j := by
        rw [List.getElem?_map, List.getElem?_range hj] at hx
        exact (Option.some.inj hx).symm
      subst this
      exact hgn j hj q hq
    obtain ⟨f, hfn⟩ := Go.Deep.choose_lt (α := List Int) each
    refine ⟨some a, (List.range n).map f, c, by simp, ?_, by simp; omega, by simp; exact hl, Or.inr ⟨_, _, congrArg (·.1) hdat, by simp⟩, fun h => by cases h⟩
    intro i x hix
    have hi : i < n := by
      rcases Nat.lt_or_ge i n with h | h
      · exact h
      · rw [List.getElem?_eq_none (by simpa using h)] at hix; cases hix
    have : x = f i := by
      rw [List.getElem?_map, List.getElem?_range hi] at hix
      exact (Option.some.inj hix).symm
    subst this
    exact ⟨(hfn i hi).1, a, rfl, (hfn i hi).2⟩
end
end Go.Proofs.Ytnlimdlmhfnkiaa.Shell

