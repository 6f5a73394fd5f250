/- A slice of truths that came in; a number within bounds that wraps. All programs at once. -/
import Derived.Test.YtjglgglolbkjlaaSmall
import Derived.Test.YtjglgglolbkjlaaOpen
namespace Go.Proofs.Ytjglgglolbkjlaa.Shell
open Go.ChangeShapes Go.WideShapes Go.ChangeAt Go.RowKit
/-- The slice's cells hold these truths. -/
def BB (w : World) (A : Option Addr) (bs : List Bool) : Prop := ∀ (k : Nat) (b : Bool), bs[k]? = some b → ∃ a, A = some a ∧ w.cell? (a.add k) = some (.bool b)
theorem BB.below {w w1 : World} {A : Option Addr} {bs : List Bool} (h : BB w A bs) (b : Below w.heap.size w w1) : BB w1 A bs := by
  intro k x hk
  obtain ⟨a, ha, hc⟩ := h k x hk
  exact ⟨a, ha, (b.cell (Lib.lt_of_cell hc)).trans hc⟩
section
variable {P : Program} {H : Type} {enc : TypeId × Value → H}
theorem open_bools {W : World} {r : Reach} {b0 : Nat} {t e : TypeId} (ht : P.underlying t = some (.slice e)) (he : P.underlying e = some .bool) (hc : P.cellsOf e = 1) {v : Value} {d : DataW H} {ps : List MemPlace}
    (hval : Value.okWide P W r b0 t v) (hd : DataW.Trod enc P W 0 (fun _ => true) true t v d ps) : ∃ (A : Option Addr) (xs : List Bool) (c : Nat), v = .slice A xs.length c ∧ BB W A xs ∧ xs.length ≤ maxLen ∧ xs.length ≤ c ∧ (xs = [] ∨ ∃ es sp, d = .slice es sp ∧ xs.length = es.length) ∧ (A = none → c = 0) := by
  obtain ⟨A, n, c, rfl⟩ := slice_val ht hval
  obtain ⟨fuel, hf⟩ := hd
  rcases Go.Deep.open_slice1 ht hc hf with ⟨h1, _⟩ | ⟨a, len, cap, m, k, V, D, Pl, h1, _, hl, hm, hmm, hdat, hx⟩
  · simp only [Value.cells] at h1
    injection h1 with h1 _
    injection h1 with e1 e2 e3
    subst e1; subst e2; subst e3
    exact ⟨none, [], 0, rfl, fun k x h => by simp at h, by decide, Nat.le_refl _, Or.inl rfl, fun _ => rfl⟩
  · simp only [Value.cells] at h1
    injection h1 with h1 _
    injection h1 with e1 e2 e3
    subst e1; subst e2; subst e3
    have hb : ∀ i, i < n → ∃ b : Bool, W.cell? (a.add i) = some (.bool b) := by
      intro i hi
      obtain ⟨h2, h3⟩ := hx i (by rw [hmm]; simp; omega)
      obtain ⟨b, hv, -⟩ := DataW.trod_bool he h3
      injection hv with hv _
      exact ⟨b, by rw [h2, hv]⟩
    obtain ⟨f, hfn⟩ := Go.Deep.choose_lt (α := Bool) hb
    refine ⟨some a, (List.range n).map f, c, by simp, ?_, by simp; omega, by simp; exact hl, Or.inr ⟨_, _, congrArg (·.1) hdat, by simp⟩, fun h => by cases h⟩
    intro i x hix
    have hi : i < n := by
      rcases Nat.lt_or_ge i n with h | h
      · exact h
      · rw [List.getElem?_eq_none (by simpa using h)] at hix; cases hix
    have : x = f i := by
      rw [List.getElem?_map, List.getElem?_range hi] at hix
      exact (Option.some.inj hix).symm
    subst this
    exact ⟨a, rfl, hfn i hi⟩
end
theorem wr_of {x z : Int} (h : x = z) (hz : -4503599627370496 ≤ z ∧ z ≤ 4503599627370496) : IntKind.i64.wrap x = z ∧ wrap64 x = z := by
  subst h
  constructor
  · rw [IntKind.wrap_i64]; omega
  · unfold wrap64; omega
end Go.Proofs.Ytjglgglolbkjlaa.Shell
