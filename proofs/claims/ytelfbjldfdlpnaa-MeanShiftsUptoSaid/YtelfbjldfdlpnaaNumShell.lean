/- A slice of float64 that came in, opened: the words that it holds. -/
import Derived.Test.YtelfbjldfdlpnaaLawShell
import Derived.Test.YtelfbjldfdlpnaaNumList
import Derived.Deep.Slices
import Derived.Laws.Cover2
import Derived.SizedLaws
namespace Go.Proofs.Ytelfbjldfdlpnaa.Shell
open Go.ChangeShapes Go.WideShapes Go.ChangeAt Go.RowKit NumP
section
variable {P : Program} {H : Type} {enc : TypeId × Value → H}
theorem trod_float {w : World} {base : Nat} {spare : Nat → Bool} {held : Bool} {e : TypeId} (he : P.underlying e = some (.float .f64)) {n : Nat} {v : Value} {x : DataW H × List MemPlace} (h : DataW.trod enc P w base spare held n e [v] = some x) :
    ∃ b, v = .float .f64 b ∧ b < 18446744073709551616 := by
  cases n with
  | zero => simp [DataW.trod] at h
  | succ n =>
    cases v <;> simp only [DataW.trod, he] at h <;> try (cases h; done)
    rename_i k b
    by_cases hk : k = .f64 ∧ (Lit.float .f64 b).wf = true
    · obtain ⟨rfl, hw⟩ := hk
      exact ⟨b, rfl, f64_lt hw⟩
    · rw [if_neg hk] at h; cases h
theorem okWide_slice {w : World} {r : Reach} {b0 : Nat} {t e : TypeId} {v : Value} (ht : P.underlying t = some (.slice e)) (h : Value.okWide P w r b0 t v) : ∃ A n c, v = .slice A n c := by
  simp only [Value.okWide, ht, Cell.okWide] at h
  cases v <;> simp_all [Cell.ok]
theorem open_floats {W : World} {r : Reach} {b0 : Nat} {t e : TypeId} (ht : P.underlying t = some (.slice e)) (he : P.underlying e = some (.float .f64)) (hc : P.cellsOf e = 1) {v : Value} {d : DataW H} {ps : List MemPlace}
    (hval : Value.okWide P W r b0 t v) (hd : DataW.Trod enc P W 0 (fun _ => true) true t v d ps) : ∃ (A : Option Addr) (xs : List Nat) (c : Nat), v = .slice A xs.length c ∧ FL W A xs ∧ xs.length ≤ maxLen ∧ xs.length ≤ c ∧ (xs = [] ∨ ∃ es sp, d = .slice es sp ∧ xs.length = es.length) ∧ (A = none → c = 0) := by
  obtain ⟨A, n, c, rfl⟩ := okWide_slice ht hval
  obtain ⟨fuel, hf⟩ := hd
  rcases Go.Deep.open_slice1 ht hc hf with ⟨h1, _⟩ | ⟨a, len, cap, m, k, V, D, Pl, h1, _, hl, hm, hmm, hdat, hx⟩
  · simp only [Value.cells] at h1
    injection h1 with h1 _
    injection h1 with e1 e2 e3
    subst e1; subst e2; subst e3
    exact ⟨none, [], 0, rfl, fun k x h => by simp at h, by decide, Nat.le_refl _, Or.inl rfl, fun _ => rfl⟩
  · simp only [Value.cells] at h1
    injection h1 with h1 _
    injection h1 with e1 e2 e3
    subst e1; subst e2; subst e3
    have hb : ∀ i, i < n → ∃ b, W.cell? (a.add i) = some (.float .f64 b) ∧ b < 18446744073709551616 := by
      intro i hi
      obtain ⟨h2, h3⟩ := hx i (by rw [hmm]; simp; omega)
      obtain ⟨b, hv, hlt⟩ := trod_float he h3
      exact ⟨b, by rw [h2, hv], hlt⟩
    obtain ⟨f, hfn⟩ := Go.Deep.choose_lt (α := Nat) (p := fun i b => W.cell? (a.add i) = some (.float .f64 b) ∧ b < 18446744073709551616) hb
    refine ⟨some a, (List.range n).map f, c, by simp, ?_, by simp; omega, by simp; exact hl, Or.inr ⟨_, _, congrArg (·.1) hdat, by simp⟩, fun h => by cases h⟩
    intro i x hix
    have hi : i < n := by
      rcases Nat.lt_or_ge i n with h | h
      · exact h
      · rw [List.getElem?_eq_none (by simpa using h)] at hix; cases hix
    have : x = f i := by
      rw [List.getElem?_map, List.getElem?_range hi] at hix
      exact (Option.some.inj hix).symm
    subst this
    exact ⟨a, rfl, (hfn i hi).1, (hfn i hi).2⟩
end
end Go.Proofs.Ytelfbjldfdlpnaa.Shell

