/- Plain mathematics of a schedule: cycles and places, what is reserved, when a wire is free. -/
import Derived.ProofKit
namespace Go.Proofs.Ytnlimdlmhfnkiaa.PlanW
/-- When an entry at the phase f is sent next. -/
def snd (C f t : Int) : Int := if t / C * C + f < t then t / C * C + f + C else t / C * C + f
/-- Does the stretch from t, n long, meet that of cycle k, which begins at the place x.1 and is x.2 long? -/
def hit (C t n : Int) (x : Int × Int) (k : Int) : Prop := k * C + x.1 < t + n ∧ t < k * C + x.1 + x.2
instance (C t n : Int) (x : Int × Int) (k : Int) : Decidable (hit C t n x k) := inferInstanceAs (Decidable (_ ∧ _))
/-- The document's own question: of the cycles from one ahead to two behind. -/
def own (C : Int) (S : List (Int × Int)) (t n : Int) : Prop := ∀ x ∈ S, ∀ k, t / C - 1 ≤ k → k ≤ t / C + 2 → ¬ hit C t n x k
/-- A division of what is not negative. -/
structure DivOk (t C q p : Int) : Prop where
  eq : t / C = q
  ep : t % C = p
  eq2 : Int.tdiv t C = q
  ep2 : Int.tmod t C = p
  bq : 0 ≤ q ∧ q ≤ t
  bp : 0 ≤ p ∧ p < C
  es : q * C + p = t
theorem div_ok {t C : Int} (h : 0 ≤ t) (hC : 0 < C) : DivOk t C (t / C) (t % C) :=
  ⟨rfl, rfl, Int.tdiv_eq_ediv_of_nonneg h, Int.tmod_eq_emod_of_nonneg h, ⟨Int.ediv_nonneg h (by omega), Int.ediv_le_self _ h⟩, ⟨Int.emod_nonneg _ (by omega), Int.emod_lt_of_pos _ hC⟩, by rw [Int.mul_comm]; exact Int.mul_ediv_add_emod t C⟩
end Go.Proofs.Ytnlimdlmhfnkiaa.PlanW

