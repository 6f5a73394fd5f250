/- Plain mathematics of a schedule: cycles and places, what is reserved, when a wire is free. -/
import Derived.ProofKit
namespace Go.Proofs.Ytdaoemjkefpmcaa.PlanW
/-- When an entry at the phase f is sent next. -/
def snd (C f t : Int) : Int := if t / C * C + f < t then t / C * C + f + C else t / C * C + f
theorem div_lo {C t : Int} (hC : 0 < C) : t / C * C ≤ t := Int.ediv_mul_le t (by omega)
theorem div_hi {C t : Int} (hC : 0 < C) : t < t / C * C + C := by
  have := Int.lt_ediv_add_one_mul_self t hC
  rw [Int.add_mul, Int.one_mul] at this
  exact this
theorem snd_in {C f t : Int} (hC : 0 < C) (hf : 0 ≤ f ∧ f < C) : t ≤ snd C f t ∧ snd C f t < t + C := by
  have h1 := div_lo (t := t) hC
  have h2 := div_hi (t := t) hC
  unfold snd
  generalize t / C * C = z at *
  split <;> omega
theorem mul_mod {C f k : Int} (hf : 0 ≤ f ∧ f < C) : (k * C + f) % C = f := by
  rw [Int.add_comm, Int.add_mul_emod_self_right]
  exact Int.emod_eq_of_lt hf.1 hf.2
theorem snd_mod {C f t : Int} (hf : 0 ≤ f ∧ f < C) : snd C f t % C = f := by
  unfold snd
  split
  · rw [show t / C * C + f + C = (t / C + 1) * C + f by rw [Int.add_mul, Int.one_mul]; omega]; exact mul_mod hf
  · exact mul_mod hf
/-- A time t at the place f, and what lies within the cycle behind it. -/
theorem snd_of {C f t k : Int} (hC : 0 < C) (hf : 0 ≤ f ∧ f < C) (h1 : t ≤ k * C + f) (h2 : k * C + f < t + C) : snd C f t = k * C + f := by
  have a := snd_in (t := t) hC hf
  obtain ⟨q, hq⟩ : ∃ q : Int, snd C f t = q * C + f := by
    unfold snd
    split
    · exact ⟨t / C + 1, by rw [Int.add_mul, Int.one_mul]; omega⟩
    · exact ⟨t / C, rfl⟩
  rw [hq] at a ⊢
  have h3 : q = k := by
    rcases Int.lt_trichotomy q k with h | h | h
    · have : q * C + C ≤ k * C := by rw [show q * C + C = (q + 1) * C by rw [Int.add_mul, Int.one_mul]]; exact Int.mul_le_mul_of_nonneg_right (by omega) (by omega)
      omega
    · exact h
    · have : k * C + C ≤ q * C := by rw [show k * C + C = (k + 1) * C by rw [Int.add_mul, Int.one_mul]]; exact Int.mul_le_mul_of_nonneg_right (by omega) (by omega)
      omega
  rw [h3]
theorem snd_same {C f t : Int} (hC : 0 < C) (hf : 0 ≤ f ∧ f < C) : snd C f (snd C f t) = snd C f t := by
  obtain ⟨q, hq⟩ : ∃ q : Int, snd C f t = q * C + f := by
    unfold snd
    split
    · exact ⟨t / C + 1, by rw [Int.add_mul, Int.one_mul]; omega⟩
    · exact ⟨t / C, rfl⟩
  rw [hq]
  exact snd_of hC hf (Int.le_refl _) (by omega)
theorem snd_next {C f t : Int} (hC : 0 < C) (hf : 0 ≤ f ∧ f < C) : snd C f (snd C f t + 1) = snd C f t + C := by
  obtain ⟨q, hq⟩ : ∃ q : Int, snd C f t = q * C + f := by
    unfold snd
    split
    · exact ⟨t / C + 1, by rw [Int.add_mul, Int.one_mul]; omega⟩
    · exact ⟨t / C, rfl⟩
  rw [hq, show q * C + f + C = (q + 1) * C + f by rw [Int.add_mul, Int.one_mul]; omega]
  exact snd_of hC hf (by rw [Int.add_mul, Int.one_mul]; omega) (by rw [Int.add_mul, Int.one_mul]; omega)
/-- Does the stretch from t, n long, meet that of cycle k, which begins at the place x.1 and is x.2 long? -/
def hit (C t n : Int) (x : Int × Int) (k : Int) : Prop := k * C + x.1 < t + n ∧ t < k * C + x.1 + x.2
instance (C t n : Int) (x : Int × Int) (k : Int) : Decidable (hit C t n x k) := inferInstanceAs (Decidable (_ ∧ _))
/-- Reserved stretches that lie within the cycle. -/
def Ok (C : Int) (S : List (Int × Int)) : Prop := ∀ x ∈ S, 0 ≤ x.1 ∧ 0 < x.2 ∧ x.1 + x.2 ≤ C
/-- Is something reserved met? -/
def met (C : Int) (S : List (Int × Int)) (t n : Int) : Prop := ∃ x ∈ S, ∃ k, hit C t n x k
theorem mul_lt {C a b : Int} (hC : 0 < C) (h : a * C < b * C) : a < b := by
  by_cases h1 : a < b
  · exact h1
  · have := Int.mul_le_mul_of_nonneg_right (show b ≤ a by omega) (Int.le_of_lt hC)
    omega
/-- Only the stretches of the time's own cycle and of the next one can be met. -/
theorem hit_k {C t n k : Int} {x : Int × Int} (hC : 0 < C) (hx : 0 ≤ x.1 ∧ 0 < x.2 ∧ x.1 + x.2 ≤ C) (hn : n ≤ C) (h : hit C t n x k) : t / C ≤ k ∧ k ≤ t / C + 1 := by
  obtain ⟨h1, h2⟩ := h
  have a := div_lo (t := t) hC
  have b := div_hi (t := t) hC
  have e1 : t / C * C < (k + 1) * C := by rw [Int.add_mul, Int.one_mul]; omega
  have e2 : k * C < (t / C + 2) * C := by rw [Int.add_mul]; omega
  have := mul_lt hC e1
  have := mul_lt hC e2
  omega
/-- The document's own question: of the cycles from one ahead to two behind. -/
def own (C : Int) (S : List (Int × Int)) (t n : Int) : Prop := ∀ x ∈ S, ∀ k, t / C - 1 ≤ k → k ≤ t / C + 2 → ¬ hit C t n x k
theorem own_iff {C t n : Int} {S : List (Int × Int)} (hC : 0 < C) (hS : Ok C S) (hn : n ≤ C) : own C S t n ↔ ¬ met C S t n := by
  constructor
  · rintro h ⟨x, hx, k, hk⟩
    have := hit_k hC (hS x hx) hn hk
    exact h x hx k (by omega) (by omega) hk
  · intro h x hx k _ _ hk
    exact h ⟨x, hx, k, hk⟩
/-- A cycle later all is the same. -/
theorem met_later {C t n : Int} {S : List (Int × Int)} : met C S (t + C) n ↔ met C S t n := by
  constructor
  · rintro ⟨x, hx, k, h1, h2⟩
    refine ⟨x, hx, k - 1, ?_, ?_⟩ <;> rw [Int.sub_mul, Int.one_mul] <;> omega
  · rintro ⟨x, hx, k, h1, h2⟩
    refine ⟨x, hx, k + 1, ?_, ?_⟩ <;> rw [Int.add_mul, Int.one_mul] <;> omega
/-- The first free time behind one that isn't free is the end of what is reserved. -/
theorem end_of {C u n : Int} {S : List (Int × Int)} (h1 : met C S (u - 1) n) (h2 : ¬ met C S u n) : ∃ x ∈ S, ∃ k : Int, u = k * C + x.1 + x.2 := by
  obtain ⟨x, hx, k, a, b⟩ := h1
  refine ⟨x, hx, k, ?_⟩
  have : ¬ u < k * C + x.1 + x.2 := fun h => h2 ⟨x, hx, k, by omega, h⟩
  omega
/-- The first free time from t on, up to two cycles later; or none. -/
def First (C : Int) (S : List (Int × Int)) (n t : Int) : Option Int → Prop
  | some u => (t ≤ u ∧ u ≤ t + 2 * C) ∧ ¬ met C S u n ∧ ∀ v, t ≤ v → v < u → met C S v n
  | none => ∀ v, t ≤ v → v ≤ t + 2 * C → met C S v n
theorem first_one {C n t : Int} {S : List (Int × Int)} : ∀ {a b : Option Int}, First C S n t a → First C S n t b → a = b
  | none, none, _, _ => rfl
  | none, some u, h, g => absurd (h u g.1.1 g.1.2) g.2.1
  | some u, none, h, g => absurd (g u h.1.1 h.1.2) h.2.1
  | some u, some v, h, g => by
    rcases Int.lt_trichotomy u v with e | e | e
    · exact absurd (g.2.2 u h.1.1 e) h.2.1
    · rw [e]
    · exact absurd (h.2.2 v g.1.1 e) g.2.1
/-- A time that may be told: within two cycles, and free. -/
def good (C : Int) (S : List (Int × Int)) (n t u : Int) : Prop := (t ≤ u ∧ u ≤ t + 2 * C) ∧ ¬ met C S u n
/-- The ends of what is reserved, as far as they may be told. -/
theorem end_k {C t k : Int} {x : Int × Int} (hC : 0 < C) (hx : 0 ≤ x.1 ∧ 0 < x.2 ∧ x.1 + x.2 ≤ C) (h1 : t < k * C + x.1 + x.2) (h2 : k * C + x.1 + x.2 ≤ t + 2 * C) : t / C ≤ k ∧ k ≤ t / C + 2 := by
  have a := div_lo (t := t) hC
  have b := div_hi (t := t) hC
  have e1 : t / C * C < (k + 1) * C := by rw [Int.add_mul, Int.one_mul]; omega
  have e2 : k * C < (t / C + 3) * C := by rw [Int.add_mul]; omega
  have := mul_lt hC e1
  have := mul_lt hC e2
  omega
/-- What a loop keeps: the least one so far, of those that may be told. -/
def Best (P : Int → Prop) (cs : List Int) : Option Int → Prop
  | some b => b ∈ cs ∧ P b ∧ ∀ c ∈ cs, P c → b ≤ c
  | none => ∀ c ∈ cs, ¬ P c
theorem best_nil (P : Int → Prop) : Best P [] none := fun c h => by cases h
theorem best_no {P : Int → Prop} {cs : List Int} {r : Option Int} {c : Int} (h : Best P cs r) (hc : ¬ P c ∨ ∃ b, r = some b ∧ b ≤ c) : Best P (cs ++ [c]) r := by
  cases r with
  | none =>
    intro d hd
    rcases List.mem_append.1 hd with hd | hd
    · exact h d hd
    · rw [List.mem_singleton] at hd
      rw [hd]
      rcases hc with hc | ⟨b, hb, -⟩
      · exact hc
      · cases hb
  | some b =>
    refine ⟨List.mem_append_left _ h.1, h.2.1, fun d hd hp => ?_⟩
    rcases List.mem_append.1 hd with hd | hd
    · exact h.2.2 d hd hp
    · rw [List.mem_singleton] at hd
      subst hd
      rcases hc with hc | ⟨b', hb, hle⟩
      · exact absurd hp hc
      · cases hb; exact hle
theorem best_yes {P : Int → Prop} {cs : List Int} {r : Option Int} {c : Int} (h : Best P cs r) (hp : P c) (hc : ∀ b, r = some b → c < b) : Best P (cs ++ [c]) (some c) := by
  refine ⟨List.mem_append_right _ (List.mem_singleton.2 rfl), hp, fun d hd hq => ?_⟩
  rcases List.mem_append.1 hd with hd | hd
  · cases r with
    | none => exact absurd hq (h d hd)
    | some b =>
      have := h.2.2 d hd hq
      have := hc b rfl
      omega
  · rw [List.mem_singleton] at hd
    rw [hd]
    exact Int.le_refl _
/-- Whoever looks at the time itself and at the ends of what is reserved finds the first free time. -/
theorem best_first {C n t : Int} {S : List (Int × Int)} {cs : List Int} {r : Option Int} (hC : 0 < C) (hS : Ok C S) (ht : met C S t n) (h : Best (good C S n t) cs r)
    (hcs : ∀ x ∈ S, ∀ k : Int, t / C ≤ k → k ≤ t / C + 2 → k * C + x.1 + x.2 ∈ cs) : First C S n t r := by
  have key : ∀ (N : Nat) (u : Int), u = t + (N : Int) → u ≤ t + 2 * C → ¬ met C S u n → ∃ c ∈ cs, good C S n t c ∧ c ≤ u := by
    intro N
    induction N with
    | zero =>
      intro u hu _ hm
      rw [show u = t by omega] at hm
      exact absurd ht hm
    | succ N ih =>
      intro u hu h2 hm
      by_cases hp : met C S (u - 1) n
      · obtain ⟨x, hx, k, hk⟩ := end_of hp hm
        have := end_k (t := t) (k := k) hC (hS x hx) (by omega) (by omega)
        exact ⟨u, by rw [hk]; exact hcs x hx k this.1 this.2, ⟨⟨by omega, h2⟩, hm⟩, Int.le_refl _⟩
      · obtain ⟨c, h3, h4, h5⟩ := ih (u - 1) (by omega) (by omega) hp
        exact ⟨c, h3, h4, by omega⟩
  cases r with
  | none =>
    intro v h1 h2
    by_cases hv : met C S v n
    · exact hv
    · obtain ⟨c, h3, h4, -⟩ := key (v - t).toNat v (by omega) h2 hv
      exact absurd h4 (h c h3)
  | some b =>
    refine ⟨h.2.1.1, h.2.1.2, fun v h1 h2 => ?_⟩
    by_cases hv : met C S v n
    · exact hv
    · obtain ⟨c, h3, h4, h5⟩ := key (v - t).toNat v (by omega) (by have := h.2.1.1; omega) hv
      have := h.2.2 c h3 h4
      omega
theorem first_now {C n t : Int} {S : List (Int × Int)} (hC : 0 < C) (h : ¬ met C S t n) : First C S n t (some t) := ⟨⟨by omega, by omega⟩, h, fun v h1 h2 => by omega⟩
/-- Is something met: to be computed. -/
def mtb (C t n : Int) (S : List (Int × Int)) : Bool := S.any fun x => decide (hit C t n x (t / C)) || decide (hit C t n x (t / C + 1))
theorem mtb_iff {C t n : Int} {S : List (Int × Int)} (hC : 0 < C) (hS : Ok C S) (hn : n ≤ C) : mtb C t n S = true ↔ met C S t n := by
  unfold mtb
  rw [List.any_eq_true]
  constructor
  · rintro ⟨x, hx, h⟩
    rw [Bool.or_eq_true, decide_eq_true_eq, decide_eq_true_eq] at h
    rcases h with h | h
    · exact ⟨x, hx, _, h⟩
    · exact ⟨x, hx, _, h⟩
  · rintro ⟨x, hx, k, hk⟩
    refine ⟨x, hx, ?_⟩
    have := hit_k hC (hS x hx) hn hk
    rw [Bool.or_eq_true, decide_eq_true_eq, decide_eq_true_eq]
    rcases (show k = t / C ∨ k = t / C + 1 by omega) with rfl | rfl
    · exact Or.inl hk
    · exact Or.inr hk
/-- A stretch that is met is met till its end: where it ends nothing ahead is free. -/
theorem met_till {C t n k : Int} {S : List (Int × Int)} {x : Int × Int} (hx : x ∈ S) (hk : hit C t n x k) {v : Int} (h1 : t ≤ v) (h2 : v < k * C + x.1 + x.2) : met C S v n :=
  ⟨x, hx, k, by have := hk.1; omega, h2⟩
/-- What a wire is waited for: told. -/
def tel (r : Option Int) : Int × Bool := (r.getD 0, r.isSome)
theorem mtb_false {C t n : Int} {S : List (Int × Int)} (h : ∀ x ∈ S, ¬ hit C t n x (t / C) ∧ ¬ hit C t n x (t / C + 1)) : mtb C t n S = false := by
  rw [← Bool.not_eq_true]
  unfold mtb
  rw [List.any_eq_true]
  rintro ⟨x, hx, g⟩
  rw [Bool.or_eq_true, decide_eq_true_eq, decide_eq_true_eq] at g
  rcases g with g | g
  · exact (h x hx).1 g
  · exact (h x hx).2 g
theorem mtb_true {C t n k : Int} {S : List (Int × Int)} {x : Int × Int} (hx : x ∈ S) (hk : k = t / C ∨ k = t / C + 1) (h : hit C t n x k) : mtb C t n S = true := by
  unfold mtb
  rw [List.any_eq_true]
  refine ⟨x, hx, ?_⟩
  rw [Bool.or_eq_true, decide_eq_true_eq, decide_eq_true_eq]
  rcases hk with rfl | rfl
  · exact Or.inl h
  · exact Or.inr h
/-- A division of what is not negative. -/
structure DivOk (t C q p : Int) : Prop where
  eq : t / C = q
  ep : t % C = p
  eq2 : Int.tdiv t C = q
  ep2 : Int.tmod t C = p
  bq : 0 ≤ q ∧ q ≤ t
  bp : 0 ≤ p ∧ p < C
  es : q * C + p = t
theorem div_ok {t C : Int} (h : 0 ≤ t) (hC : 0 < C) : DivOk t C (t / C) (t % C) :=
  ⟨rfl, rfl, Int.tdiv_eq_ediv_of_nonneg h, Int.tmod_eq_emod_of_nonneg h, ⟨Int.ediv_nonneg h (by omega), Int.ediv_le_self _ h⟩, ⟨Int.emod_nonneg _ (by omega), Int.emod_lt_of_pos _ hC⟩, by rw [Int.mul_comm]; exact Int.mul_ediv_add_emod t C⟩
end Go.Proofs.Ytdaoemjkefpmcaa.PlanW
