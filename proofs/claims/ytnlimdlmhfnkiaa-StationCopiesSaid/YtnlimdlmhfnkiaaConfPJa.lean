/- Plain: a configuration, its times, what keeps it from being one. -/
import Derived.Test.YtnlimdlmhfnkiaaCrewP
import Derived.ProofKit
namespace Go.Proofs.Ytnlimdlmhfnkiaa.ConfW
open Go.RowKit
/-- Four numbers: an entry (From, To, Phase, Size) or a link (From, To, Gap, Size). -/
structure R4 where
  a : Int
  b : Nat
  c : Int
  d : Int
structure Cfg where
  hosts : Int
  cycle : Int
  delay : Int
  window : Int
  precision : Int
  delays : List (List Int)
  entries : List R4
  links : List R4
  queue : Int
/-- Between two numbers, both with it. -/
def btw (n l h : Int) : Bool := decide (l ≤ n) && decide (n ≤ h)
theorem btw_iff {n l h : Int} : btw n l h = true ↔ l ≤ n ∧ n ≤ h := by simp [btw]
/-- How long a frame is on a wire. -/
def tim (n : Int) : Int := if n < 64 then 512 else if n > 1518 then 12144 else n * 8
theorem tim_pos (n : Int) : 512 ≤ tim n ∧ tim n ≤ 12144 := by unfold tim; split <;> (try split) <;> omega
def spansT (c : Cfg) : Bool := btw c.delay 0 1048576 && btw c.window 0 1048576 && btw c.precision 0 1048576
def spans (c : Cfg) : Bool := btw c.cycle 1 1073741824 && spansT c
/-- May sender, receivers and size be, among so many hosts? -/
def way (h : Int) (f : Int) (t : Nat) (s : Int) : Bool := btw f 0 (h - 1) && !decide (t = 0) && decide (t < 2 ^ h.toNat) && !CrewW.has t f && btw s 64 1518
def wayE (h : Int) (e : R4) : Bool := way h e.a e.b e.d
def placed (c : Cfg) (e : R4) : Bool := spans c && wayE 6 e && btw e.c (-1125899906842624) 1125899906842624
def quiet (c : Cfg) : Int := if spans c then 2 * c.delay + c.window + 4 * c.precision else 0
def fwd (c : Cfg) (e : R4) : Int := if placed c e then e.c + tim e.d + c.delay + 2 * c.precision else 0
def ear (c : Cfg) (e : R4) : Int := if placed c e then e.c + tim e.d + c.delay + 2 * c.precision + tim e.d - c.precision else 0
def lat (c : Cfg) (e : R4) : Int := if placed c e then e.c + tim e.d + c.delay + 2 * c.precision + tim e.d + c.delay + c.precision else 0
def at0 (c : Cfg) (e : R4) : Int := if placed c e then e.c + tim e.d - c.precision else 0
def at1 (c : Cfg) (e : R4) : Int := if placed c e then e.c + tim e.d + c.delay + c.precision else 0
theorem spansT_iff {c : Cfg} : spansT c = true ↔ (0 ≤ c.delay ∧ c.delay ≤ 1048576) ∧ (0 ≤ c.window ∧ c.window ≤ 1048576) ∧ 0 ≤ c.precision ∧ c.precision ≤ 1048576 := by
  unfold spansT
  rw [Bool.and_eq_true, Bool.and_eq_true, btw_iff, btw_iff, btw_iff, and_assoc]
theorem spans_iff {c : Cfg} : spans c = true ↔ (1 ≤ c.cycle ∧ c.cycle ≤ 1073741824) ∧ spansT c = true := by
  unfold spans
  rw [Bool.and_eq_true, btw_iff]
theorem placed_iff {c : Cfg} {e : R4} : placed c e = true ↔ spans c = true ∧ wayE 6 e = true ∧ -1125899906842624 ≤ e.c ∧ e.c ≤ 1125899906842624 := by
  unfold placed
  rw [Bool.and_eq_true, Bool.and_eq_true, btw_iff, and_assoc]
theorem way_iff {h f : Int} {t : Nat} {s : Int} : way h f t s = true ↔ (0 ≤ f ∧ f ≤ h - 1) ∧ t ≠ 0 ∧ t < 2 ^ h.toNat ∧ CrewW.has t f = false ∧ 64 ≤ s ∧ s ≤ 1518 := by
  unfold way
  simp only [Bool.and_eq_true, btw_iff, Bool.not_eq_true', decide_eq_false_iff_not, decide_eq_true_eq, and_assoc, ne_eq]
end Go.Proofs.Ytnlimdlmhfnkiaa.ConfW


/- Plain: what keeps a configuration from being one. -/
namespace Go.Proofs.Ytnlimdlmhfnkiaa.ConfW
open Go.RowKit
theorem all_true {α : Type} {l : List α} {p : α → Bool} (h : ∀ (k : Nat) (x : α), l[k]? = some x → p x = true) : l.all p = true := by
  rw [List.all_eq_true]
  intro x hx
  obtain ⟨k, hk⟩ := List.getElem?_of_mem hx
  exact h k x hk
theorem all_false {α : Type} {l : List α} {p : α → Bool} {k : Nat} {x : α} (hk : l[k]? = some x) (h : p x = false) : l.all p = false := by
  rw [← Bool.not_eq_true, List.all_eq_true]
  intro g
  rw [g x (List.mem_of_getElem? hk)] at h
  cases h
def rowOk (c : Cfg) (r : List Int) : Bool := decide (r.length = 2) && r.all (fun x => btw x 0 c.delay)
def rowsOk (c : Cfg) : Bool := decide ((c.delays.length : Int) = c.hosts) && c.delays.all (rowOk c)
def entOk (c : Cfg) : Bool := decide (c.entries.length ≤ 16) && c.entries.all (wayE c.hosts)
def lnk (c : Cfg) (l : R4) : Bool := wayE c.hosts l && btw l.c 1 1073741824
def linkOk (c : Cfg) : Bool := decide (c.links.length ≤ 16) && c.links.all (lnk c)
def ph (c : Cfg) (e : R4) : Bool := !(decide (e.c < quiet c) || decide (c.cycle ≤ e.c) || decide (c.cycle ≤ lat c e))
def phOk (c : Cfg) : Bool := c.entries.all (ph c)
def snd (a b : R4) : Bool := decide (a.a = b.a) && (decide (a.c < b.c + tim b.d) && decide (b.c < a.c + tim a.d))
def rcv (c : Cfg) (a b : R4) : Bool := decide (a.b &&& b.b ≠ 0) && (decide (fwd c a < fwd c b + tim b.d) && decide (fwd c b < fwd c a + tim a.d))
/-- Does it hold of any two of the list? -/
def prs (p : R4 → R4 → Bool) : List R4 → Bool
  | [] => false
  | a :: l => l.any (p a) || prs p l
theorem prs_iff (p : R4 → R4 → Bool) : ∀ l : List R4, prs p l = true ↔ ∃ (i j : Nat) (a b : R4), i < j ∧ l[i]? = some a ∧ l[j]? = some b ∧ p a b = true
  | [] => by simp [prs]
  | x :: l => by
    unfold prs
    rw [Bool.or_eq_true, prs_iff p l, List.any_eq_true]
    constructor
    · rintro (⟨b, hb, h⟩ | ⟨i, j, a, b, h1, h2, h3, h4⟩)
      · obtain ⟨k, hk⟩ := List.getElem?_of_mem hb
        exact ⟨0, k + 1, x, b, by omega, rfl, by simpa using hk, h⟩
      · exact ⟨i + 1, j + 1, a, b, by omega, by simpa using h2, by simpa using h3, h4⟩
    · rintro ⟨i, j, a, b, h1, h2, h3, h4⟩
      rcases i with _ | i
      · obtain ⟨j, rfl⟩ : ∃ j', j = j' + 1 := ⟨j - 1, by omega⟩
        simp only [List.getElem?_cons_zero, Option.some.injEq] at h2
        subst h2
        rw [List.getElem?_cons_succ] at h3
        exact Or.inl ⟨b, List.mem_of_getElem? h3, h4⟩
      · obtain ⟨j, rfl⟩ : ∃ j', j = j' + 1 := ⟨j - 1, by omega⟩
        rw [List.getElem?_cons_succ] at h2 h3
        exact Or.inr ⟨i, j, a, b, by omega, h2, h3, h4⟩
theorem prs_true {p : R4 → R4 → Bool} {l : List R4} {i j : Nat} {a b : R4} (h : i < j) (hi : l[i]? = some a) (hj : l[j]? = some b) (hp : p a b = true) : prs p l = true := (prs_iff p l).2 ⟨i, j, a, b, h, hi, hj, hp⟩
theorem prs_false {p : R4 → R4 → Bool} {l : List R4} (h : ∀ (i j : Nat) (a b : R4), i < j → l[i]? = some a → l[j]? = some b → p a b = false) : prs p l = false := by
  rw [← Bool.not_eq_true, prs_iff]
  rintro ⟨i, j, a, b, h1, h2, h3, h4⟩
  rw [h i j a b h1 h2 h3] at h4
  cases h4
/-- The number that is told. -/
def chk (c : Cfg) : Int :=
  if btw c.hosts 1 6 then if btw c.cycle 1 1073741824 then if spansT c then if rowsOk c then if entOk c then if phOk c then
    if prs snd c.entries then 7 else if prs (rcv c) c.entries then 8 else if linkOk c then if btw c.queue 1 64 then 0 else 10 else 9
  else 6 else 5 else 4 else 3 else 2 else 1
theorem entOk_iff {c : Cfg} : entOk c = true ↔ c.entries.length ≤ 16 ∧ ∀ e ∈ c.entries, wayE c.hosts e = true := by
  unfold entOk; rw [Bool.and_eq_true, decide_eq_true_eq, List.all_eq_true]
theorem way_six {h f : Int} {t : Nat} {s : Int} (hh : 1 ≤ h ∧ h ≤ 6) (w : way h f t s = true) : way 6 f t s = true := by
  rw [way_iff] at w ⊢
  obtain ⟨h1, h2, h3, h4, h5⟩ := w
  refine ⟨⟨h1.1, by omega⟩, h2, Nat.lt_of_lt_of_le h3 (Nat.pow_le_pow_right (by decide) (by omega)), h4, h5⟩
theorem ph_iff {c : Cfg} {e : R4} : ph c e = true ↔ quiet c ≤ e.c ∧ e.c < c.cycle ∧ lat c e < c.cycle := by
  unfold ph
  simp only [Bool.not_eq_true', Bool.or_eq_false_iff, decide_eq_false_iff_not, Int.not_lt, Int.not_le, and_assoc]
theorem quiet_nonneg {c : Cfg} : 0 ≤ quiet c := by
  unfold quiet
  split
  · rename_i h
    have := spansT_iff.1 (spans_iff.1 h).2
    omega
  · omega
end Go.Proofs.Ytnlimdlmhfnkiaa.ConfW

