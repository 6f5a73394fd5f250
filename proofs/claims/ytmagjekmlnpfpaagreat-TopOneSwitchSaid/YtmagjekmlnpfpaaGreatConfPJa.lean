/- Plain: a configuration, its times, what keeps it from being one. -/
import Derived.Test.YtmagjekmlnpfpaaGreatCrewPJa
import Derived.ProofKit
import Derived.Test.YtmagjekmlnpfpaaGreatClockP
namespace Go.Proofs.YtmagjekmlnpfpaaGreat.ConfW
open Go.RowKit
/-- Four numbers: an entry (From, To, Phase, Size) or a link (From, To, Gap, Size). -/
structure R4 where
  a : Int
  b : Nat
  c : Int
  d : Int
structure Cfg where
  hosts : Int
  cycle : Int
  delay : Int
  window : Int
  precision : Int
  delays : List (List Int)
  entries : List R4
  links : List R4
  queue : Int
/-- Between two numbers, both with it. -/
def btw (n l h : Int) : Bool := decide (l ≤ n) && decide (n ≤ h)
theorem btw_iff {n l h : Int} : btw n l h = true ↔ l ≤ n ∧ n ≤ h := by simp [btw]
/-- How long a frame is on a wire. -/
def tim (n : Int) : Int := if n < 64 then 512 else if n > 1518 then 12144 else n * 8
theorem tim_pos (n : Int) : 512 ≤ tim n ∧ tim n ≤ 12144 := by unfold tim; split <;> (try split) <;> omega
def spansT (c : Cfg) : Bool := btw c.delay 0 1048576 && btw c.window 0 1048576 && btw c.precision 0 1048576
def spans (c : Cfg) : Bool := btw c.cycle 1 1073741824 && spansT c
/-- May sender, receivers and size be, among so many hosts? -/
def way (h : Int) (f : Int) (t : Nat) (s : Int) : Bool := btw f 0 (h - 1) && !decide (t = 0) && decide (t < 2 ^ h.toNat) && !CrewW.has t f && btw s 64 1518
def wayE (h : Int) (e : R4) : Bool := way h e.a e.b e.d
def placed (c : Cfg) (e : R4) : Bool := spans c && wayE 6 e && btw e.c (-1125899906842624) 1125899906842624
def quiet (c : Cfg) : Int := if spans c then 2 * c.delay + c.window + 4 * c.precision else 0
def fwd (c : Cfg) (e : R4) : Int := if placed c e then e.c + tim e.d + c.delay + 2 * c.precision else 0
def ear (c : Cfg) (e : R4) : Int := if placed c e then e.c + tim e.d + c.delay + 2 * c.precision + tim e.d - c.precision else 0
def lat (c : Cfg) (e : R4) : Int := if placed c e then e.c + tim e.d + c.delay + 2 * c.precision + tim e.d + c.delay + c.precision else 0
def at0 (c : Cfg) (e : R4) : Int := if placed c e then e.c + tim e.d - c.precision else 0
def at1 (c : Cfg) (e : R4) : Int := if placed c e then e.c + tim e.d + c.delay + c.precision else 0
theorem spansT_iff {c : Cfg} : spansT c = true ↔ (0 ≤ c.delay ∧ c.delay ≤ 1048576) ∧ (0 ≤ c.window ∧ c.window ≤ 1048576) ∧ 0 ≤ c.precision ∧ c.precision ≤ 1048576 := by
  unfold spansT
  rw [Bool.and_eq_true, Bool.and_eq_true, btw_iff, btw_iff, btw_iff, and_assoc]
theorem spans_iff {c : Cfg} : spans c = true ↔ (1 ≤ c.cycle ∧ c.cycle ≤ 1073741824) ∧ spansT c = true := by
  unfold spans
  rw [Bool.and_eq_true, btw_iff]
theorem placed_iff {c : Cfg} {e : R4} : placed c e = true ↔ spans c = true ∧ wayE 6 e = true ∧ -1125899906842624 ≤ e.c ∧ e.c ≤ 1125899906842624 := by
  unfold placed
  rw [Bool.and_eq_true, Bool.and_eq_true, btw_iff, and_assoc]
theorem way_iff {h f : Int} {t : Nat} {s : Int} : way h f t s = true ↔ (0 ≤ f ∧ f ≤ h - 1) ∧ t ≠ 0 ∧ t < 2 ^ h.toNat ∧ CrewW.has t f = false ∧ 64 ≤ s ∧ s ≤ 1518 := by
  unfold way
  simp only [Bool.and_eq_true, btw_iff, Bool.not_eq_true', decide_eq_false_iff_not, decide_eq_true_eq, and_assoc, ne_eq]
end Go.Proofs.YtmagjekmlnpfpaaGreat.ConfW



/- Plain: what keeps a configuration from being one. -/
namespace Go.Proofs.YtmagjekmlnpfpaaGreat.ConfW
open Go.RowKit
theorem all_true {α : Type} {l : List α} {p : α → Bool} (h : ∀ (k : Nat) (x : α), l[k]? = some x → p x = true) : l.all p = true := by
  rw [List.all_eq_true]
  intro x hx
  obtain ⟨k, hk⟩ := List.getElem?_of_mem hx
  exact h k x hk
theorem all_false {α : Type} {l : List α} {p : α → Bool} {k : Nat} {x : α} (hk : l[k]? = some x) (h : p x = false) : l.all p = false := by
  rw [← Bool.not_eq_true, List.all_eq_true]
  intro g
  rw [g x (List.mem_of_getElem? hk)] at h
  cases h
def rowOk (c : Cfg) (r : List Int) : Bool := decide (r.length = 2) && r.all (fun x => btw x 0 c.delay)
def rowsOk (c : Cfg) : Bool := decide ((c.delays.length : Int) = c.hosts) && c.delays.all (rowOk c)
def entOk (c : Cfg) : Bool := decide (c.entries.length ≤ 16) && c.entries.all (wayE c.hosts)
def lnk (c : Cfg) (l : R4) : Bool := wayE c.hosts l && btw l.c 1 1073741824
def linkOk (c : Cfg) : Bool := decide (c.links.length ≤ 16) && c.links.all (lnk c)
def ph (c : Cfg) (e : R4) : Bool := !(decide (e.c < quiet c) || decide (c.cycle ≤ e.c) || decide (c.cycle ≤ lat c e))
def phOk (c : Cfg) : Bool := c.entries.all (ph c)
def snd (a b : R4) : Bool := decide (a.a = b.a) && (decide (a.c < b.c + tim b.d) && decide (b.c < a.c + tim a.d))
def rcv (c : Cfg) (a b : R4) : Bool := decide (a.b &&& b.b ≠ 0) && (decide (fwd c a < fwd c b + tim b.d) && decide (fwd c b < fwd c a + tim a.d))
/-- Does it hold of any two of the list? -/
def prs (p : R4 → R4 → Bool) : List R4 → Bool
  | [] => false
  | a :: l => l.any (p a) || prs p l
theorem prs_iff (p : R4 → R4 → Bool) : ∀ l : List R4, prs p l = true ↔ ∃ (i j : Nat) (a b : R4), i < j ∧ l[i]? = some a ∧ l[j]? = some b ∧ p a b = true
  | [] => by simp [prs]
  | x :: l => by
    unfold prs
    rw [Bool.or_eq_true, prs_iff p l, List.any_eq_true]
    constructor
    · rintro (⟨b, hb, h⟩ | ⟨i, j, a, b, h1, h2, h3, h4⟩)
      · obtain ⟨k, hk⟩ := List.getElem?_of_mem hb
        exact ⟨0, k + 1, x, b, by omega, rfl, by simpa using hk, h⟩
      · exact ⟨i + 1, j + 1, a, b, by omega, by simpa using h2, by simpa using h3, h4⟩
    · rintro ⟨i, j, a, b, h1, h2, h3, h4⟩
      rcases i with _ | i
      · obtain ⟨j, rfl⟩ : ∃ j', j = j' + 1 := ⟨j - 1, by omega⟩
        simp only [List.getElem?_cons_zero, Option.some.injEq] at h2
        subst h2
        rw [List.getElem?_cons_succ] at h3
        exact Or.inl ⟨b, List.mem_of_getElem? h3, h4⟩
      · obtain ⟨j, rfl⟩ : ∃ j', j = j' + 1 := ⟨j - 1, by omega⟩
        rw [List.getElem?_cons_succ] at h2 h3
        exact Or.inr ⟨i, j, a, b, by omega, h2, h3, h4⟩
theorem prs_true {p : R4 → R4 → Bool} {l : List R4} {i j : Nat} {a b : R4} (h : i < j) (hi : l[i]? = some a) (hj : l[j]? = some b) (hp : p a b = true) : prs p l = true := (prs_iff p l).2 ⟨i, j, a, b, h, hi, hj, hp⟩
theorem prs_false {p : R4 → R4 → Bool} {l : List R4} (h : ∀ (i j : Nat) (a b : R4), i < j → l[i]? = some a → l[j]? = some b → p a b = false) : prs p l = false := by
  rw [← Bool.not_eq_true, prs_iff]
  rintro ⟨i, j, a, b, h1, h2, h3, h4⟩
  rw [h i j a b h1 h2 h3] at h4
  cases h4
/-- The number that is told. -/
def chk (c : Cfg) : Int :=
  if btw c.hosts 1 6 then if btw c.cycle 1 1073741824 then if spansT c then if rowsOk c then if entOk c then if phOk c then
    if prs snd c.entries then 7 else if prs (rcv c) c.entries then 8 else if linkOk c then if btw c.queue 1 64 then 0 else 10 else 9
  else 6 else 5 else 4 else 3 else 2 else 1
theorem entOk_iff {c : Cfg} : entOk c = true ↔ c.entries.length ≤ 16 ∧ ∀ e ∈ c.entries, wayE c.hosts e = true := by
  unfold entOk; rw [Bool.and_eq_true, decide_eq_true_eq, List.all_eq_true]
theorem way_six {h f : Int} {t : Nat} {s : Int} (hh : 1 ≤ h ∧ h ≤ 6) (w : way h f t s = true) : way 6 f t s = true := by
  rw [way_iff] at w ⊢
  obtain ⟨h1, h2, h3, h4, h5⟩ := w
  refine ⟨⟨h1.1, by omega⟩, h2, Nat.lt_of_lt_of_le h3 (Nat.pow_le_pow_right (by decide) (by omega)), h4, h5⟩
theorem ph_iff {c : Cfg} {e : R4} : ph c e = true ↔ quiet c ≤ e.c ∧ e.c < c.cycle ∧ lat c e < c.cycle := by
  unfold ph
  simp only [Bool.not_eq_true', Bool.or_eq_false_iff, decide_eq_false_iff_not, Int.not_lt, Int.not_le, and_assoc]
theorem quiet_nonneg {c : Cfg} : 0 ≤ quiet c := by
  unfold quiet
  split
  · rename_i h
    have := spansT_iff.1 (spans_iff.1 h).2
    omega
  · omega
end Go.Proofs.YtmagjekmlnpfpaaGreat.ConfW



/- A round, as plain numbers: clocks, who sends first, when a frame is permanent. -/
namespace Go.Proofs.YtmagjekmlnpfpaaGreat.RoundW
open ConfW (Cfg chk)
open ClockW (sh wh CI)
/-- A clock: its mark, its base, its rate. -/
structure Ck where
  m : Int
  b : Int
  r : Int
def sho (k : Ck) (t : Int) : Int := sh k.m k.b k.r t
/-- A clock that may be. -/
def okK (k : Ck) : Bool := (decide (0 ≤ k.m) && decide (k.m ≤ 1125899906842624)) && (decide (-1125899906842624 ≤ k.b) && decide (k.b ≤ 1125899906842624)) && (decide (-1000000 ≤ k.r) && decide (k.r ≤ 1000000))
structure CkOk (k : Ck) : Prop where
  m0 : 0 ≤ k.m
  m1 : k.m ≤ 1125899906842624
  b0 : -1125899906842624 ≤ k.b
  b1 : k.b ≤ 1125899906842624
  r0 : -1000000 ≤ k.r
  r1 : k.r ≤ 1000000
theorem okK_iff {k : Ck} : okK k = true ↔ CkOk k := by
  unfold okK
  simp only [Bool.and_eq_true, decide_eq_true_eq]
  exact ⟨fun ⟨⟨⟨a, b⟩, c, d⟩, e, f⟩ => ⟨a, b, c, d, e, f⟩, fun ⟨a, b, c, d, e, f⟩ => ⟨⟨⟨a, b⟩, c, d⟩, e, f⟩⟩
theorem CkOk.ci {k : Ck} (h : CkOk k) : CI k.m k.b k.r := ⟨h.m0, h.m1, h.b0, by have := h.b1; have := h.m0; omega, h.r0, h.r1⟩
/-- When it shows n (-1: never). -/
def whn (k : Ck) (n : Int) : Int := if sho k 1125899906842624 < n then -1 else wh k.m k.b k.r n
theorem whn_in {k : Ck} (h : CkOk k) {n : Int} : (sho k 1125899906842624 < n ∧ whn k n = -1) ∨ (n ≤ sho k 1125899906842624 ∧ whn k n = wh k.m k.b k.r n ∧ k.m ≤ whn k n ∧ whn k n ≤ 1125899906842624) := by
  unfold whn
  split
  · rename_i h1
    exact Or.inl ⟨h1, rfl⟩
  · rename_i h1
    refine Or.inr ⟨by omega, rfl, ?_, ?_⟩
    · by_cases h2 : n ≤ k.b
      · rw [ClockW.wh_low h2]; exact Int.le_refl _
      · exact Int.le_of_lt (ClockW.wh_high (m := k.m) h.r0 (Int.not_le.1 h2)).2.1
    · by_cases h2 : n ≤ k.b
      · rw [ClockW.wh_low h2]; exact h.m1
      · exact ClockW.wh_last h.r0 (Int.not_le.1 h2) (Int.not_lt.1 h1)
/-- Set at t to v (as it is, where that may not be). -/
def stk (k : Ck) (t v : Int) : Ck := if (0 ≤ t ∧ t ≤ 1125899906842624) ∧ k.m ≤ t ∧ -1125899906842624 ≤ v ∧ v ≤ 1125899906842624 then ⟨t, v, k.r⟩ else k
def offC (c : Cfg) : Int := c.delay + c.delay + c.window
def accC (c : Cfg) : Int := c.window + c.precision + c.precision
/-- May the round be asked for? -/
def rgt (c : Cfg) (y : Int) (l : List Ck) : Bool := decide (chk c = 0) && decide (0 ≤ y) && decide (y ≤ 1125899906842624 / (2 * c.cycle)) && decide ((l.length : Int) = c.hosts) && l.all okK && l.all fun k => decide (k.b ≤ y * c.cycle)
structure Rgt (c : Cfg) (y : Int) (l : List Ck) : Prop where
  z : chk c = 0
  y0 : 0 ≤ y
  y1 : y ≤ 1125899906842624 / (2 * c.cycle)
  n : (l.length : Int) = c.hosts
  k : ∀ k ∈ l, CkOk k
  b : ∀ k ∈ l, k.b ≤ y * c.cycle
theorem rgt_iff {c : Cfg} {y : Int} {l : List Ck} : rgt c y l = true ↔ Rgt c y l := by
  unfold rgt
  simp only [Bool.and_eq_true, decide_eq_true_eq, List.all_eq_true, okK_iff]
  exact ⟨fun ⟨⟨⟨⟨⟨a, b⟩, d⟩, e⟩, f⟩, g⟩ => ⟨a, b, d, e, f, g⟩, fun ⟨a, b, d, e, f, g⟩ => ⟨⟨⟨⟨⟨a, b⟩, d⟩, e⟩, f⟩, g⟩⟩
/-- When each sends. -/
def snt (c : Cfg) (y : Int) (l : List Ck) : List Int := l.map fun k => whn k (y * c.cycle)
/-- A host that takes part and is not gone. -/
def fre (S : List Int) (G : List Bool) (i : Nat) : Bool := !(G.getD i true) && decide (0 ≤ S.getD i (-1))
/-- Of the hosts below n the first. -/
def bst (S : List Int) (G : List Bool) : Nat → Option Nat
  | 0 => none
  | n + 1 => match bst S G n with
    | none => if fre S G n then some n else none
    | some b => if fre S G n && decide (S.getD n (-1) < S.getD b (-1)) then some n else some b
def sq (S : List Int) : Nat → List Bool → List Nat
  | 0, _ => []
  | n + 1, G => match bst S G S.length with
    | none => []
    | some h => h :: sq S n (G.set h true)
/-- The hosts that take part, in the order of their sending. -/
def ord (S : List Int) : List Nat := sq S S.length (List.replicate S.length false)
/-- a stands ahead of b. -/
def ahd (S : List Int) (a b : Nat) : Prop := S.getD a (-1) < S.getD b (-1) ∨ (S.getD a (-1) = S.getD b (-1) ∧ a < b)
theorem bst_is (S : List Int) (G : List Bool) : ∀ n, match bst S G n with | none => ∀ i, i < n → fre S G i = false | some b => b < n ∧ fre S G b = true ∧ ∀ i, i < n → fre S G i = true → i = b ∨ ahd S b i
  | 0 => fun i h => absurd h (Nat.not_lt_zero _)
  | n + 1 => by
    have h := bst_is S G n
    cases hb : bst S G n with
    | none =>
      rw [hb] at h
      have h' : ∀ i, i < n → fre S G i = false := h
      unfold bst
      rw [hb]
      dsimp only
      cases hf : fre S G n with
      | true =>
        rw [if_pos rfl]
        refine ⟨Nat.lt_succ_self _, hf, fun i hi hfi => ?_⟩
        rcases Nat.lt_succ_iff_lt_or_eq.1 hi with h1 | h1
        · rw [h' i h1] at hfi; cases hfi
        · exact Or.inl h1
      | false =>
        rw [if_neg (by decide)]
        intro i hi
        rcases Nat.lt_succ_iff_lt_or_eq.1 hi with h1 | h1
        · exact h' i h1
        · rw [h1]; exact hf
    | some b =>
      rw [hb] at h
      obtain ⟨h1, h2, h3⟩ := h
      unfold bst
      rw [hb]
      dsimp only
      by_cases hc : (fre S G n && decide (S.getD n (-1) < S.getD b (-1))) = true
      · rw [if_pos hc]
        rw [Bool.and_eq_true, decide_eq_true_eq] at hc
        refine ⟨Nat.lt_succ_self _, hc.1, fun i hi hfi => ?_⟩
        rcases Nat.lt_succ_iff_lt_or_eq.1 hi with h4 | h4
        · right
          left
          rcases h3 i h4 hfi with h5 | h5 | h5
          · rw [h5]; exact hc.2
          · exact Int.lt_trans hc.2 h5
          · rw [← h5.1]; exact hc.2
        · exact Or.inl h4
      · rw [if_neg hc]
        refine ⟨by omega, h2, fun i hi hfi => ?_⟩
        rcases Nat.lt_succ_iff_lt_or_eq.1 hi with h4 | h4
        · exact h3 i h4 hfi
        · subst h4
          rw [hfi, Bool.true_and, decide_eq_true_eq] at hc
          right
          unfold ahd
          omega
theorem bst_none {S : List Int} {G : List Bool} {n : Nat} (h : bst S G n = none) : ∀ i, i < n → fre S G i = false := by
  have := bst_is S G n
  rw [h] at this
  exact this
theorem bst_some {S : List Int} {G : List Bool} {n b : Nat} (h : bst S G n = some b) : b < n ∧ fre S G b = true ∧ ∀ i, i < n → fre S G i = true → i = b ∨ ahd S b i := by
  have := bst_is S G n
  rw [h] at this
  exact this
theorem fre_set {S : List Int} {G : List Bool} {h i : Nat} (hl : h < G.length) : fre S (G.set h true) i = (fre S G i && decide (i ≠ h)) := by
  unfold fre
  by_cases e : i = h
  · subst e
    rw [List.getD_eq_getElem?_getD, List.getElem?_set_self hl]
    simp
  · rw [List.getD_eq_getElem?_getD, List.getElem?_set_ne (fun e' => e e'.symm), ← List.getD_eq_getElem?_getD]
    simp [e]
/-- How many are not gone. -/
def left (G : List Bool) : Nat := G.countP fun g => !g
theorem left_set {G : List Bool} {h : Nat} (hg : G[h]? = some false) : left (G.set h true) + 1 = left G := by
  unfold left
  induction G generalizing h with
  | nil => simp at hg
  | cons g G ih =>
    cases h with
    | zero =>
      simp only [List.getElem?_cons_zero, Option.some.injEq] at hg
      subst hg
      simp
    | succ h =>
      simp only [List.getElem?_cons_succ] at hg
      have := ih hg
      simp only [List.set_cons_succ, List.countP_cons]
      omega
theorem fre_gone {S : List Int} {G : List Bool} {i : Nat} (h : fre S G i = true) : G[i]? = some false := by
  unfold fre at h
  rw [Bool.and_eq_true] at h
  cases hg : G[i]? with
  | none => rw [List.getD_eq_getElem?_getD, hg] at h; simp at h
  | some b => rw [List.getD_eq_getElem?_getD, hg] at h; simp at h; rw [h.1]
theorem left_zero {S : List Int} {G : List Bool} (h : left G = 0) (i : Nat) : fre S G i = false := by
  cases hf : fre S G i with
  | false => rfl
  | true =>
    have h1 := fre_gone hf
    unfold left at h
    rw [List.countP_eq_zero] at h
    exact absurd (h false (List.mem_of_getElem? h1)) (by simp)
structure Sq (S : List Int) (G : List Bool) (L : List Nat) : Prop where
  mem : ∀ i, i ∈ L ↔ i < S.length ∧ fre S G i = true
  up : L.Pairwise (ahd S)
theorem sq_is (S : List Int) : ∀ (n : Nat) (G : List Bool), G.length = S.length → left G ≤ n → Sq S G (sq S n G)
  | 0, G, _, hn => ⟨fun i => by
      unfold sq
      rw [left_zero (S := S) (Nat.le_zero.1 hn)]
      simp, List.Pairwise.nil⟩
  | n + 1, G, hl, hn => by
    unfold sq
    cases hb : bst S G S.length with
    | none =>
      have h := bst_none hb
      exact ⟨fun i => ⟨fun hi => by simp at hi, fun ⟨h1, h2⟩ => by rw [h i h1] at h2; cases h2⟩, List.Pairwise.nil⟩
    | some b =>
      obtain ⟨h1, h2, h3⟩ := bst_some hb
      have hs := left_set (fre_gone h2)
      have ih := sq_is S n (G.set b true) (by rw [List.length_set]; exact hl) (by omega)
      dsimp only
      have fs := fun i => fre_set (S := S) (G := G) (h := b) (i := i) (by omega)
      refine ⟨fun i => ?_, List.Pairwise.cons (fun i hi => ?_) ih.up⟩
      · rw [List.mem_cons, ih.mem i, fs i]
        by_cases e : i = b
        · subst e
          exact ⟨fun _ => ⟨h1, h2⟩, fun _ => Or.inl rfl⟩
        · simp [e]
      · rw [ih.mem i, fs i, Bool.and_eq_true, decide_eq_true_eq] at hi
        rcases h3 i hi.1 hi.2.1 with h4 | h4
        · exact absurd h4 hi.2.2
        · exact h4
theorem left_all (n : Nat) : left (List.replicate n false) = n := by unfold left; rw [List.countP_replicate]; simp
theorem fre_all (S : List Int) (i : Nat) : i < S.length → fre S (List.replicate S.length false) i = decide (0 ≤ S.getD i (-1)) := by
  intro h
  unfold fre
  rw [List.getD_eq_getElem?_getD, List.getElem?_replicate, if_pos h]
  simp
theorem ord_mem (S : List Int) (i : Nat) : i ∈ ord S ↔ i < S.length ∧ 0 ≤ S.getD i (-1) := by
  unfold ord
  rw [(sq_is S S.length (List.replicate S.length false) (by simp) (by rw [left_all]; exact Nat.le_refl _)).mem i]
  constructor
  · rintro ⟨h1, h2⟩
    rw [fre_all S i h1, decide_eq_true_eq] at h2
    exact ⟨h1, h2⟩
  · rintro ⟨h1, h2⟩
    exact ⟨h1, by rw [fre_all S i h1, decide_eq_true_eq]; exact h2⟩
theorem ord_up (S : List Int) : (ord S).Pairwise (ahd S) := (sq_is S S.length (List.replicate S.length false) (by simp) (by rw [left_all]; exact Nat.le_refl _)).up
theorem ahd_ne {S : List Int} {a b : Nat} (h : ahd S a b) : a ≠ b := by
  rintro rfl
  unfold ahd at h
  omega
theorem ord_nodup (S : List Int) : (ord S).Nodup := (ord_up S).imp ahd_ne
/-- They stand in one order alone. -/
theorem ord_only {S : List Int} {L : List Nat} (h : L.Perm (ord S)) (up : L.Pairwise (ahd S)) : L = ord S :=
  List.Perm.eq_of_pairwise (fun a b _ _ h1 h2 => by unfold ahd at h1 h2; omega) up (ord_up S) h
/-- When a frame is permanent. -/
def du1 (k : Ck) (t cl d : Int) : Option Int := if (0 ≤ t ∧ t ≤ 1125899906842624) ∧ k.m ≤ t then (if sho k 1125899906842624 < sho k t + d - cl then none else some (wh k.m k.b k.r (sho k t + d - cl))) else none
def inT (c : Cfg) (y u : Int) : Prop := (0 ≤ u ∧ u ≤ 1125899906842624) ∧ offC c - accC c ≤ u - y * c.cycle ∧ u - y * c.cycle ≤ offC c + accC c
instance (c : Cfg) (y u : Int) : Decidable (inT c y u) := by unfold inT; infer_instance
/-- A configuration that may be. -/
structure COk (c : Cfg) : Prop where
  h : 1 ≤ c.hosts ∧ c.hosts ≤ 6
  y : 1 ≤ c.cycle ∧ c.cycle ≤ 1073741824
  d : 0 ≤ c.delay ∧ c.delay ≤ 1048576
  w : 0 ≤ c.window ∧ c.window ≤ 1048576
  p : 0 ≤ c.precision ∧ c.precision ≤ 1048576
  n : (c.delays.length : Int) = c.hosts
  r : ∀ (i : Nat) (j : Nat), (i : Int) < c.hosts → j < 2 → ∃ row x, c.delays[i]? = some row ∧ row.length = 2 ∧ row[j]? = some x ∧ 0 ≤ x ∧ x ≤ c.delay
theorem cok {c : Cfg} (h : chk c = 0) : COk c := by
  unfold chk at h
  cases b1 : ConfW.btw c.hosts 1 6 <;> rw [b1] at h <;> simp only [Bool.false_eq_true, if_false, if_true] at h
  · omega
  cases b2 : ConfW.btw c.cycle 1 1073741824 <;> rw [b2] at h <;> simp only [Bool.false_eq_true, if_false, if_true] at h
  · omega
  cases b3 : ConfW.spansT c <;> rw [b3] at h <;> simp only [Bool.false_eq_true, if_false, if_true] at h
  · omega
  cases b4 : ConfW.rowsOk c <;> rw [b4] at h <;> simp only [Bool.false_eq_true, if_false, if_true] at h
  · omega
  rw [ConfW.btw_iff] at b1 b2
  unfold ConfW.spansT at b3
  rw [Bool.and_eq_true, Bool.and_eq_true, ConfW.btw_iff, ConfW.btw_iff, ConfW.btw_iff] at b3
  unfold ConfW.rowsOk at b4
  rw [Bool.and_eq_true, decide_eq_true_eq, List.all_eq_true] at b4
  refine ⟨b1, b2, b3.1.1, b3.1.2, b3.2, b4.1, fun i j hi hj => ?_⟩
  have hl : i < c.delays.length := by have := b4.1; omega
  have hr := b4.2 _ (List.getElem_mem hl)
  unfold ConfW.rowOk at hr
  rw [Bool.and_eq_true, decide_eq_true_eq, List.all_eq_true] at hr
  have hj2 : j < (c.delays[i]).length := by rw [hr.1]; exact hj
  have hx := hr.2 _ (List.getElem_mem hj2)
  rw [ConfW.btw_iff] at hx
  exact ⟨_, _, List.getElem?_eq_getElem hl, hr.1, List.getElem?_eq_getElem hj2, hx⟩
theorem COk.dl {c : Cfg} (h : COk c) {i j : Nat} (hi : (i : Int) < c.hosts) (hj : j < 2) : 0 ≤ (c.delays.getD i []).getD j 0 ∧ (c.delays.getD i []).getD j 0 ≤ c.delay := by
  obtain ⟨row, x, h1, -, h2, h3⟩ := h.r i j hi hj
  rw [List.getD_eq_getElem?_getD (l := c.delays), h1, Option.getD_some, List.getD_eq_getElem?_getD, h2, Option.getD_some]
  exact h3
theorem COk.acc {c : Cfg} (h : COk c) : 0 ≤ accC c ∧ accC c ≤ 3145728 ∧ 0 ≤ offC c ∧ offC c ≤ 3145728 := by
  unfold accC offC
  have := h.w; have := h.p; have := h.d
  omega
/-- A cycle that may be asked for begins early enough. -/
theorem Rgt.yc {c : Cfg} {y : Int} {l : List Ck} (h : Rgt c y l) : 0 ≤ y * c.cycle ∧ 2 * (y * c.cycle) ≤ 1125899906842624 := by
  have k := cok h.z
  have h1 := h.y1
  have h0 := h.y0
  have e : 1125899906842624 / (2 * c.cycle) * (2 * c.cycle) ≤ 1125899906842624 := Int.ediv_mul_le _ (by have := k.y; omega)
  have e2 := Int.mul_le_mul_of_nonneg_right h1 (show 0 ≤ 2 * c.cycle by have := k.y; omega)
  have e3 : y * (2 * c.cycle) = 2 * (y * c.cycle) := by rw [← Int.mul_assoc, Int.mul_comm y 2, Int.mul_assoc]
  exact ⟨Int.mul_nonneg h0 (by have := k.y; omega), by omega⟩
theorem Rgt.yb {c : Cfg} {y : Int} {l : List Ck} (h : Rgt c y l) : 0 ≤ y ∧ y ≤ 1125899906842624 := by
  have k := cok h.z
  have h2 := h.yc
  have h3 := Int.mul_le_mul_of_nonneg_left (show (1 : Int) ≤ c.cycle by have := k.y; omega) h.y0
  exact ⟨h.y0, by omega⟩
theorem Rgt.len {c : Cfg} {y : Int} {l : List Ck} (h : Rgt c y l) : 1 ≤ l.length ∧ l.length ≤ 6 := by
  have k := cok h.z
  have := h.n
  have := k.h
  omega
end Go.Proofs.YtmagjekmlnpfpaaGreat.RoundW

