/- Plain mathematics of crews: sets of six hosts as numbers; their texts. -/
import Derived.WalkKit
import Derived.Lib.TrailingZeros
namespace Go.Proofs.Ytpjaijibkjmgiaa.CrewW
/-- The crew of one number. -/
def only (h : Int) : Nat := if 0 ≤ h ∧ h < 6 then 2 ^ h.toNat else 0
/-- Is the host in the crew? -/
def has (c : Nat) (h : Int) : Bool := decide (0 ≤ h ∧ h < 6) && c.testBit h.toNat
/-- The number whose bits below n are as p says. -/
def mk (p : Nat → Bool) : Nat → Nat
  | 0 => 0
  | n + 1 => if p n then mk p n + 2 ^ n else mk p n
/-- The crew of those that are hosts. -/
def of (l : List Int) : Nat := mk (fun h => l.contains (h : Int)) 6
/-- The hosts below n that are in the crew, rising. -/
def memTo (c n : Nat) : List Int := ((List.range n).filter fun h => c.testBit h).map fun h : Nat => (h : Int)
def mem (c : Nat) : List Int := memTo c 6
/-- In how many crews is the host? -/
def cnt (l : List Nat) (h : Nat) : Nat := l.countP fun c => c.testBit h
/-- The hosts of more than half. -/
def com (l : List Nat) : Nat := mk (fun h => decide (l.length < 2 * cnt l h)) 6
def fst (c : Nat) : Int := (mem c).headD (-1)
def wi (a b : Nat) : Bool := (mem a).all fun h => has b h
/-- The numbers with commas between. -/
def txt : List Int → List Int
  | [] => []
  | x :: xs => (48 + x) :: xs.flatMap fun y => [44, 48 + y]
def prt (c : Nat) : List Int := if mem c = [] then [45] else txt (mem c)
/-- The crew of a text's digits. -/
def dg (s : List Int) : Nat := of (s.map (· - 48))
def prs (s : List Int) : Nat × Int := if prt (dg s) = s then (dg s, 0) else (0, 2)
theorem mk_lt (p : Nat → Bool) : ∀ n, mk p n < 2 ^ n
  | 0 => by simp [mk]
  | n + 1 => by
    have := mk_lt p n
    unfold mk
    rw [Nat.pow_succ]
    split <;> omega
theorem mk_bit (p : Nat → Bool) : ∀ n h, (mk p n).testBit h = (decide (h < n) && p h)
  | 0, h => by simp [mk]
  | n + 1, h => by
    have ih := mk_bit p n h
    have hl := mk_lt p n
    unfold mk
    split
    · rename_i hp
      rw [Nat.add_comm]
      rcases Nat.lt_trichotomy h n with h1 | h1 | h1
      · rw [Nat.testBit_two_pow_add_gt h1, ih]
        simp [h1, show h < n + 1 by omega]
      · subst h1
        rw [Nat.testBit_two_pow_add_eq, Nat.testBit_lt_two_pow hl]
        simp [hp]
      · rw [Nat.testBit_lt_two_pow (x := 2 ^ n + mk p n) (i := h) (Nat.lt_of_lt_of_le (show 2 ^ n + mk p n < 2 ^ (n + 1) by rw [Nat.pow_succ]; omega) (Nat.pow_le_pow_right (by decide) h1))]
        simp [show ¬ h < n + 1 by omega]
    · rename_i hp
      rw [ih]
      rcases Nat.lt_trichotomy h n with h1 | h1 | h1
      · simp [h1, show h < n + 1 by omega]
      · subst h1; simp [hp]
      · simp [show ¬ h < n + 1 by omega, show ¬ h < n by omega]
theorem mk_or {p : Nat → Bool} {n : Nat} (h : p n = true) : mk p n ||| 2 ^ n = mk p (n + 1) := by
  apply Nat.eq_of_testBit_eq
  intro i
  rw [Nat.testBit_or, mk_bit, mk_bit, Nat.testBit_two_pow]
  rcases Nat.lt_trichotomy i n with h1 | h1 | h1
  · simp [h1, show i < n + 1 by omega, show ¬ n = i by omega]
  · subst h1; simp [h]
  · simp [show ¬ i < n + 1 by omega, show ¬ i < n by omega, show ¬ n = i by omega]
theorem mk_add {p : Nat → Bool} {n : Nat} (h : p n = true) : mk p n + 2 ^ n = mk p (n + 1) := by
  show _ = if p n then _ else _
  rw [if_pos h]
theorem mk_same {p : Nat → Bool} {n : Nat} (h : p n = false) : mk p n = mk p (n + 1) := by
  show _ = if p n then _ else _
  rw [if_neg (by rw [h]; decide)]
theorem of_lt (l : List Int) : of l < 64 := mk_lt _ 6
theorem of_bit (l : List Int) (h : Nat) : (of l).testBit h = (decide (h < 6) && l.contains (h : Int)) := mk_bit _ 6 h
theorem com_lt (l : List Nat) : com l < 64 := mk_lt _ 6
theorem only_lt (h : Int) : only h < 64 := by
  unfold only
  split
  · have := Nat.pow_lt_pow_right (a := 2) (m := h.toNat) (n := 6) (by decide) (by omega)
    omega
  · decide
theorem only_bit (x : Int) (h : Nat) : (only x).testBit h = (decide (h < 6) && decide (x = (h : Int))) := by
  unfold only
  split
  · rw [Nat.testBit_two_pow]
    by_cases e : x = (h : Int)
    · simp [e]; omega
    · simp [e]; omega
  · simp; omega
theorem of_snoc (l : List Int) (x : Int) : of (l ++ [x]) = of l ||| only x := by
  apply Nat.eq_of_testBit_eq
  intro i
  rw [Nat.testBit_or, of_bit, of_bit, only_bit]
  cases hd : decide (i < 6) <;> simp
  by_cases e : (i : Int) = x
  · simp [e]
  · simp [e, show ¬ x = (i : Int) from fun h => e h.symm]
theorem of_one (x : Int) : of [x] = only x := by
  have := of_snoc [] x
  rw [List.nil_append] at this
  rw [this, show of [] = 0 from rfl, Nat.zero_or]
theorem of_app (a b : List Int) : of (a ++ b) = of a ||| of b := by
  apply Nat.eq_of_testBit_eq
  intro i
  rw [Nat.testBit_or, of_bit, of_bit, of_bit]
  cases decide (i < 6) <;> simp
theorem bit_mod (c h : Nat) (hh : h < 6) : (c % 64).testBit h = c.testBit h := by
  rw [show 64 = 2 ^ 6 from rfl, Nat.testBit_mod_two_pow]
  simp [hh]
theorem memTo_mod (c : Nat) : ∀ n, n ≤ 6 → memTo (c % 64) n = memTo c n := by
  intro n hn
  unfold memTo
  congr 1
  apply List.filter_congr
  intro h hh
  rw [List.mem_range] at hh
  exact bit_mod c h (by omega)
theorem mem_mod (c : Nat) : mem (c % 64) = mem c := memTo_mod c 6 (by decide)
theorem memTo_succ (c n : Nat) : memTo c (n + 1) = if c.testBit n then memTo c n ++ [(n : Int)] else memTo c n := by
  unfold memTo
  rw [List.range_succ, List.filter_append, List.map_append]
  cases h : c.testBit n <;> simp [h]
theorem memTo_len (c : Nat) : ∀ n, (memTo c n).length ≤ n := by
  intro n
  unfold memTo
  rw [List.length_map]
  exact Nat.le_trans (List.length_filter_le _ _) (by simp)
theorem mem_len (c : Nat) : (mem c).length ≤ 6 := memTo_len c 6
theorem memTo_range {c n : Nat} {x : Int} (h : x ∈ memTo c n) : ∃ k : Nat, x = (k : Int) ∧ k < n ∧ c.testBit k = true := by
  unfold memTo at h
  obtain ⟨k, hk, rfl⟩ := List.mem_map.1 h
  rw [List.mem_filter, List.mem_range] at hk
  exact ⟨k, rfl, hk.1, hk.2⟩
theorem mem_iff (c : Nat) (k : Nat) : ((k : Int) ∈ mem c) ↔ (k < 6 ∧ c.testBit k = true) := by
  constructor
  · intro h
    obtain ⟨j, e, h1, h2⟩ := memTo_range h
    obtain rfl : k = j := by omega
    exact ⟨h1, h2⟩
  · rintro ⟨h1, h2⟩
    exact List.mem_map.2 ⟨k, List.mem_filter.2 ⟨List.mem_range.2 h1, h2⟩, rfl⟩
theorem of_mem (c : Nat) : of (mem c) = c % 64 := by
  apply Nat.eq_of_testBit_eq
  intro i
  rw [of_bit, show 64 = 2 ^ 6 from rfl, Nat.testBit_mod_two_pow]
  by_cases h : i < 6
  · have := mem_iff c i
    cases hb : c.testBit i
    · simp [h, hb, this]
    · simp [h, hb, this]
  · simp [h]
theorem has_only (c : Nat) (h : Int) : ((c &&& only h) ≠ 0) ↔ has c h = true := by
  unfold has
  by_cases hh : 0 ≤ h ∧ h < 6
  · obtain ⟨k, rfl⟩ := Int.eq_ofNat_of_zero_le hh.1
    rw [show only (k : Int) = 2 ^ k by unfold only; rw [if_pos hh]; rfl]
    have e : c &&& 2 ^ k = if c.testBit k then 2 ^ k else 0 := by
      apply Nat.eq_of_testBit_eq
      intro i
      rw [Nat.testBit_and, Nat.testBit_two_pow]
      by_cases hi : k = i
      · subst hi; cases c.testBit k <;> simp
      · cases hc : c.testBit k <;> simp [hi]
    rw [e]
    simp only [hh, and_self, decide_true, Bool.true_and, Int.toNat_natCast, ne_eq]
    cases hb : c.testBit k
    · simp
    · simp
  · rw [show only h = 0 by unfold only; rw [if_neg hh], Nat.and_zero]
    simp [hh]
theorem has_nat (c k : Nat) (h : k < 6) : has c (k : Int) = c.testBit k := by
  unfold has
  simp; omega
theorem has_big (c : Nat) (h : Int) (hh : ¬ (0 ≤ h ∧ h < 6)) : has c h = false := by
  unfold has
  simp [hh]
/-- The half of a number, so often. -/
theorem has_div (c k : Nat) (h : k < 6) : has c (k : Int) = decide (c / 2 ^ k % 2 = 1) := by
  rw [has_nat c k h, Nat.testBit_eq_decide_div_mod_eq]
theorem wi_iff (a b : Nat) : wi a b = true ↔ ∀ k, k < 6 → a.testBit k = true → b.testBit k = true := by
  unfold wi
  rw [List.all_eq_true]
  constructor
  · intro h k hk ha
    have := h (k : Int) ((mem_iff a k).2 ⟨hk, ha⟩)
    rwa [has_nat b k hk] at this
  · intro h x hx
    obtain ⟨k, rfl, h1, h2⟩ := memTo_range hx
    rw [has_nat b k h1]
    exact h k h1 h2
/-- As the program asks it. -/
theorem wi_and (a b : Nat) (_ha : a < 4294967296) (hb : b < 4294967296) : ((a &&& (4294967295 - b)) &&& 63 = 0) ↔ wi a b = true := by
  rw [wi_iff]
  constructor
  · intro h k hk ha
    have h1 := congrArg (fun x => x.testBit k) h
    simp only [Nat.testBit_and, Nat.zero_testBit, show (63 : Nat) = 2 ^ 6 - 1 from rfl, Nat.testBit_two_pow_sub_one, show (4294967295 : Nat) - b = 2 ^ 32 - (b + 1) by omega, Nat.testBit_two_pow_sub_succ (show b < 2 ^ 32 by omega)] at h1
    cases hb2 : b.testBit k
    · rw [ha, hb2] at h1
      simp [hk, show k < 32 by omega] at h1
    · rfl
  · intro h
    apply Nat.eq_of_testBit_eq
    intro k
    simp only [Nat.testBit_and, Nat.zero_testBit, show (63 : Nat) = 2 ^ 6 - 1 from rfl, Nat.testBit_two_pow_sub_one, show (4294967295 : Nat) - b = 2 ^ 32 - (b + 1) by omega, Nat.testBit_two_pow_sub_succ (show b < 2 ^ 32 by omega)]
    by_cases hk : k < 6
    · cases ha : a.testBit k
      · simp
      · rw [h k hk ha]; simp
    · simp [hk]
theorem wi_or (a b : Nat) : wi a (a ||| b) = true := by
  rw [wi_iff]
  intro k _ h
  rw [Nat.testBit_or, h]
  rfl
theorem wi_both (a b : Nat) : wi (a &&& b) a = true := by
  rw [wi_iff]
  intro k _ h
  rw [Nat.testBit_and, Bool.and_eq_true] at h
  exact h.1
theorem wi_len {a b : Nat} (h : wi a b = true) : (mem a).length ≤ (mem b).length := by
  unfold mem memTo
  rw [List.length_map, List.length_map, ← List.countP_eq_length_filter, ← List.countP_eq_length_filter]
  apply List.countP_mono_left
  intro k hk
  rw [List.mem_range] at hk
  exact (wi_iff a b).1 h k hk
theorem cnt_len (l : List Nat) (h : Nat) : cnt l h ≤ l.length := List.countP_le_length
theorem cnt_take {l : List Nat} {k : Nat} {c : Nat} (h : l[k]? = some c) (i : Nat) : cnt (l.take (k + 1)) i = cnt (l.take k) i + (if c.testBit i then 1 else 0) := by
  unfold cnt
  rw [List.take_add_one, h, List.countP_append]
  simp [List.countP_cons]
theorem com_bit (l : List Nat) (h : Nat) : (com l).testBit h = (decide (h < 6) && decide (l.length < 2 * cnt l h)) := mk_bit _ 6 h
/-- A crew that stands in more than half of the places is within the common one. -/
theorem com_most (l : List Nat) (c : Nat) (h : l.length < 2 * (l.countP fun x => x % 64 = c % 64)) : wi c (com l) = true := by
  rw [wi_iff]
  intro k hk hc
  rw [com_bit]
  have : (l.countP fun x => decide (x % 64 = c % 64)) ≤ cnt l k := by
    apply List.countP_mono_left
    intro x _ hx
    rw [decide_eq_true_eq] at hx
    rw [← bit_mod x k hk, hx, bit_mod c k hk, hc]
  simp [hk]
  omega
theorem same_take {l : List Nat} {k : Nat} {x : Nat} (h : l[k]? = some x) (c : Nat) : ((l.take (k + 1)).countP fun x => decide (x % 64 = c % 64)) = ((l.take k).countP fun x => decide (x % 64 = c % 64)) + (if x % 64 = c % 64 then 1 else 0) := by
  rw [List.take_add_one, h, List.countP_append]
  simp [List.countP_cons]
/-- The hosts of a filtered row. -/
theorem of_filter (p : Nat → Bool) : of (((List.range 6).filter p).map fun h : Nat => (h : Int)) = mk p 6 := by
  apply Nat.eq_of_testBit_eq
  intro i
  rw [of_bit, mk_bit]
  cases hd : decide (i < 6)
  · rfl
  · rw [decide_eq_true_eq] at hd
    have h : (((List.range 6).filter p).map fun h : Nat => (h : Int)).contains (i : Int) = p i := by
      rw [Bool.eq_iff_iff, List.contains_iff_mem]
      constructor
      · intro hm
        obtain ⟨k, hk, e⟩ := List.mem_map.1 hm
        obtain rfl : k = i := by omega
        exact (List.mem_filter.1 hk).2
      · intro hp
        exact List.mem_map.2 ⟨i, List.mem_filter.2 ⟨List.mem_range.2 hd, hp⟩, rfl⟩
    rw [h]
theorem range_succ (p : Nat → Bool) (n : Nat) : ((List.range (n + 1)).filter p).map (fun h : Nat => (h : Int)) = if p n then ((List.range n).filter p).map (fun h : Nat => (h : Int)) ++ [(n : Int)] else ((List.range n).filter p).map (fun h : Nat => (h : Int)) := by
  rw [List.range_succ, List.filter_append, List.map_append]
  cases h : p n <;> simp [h]
theorem fst_none {c : Nat} (h : c % 64 = 0) : fst c = -1 := by
  unfold fst
  rw [← mem_mod, h]
  rfl
open Go.Lib in
theorem ctz_low (n k c : Nat) (h : c % 2 ^ n ≠ 0) : ctzFrom (n + k) c = ctzFrom n (c % 2 ^ n) := by
  induction n generalizing c with
  | zero => rw [Nat.pow_zero, Nat.mod_one] at h; exact absurd rfl h
  | succ n ih =>
    rw [Nat.succ_add_eq_add_succ]
    show ctzFrom (n + (k + 1)) c = _
    have e : n + (k + 1) = (n + k) + 1 := by omega
    rw [e]
    unfold ctzFrom
    have h1 : c % 2 ^ (n + 1) % 2 = c % 2 := Nat.mod_mod_of_dvd c ⟨2 ^ n, by rw [Nat.pow_succ, Nat.mul_comm]⟩
    have h2 : c % 2 ^ (n + 1) / 2 = c / 2 % 2 ^ n := by
      rw [Nat.pow_succ, Nat.mul_comm, Nat.mod_mul_right_div_self]
    rw [h1, h2]
    split
    · rfl
    · rename_i h3
      rw [ih (c / 2) (by rw [← h2]; omega)]
theorem fst_low : ∀ r, r < 64 → r ≠ 0 → fst r = (Go.Lib.ctzFrom 6 r : Int) := by decide +kernel
theorem fst_some {c : Nat} (h : c % 64 ≠ 0) : fst c = ((Go.Lib.ctz 32 c : Nat) : Int) := by
  have hc : c ≠ 0 := fun e => h (by rw [e])
  unfold Go.Lib.ctz
  rw [if_neg hc, show (32 : Nat) = 6 + 26 from rfl, ctz_low 6 26 c h, ← fst_low _ (Nat.mod_lt _ (by decide)) h]
  unfold fst
  rw [mem_mod]
theorem fst_le (c : Nat) : -1 ≤ fst c ∧ fst c < 6 := by
  unfold fst
  rcases hm : mem c with _ | ⟨x, xs⟩
  · decide
  · obtain ⟨k, rfl, h, -⟩ := memTo_range (c := c) (n := 6) (x := x) (by show x ∈ mem c; rw [hm]; exact List.mem_cons_self)
    simp
    omega
theorem txt_snoc (l : List Int) (x : Int) : txt (l ++ [x]) = if l = [] then [48 + x] else txt l ++ [44, 48 + x] := by
  cases l with
  | nil => rfl
  | cons y l => simp [txt]
theorem prt_mod (c : Nat) : prt (c % 64) = prt c := by unfold prt; rw [mem_mod]
theorem prt_dg : ∀ r, r < 64 → dg (prt r) = r := by decide +kernel
theorem dg_lt (s : List Int) : dg s < 64 := of_lt _
theorem prs_prt (c : Nat) : prs (prt c) = (c % 64, 0) := by
  have h := prt_dg (c % 64) (Nat.mod_lt _ (by decide))
  rw [prt_mod] at h
  unfold prs
  rw [h, prt_mod, if_pos rfl]
theorem prs_of {c : Nat} {s : List Int} (hc : c < 64) (h : prt c = s) : prs s = (c, 0) := by
  rw [← h, prs_prt, Nat.mod_eq_of_lt hc]
theorem prs_no {s : List Int} (h : ∀ c, c < 64 → prt c ≠ s) : prs s = (0, 2) := by
  unfold prs
  rw [if_neg (h _ (dg_lt s))]
theorem prs_cases (s : List Int) : (prs s = (dg s, 0) ∧ prt (dg s) = s) ∨ (prs s = (0, 2) ∧ prt (dg s) ≠ s) := by
  unfold prs
  by_cases h : prt (dg s) = s
  · rw [if_pos h]; exact Or.inl ⟨rfl, h⟩
  · rw [if_neg h]; exact Or.inr ⟨rfl, h⟩
theorem mem_digit {c : Nat} {x : Int} (h : x ∈ mem c) : 0 ≤ x ∧ x < 6 := by
  obtain ⟨k, rfl, h, -⟩ := memTo_range h
  omega
theorem txt_byte {l : List Int} (h : ∀ x ∈ l, 0 ≤ x ∧ x < 6) : ∀ y ∈ txt l, 0 ≤ y ∧ y < 256 := by
  cases l with
  | nil => intro y hy; cases hy
  | cons x l =>
    intro y hy
    rcases List.mem_cons.1 hy with rfl | hy
    · have := h x List.mem_cons_self; omega
    · obtain ⟨z, hz, hy⟩ := List.mem_flatMap.1 hy
      have := h z (List.mem_cons_of_mem _ hz)
      simp at hy
      omega
theorem txt_len (l : List Int) : (txt l).length ≤ 2 * l.length := by
  cases l with
  | nil => exact Nat.le_refl _
  | cons x l =>
    have : (l.flatMap fun y => [44, 48 + y]).length = 2 * l.length := by
      induction l with
      | nil => rfl
      | cons y l ih => rw [List.flatMap_cons, List.length_append, ih]; simp; omega
    simp [txt, this]
    omega
/-- A crew's first host and the rest. -/
theorem split_ok : ∀ r, r < 64 → 0 ≤ fst r → mem r ≠ [] ∧ (mem r)[0]? = some (fst r) ∧ of ((mem r).drop 1) ||| only (fst r) = r ∧ (mem (of ((mem r).drop 1))).length = (mem r).length - 1 := by decide +kernel
theorem both_ok : ((List.range 64).all fun a => (List.range 64).all fun b => (mem a).length + (mem b).length == (mem (a ||| b)).length + (mem (a &&& b)).length) = true := by decide +kernel
theorem split_at (c : Nat) (h : 0 ≤ fst c) : mem c ≠ [] ∧ (mem c)[0]? = some (fst c) ∧ of ((mem c).drop 1) ||| only (fst c) = c % 64 ∧ (mem (of ((mem c).drop 1))).length = (mem c).length - 1 := by
  have e : fst (c % 64) = fst c := by unfold fst; rw [mem_mod]
  have := split_ok (c % 64) (Nat.mod_lt _ (by decide)) (by rw [e]; exact h)
  rw [e, mem_mod] at this
  exact this
theorem mod_or (a b : Nat) : (a ||| b) % 64 = a % 64 ||| b % 64 := Nat.or_mod_two_pow (n := 6)
theorem mod_and (a b : Nat) : (a &&& b) % 64 = (a % 64) &&& (b % 64) := Nat.and_mod_two_pow (n := 6)
theorem both_at (a b : Nat) : (mem a).length + (mem b).length = (mem (a ||| b)).length + (mem (a &&& b)).length := by
  have h := List.all_eq_true.1 both_ok (a % 64) (List.mem_range.2 (Nat.mod_lt _ (by decide)))
  have h := List.all_eq_true.1 h (b % 64) (List.mem_range.2 (Nat.mod_lt _ (by decide)))
  rw [beq_iff_eq, ← mod_or, ← mod_and, mem_mod, mem_mod, mem_mod, mem_mod] at h
  exact h
theorem of_both (a b : Nat) : of (mem a ++ mem b) = (a ||| b) % 64 := by rw [of_app, of_mem, of_mem, mod_or]
theorem and63 (c : Nat) : c &&& 63 = c % 64 := Nat.and_two_pow_sub_one_eq_mod c 6
end Go.Proofs.Ytpjaijibkjmgiaa.CrewW

