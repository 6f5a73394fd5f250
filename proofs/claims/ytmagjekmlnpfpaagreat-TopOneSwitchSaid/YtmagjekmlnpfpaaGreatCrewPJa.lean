/- Plain mathematics of crews: sets of six hosts as numbers; their texts. -/
import Derived.WalkKit
import Derived.Lib.TrailingZeros
namespace Go.Proofs.YtmagjekmlnpfpaaGreat.CrewW
/-- The crew of one number. -/
def only (h : Int) : Nat := if 0 ≤ h ∧ h < 6 then 2 ^ h.toNat else 0
/-- Is the host in the crew? -/
def has (c : Nat) (h : Int) : Bool := decide (0 ≤ h ∧ h < 6) && c.testBit h.toNat
/-- The number whose bits below n are as p says. -/
def mk (p : Nat → Bool) : Nat → Nat
  | 0 => 0
  | n + 1 => if p n then mk p n + 2 ^ n else mk p n
/-- The crew of those that are hosts. -/
def of (l : List Int) : Nat := mk (fun h => l.contains (h : Int)) 6
/-- The hosts below n that are in the crew, rising. -/
def memTo (c n : Nat) : List Int := ((List.range n).filter fun h => c.testBit h).map fun h : Nat => (h : Int)
def mem (c : Nat) : List Int := memTo c 6
def fst (c : Nat) : Int := (mem c).headD (-1)
def wi (a b : Nat) : Bool := (mem a).all fun h => has b h
/-- The numbers with commas between. -/
def txt : List Int → List Int
  | [] => []
  | x :: xs => (48 + x) :: xs.flatMap fun y => [44, 48 + y]
def prt (c : Nat) : List Int := if mem c = [] then [45] else txt (mem c)
/-- The crew of a text's digits. -/
def dg (s : List Int) : Nat := of (s.map (· - 48))
def prs (s : List Int) : Nat × Int := if prt (dg s) = s then (dg s, 0) else (0, 2)
theorem mk_lt (p : Nat → Bool) : ∀ n, mk p n < 2 ^ n
  | 0 => by simp [mk]
  | n + 1 => by
    have := mk_lt p n
    unfold mk
    rw [Nat.pow_succ]
    split <;> omega
theorem mk_bit (p : Nat → Bool) : ∀ n h, (mk p n).testBit h = (decide (h < n) && p h)
  | 0, h => by simp [mk]
  | n + 1, h => by
    have ih := mk_bit p n h
    have hl := mk_lt p n
    unfold mk
    split
    · rename_i hp
      rw [Nat.add_comm]
      rcases Nat.lt_trichotomy h n with h1 | h1 | h1
      · rw [Nat.testBit_two_pow_add_gt h1, ih]
        simp [h1, show h < n + 1 by omega]
      · subst h1
        rw [Nat.testBit_two_pow_add_eq, Nat.testBit_lt_two_pow hl]
        simp [hp]
      · rw [Nat.testBit_lt_two_pow (x := 2 ^ n + mk p n) (i := h) (Nat.lt_of_lt_of_le (show 2 ^ n + mk p n < 2 ^ (n + 1) by rw [Nat.pow_succ]; omega) (Nat.pow_le_pow_right (by decide) h1))]
        simp [show ¬ h < n + 1 by omega]
    · rename_i hp
      rw [ih]
      rcases Nat.lt_trichotomy h n with h1 | h1 | h1
      · simp [h1, show h < n + 1 by omega]
      · subst h1; simp [hp]
      · simp [show ¬ h < n + 1 by omega, show ¬ h < n by omega]
theorem of_lt (l : List Int) : of l < 64 := mk_lt _ 6
theorem of_bit (l : List Int) (h : Nat) : (of l).testBit h = (decide (h < 6) && l.contains (h : Int)) := mk_bit _ 6 h
theorem only_lt (h : Int) : only h < 64 := by
  unfold only
  split
  · have := Nat.pow_lt_pow_right (a := 2) (m := h.toNat) (n := 6) (by decide) (by omega)
    omega
  · decide
theorem only_bit (x : Int) (h : Nat) : (only x).testBit h = (decide (h < 6) && decide (x = (h : Int))) := by
  unfold only
  split
  · rw [Nat.testBit_two_pow]
    by_cases e : x = (h : Int)
    · simp [e]; omega
    · simp [e]; omega
  · simp; omega
theorem of_snoc (l : List Int) (x : Int) : of (l ++ [x]) = of l ||| only x := by
  apply Nat.eq_of_testBit_eq
  intro i
  rw [Nat.testBit_or, of_bit, of_bit, only_bit]
  cases hd : decide (i < 6) <;> simp
  by_cases e : (i : Int) = x
  · simp [e]
  · simp [e, show ¬ x = (i : Int) from fun h => e h.symm]
theorem of_one (x : Int) : of [x] = only x := by
  have := of_snoc [] x
  rw [List.nil_append] at this
  rw [this, show of [] = 0 from rfl, Nat.zero_or]
theorem bit_mod (c h : Nat) (hh : h < 6) : (c % 64).testBit h = c.testBit h := by
  rw [show 64 = 2 ^ 6 from rfl, Nat.testBit_mod_two_pow]
  simp [hh]
theorem memTo_mod (c : Nat) : ∀ n, n ≤ 6 → memTo (c % 64) n = memTo c n := by
  intro n hn
  unfold memTo
  congr 1
  apply List.filter_congr
  intro h hh
  rw [List.mem_range] at hh
  exact bit_mod c h (by omega)
theorem mem_mod (c : Nat) : mem (c % 64) = mem c := memTo_mod c 6 (by decide)
theorem memTo_succ (c n : Nat) : memTo c (n + 1) = if c.testBit n then memTo c n ++ [(n : Int)] else memTo c n := by
  unfold memTo
  rw [List.range_succ, List.filter_append, List.map_append]
  cases h : c.testBit n <;> simp [h]
theorem memTo_len (c : Nat) : ∀ n, (memTo c n).length ≤ n := by
  intro n
  unfold memTo
  rw [List.length_map]
  exact Nat.le_trans (List.length_filter_le _ _) (by simp)
theorem mem_len (c : Nat) : (mem c).length ≤ 6 := memTo_len c 6
theorem memTo_range {c n : Nat} {x : Int} (h : x ∈ memTo c n) : ∃ k : Nat, x = (k : Int) ∧ k < n ∧ c.testBit k = true := by
  unfold memTo at h
  obtain ⟨k, hk, rfl⟩ := List.mem_map.1 h
  rw [List.mem_filter, List.mem_range] at hk
  exact ⟨k, rfl, hk.1, hk.2⟩
theorem mem_iff (c : Nat) (k : Nat) : ((k : Int) ∈ mem c) ↔ (k < 6 ∧ c.testBit k = true) := by
  constructor
  · intro h
    obtain ⟨j, e, h1, h2⟩ := memTo_range h
    obtain rfl : k = j := by omega
    exact ⟨h1, h2⟩
  · rintro ⟨h1, h2⟩
    exact List.mem_map.2 ⟨k, List.mem_filter.2 ⟨List.mem_range.2 h1, h2⟩, rfl⟩
theorem has_only (c : Nat) (h : Int) : ((c &&& only h) ≠ 0) ↔ has c h = true := by
  unfold has
  by_cases hh : 0 ≤ h ∧ h < 6
  · obtain ⟨k, rfl⟩ := Int.eq_ofNat_of_zero_le hh.1
    rw [show only (k : Int) = 2 ^ k by unfold only; rw [if_pos hh]; rfl]
    have e : c &&& 2 ^ k = if c.testBit k then 2 ^ k else 0 := by
      apply Nat.eq_of_testBit_eq
      intro i
      rw [Nat.testBit_and, Nat.testBit_two_pow]
      by_cases hi : k = i
      · subst hi; cases c.testBit k <;> simp
      · cases hc : c.testBit k <;> simp [hi]
    rw [e]
    simp only [hh, and_self, decide_true, Bool.true_and, Int.toNat_natCast, ne_eq]
    cases hb : c.testBit k
    · simp
    · simp
  · rw [show only h = 0 by unfold only; rw [if_neg hh], Nat.and_zero]
    simp [hh]
theorem has_nat (c k : Nat) (h : k < 6) : has c (k : Int) = c.testBit k := by
  unfold has
  simp; omega
theorem has_big (c : Nat) (h : Int) (hh : ¬ (0 ≤ h ∧ h < 6)) : has c h = false := by
  unfold has
  simp [hh]
/-- The half of a number, so often. -/
theorem has_div (c k : Nat) (h : k < 6) : has c (k : Int) = decide (c / 2 ^ k % 2 = 1) := by
  rw [has_nat c k h, Nat.testBit_eq_decide_div_mod_eq]
theorem range_succ (p : Nat → Bool) (n : Nat) : ((List.range (n + 1)).filter p).map (fun h : Nat => (h : Int)) = if p n then ((List.range n).filter p).map (fun h : Nat => (h : Int)) ++ [(n : Int)] else ((List.range n).filter p).map (fun h : Nat => (h : Int)) := by
  rw [List.range_succ, List.filter_append, List.map_append]
  cases h : p n <;> simp [h]
theorem and63 (c : Nat) : c &&& 63 = c % 64 := Nat.and_two_pow_sub_one_eq_mod c 6
end Go.Proofs.YtmagjekmlnpfpaaGreat.CrewW



/- Plain mathematics of a collection: its frames in the order of their coming, what is kept of them by host, the cycle that most have. -/
namespace Go.Proofs.YtmagjekmlnpfpaaGreat.CompW
open CrewW (mem of has only mem_iff of_bit of_snoc of_one mem_len memTo_range)
/-- A frame that came: its local time, its host, its cycle, its crew, what it has spent. -/
structure Fr where
  t : Int
  f : Nat
  y : Int
  c : Int
  l : Int
def hosts (S : List Fr) : List Int := S.map fun x => (x.f : Int)
def ts (S : List Fr) : List Int := S.map fun x => x.t
def ys (S : List Fr) : List Int := S.map fun x => x.y
/-- A row by host, one place another. -/
def upd (R : Nat → Int) (i : Nat) (v : Int) : Nat → Int := fun j => if j = i then v else R j
def zero : Nat → Int := fun _ => 0
def sB : List Fr → Int
  | [] => 0
  | x :: _ => x.t
def sS (S : List Fr) : Nat := of (hosts S)
def fold (g : Fr → Int) (S : List Fr) (R : Nat → Int) : Nat → Int := S.foldl (fun R x => upd R x.f (g x)) R
def sR (S : List Fr) : Nat → Int := fold (fun x => x.t - sB S) S zero
def sC (S : List Fr) : Nat → Int := fold (fun x => x.y) S zero
/-- A collection that may be: all of them hosts, each once, within the window. -/
structure Ok (d : Int) (S : List Fr) : Prop where
  f : ∀ x ∈ S, x.f < 6
  t : ∀ x ∈ S, -1125899906842624 ≤ x.t ∧ x.t ≤ 1125899906842624 ∧ sB S ≤ x.t ∧ x.t ≤ sB S + d
  y : ∀ x ∈ S, 0 ≤ x.y ∧ x.y ≤ 1125899906842624
  one : (S.map fun x => x.f).Nodup
theorem Ok.nil (d : Int) : Ok d [] := ⟨fun _ h => (by cases h), fun _ h => (by cases h), fun _ h => (by cases h), List.nodup_nil⟩
theorem sB_snoc {S : List Fr} (h : S ≠ []) (x : Fr) : sB (S ++ [x]) = sB S := by
  cases S with
  | nil => exact absurd rfl h
  | cons y S => rfl
theorem sS_snoc (S : List Fr) (x : Fr) : sS (S ++ [x]) = sS S ||| only (x.f : Int) := by
  unfold sS hosts
  rw [List.map_append]
  exact of_snoc _ _
theorem sR_snoc {S : List Fr} (h : S ≠ []) (x : Fr) : sR (S ++ [x]) = upd (sR S) x.f (x.t - sB S) := by
  unfold sR fold
  rw [List.foldl_append, sB_snoc h]
  rfl
theorem sR_one (x : Fr) : sR [x] = upd zero x.f 0 := by
  show upd zero x.f (x.t - x.t) = _
  rw [Int.sub_self]
theorem sC_snoc (S : List Fr) (x : Fr) : sC (S ++ [x]) = upd (sC S) x.f x.y := by
  unfold sC fold
  rw [List.foldl_append]
  rfl
theorem sS_lt (S : List Fr) : sS S < 64 := CrewW.of_lt _
theorem hosts_mem {S : List Fr} {k : Nat} : ((k : Int) ∈ hosts S) ↔ ∃ x ∈ S, x.f = k := by
  unfold hosts
  rw [List.mem_map]
  constructor
  · rintro ⟨x, hx, e⟩; exact ⟨x, hx, by omega⟩
  · rintro ⟨x, hx, e⟩; exact ⟨x, hx, by omega⟩
theorem has_sS (S : List Fr) (k : Nat) (hk : k < 6) : has (sS S) (k : Int) = decide (∃ x ∈ S, x.f = k) := by
  rw [CrewW.has_nat _ _ hk]
  unfold sS
  rw [of_bit, decide_eq_true hk, Bool.true_and, Bool.eq_iff_iff, List.contains_iff_mem, hosts_mem, decide_eq_true_iff]
theorem sS_pos {S : List Fr} (h : S ≠ []) (hf : ∀ x ∈ S, x.f < 6) : sS S ≠ 0 := by
  cases S with
  | nil => exact absurd rfl h
  | cons x S =>
    intro e
    have h1 := has_sS (x :: S) x.f (hf x List.mem_cons_self)
    rw [decide_eq_true ⟨x, List.mem_cons_self, rfl⟩, e] at h1
    rw [CrewW.has_nat _ _ (hf x List.mem_cons_self), Nat.zero_testBit] at h1
    cases h1
theorem Ok.one' {d x} (hd : 0 ≤ d) (hf : x.f < 6) (ht : -1125899906842624 ≤ x.t ∧ x.t ≤ 1125899906842624) (hy : 0 ≤ x.y ∧ x.y ≤ 1125899906842624) : Ok d [x] :=
  ⟨fun y h => by rw [List.mem_singleton.1 h]; exact hf, fun y h => by rw [List.mem_singleton.1 h]; exact ⟨ht.1, ht.2, Int.le_refl _, by show x.t ≤ x.t + d; omega⟩, fun y h => by rw [List.mem_singleton.1 h]; exact hy, by simp⟩
theorem Ok.snoc {d : Int} {S : List Fr} (h : Ok d S) {x : Fr} (hn : S ≠ []) (hf : x.f < 6) (ht : -1125899906842624 ≤ x.t ∧ x.t ≤ 1125899906842624) (hb : sB S ≤ x.t ∧ x.t ≤ sB S + d) (hy : 0 ≤ x.y ∧ x.y ≤ 1125899906842624) (ho : ¬ ∃ z ∈ S, z.f = x.f) : Ok d (S ++ [x]) := by
  refine ⟨fun z hz => ?_, fun z hz => ?_, fun z hz => ?_, ?_⟩
  · rcases List.mem_append.1 hz with hz | hz
    · exact h.f z hz
    · rw [List.mem_singleton.1 hz]; exact hf
  · rw [sB_snoc hn]
    rcases List.mem_append.1 hz with hz | hz
    · exact h.t z hz
    · rw [List.mem_singleton.1 hz]; exact ⟨ht.1, ht.2, hb⟩
  · rcases List.mem_append.1 hz with hz | hz
    · exact h.y z hz
    · rw [List.mem_singleton.1 hz]; exact hy
  · rw [List.map_append]
    refine List.nodup_append.2 ⟨h.one, by simp, ?_⟩
    intro a ha b hb e
    obtain ⟨z, hz, rfl⟩ := List.mem_map.1 ha
    simp only [List.map_cons, List.map_nil, List.mem_singleton] at hb
    exact ho ⟨z, hz, e.trans hb⟩
/-- Each host's place holds what it sent. -/
theorem fold_other (g : Fr → Int) : ∀ (S : List Fr) (R : Nat → Int) (k : Nat), (∀ x ∈ S, x.f ≠ k) → fold g S R k = R k
  | [], _, _, _ => rfl
  | x :: S, R, k, h => by
    show fold g S (upd R x.f (g x)) k = R k
    rw [fold_other g S _ k (fun z hz => h z (List.mem_cons_of_mem _ hz))]
    exact if_neg (fun e => h x List.mem_cons_self e.symm)
theorem fold_at (g : Fr → Int) : ∀ (S : List Fr) (R : Nat → Int) (x : Fr), (S.map fun x => x.f).Nodup → x ∈ S → fold g S R x.f = g x
  | y :: S, R, x, ho, hx => by
    rw [List.map_cons, List.nodup_cons] at ho
    show fold g S (upd R y.f (g y)) x.f = g x
    rcases List.mem_cons.1 hx with rfl | hx
    · rw [fold_other g S _ _ (fun z hz e => ho.1 (List.mem_map.2 ⟨z, hz, e⟩))]
      exact if_pos rfl
    · exact fold_at g S _ x ho.2 hx
/-- What is kept by host, in the hosts' order. -/
def row (s : Nat) (R : Nat → Int) : List Int := (mem s).map fun h => R h.toNat
theorem mem_nodup (s : Nat) : (mem s).Nodup := by
  unfold mem CrewW.memTo
  unfold List.Nodup
  rw [List.pairwise_map]
  refine List.Pairwise.imp ?_ (List.Pairwise.filter _ (show (List.range 6).Nodup from List.nodup_range))
  intro a b h e
  exact h (by omega)
theorem hosts_nodup {S : List Fr} (h : (S.map fun x => x.f).Nodup) : (hosts S).Nodup := by
  unfold hosts
  unfold List.Nodup at *
  rw [List.pairwise_map] at *
  exact h.imp (fun h e => h (by omega))
theorem mem_sS {S : List Fr} (hf : ∀ x ∈ S, x.f < 6) (ho : (S.map fun x => x.f).Nodup) : (mem (sS S)).Perm (hosts S) := by
  rw [List.perm_ext_iff_of_nodup (mem_nodup _) (hosts_nodup ho)]
  intro a
  constructor
  · intro h
    obtain ⟨k, rfl, hk, hb⟩ := memTo_range (c := sS S) (n := 6) h
    have := has_sS S k hk
    rw [CrewW.has_nat _ _ hk, hb] at this
    exact hosts_mem.2 (of_decide_eq_true this.symm)
  · intro h
    obtain ⟨x, hx, rfl⟩ := List.mem_map.1 h
    refine (mem_iff _ _).2 ⟨hf x hx, ?_⟩
    rw [← CrewW.has_nat _ _ (hf x hx), has_sS S x.f (hf x hx)]
    exact decide_eq_true ⟨x, hx, rfl⟩
theorem row_perm (g : Fr → Int) {S : List Fr} (hf : ∀ x ∈ S, x.f < 6) (ho : (S.map fun x => x.f).Nodup) : (row (sS S) (fold g S zero)).Perm (S.map g) := by
  refine ((mem_sS hf ho).map _).trans (List.Perm.of_eq ?_)
  unfold hosts
  rw [List.map_map]
  apply List.map_congr_left
  intro x hx
  show fold g S zero ((x.f : Int).toNat) = g x
  rw [Int.toNat_natCast]
  exact fold_at g S zero x ho hx
theorem Ok.len {d : Int} {S : List Fr} (h : Ok d S) : S.length ≤ 6 := by
  have := (mem_sS h.f h.one).length_eq
  have h2 := mem_len (sS S)
  unfold hosts at this
  rw [List.length_map] at this
  omega
/-- The cycle that most have, the greatest of several: step by step. -/
def stp (cs : List Int) (p : Int × Int) (y : Int) : Int × Int := if p.2 < (cs.count y : Nat) ∨ (((cs.count y : Nat) : Int) = p.2 ∧ p.1 < y) then (y, (cs.count y : Nat)) else p
def best (cs : List Int) (l : List Int) : Int × Int := l.foldl (stp cs) (0, 0)
def cy (S : List Fr) : Int := (best (ys S) (ys S)).1
theorem best_snoc (cs l : List Int) (y : Int) : best cs (l ++ [y]) = stp cs (best cs l) y := by
  unfold best
  rw [List.foldl_append]
  rfl
/-- What the best one is, whatever the order. -/
structure IsB (cs l : List Int) (p : Int × Int) : Prop where
  up : ∀ y ∈ l, ((cs.count y : Nat) : Int) < p.2 ∨ (((cs.count y : Nat) : Int) = p.2 ∧ y ≤ p.1)
  one : (l = [] ∧ p = (0, 0)) ∨ (p.1 ∈ l ∧ p.2 = (cs.count p.1 : Nat))
theorem best_is (cs : List Int) : ∀ l : List Int, (∀ y ∈ l, y ∈ cs) → IsB cs l (best cs l) := by
  intro l
  generalize hn : l.length = n
  induction n generalizing l with
  | zero =>
    obtain rfl := List.eq_nil_of_length_eq_zero hn
    exact fun _ => ⟨fun y h => (by cases h), Or.inl ⟨rfl, rfl⟩⟩
  | succ n ih =>
    intro hl
    have hne : l ≠ [] := fun e => by rw [e] at hn; cases hn
    obtain ⟨m, y, rfl⟩ : ∃ m y, l = m ++ [y] := ⟨l.dropLast, l.getLast hne, (List.dropLast_concat_getLast hne).symm⟩
    have B := ih m (by simpa using hn) (fun z hz => hl z (List.mem_append_left _ hz))
    have hc : 0 < cs.count y := List.count_pos_iff.2 (hl y (List.mem_append_right _ (List.mem_singleton.2 rfl)))
    rw [best_snoc]
    generalize best cs m = p at B
    obtain ⟨a, b⟩ := p
    unfold stp
    dsimp only
    split
    · rename_i h
      refine ⟨fun z hz => ?_, Or.inr ⟨List.mem_append_right _ (List.mem_singleton.2 rfl), rfl⟩⟩
      rcases List.mem_append.1 hz with hz | hz
      · have := B.up z hz
        dsimp only at this ⊢
        omega
      · rw [List.mem_singleton.1 hz]; exact Or.inr ⟨rfl, Int.le_refl _⟩
    · rename_i h
      refine ⟨fun z hz => ?_, ?_⟩
      · rcases List.mem_append.1 hz with hz | hz
        · exact B.up z hz
        · rw [List.mem_singleton.1 hz]
          dsimp only
          omega
      · rcases B.one with ⟨rfl, e⟩ | h1
        · exfalso
          cases e
          exact h (Or.inl (by omega))
        · exact Or.inr ⟨List.mem_append_left _ h1.1, h1.2⟩
theorem IsB.eq {cs ds l m : List Int} {p q : Int × Int} (h : IsB cs l p) (g : IsB ds m q) (hc : cs.Perm ds) (hl : l.Perm m) : p = q := by
  have hcc : ∀ y, cs.count y = ds.count y := fun y => hc.count_eq y
  obtain ⟨a, b⟩ := p
  obtain ⟨a2, b2⟩ := q
  rcases h.one with ⟨rfl, e⟩ | ⟨h1, h2⟩
  · rcases g.one with ⟨_, e2⟩ | ⟨g1, _⟩
    · rw [e, e2]
    · have := hl.mem_iff.2 g1
      cases this
  · rcases g.one with ⟨rfl, _⟩ | ⟨g1, g2⟩
    · have := hl.mem_iff.1 h1
      cases this
    · have u1 := h.up a2 (hl.mem_iff.2 g1)
      have u2 := g.up a (hl.mem_iff.1 h1)
      dsimp only at h1 h2 g1 g2 u1 u2
      rw [hcc] at u1 h2
      have e1 : b = b2 := by omega
      have e2 : a = a2 := by omega
      rw [e1, e2]
theorem best_perm {cs ds : List Int} (h : cs.Perm ds) : best cs cs = best ds ds := (best_is cs cs (fun _ h => h)).eq (best_is ds ds (fun _ h => h)) h h
theorem row_best {d : Int} {S : List Fr} (h : Ok d S) : (best (row (sS S) (sC S)) (row (sS S) (sC S))).1 = cy S := by
  unfold cy
  rw [best_perm (show (row (sS S) (sC S)).Perm (ys S) from row_perm (fun x => x.y) h.f h.one)]
end Go.Proofs.YtmagjekmlnpfpaaGreat.CompW


