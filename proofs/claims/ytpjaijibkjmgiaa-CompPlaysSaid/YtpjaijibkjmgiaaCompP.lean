/- Plain mathematics of a collection: its frames in the order of their coming, what is kept of them by host, the cycle that most have. -/
import Derived.Test.YtpjaijibkjmgiaaCrewP
namespace Go.Proofs.Ytpjaijibkjmgiaa.CompW
open CrewW (mem of has only mem_iff of_bit of_snoc of_one mem_len memTo_range)
/-- A frame that came: its local time, its host, its cycle, its crew, what it has spent. -/
structure Fr where
  t : Int
  f : Nat
  y : Int
  c : Int
  l : Int
def hosts (S : List Fr) : List Int := S.map fun x => (x.f : Int)
def ts (S : List Fr) : List Int := S.map fun x => x.t
def ys (S : List Fr) : List Int := S.map fun x => x.y
/-- A row by host, one place another. -/
def upd (R : Nat → Int) (i : Nat) (v : Int) : Nat → Int := fun j => if j = i then v else R j
def zero : Nat → Int := fun _ => 0
def sB : List Fr → Int
  | [] => 0
  | x :: _ => x.t
def sS (S : List Fr) : Nat := of (hosts S)
def fold (g : Fr → Int) (S : List Fr) (R : Nat → Int) : Nat → Int := S.foldl (fun R x => upd R x.f (g x)) R
def sR (S : List Fr) : Nat → Int := fold (fun x => x.t - sB S) S zero
def sC (S : List Fr) : Nat → Int := fold (fun x => x.y) S zero
/-- A collection that may be: all of them hosts, each once, within the window. -/
structure Ok (d : Int) (S : List Fr) : Prop where
  f : ∀ x ∈ S, x.f < 6
  t : ∀ x ∈ S, -1125899906842624 ≤ x.t ∧ x.t ≤ 1125899906842624 ∧ sB S ≤ x.t ∧ x.t ≤ sB S + d
  y : ∀ x ∈ S, 0 ≤ x.y ∧ x.y ≤ 1125899906842624
  one : (S.map fun x => x.f).Nodup
theorem Ok.nil (d : Int) : Ok d [] := ⟨fun _ h => (by cases h), fun _ h => (by cases h), fun _ h => (by cases h), List.nodup_nil⟩
theorem sB_snoc {S : List Fr} (h : S ≠ []) (x : Fr) : sB (S ++ [x]) = sB S := by
  cases S with
  | nil => exact absurd rfl h
  | cons y S => rfl
theorem sS_snoc (S : List Fr) (x : Fr) : sS (S ++ [x]) = sS S ||| only (x.f : Int) := by
  unfold sS hosts
  rw [List.map_append]
  exact of_snoc _ _
theorem sR_snoc {S : List Fr} (h : S ≠ []) (x : Fr) : sR (S ++ [x]) = upd (sR S) x.f (x.t - sB S) := by
  unfold sR fold
  rw [List.foldl_append, sB_snoc h]
  rfl
theorem sR_one (x : Fr) : sR [x] = upd zero x.f 0 := by
  show upd zero x.f (x.t - x.t) = _
  rw [Int.sub_self]
theorem sC_snoc (S : List Fr) (x : Fr) : sC (S ++ [x]) = upd (sC S) x.f x.y := by
  unfold sC fold
  rw [List.foldl_append]
  rfl
theorem sS_lt (S : List Fr) : sS S < 64 := CrewW.of_lt _
theorem hosts_mem {S : List Fr} {k : Nat} : ((k : Int) ∈ hosts S) ↔ ∃ x ∈ S, x.f = k := by
  unfold hosts
  rw [List.mem_map]
  constructor
  · rintro ⟨x, hx, e⟩; exact ⟨x, hx, by omega⟩
  · rintro ⟨x, hx, e⟩; exact ⟨x, hx, by omega⟩
theorem has_sS (S : List Fr) (k : Nat) (hk : k < 6) : has (sS S) (k : Int) = decide (∃ x ∈ S, x.f = k) := by
  rw [CrewW.has_nat _ _ hk]
  unfold sS
  rw [of_bit, decide_eq_true hk, Bool.true_and, Bool.eq_iff_iff, List.contains_iff_mem, hosts_mem, decide_eq_true_iff]
theorem sS_pos {S : List Fr} (h : S ≠ []) (hf : ∀ x ∈ S, x.f < 6) : sS S ≠ 0 := by
  cases S with
  | nil => exact absurd rfl h
  | cons x S =>
    intro e
    have h1 := has_sS (x :: S) x.f (hf x List.mem_cons_self)
    rw [decide_eq_true ⟨x, List.mem_cons_self, rfl⟩, e] at h1
    rw [CrewW.has_nat _ _ (hf x List.mem_cons_self), Nat.zero_testBit] at h1
    cases h1
theorem Ok.one' {d x} (hd : 0 ≤ d) (hf : x.f < 6) (ht : -1125899906842624 ≤ x.t ∧ x.t ≤ 1125899906842624) (hy : 0 ≤ x.y ∧ x.y ≤ 1125899906842624) : Ok d [x] :=
  ⟨fun y h => by rw [List.mem_singleton.1 h]; exact hf, fun y h => by rw [List.mem_singleton.1 h]; exact ⟨ht.1, ht.2, Int.le_refl _, by show x.t ≤ x.t + d; omega⟩, fun y h => by rw [List.mem_singleton.1 h]; exact hy, by simp⟩
theorem Ok.snoc {d : Int} {S : List Fr} (h : Ok d S) {x : Fr} (hn : S ≠ []) (hf : x.f < 6) (ht : -1125899906842624 ≤ x.t ∧ x.t ≤ 1125899906842624) (hb : sB S ≤ x.t ∧ x.t ≤ sB S + d) (hy : 0 ≤ x.y ∧ x.y ≤ 1125899906842624) (ho : ¬ ∃ z ∈ S, z.f = x.f) : Ok d (S ++ [x]) := by
  refine ⟨fun z hz => ?_, fun z hz => ?_, fun z hz => ?_, ?_⟩
  · rcases List.mem_append.1 hz with hz | hz
    · exact h.f z hz
    · rw [List.mem_singleton.1 hz]; exact hf
  · rw [sB_snoc hn]
    rcases List.mem_append.1 hz with hz | hz
    · exact h.t z hz
    · rw [List.mem_singleton.1 hz]; exact ⟨ht.1, ht.2, hb⟩
  · rcases List.mem_append.1 hz with hz | hz
    · exact h.y z hz
    · rw [List.mem_singleton.1 hz]; exact hy
  · rw [List.map_append]
    refine List.nodup_append.2 ⟨h.one, by simp, ?_⟩
    intro a ha b hb e
    obtain ⟨z, hz, rfl⟩ := List.mem_map.1 ha
    simp only [List.map_cons, List.map_nil, List.mem_singleton] at hb
    exact ho ⟨z, hz, e.trans hb⟩
/-- Each host's place holds what it sent. -/
theorem fold_other (g : Fr → Int) : ∀ (S : List Fr) (R : Nat → Int) (k : Nat), (∀ x ∈ S, x.f ≠ k) → fold g S R k = R k
  | [], _, _, _ => rfl
  | x :: S, R, k, h => by
    show fold g S (upd R x.f (g x)) k = R k
    rw [fold_other g S _ k (fun z hz => h z (List.mem_cons_of_mem _ hz))]
    exact if_neg (fun e => h x List.mem_cons_self e.symm)
theorem fold_at (g : Fr → Int) : ∀ (S : List Fr) (R : Nat → Int) (x : Fr), (S.map fun x => x.f).Nodup → x ∈ S → fold g S R x.f = g x
  | y :: S, R, x, ho, hx => by
    rw [List.map_cons, List.nodup_cons] at ho
    show fold g S (upd R y.f (g y)) x.f = g x
    rcases List.mem_cons.1 hx with rfl | hx
    · rw [fold_other g S _ _ (fun z hz e => ho.1 (List.mem_map.2 ⟨z, hz, e⟩))]
      exact if_pos rfl
    · exact fold_at g S _ x ho.2 hx
/-- What is kept by host, in the hosts' order. -/
def row (s : Nat) (R : Nat → Int) : List Int := (mem s).map fun h => R h.toNat
theorem mem_nodup (s : Nat) : (mem s).Nodup := by
  unfold mem CrewW.memTo
  unfold List.Nodup
  rw [List.pairwise_map]
  refine List.Pairwise.imp ?_ (List.Pairwise.filter _ (show (List.range 6).Nodup from List.nodup_range))
  intro a b h e
  exact h (by omega)
theorem hosts_nodup {S : List Fr} (h : (S.map fun x => x.f).Nodup) : (hosts S).Nodup := by
  unfold hosts
  unfold List.Nodup at *
  rw [List.pairwise_map] at *
  exact h.imp (fun h e => h (by omega))
theorem mem_sS {S : List Fr} (hf : ∀ x ∈ S, x.f < 6) (ho : (S.map fun x => x.f).Nodup) : (mem (sS S)).Perm (hosts S) := by
  rw [List.perm_ext_iff_of_nodup (mem_nodup _) (hosts_nodup ho)]
  intro a
  constructor
  · intro h
    obtain ⟨k, rfl, hk, hb⟩ := memTo_range (c := sS S) (n := 6) h
    have := has_sS S k hk
    rw [CrewW.has_nat _ _ hk, hb] at this
    exact hosts_mem.2 (of_decide_eq_true this.symm)
  · intro h
    obtain ⟨x, hx, rfl⟩ := List.mem_map.1 h
    refine (mem_iff _ _).2 ⟨hf x hx, ?_⟩
    rw [← CrewW.has_nat _ _ (hf x hx), has_sS S x.f (hf x hx)]
    exact decide_eq_true ⟨x, hx, rfl⟩
theorem row_perm (g : Fr → Int) {S : List Fr} (hf : ∀ x ∈ S, x.f < 6) (ho : (S.map fun x => x.f).Nodup) : (row (sS S) (fold g S zero)).Perm (S.map g) := by
  refine ((mem_sS hf ho).map _).trans (List.Perm.of_eq ?_)
  unfold hosts
  rw [List.map_map]
  apply List.map_congr_left
  intro x hx
  show fold g S zero ((x.f : Int).toNat) = g x
  rw [Int.toNat_natCast]
  exact fold_at g S zero x ho hx
theorem Ok.len {d : Int} {S : List Fr} (h : Ok d S) : S.length ≤ 6 := by
  have := (mem_sS h.f h.one).length_eq
  have h2 := mem_len (sS S)
  unfold hosts at this
  rw [List.length_map] at this
  omega
/-- The cycle that most have, the greatest of several: step by step. -/
def stp (cs : List Int) (p : Int × Int) (y : Int) : Int × Int := if p.2 < (cs.count y : Nat) ∨ (((cs.count y : Nat) : Int) = p.2 ∧ p.1 < y) then (y, (cs.count y : Nat)) else p
def best (cs : List Int) (l : List Int) : Int × Int := l.foldl (stp cs) (0, 0)
def cy (S : List Fr) : Int := (best (ys S) (ys S)).1
theorem best_snoc (cs l : List Int) (y : Int) : best cs (l ++ [y]) = stp cs (best cs l) y := by
  unfold best
  rw [List.foldl_append]
  rfl
/-- What the best one is, whatever the order. -/
structure IsB (cs l : List Int) (p : Int × Int) : Prop where
  up : ∀ y ∈ l, ((cs.count y : Nat) : Int) < p.2 ∨ (((cs.count y : Nat) : Int) = p.2 ∧ y ≤ p.1)
  one : (l = [] ∧ p = (0, 0)) ∨ (p.1 ∈ l ∧ p.2 = (cs.count p.1 : Nat))
theorem best_is (cs : List Int) : ∀ l : List Int, (∀ y ∈ l, y ∈ cs) → IsB cs l (best cs l) := by
  intro l
  generalize hn : l.length = n
  induction n generalizing l with
  | zero =>
    obtain rfl := List.eq_nil_of_length_eq_zero hn
    exact fun _ => ⟨fun y h => (by cases h), Or.inl ⟨rfl, rfl⟩⟩
  | succ n ih =>
    intro hl
    have hne : l ≠ [] := fun e => by rw [e] at hn; cases hn
    obtain ⟨m, y, rfl⟩ : ∃ m y, l = m ++ [y] := ⟨l.dropLast, l.getLast hne, (List.dropLast_concat_getLast hne).symm⟩
    have B := ih m (by simpa using hn) (fun z hz => hl z (List.mem_append_left _ hz))
    have hc : 0 < cs.count y := List.count_pos_iff.2 (hl y (List.mem_append_right _ (List.mem_singleton.2 rfl)))
    rw [best_snoc]
    generalize best cs m = p at B
    obtain ⟨a, b⟩ := p
    unfold stp
    dsimp only
    split
    · rename_i h
      refine ⟨fun z hz => ?_, Or.inr ⟨List.mem_append_right _ (List.mem_singleton.2 rfl), rfl⟩⟩
      rcases List.mem_append.1 hz with hz | hz
      · have := B.up z hz
        dsimp only at this ⊢
        omega
      · rw [List.mem_singleton.1 hz]; exact Or.inr ⟨rfl, Int.le_refl _⟩
    · rename_i h
      refine ⟨fun z hz => ?_, ?_⟩
      · rcases List.mem_append.1 hz with hz | hz
        · exact B.up z hz
        · rw [List.mem_singleton.1 hz]
          dsimp only
          omega
      · rcases B.one with ⟨rfl, e⟩ | h1
        · exfalso
          cases e
          exact h (Or.inl (by omega))
        · exact Or.inr ⟨List.mem_append_left _ h1.1, h1.2⟩
theorem IsB.eq {cs ds l m : List Int} {p q : Int × Int} (h : IsB cs l p) (g : IsB ds m q) (hc : cs.Perm ds) (hl : l.Perm m) : p = q := by
  have hcc : ∀ y, cs.count y = ds.count y := fun y => hc.count_eq y
  obtain ⟨a, b⟩ := p
  obtain ⟨a2, b2⟩ := q
  rcases h.one with ⟨rfl, e⟩ | ⟨h1, h2⟩
  · rcases g.one with ⟨_, e2⟩ | ⟨g1, _⟩
    · rw [e, e2]
    · have := hl.mem_iff.2 g1
      cases this
  · rcases g.one with ⟨rfl, _⟩ | ⟨g1, g2⟩
    · have := hl.mem_iff.1 h1
      cases this
    · have u1 := h.up a2 (hl.mem_iff.2 g1)
      have u2 := g.up a (hl.mem_iff.1 h1)
      dsimp only at h1 h2 g1 g2 u1 u2
      rw [hcc] at u1 h2
      have e1 : b = b2 := by omega
      have e2 : a = a2 := by omega
      rw [e1, e2]
theorem best_perm {cs ds : List Int} (h : cs.Perm ds) : best cs cs = best ds ds := (best_is cs cs (fun _ h => h)).eq (best_is ds ds (fun _ h => h)) h h
theorem row_best {d : Int} {S : List Fr} (h : Ok d S) : (best (row (sS S) (sC S)) (row (sS S) (sC S))).1 = cy S := by
  unfold cy
  rw [best_perm (show (row (sS S) (sC S)).Perm (ys S) from row_perm (fun x => x.y) h.f h.one)]
theorem best_nonneg (cs : List Int) : ∀ l, (∀ y ∈ l, 0 ≤ y) → 0 ≤ (best cs l).1 ∧ 0 ≤ (best cs l).2 ∧ (best cs l).2 ≤ cs.length := by
  intro l
  generalize hn : l.length = n
  induction n generalizing l with
  | zero =>
    obtain rfl := List.eq_nil_of_length_eq_zero hn
    exact fun _ => ⟨Int.le_refl _, Int.le_refl _, by show (0 : Int) ≤ _; omega⟩
  | succ n ih =>
    intro hl
    have hne : l ≠ [] := fun e => by rw [e] at hn; cases hn
    obtain ⟨m, y, rfl⟩ : ∃ m y, l = m ++ [y] := ⟨l.dropLast, l.getLast hne, (List.dropLast_concat_getLast hne).symm⟩
    have B := ih m (by simpa using hn) (fun z hz => hl z (List.mem_append_left _ hz))
    rw [best_snoc]
    unfold stp
    split
    · have := List.count_le_length (a := y) (l := cs)
      exact ⟨hl y (List.mem_append_right _ (List.mem_singleton.2 rfl)), by dsimp only; omega, by dsimp only; omega⟩
    · exact B
end Go.Proofs.Ytpjaijibkjmgiaa.CompW
