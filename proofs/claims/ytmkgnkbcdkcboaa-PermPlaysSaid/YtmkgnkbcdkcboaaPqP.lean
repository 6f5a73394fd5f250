/- The order of things that are due, and a heap of them, as lists. -/
import Derived.WalkKit
namespace Go.Proofs.Ytmkgnkbcdkcboaa.QueueW
/-- A thing with what it stands by. -/
structure It where
  time : Int
  rank : Int
  node : Int
  place : Int
  k : Int
  f : Int
  y : Int
  c : Int
  l : Int
instance : Inhabited It := ⟨⟨0, 0, 0, 0, 0, 0, 0, 0, 0⟩⟩
/-- The thing itself, a control frame. -/
abbrev It.thing (x : It) : Value := .agg #[.int .i64 x.k, .int .i64 x.f, .int .i64 x.y, .int .u32 x.c, .int .i64 x.l]
/-- a stands ahead of b. -/
def lt (a b : It) : Prop := a.time < b.time ∨ (a.time = b.time ∧ (a.rank < b.rank ∨ (a.rank = b.rank ∧ (a.node < b.node ∨ (a.node = b.node ∧ a.place < b.place)))))
instance (a b : It) : Decidable (lt a b) := by unfold lt; infer_instance
theorem lt_irrefl (a : It) : ¬ lt a a := by unfold lt; omega
theorem lt_asymm {a b : It} (h : lt a b) : ¬ lt b a := by unfold lt at *; omega
theorem lt_trans {a b c : It} (h : lt a b) (g : lt b c) : lt a c := by unfold lt at *; omega
theorem nlt_trans {a b c : It} (h : ¬ lt b a) (g : ¬ lt c b) : ¬ lt c a := by unfold lt at *; omega
theorem lt_or {a b : It} (h : a.place ≠ b.place) (g : ¬ lt a b) : lt b a := by unfold lt at *; omega
def cmpI (x y : Int) : Int := if x < y then -1 else if y < x then 1 else 0
def ord (a b : It) : Int := if cmpI a.time b.time ≠ 0 then cmpI a.time b.time else if cmpI a.rank b.rank ≠ 0 then cmpI a.rank b.rank else if cmpI a.node b.node ≠ 0 then cmpI a.node b.node else cmpI a.place b.place
theorem ord_lt (a b : It) : decide (ord a b < 0) = decide (lt a b) := by
  rw [decide_eq_decide]
  unfold ord cmpI lt
  repeat' split
  all_goals omega
def nth (L : List It) (i : Nat) : It := (L[i]?).getD default
theorem nth_some {L : List It} {i : Nat} {x : It} (h : L[i]? = some x) : nth L i = x := by unfold nth; rw [h]; rfl
theorem some_nth {L : List It} {i : Nat} (h : i < L.length) : L[i]? = some (nth L i) := by unfold nth; rw [List.getElem?_eq_getElem h]; rfl
def swp (L : List It) (i j : Nat) : List It := (L.set i (nth L j)).set j (nth L i)
theorem length_swp (L : List It) (i j : Nat) : (swp L i j).length = L.length := by unfold swp; simp
theorem nth_swp {L : List It} {i j : Nat} (hi : i < L.length) (hj : j < L.length) (k : Nat) : nth (swp L i j) k = if k = j then nth L i else if k = i then nth L j else nth L k := by
  unfold swp
  by_cases h1 : k = j
  · subst h1
    rw [if_pos rfl]
    exact nth_some (by rw [List.getElem?_set_self (by simpa using hj)])
  · rw [if_neg h1]
    unfold nth
    rw [List.getElem?_set_ne (Ne.symm h1)]
    by_cases h2 : k = i
    · subst h2
      rw [if_pos rfl, List.getElem?_set_self hi]
      rfl
    · rw [if_neg h2, List.getElem?_set_ne (Ne.symm h2)]
theorem perm_swp {L : List It} {i j : Nat} (hi : i < L.length) (hj : j < L.length) : (swp L i j).Perm L := by
  have e1 : nth L i = L[i] := nth_some (List.getElem?_eq_getElem hi)
  have e2 : nth L j = L[j] := nth_some (List.getElem?_eq_getElem hj)
  unfold swp
  rw [e1, e2]
  exact List.set_set_perm hi hj
/-- The first n are a heap, from parent lo on. -/
def HO (lo n : Nat) (L : List It) : Prop := ∀ c, c < n → 1 ≤ c → lo ≤ (c - 1) / 2 → ¬ lt (nth L c) (nth L ((c - 1) / 2))
structure UpOk (j : Nat) (L : List It) : Prop where
  rest : ∀ c, c < L.length → 1 ≤ c → c ≠ j → ¬ lt (nth L c) (nth L ((c - 1) / 2))
  below : ∀ c, c < L.length → 1 ≤ c → (c - 1) / 2 = j → 1 ≤ j → ¬ lt (nth L c) (nth L ((j - 1) / 2))
theorem nth_append {L : List It} {x : It} {i : Nat} (h : i < L.length) : nth (L ++ [x]) i = nth L i := by unfold nth; rw [List.getElem?_append_left h]
theorem UpOk.start {L : List It} (h : HO 0 L.length L) (x : It) : UpOk L.length (L ++ [x]) := by
  refine ⟨fun c hc h1 hn => ?_, fun c hc h1 hp _ => ?_⟩
  · simp only [List.length_append, List.length_cons, List.length_nil] at hc
    rw [nth_append (by omega), nth_append (by omega)]
    exact h c (by omega) h1 (Nat.zero_le _)
  · simp only [List.length_append, List.length_cons, List.length_nil] at hc
    omega
theorem UpOk.done {j : Nat} {L : List It} (h : UpOk j L) (hd : j = 0 ∨ ¬ lt (nth L j) (nth L ((j - 1) / 2))) : HO 0 L.length L := by
  intro c hc h1 _
  by_cases e : c = j
  · subst e
    rcases hd with h0 | h0
    · omega
    · exact h0
  · exact h.rest c hc h1 e
theorem UpOk.step {j : Nat} {L : List It} (h : UpOk j L) (hj : j < L.length) (h1 : 1 ≤ j) (hl : lt (nth L j) (nth L ((j - 1) / 2))) : UpOk ((j - 1) / 2) (swp L ((j - 1) / 2) j) := by
  obtain ⟨i, hi⟩ : ∃ i, (j - 1) / 2 = i := ⟨_, rfl⟩
  rw [hi] at hl ⊢
  have hil : i < L.length := by omega
  refine ⟨fun c hc c1 hn => ?_, fun c hc c1 hp i1 => ?_⟩
  · rw [length_swp] at hc
    rw [nth_swp hil hj, nth_swp hil hj, if_neg (c := c = i) hn]
    by_cases e : c = j
    · subst e
      rw [if_pos rfl, hi, if_neg (by omega), if_pos rfl]
      exact lt_asymm hl
    · rw [if_neg e]
      by_cases e2 : (c - 1) / 2 = j
      · rw [if_pos e2]
        have := h.below c hc c1 e2 h1
        rwa [hi] at this
      · rw [if_neg e2]
        have hr := h.rest c hc c1 e
        by_cases e3 : (c - 1) / 2 = i
        · rw [if_pos e3]
          rw [e3] at hr
          exact fun g => hr (lt_trans g hl)
        · rw [if_neg e3]
          exact hr
  · rw [length_swp] at hc
    rw [nth_swp hil hj, nth_swp hil hj, if_neg (c := (i - 1) / 2 = j) (by omega), if_neg (c := (i - 1) / 2 = i) (by omega)]
    have hri := h.rest i hil i1 (by omega)
    by_cases e : c = j
    · rw [if_pos e]
      exact hri
    · rw [if_neg e, if_neg (by omega)]
      have hr := h.rest c hc c1 e
      rw [hp] at hr
      exact nlt_trans hri hr
structure DnOk (lo i n : Nat) (L : List It) : Prop where
  rest : ∀ c, c < n → 1 ≤ c → lo ≤ (c - 1) / 2 → (c - 1) / 2 ≠ i → ¬ lt (nth L c) (nth L ((c - 1) / 2))
  below : ∀ c, c < n → 1 ≤ c → (c - 1) / 2 = i → 1 ≤ i → lo ≤ (i - 1) / 2 → ¬ lt (nth L c) (nth L ((i - 1) / 2))
theorem DnOk.done {lo i n : Nat} {L : List It} (h : DnOk lo i n L) (hd : ∀ c, c < n → 1 ≤ c → (c - 1) / 2 = i → ¬ lt (nth L c) (nth L i)) : HO lo n L := by
  intro c hc h1 hlo
  by_cases e : (c - 1) / 2 = i
  · rw [e]
    exact hd c hc h1 e
  · exact h.rest c hc h1 hlo e
theorem DnOk.step {lo i j n : Nat} {L : List It} (h : DnOk lo i n L) (hn : n ≤ L.length) (hj : j < n) (h1 : 1 ≤ j) (hp : (j - 1) / 2 = i) (hlo : lo ≤ i) (hl : lt (nth L j) (nth L i)) (hm : ∀ c, c < n → 1 ≤ c → (c - 1) / 2 = i → ¬ lt (nth L c) (nth L j)) : DnOk lo j n (swp L i j) := by
  have hil : i < L.length := by omega
  have hjl : j < L.length := by omega
  refine ⟨fun c hc c1 cl hn => ?_, fun c hc c1 hq _ _ => ?_⟩
  · rw [nth_swp hil hjl, nth_swp hil hjl, if_neg (c := (c - 1) / 2 = j) hn]
    by_cases e : c = j
    · subst e
      rw [if_pos rfl, if_pos hp]
      exact lt_asymm hl
    · rw [if_neg e]
      by_cases e2 : c = i
      · rw [if_pos e2, if_neg (by omega)]
        have := h.below j hj h1 hp (by omega) (by omega)
        rwa [← e2] at this
      · rw [if_neg e2]
        by_cases e3 : (c - 1) / 2 = i
        · rw [if_pos e3]
          exact hm c hc c1 e3
        · rw [if_neg e3]
          exact h.rest c hc c1 cl e3
  · rw [nth_swp hil hjl, nth_swp hil hjl, if_neg (c := c = j) (by omega), if_neg (c := c = i) (by omega), hp, if_neg (by omega), if_pos rfl]
    have := h.rest c hc c1 (by omega) (by omega)
    rwa [hq] at this
/-- The first of a heap: none stands ahead of it. -/
theorem HO.first {n : Nat} {L : List It} (h : HO 0 n L) : ∀ c, c < n → ¬ lt (nth L c) (nth L 0) := by
  intro c
  induction c using Nat.strongRecOn with
  | _ c ih =>
    intro hc
    rcases Nat.eq_zero_or_pos c with rfl | h0
    · exact lt_irrefl _
    · exact nlt_trans (ih ((c - 1) / 2) (by omega) (by omega)) (h c hc h0 (Nat.zero_le _))
theorem first_eq {L S : List It} {x : It} (h : HO 0 L.length L) (p : L.Perm (x :: S)) (hs : (x :: S).Pairwise lt) : nth L 0 = x := by
  have hl : 0 < L.length := by rw [p.length_eq]; simp
  have m0 : nth L 0 ∈ x :: S := p.mem_iff.1 (List.mem_of_getElem? (some_nth hl))
  rcases List.mem_cons.1 m0 with e | m
  · exact e
  · exfalso
    have h1 := (List.pairwise_cons.1 hs).1 _ m
    obtain ⟨c, hc⟩ := List.getElem?_of_mem (p.mem_iff.2 (List.mem_cons_self (a := x) (l := S)))
    have hc' : c < L.length := (List.getElem?_eq_some_iff.1 hc).1
    have h2 := h.first c hc'
    rw [nth_some hc] at h2
    exact h2 h1
/-- In its place. -/
def ins (x : It) : List It → List It
  | [] => [x]
  | y :: S => if lt x y then x :: y :: S else y :: ins x S
theorem ins_perm (x : It) : ∀ S, (ins x S).Perm (x :: S)
  | [] => List.Perm.refl _
  | y :: S => by
    unfold ins
    split
    · exact List.Perm.refl _
    · exact ((ins_perm x S).cons y).trans (List.Perm.swap _ _ _)
theorem ins_sorted {x : It} : ∀ {S : List It}, S.Pairwise lt → (∀ y ∈ S, y.place < x.place) → (ins x S).Pairwise lt
  | [], _, _ => by simp [ins]
  | y :: S, h, hp => by
    have h' := List.pairwise_cons.1 h
    unfold ins
    split
    · rename_i g
      refine List.pairwise_cons.2 ⟨fun z hz => ?_, h⟩
      rcases List.mem_cons.1 hz with rfl | hz
      · exact g
      · exact lt_trans g (h'.1 z hz)
    · rename_i g
      refine List.pairwise_cons.2 ⟨fun z hz => ?_, ins_sorted h'.2 (fun z hz => hp z (List.mem_cons_of_mem _ hz))⟩
      rcases List.mem_cons.1 ((ins_perm x S).mem_iff.1 hz) with rfl | hz
      · exact lt_or (by have := hp y List.mem_cons_self; omega) g
      · exact h'.1 z hz
theorem ins_length (x : It) (S : List It) : (ins x S).length = S.length + 1 := by rw [(ins_perm x S).length_eq]; rfl
end Go.Proofs.Ytmkgnkbcdkcboaa.QueueW
