/- A copy that is turned in one place; what Check then tells. -/
import Derived.Test.YtooamddipdjaoaaConfLay
import Derived.Test.YtooamddipdjaoaaConfR
namespace Go.Proofs.Ytooamddipdjaoaa.ConfW
open Go.RowKit Shell
theorem own_set {b size n cp g s : Nat} {e : TypeId} {xs : List Value} {w : World} {u : Value} (h : w.ownsRow b e size (.slice (some ⟨g, 0, none⟩) n cp) n xs) (_hs : s < xs.length) : (w.setCell ⟨g, s, none⟩ u).ownsRow b e size (.slice (some ⟨g, 0, none⟩) n cp) n (xs.set s u) := by
  refine ⟨by rw [List.length_set]; exact h.1, ?_⟩
  rcases h.2 with ⟨h1, _⟩ | ⟨g', cap, cur, h1, h2, h3, h4, h5, h6, h7⟩
  · cases h1
  · cases h1
    refine Or.inr ⟨g, cp, _, rfl, h2, heap_setCell_same w g s _ _ u h3, h4, h5, by rw [Array.size_setIfInBounds]; exact h6, ?_⟩
    rw [Array.toList_setIfInBounds, List.take_set, h7]
theorem own_other {b size n g s : Nat} {e : TypeId} {v u : Value} {xs : List Value} {w : World} (h : w.ownsRow b e size v n xs) (hv : v.ownBlock ≠ some g) : (w.setCell ⟨g, s, none⟩ u).ownsRow b e size v n xs := by
  refine ⟨h.1, ?_⟩
  rcases h.2 with h1 | ⟨g', cap, cur, h1, h2, h3, h4⟩
  · exact Or.inl h1
  · refine Or.inr ⟨g', cap, cur, h1, h2, ?_, h4⟩
    rw [heap_setCell_other _ _ _ _ (fun e => hv (by rw [h1]; exact congrArg some e))]
    exact h3
theorem own_block {b size n g : Nat} {e t : TypeId} {v : Value} {xs : List Value} {w : World} {cs : Array Value} {fr : Nat × Nat} (h : w.ownsRow b e size v n xs) (hg : w.heap[g]? = some (.cells cs t fr)) (ht : ¬ t = e) : v.ownBlock ≠ some g := by
  rcases h.2 with ⟨h1, _⟩ | ⟨g', cap, cur, h1, h2, h3, _⟩
  · rw [h1]; intro e; cases e
  · rw [h1]
    intro e
    cases e
    rw [h3] at hg
    cases hg
    exact ht rfl
theorem nums_set (q : IntKind) (r : List Int) (s : Nat) (x : Int) : (nums q r).set s (.int q x) = nums q (r.set s x) := by unfold nums; rw [List.map_set]
theorem Dup.setRow {w : World} {lo gd gk s k cp : Nat} {c : Cfg} {vs : List Value} {vE vL : Value} {r : List Int} {x : Int} (h : Dup w lo c gd vs vE vL) (hv : vs[k]? = some (.slice (some ⟨gk, 0, none⟩) r.length cp)) (hr : c.delays[k]? = some r) (hs : s < r.length) :
    Dup (w.setCell ⟨gk, s, none⟩ (.int .i64 x)) lo { c with delays := c.delays.set k (r.set s x) } gd vs vE vL := by
  obtain ⟨v, hv2, ho⟩ := h.row k r hr
  rw [hv] at hv2
  cases hv2
  have hb : gd + 1 ≤ gk := (ho.lt gk rfl).1
  have hk := lt_of_get hr
  obtain ⟨cur, hcur⟩ : ∃ cur, w.heap[gk]? = some (.cells cur 2) := by
    rcases ho.2 with ⟨h1, _⟩ | ⟨g', cap, cur, h1, h2, h3, _⟩
    · cases h1
    · cases h1; exact ⟨cur, h3⟩
  refine ⟨h.hg, ?_, by show vs.length = (c.delays.set k (r.set s x)).length; rw [List.length_set]; exact h.len, ?_, h.far, own_other h.ent (own_block h.ent hcur (by decide)), own_other h.lnk (own_block h.lnk hcur (by decide))⟩
  · rw [heap_setCell_other _ _ _ _ (by show gd ≠ gk; omega)]
    exact h.hd
  · intro j r2 hj
    show ∃ v, _
    by_cases hjk : j = k
    · subst hjk
      have hj2 : (c.delays.set j (r.set s x))[j]? = some r2 := hj
      rw [List.getElem?_set_self hk] at hj2
      cases hj2
      refine ⟨_, hv, ?_⟩
      have := own_set (u := .int .i64 x) ho (s := s) (by rw [nums_len]; exact hs)
      rw [nums_set] at this
      rw [List.length_set]
      exact this
    · have hj2 : (c.delays.set k (r.set s x))[j]? = some r2 := hj
      rw [List.getElem?_set_ne (fun e => hjk e.symm)] at hj2
      obtain ⟨u, hu, hou⟩ := h.row j r2 hj2
      refine ⟨u, hu, own_other hou ?_⟩
      intro hx
      rcases Nat.lt_or_ge j k with h1 | h1
      · exact h.far j k u _ gk h1 hu hv hx rfl
      · exact h.far k j _ u gk (by omega) hv hu rfl hx
theorem Dup.below {w w1 : World} {lo gd : Nat} {c : Cfg} {vs : List Value} {vE vL : Value} (h : Dup w lo c gd vs vE vL) (b : Below w.heap.size w w1) : Dup w1 lo c gd vs vE vL :=
  ⟨h.hg, row_below b h.hd, h.len, fun j r hj => by
    obtain ⟨v, hv, ho⟩ := h.row j r hj
    exact ⟨v, hv, own_up ho (Nat.le_refl _) (Up.of _ b)⟩, h.far, own_up h.ent (Nat.le_refl _) (Up.of _ b), own_up h.lnk (Nat.le_refl _) (Up.of _ b)⟩
theorem chk_rows {c : Cfg} (l : List (List Int)) (h : chk c = 0) : chk { c with delays := l } = if rowsOk { c with delays := l } then 0 else 4 := by
  have e : chk { c with delays := l } = if btw c.hosts 1 6 then if btw c.cycle 1 1073741824 then if spansT c then if rowsOk { c with delays := l } then if entOk c then if phOk c then
    if prs snd c.entries then 7 else if prs (rcv c) c.entries then 8 else if linkOk c then if btw c.queue 1 64 then 0 else 10 else 9
    else 6 else 5 else 4 else 3 else 2 else 1 := rfl
  rw [e]
  unfold chk at h
  clear e
  cases b1 : btw c.hosts 1 6 <;> rw [b1] at h <;> simp only [Bool.false_eq_true, if_false, if_true] at h ⊢
  · omega
  cases b2 : btw c.cycle 1 1073741824 <;> rw [b2] at h <;> simp only [Bool.false_eq_true, if_false, if_true] at h ⊢
  · omega
  cases b3 : spansT c <;> rw [b3] at h <;> simp only [Bool.false_eq_true, if_false, if_true] at h ⊢
  · omega
  cases b4 : rowsOk c <;> rw [b4] at h <;> simp only [Bool.false_eq_true, if_false, if_true] at h
  · omega
  · rw [h]
theorem chk_ok {c : Cfg} (h : chk c = 0) : btw c.hosts 1 6 = true ∧ btw c.cycle 1 1073741824 = true ∧ spansT c = true ∧ rowsOk c = true ∧ entOk c = true ∧ phOk c = true ∧ linkOk c = true := by
  unfold chk at h
  cases b1 : btw c.hosts 1 6 <;> rw [b1] at h <;> simp only [Bool.false_eq_true, if_false, if_true] at h
  · omega
  cases b2 : btw c.cycle 1 1073741824 <;> rw [b2] at h <;> simp only [Bool.false_eq_true, if_false, if_true] at h
  · omega
  cases b3 : spansT c <;> rw [b3] at h <;> simp only [Bool.false_eq_true, if_false, if_true] at h
  · omega
  cases b4 : rowsOk c <;> rw [b4] at h <;> simp only [Bool.false_eq_true, if_false, if_true] at h
  · omega
  cases b5 : entOk c <;> rw [b5] at h <;> simp only [Bool.false_eq_true, if_false, if_true] at h
  · omega
  cases b6 : phOk c <;> rw [b6] at h <;> simp only [Bool.false_eq_true, if_false, if_true] at h
  · omega
  cases b7 : prs snd c.entries <;> rw [b7] at h <;> simp only [Bool.false_eq_true, if_false, if_true] at h
  · cases b8 : prs (rcv c) c.entries <;> rw [b8] at h <;> simp only [Bool.false_eq_true, if_false, if_true] at h
    · cases b9 : linkOk c <;> rw [b9] at h <;> simp only [Bool.false_eq_true, if_false, if_true] at h
      · omega
      · exact ⟨rfl, rfl, rfl, rfl, rfl, rfl, rfl⟩
    · omega
  · omega
theorem rowsOk_set {c : Cfg} {k s : Nat} {r : List Int} {x : Int} (h : rowsOk c = true) (hr : c.delays[k]? = some r) (hs : s < r.length) : rowsOk { c with delays := c.delays.set k (r.set s x) } = btw x 0 c.delay := by
  unfold rowsOk at h ⊢
  rw [Bool.and_eq_true, decide_eq_true_eq] at h
  have hk := lt_of_get hr
  have e1 : decide ((({ c with delays := c.delays.set k (r.set s x) } : Cfg).delays.length : Int) = ({ c with delays := c.delays.set k (r.set s x) } : Cfg).hosts) = true := by
    rw [decide_eq_true_eq]
    show (((c.delays.set k (r.set s x)).length : Nat) : Int) = c.hosts
    rw [List.length_set]
    exact h.1
  rw [e1, Bool.true_and]
  have hrow := all_at h.2 hr
  unfold rowOk at hrow
  rw [Bool.and_eq_true, decide_eq_true_eq] at hrow
  have hset : (c.delays.set k (r.set s x))[k]? = some (r.set s x) := by rw [List.getElem?_set_self hk]
  have hsx : (r.set s x)[s]? = some x := by rw [List.getElem?_set_self hs]
  cases hb : btw x 0 c.delay
  · refine all_false (k := k) (x := r.set s x) hset ?_
    show (decide ((r.set s x).length = 2) && (r.set s x).all (fun y => btw y 0 c.delay)) = false
    rw [all_false (p := fun y => btw y 0 c.delay) hsx hb, Bool.and_false]
  · refine all_true (fun j y hj => ?_)
    show (decide (y.length = 2) && y.all (fun y => btw y 0 c.delay)) = true
    have hj2 : (c.delays.set k (r.set s x))[j]? = some y := hj
    by_cases hjk : j = k
    · subst hjk
      rw [hset] at hj2
      cases hj2
      rw [List.length_set, decide_eq_true hrow.1, Bool.true_and]
      refine all_true (fun i z hi => ?_)
      by_cases his : i = s
      · subst his
        rw [hsx] at hi
        cases hi
        exact hb
      · rw [List.getElem?_set_ne (fun e => his e.symm)] at hi
        exact all_at hrow.2 hi
    · rw [List.getElem?_set_ne (fun e => hjk e.symm)] at hj2
      exact all_at h.2 hj2
/-- In a configuration that may be, how much there is. -/
theorem few {w : World} (c : Cfg) (D E L : Option Addr) (nd cd ne ce nl cl : Nat) (h : CM w c D E L nd cd ne ce nl cl) (hz : chk c = 0) : nd ≤ 6 ∧ ne ≤ 16 ∧ nl ≤ 16 ∧ (nd : Int) = c.hosts ∧ ∀ r ∈ c.delays, r.length = 2 := by
  obtain ⟨b1, b2, b3, b4, b5, b6, b9⟩ := chk_ok hz
  unfold rowsOk at b4
  unfold linkOk at b9
  rw [Bool.and_eq_true, decide_eq_true_eq] at b4 b9
  have h1 := btw_iff.1 b1
  have h5 := (entOk_iff.1 b5).1
  have n1 := h.nD
  have n2 := h.nE
  have n3 := h.nL
  refine ⟨by omega, by omega, by have := b9.1; omega, by rw [n1]; exact b4.1, fun r hr => ?_⟩
  have := List.all_eq_true.1 b4.2 r hr
  unfold rowOk at this
  rw [Bool.and_eq_true, decide_eq_true_eq] at this
  exact this.1
end Go.Proofs.Ytooamddipdjaoaa.ConfW
