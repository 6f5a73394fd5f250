/- Plain mathematics of a port: frames in the order of their coming, rated ones first. -/
import Derived.ProofKit
namespace Go.Proofs.Ytpliidkfllacpaa.PortW
/-- A frame: class, link, number, payload, size. -/
structure Da where
  c : Int
  l : Int
  n : Int
  p : ByteArray
  s : Int
def rat (d : Da) : Bool := decide (d.c = 2)
/-- The rated ones, and the others, in the order of their coming. -/
def R (L : List Da) : List Da := L.filter rat
def E (L : List Da) : List Da := L.filter fun d => !rat d
/-- As they are taken. -/
def ord (L : List Da) : List Da := R L ++ E L
/-- Where the first rated one lies. -/
def fst : List Da → Option Nat
  | [] => none
  | d :: L => if rat d then some 0 else (fst L).map (· + 1)
/-- Where the next one lies. -/
def nxt (L : List Da) : Option Nat :=
  match fst L with
  | some i => some i
  | none => if L = [] then none else some 0
theorem R_snoc (L : List Da) (d : Da) : R (L ++ [d]) = if rat d then R L ++ [d] else R L := by
  unfold R
  rw [List.filter_append]
  cases h : rat d <;> simp [h]
theorem E_snoc (L : List Da) (d : Da) : E (L ++ [d]) = if rat d then E L else E L ++ [d] := by
  unfold E
  rw [List.filter_append]
  cases h : rat d <;> simp [h]
theorem len_re (L : List Da) : (R L).length + (E L).length = L.length := by
  induction L with
  | nil => rfl
  | cons d L ih =>
    unfold R E at *
    cases h : rat d <;> simp [h] <;> omega
theorem len_ord (L : List Da) : (ord L).length = L.length := by
  unfold ord
  rw [List.length_append, len_re]
theorem fst_cons (d : Da) (L : List Da) : fst (d :: L) = if rat d then some 0 else (fst L).map (· + 1) := rfl
theorem R_cons (d : Da) (L : List Da) : R (d :: L) = if rat d then d :: R L else R L := by
  unfold R
  cases h : rat d <;> simp [h]
theorem E_cons (d : Da) (L : List Da) : E (d :: L) = if rat d then E L else d :: E L := by
  unfold E
  cases h : rat d <;> simp [h]
theorem fst_none {L : List Da} : fst L = none ↔ R L = [] := by
  induction L with
  | nil => simp [fst, R]
  | cons d L ih =>
    rw [fst_cons, R_cons]
    cases h : rat d
    · simp only [Bool.false_eq_true, if_false, Option.map_eq_none_iff, ih]
    · simp
theorem fst_some {L : List Da} {x : Da} {t : List Da} (h : R L = x :: t) : ∃ i, fst L = some i ∧ L[i]? = some x ∧ R (L.eraseIdx i) = t ∧ E (L.eraseIdx i) = E L := by
  induction L with
  | nil => simp [R] at h
  | cons d L ih =>
    cases hr : rat d with
    | true =>
      have h2 : d :: R L = x :: t := by rw [← h]; unfold R; simp [hr]
      injection h2 with h3 h4
      refine ⟨0, by unfold fst; rw [hr]; rfl, by rw [h3]; rfl, h4, ?_⟩
      show E L = E (d :: L)
      unfold E
      simp [hr]
    | false =>
      have h2 : R L = x :: t := by rw [← h]; unfold R; simp [hr]
      obtain ⟨i, g1, g2, g3, g4⟩ := ih h2
      refine ⟨i + 1, by unfold fst; rw [hr, g1]; rfl, by simpa using g2, ?_, ?_⟩
      · show R (d :: L.eraseIdx i) = t
        rw [← g3]
        unfold R
        simp [hr]
      · show E (d :: L.eraseIdx i) = E (d :: L)
        have : E (d :: L.eraseIdx i) = d :: E (L.eraseIdx i) := by unfold E; simp [hr]
        rw [this, g4]
        unfold E
        simp [hr]
theorem R_nil_all {L : List Da} (h : R L = []) : E L = L := by
  induction L with
  | nil => rfl
  | cons d L ih =>
    cases hr : rat d with
    | true => unfold R at h; simp [hr] at h
    | false =>
      have h2 : R L = [] := by unfold R at h ⊢; simpa [hr] using h
      rw [E_cons, hr, ih h2]
      rfl
theorem nxt_none {L : List Da} : nxt L = none ↔ L = [] := by
  unfold nxt
  cases h : fst L with
  | some i =>
    simp only [reduceCtorEq, false_iff]
    intro hL
    rw [hL] at h
    cases h
  | none =>
    by_cases hL : L = []
    · simp [hL]
    · simp [hL]
/-- The next one is the first as they are taken; without it the rest is taken. -/
theorem nxt_ord {L : List Da} {x : Da} {t : List Da} (h : ord L = x :: t) : ∃ i, nxt L = some i ∧ L[i]? = some x ∧ ord (L.eraseIdx i) = t ∧ i < L.length := by
  have hlt : ∀ i, L[i]? = some x → i < L.length := by
    intro i hi
    rcases Nat.lt_or_ge i L.length with g | g
    · exact g
    · rw [List.getElem?_eq_none g] at hi; cases hi
  unfold ord at h ⊢
  cases hR : R L with
  | cons y r =>
    rw [hR] at h
    injection h with h1 h2
    obtain ⟨i, g1, g2, g3, g4⟩ := fst_some hR
    refine ⟨i, by unfold nxt; rw [g1], by rw [← h1]; exact g2, by rw [g3, g4]; exact h2, hlt i (by rw [← h1]; exact g2)⟩
  | nil =>
    rw [hR] at h
    have hE := R_nil_all hR
    have h2 : L = x :: t := by rw [← hE]; exact h
    subst h2
    refine ⟨0, ?_, rfl, ?_, by simp⟩
    · unfold nxt
      rw [fst_none.2 hR]
      simp
    · show R t ++ E t = t
      have hRt : R t = [] := by
        cases hr : rat x with
        | true => unfold R at hR; simp [hr] at hR
        | false => unfold R at hR ⊢; simpa [hr] using hR
      rw [hRt, R_nil_all hRt]
      rfl
theorem ord_nil {L : List Da} : ord L = [] ↔ L = [] := by
  constructor
  · intro h
    have := len_ord L
    rw [h] at this
    exact List.eq_nil_of_length_eq_zero this.symm
  · rintro rfl; rfl
theorem ord_snoc_len (L : List Da) (d : Da) : (ord (L ++ [d])).length = (ord L).length + 1 := by
  rw [len_ord, len_ord, List.length_append]
  rfl
/-- A class's own, in order. -/
def cls (k : Int) (L : List Da) : List Da := L.filter fun d => decide (d.c = k)
theorem cls_app (k : Int) (L M : List Da) : cls k (L ++ M) = cls k L ++ cls k M := by unfold cls; rw [List.filter_append]
theorem cls_ord (k : Int) (L : List Da) : cls k (ord L) = cls k L := by
  unfold ord
  rw [cls_app]
  unfold cls R E
  rw [List.filter_filter, List.filter_filter]
  by_cases hk : k = 2
  · subst hk
    have h1 : (L.filter fun d => decide (d.c = 2) && !rat d) = [] := by
      rw [List.filter_eq_nil_iff]
      intro d _
      unfold rat
      cases decide (d.c = 2) <;> simp
    have h2 : (L.filter fun d => decide (d.c = 2) && rat d) = L.filter fun d => decide (d.c = 2) := by
      apply List.filter_congr
      intro d _
      unfold rat
      cases decide (d.c = 2) <;> rfl
    rw [h1, h2, List.append_nil]
  · have h1 : (L.filter fun d => decide (d.c = k) && rat d) = [] := by
      rw [List.filter_eq_nil_iff]
      intro d _
      unfold rat
      simp only [Bool.and_eq_true, decide_eq_true_eq, not_and]
      omega
    have h2 : (L.filter fun d => decide (d.c = k) && !rat d) = L.filter fun d => decide (d.c = k) := by
      apply List.filter_congr
      intro d _
      unfold rat
      by_cases hd : d.c = k
      · have : ¬ d.c = 2 := by omega
        simp [hd, hk]
      · simp [hd]
    rw [h1, h2, List.nil_append]
/-- What has been taken in, what came out and what waits: nothing is lost in between. -/
structure Kep (I O L : List Da) : Prop where
  two : cls 2 I = cls 2 O ++ cls 2 L
  three : cls 3 I = cls 3 O ++ cls 3 L
  len : I.length = O.length + L.length
theorem kept_nil : Kep [] [] [] := ⟨rfl, rfl, rfl⟩
theorem kept_offer {I O L : List Da} (h : Kep I O L) (d : Da) : Kep (I ++ [d]) O (L ++ [d]) :=
  ⟨by rw [cls_app, cls_app, h.two, List.append_assoc], by rw [cls_app, cls_app, h.three, List.append_assoc], by have := h.len; simp only [List.length_append, List.length_singleton]; omega⟩
theorem kept_take {I O L : List Da} {x : Da} {t : List Da} {i : Nat} (h : Kep I O L) (ho : ord L = x :: t) (hi : ord (L.eraseIdx i) = t) (hl : i < L.length) : Kep I (O ++ [x]) (L.eraseIdx i) := by
  have step : ∀ k, cls k L = cls k [x] ++ cls k (L.eraseIdx i) := fun k => by
    rw [← cls_ord k L, ← cls_ord k (L.eraseIdx i), ho, hi, ← cls_app]
    rfl
  refine ⟨by rw [cls_app, h.two, step 2, List.append_assoc], by rw [cls_app, h.three, step 3, List.append_assoc], ?_⟩
  have := h.len
  rw [List.length_append, List.length_eraseIdx_of_lt hl, List.length_singleton]
  omega
theorem kept_clear {I O L : List Da} (h : Kep I O L) : Kep I (O ++ ord L) [] :=
  ⟨by rw [cls_app, cls_ord, h.two]; simp [cls], by rw [cls_app, cls_ord, h.three]; simp [cls], by rw [List.length_append, len_ord, h.len]; simp⟩
end Go.Proofs.Ytpliidkfllacpaa.PortW
