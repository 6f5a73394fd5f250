/- A slice of structs that came in, whose cells are numbers, strings or truths, whatever structs lie within. -/
import Derived.Test.YtpliidkfllacpaaRowF
namespace Go.Proofs.Ytpliidkfllacpaa.Shell
open Go.ChangeShapes Go.WideShapes Go.ChangeAt Go.RowKit
/-- A cell's kind. -/
inductive Kd where
  | num (q : IntKind)
  | str
  | bool
def Kd.ok : Kd → Value → Prop
  | .num q, v => ∃ b : Int, v = .int q b ∧ (Lit.int q b).wf = true
  | .str, v => ∃ s : ByteArray, v = .string s ∧ s.size ≤ maxLen
  | .bool, v => ∃ b : Bool, v = .bool b
/-- The slice's cells hold these rows. -/
def RM (w : World) (ks : List Kd) (A : Option Addr) (rows : List (List Value)) : Prop :=
  ∀ (k : Nat) (xs : List Value), rows[k]? = some xs → xs.length = ks.length ∧ ∃ a, A = some a ∧ ∀ (j : Nat) (q : Kd), ks[j]? = some q → ∃ v, xs[j]? = some v ∧ q.ok v ∧ w.cell? (a.add (k * ks.length + j)) = some v
theorem RM.below {w w1 : World} {ks : List Kd} {A : Option Addr} {rows : List (List Value)} (h : RM w ks A rows) (b : Below w.heap.size w w1) : RM w1 ks A rows := by
  intro k xs hk
  obtain ⟨hl, a, ha, hc⟩ := h k xs hk
  refine ⟨hl, a, ha, fun j q hq => ?_⟩
  obtain ⟨v, h1, h2, h3⟩ := hc j q hq
  exact ⟨v, h1, h2, (b.cell (Lib.lt_of_cell h3)).trans h3⟩
section
variable {P : Program} {H : Type} {enc : TypeId × Value → H}
/-- What is asked of an element's type: its cells are of these kinds. -/
def Mixed (P : Program) (H : Type) (enc : TypeId × Value → H) (e : TypeId) (ks : List Kd) : Prop :=
  ∀ (w : World) (base : Nat) (spare : Nat → Bool) (held : Bool) (n : Nat) (cs : List Value) (x : DataW H × List MemPlace), DataW.trod enc P w base spare held n e cs = some x → cs.length = ks.length →
    ∀ (j : Nat) (q : Kd), ks[j]? = some q → ∃ v, cs[j]? = some v ∧ q.ok v
theorem open_rowsM {W : World} {r : Reach} {b0 : Nat} {t e : TypeId} {ks : List Kd} (ht : P.underlying t = some (.slice e)) (hc : P.cellsOf e = ks.length) (hF : Mixed P H enc e ks) {v : Value} {d : DataW H} {ps : List MemPlace}
    (hval : Value.okWide P W r b0 t v) (hd : DataW.Trod enc P W 0 (fun _ => true) true t v d ps) : ∃ (A : Option Addr) (rows : List (List Value)) (c : Nat), v = .slice A rows.length c ∧ RM W ks A rows ∧ rows.length ≤ maxLen ∧ rows.length ≤ c ∧ (rows = [] ∨ ∃ es sp, d = .slice es sp ∧ rows.length = es.length) ∧ (A = none → c = 0) := by
  obtain ⟨A, n, c, rfl⟩ := slice_val ht hval
  obtain ⟨fuel, hf⟩ := hd
  rcases Go.Deep.open_slice ht hf with ⟨h1, _⟩ | ⟨a, len, cap, m, k, D, Pl, h1, _, hl, hm, hmm, hdat, hx⟩
  · simp only [Value.cells] at h1
    injection h1 with h1 _
    injection h1 with e1 e2 e3
    subst e1; subst e2; subst e3
    exact ⟨none, [], 0, rfl, fun k x h => by simp at h, by decide, Nat.le_refl _, Or.inl rfl, fun _ => rfl⟩
  · simp only [Value.cells] at h1
    injection h1 with h1 _
    injection h1 with e1 e2 e3
    subst e1; subst e2; subst e3
    have each : ∀ i, i < n → ∃ xs : List Value, xs.length = ks.length ∧ ∀ (j : Nat) (q : Kd), ks[j]? = some q → ∃ v, xs[j]? = some v ∧ q.ok v ∧ W.cell? (a.add (i * ks.length + j)) = some v := by
      intro i hi
      obtain ⟨cs, h2, h3⟩ := hx i (by rw [hmm]; simp; omega)
      rw [hc] at h2
      obtain ⟨-, hlen, hcell⟩ := World.cells?_some h2
      refine ⟨cs, hlen, fun j q hq => ?_⟩
      obtain ⟨v, hv, hw⟩ := hF _ _ _ _ _ _ _ h3 hlen j q hq
      have hj : j < ks.length := by
        rcases Nat.lt_or_ge j ks.length with h | h
        · exact h
        · rw [List.getElem?_eq_none h] at hq; cases hq
      have h5 := hcell j (by omega)
      rw [Go.Deep.add_add, hv] at h5
      exact ⟨v, hv, hw, h5⟩
    obtain ⟨f, hfn⟩ := Go.Deep.choose_lt (α := List Value) each
    refine ⟨some a, (List.range n).map f, c, by simp, ?_, by simp; omega, by simp; exact hl, Or.inr ⟨_, _, congrArg (·.1) hdat, by simp⟩, fun h => by cases h⟩
    intro i x hix
    have hi : i < n := by
      rcases Nat.lt_or_ge i n with h | h
      · exact h
      · rw [List.getElem?_eq_none (by simpa using h)] at hix; cases hix
    have : x = f i := by
      rw [List.getElem?_map, List.getElem?_range hi] at hix
      exact (Option.some.inj hix).symm
    subst this
    exact ⟨(hfn i hi).1, a, rfl, (hfn i hi).2⟩
end
/-- Which part of a list of lists a place lies in. -/
theorem flat_place {α : Type} : ∀ (l : List (List α)) (j : Nat) (q : α), l.flatten[j]? = some q → ∃ i c ki, l[i]? = some ki ∧ ki[c]? = some q ∧ j = (l.take i).flatten.length + c
  | [], j, q, h => by simp at h
  | k :: l, j, q, h => by
    rw [List.flatten_cons] at h
    by_cases hj : j < k.length
    · rw [List.getElem?_append_left hj] at h
      exact ⟨0, j, k, rfl, h, by simp⟩
    · rw [List.getElem?_append_right (by omega)] at h
      obtain ⟨i, c, ki, h1, h2, h3⟩ := flat_place l _ q h
      refine ⟨i + 1, c, ki, by simpa using h1, h2, ?_⟩
      rw [List.take_succ_cons, List.flatten_cons, List.length_append]
      omega
theorem flat_room {α : Type} : ∀ (l : List (List α)) (i : Nat) (ki : List α), l[i]? = some ki → (l.take i).flatten.length + ki.length ≤ l.flatten.length
  | [], i, ki, h => by simp at h
  | k :: l, 0, ki, h => by
    simp only [List.getElem?_cons_zero, Option.some.injEq] at h
    subst h
    simp
  | k :: l, i + 1, ki, h => by
    have := flat_room l i ki (by simpa using h)
    rw [List.take_succ_cons, List.flatten_cons, List.flatten_cons, List.length_append, List.length_append]
    omega
section
variable {P : Program} {H : Type} {enc : TypeId × Value → H}
theorem mixed_num {e : TypeId} {q : IntKind} (he : P.underlying e = some (.int q)) : Mixed P H enc e [.num q] := by
  intro w base spare held n cs x h hl j k hk
  obtain ⟨v, rfl⟩ : ∃ v, cs = [v] := by
    match cs, hl with
    | [v], _ => exact ⟨v, rfl⟩
  obtain ⟨b, hb, hw⟩ := trod_num he h
  match j, hk with
  | 0, hk => cases hk; exact ⟨v, rfl, b, hb, hw⟩
theorem mixed_str {e : TypeId} (he : P.underlying e = some .string) : Mixed P H enc e [.str] := by
  intro w base spare held n cs x h hl j k hk
  obtain ⟨s, rfl, -, hs⟩ := DataW.trod_string he h
  match j, hk with
  | 0, hk => cases hk; exact ⟨_, rfl, s, rfl, hs⟩
theorem mixed_bool {e : TypeId} (he : P.underlying e = some .bool) : Mixed P H enc e [.bool] := by
  intro w base spare held n cs x h hl j k hk
  obtain ⟨b, rfl, -⟩ := DataW.trod_bool he h
  match j, hk with
  | 0, hk => cases hk; exact ⟨_, rfl, b, rfl⟩
/-- A struct of parts that are known. -/
theorem mixed_struct {e : TypeId} {fs : Array Field} {kss : List (List Kd)} (he : P.underlying e = some (.struct fs)) (hs : fs.size = kss.length)
    (hF : ∀ (i : Nat) (f : Field) (ki : List Kd), fs[i]? = some f → kss[i]? = some ki → f.offset = (kss.take i).flatten.length ∧ P.cellsOf f.type = ki.length ∧ Mixed P H enc f.type ki) : Mixed P H enc e kss.flatten := by
  intro w base spare held n cs x h hl j k hk
  obtain ⟨ys, k', hk1, -, -, hyl, hg⟩ := DataW.trod_struct he h
  obtain ⟨i, c, ki, hki, hc, rfl⟩ := flat_place kss j k hk
  have hroom := flat_room kss i ki hki
  have hi : i < fs.size := by
    rw [hs]
    rcases Nat.lt_or_ge i kss.length with g | g
    · exact g
    · rw [List.getElem?_eq_none g] at hki; cases hki
  obtain ⟨f, hf⟩ : ∃ f, fs[i]? = some f := ⟨_, Array.getElem?_eq_getElem hi⟩
  obtain ⟨ho, hcf, hm⟩ := hF i f ki hf hki
  have h4 := hg i f hf
  rw [ho, hcf, List.getElem?_eq_getElem (by omega)] at h4
  have hlen : ((cs.drop (kss.take i).flatten.length).take ki.length).length = ki.length := by
    rw [List.length_take, List.length_drop]
    omega
  obtain ⟨v, hv, hok⟩ := hm _ _ _ _ _ _ _ h4 hlen c k hc
  have hcl : c < ki.length := by
    rcases Nat.lt_or_ge c ki.length with g | g
    · exact g
    · rw [List.getElem?_eq_none g] at hc; cases hc
  rw [List.getElem?_take_of_lt hcl, List.getElem?_drop] at hv
  exact ⟨v, hv, hok⟩
end
/-- Where a row's cells lie. -/
theorem RM.cellAt {w : World} {ks : List Kd} {A : Option Addr} {rows : List (List Value)} (h : RM w ks A rows) (hq : 0 < ks.length) {k : Nat} {xs : List Value} (hk : rows[k]? = some xs) :
    ∃ b off, A = some ⟨b, off, none⟩ ∧ xs.length = ks.length ∧ ∀ (j : Nat) (q : Kd), ks[j]? = some q → ∃ v, xs[j]? = some v ∧ q.ok v ∧ w.cell? ⟨b, off + k * ks.length + j, none⟩ = some v := by
  obtain ⟨hl, ⟨b, off, spot⟩, rfl, hc⟩ := h k xs hk
  have hspot : spot = none := by
    have hlt : k < rows.length := (List.getElem?_eq_some_iff.1 hk).1
    obtain ⟨hl', a', ha', hc'⟩ := h 0 _ (List.getElem?_eq_getElem (show 0 < rows.length by omega))
    cases ha'
    obtain ⟨q, hq0⟩ : ∃ q, ks[0]? = some q := ⟨_, List.getElem?_eq_getElem hq⟩
    obtain ⟨v, -, -, h3⟩ := hc' 0 q hq0
    have h3 := World.cell?_spot h3
    simpa [Addr.add] using h3
  subst hspot
  refine ⟨b, off, rfl, hl, fun j q hj => ?_⟩
  obtain ⟨v, h1, h2, h3⟩ := hc j q hj
  have e : (⟨b, off, none⟩ : Addr).add (k * ks.length + j) = ⟨b, off + k * ks.length + j, none⟩ := by unfold Addr.add; split <;> simp_all; omega
  rw [e] at h3
  exact ⟨v, h1, h2, h3⟩
end Go.Proofs.Ytpliidkfllacpaa.Shell
