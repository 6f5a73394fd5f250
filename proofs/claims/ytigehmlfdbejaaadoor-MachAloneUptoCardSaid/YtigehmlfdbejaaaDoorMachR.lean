/- Rows of machines in memory; what happens, as it came in; Run. -/
import Derived.Test.YtigehmlfdbejaaaDoorMachC
import Derived.Test.YtigehmlfdbejaaaDoorRowF
import Derived.Deep.OwnRows
namespace Go.Proofs.YtigehmlfdbejaaaDoor.MachW
open Go.RowKit Shell
open CrewW (Tz only u32_bound)
theorem nat_get {n i : Nat} (h : i < n) {α : Type} (F : Nat → α) : ((List.range n).map F)[i]? = some (F i) := by
  rw [List.getElem?_map, List.getElem?_range h]
  rfl
/-- Machines, cell by cell. -/
def flat : List Mc → List Value
  | [] => []
  | a :: l => .int .i64 a.s :: .int .u32 (a.c : Int) :: .int .i64 a.m :: .int .i64 a.x :: flat l
theorem flat_len : ∀ l, (flat l).length = l.length * 4
  | [] => rfl
  | a :: l => by simp [flat, flat_len l]; omega
theorem flat_get : ∀ (l : List Mc) (i : Nat) (a : Mc), l[i]? = some a → (flat l)[i * 4]? = some (.int .i64 a.s) ∧ (flat l)[i * 4 + 1]? = some (.int .u32 (a.c : Int)) ∧ (flat l)[i * 4 + 2]? = some (.int .i64 a.m) ∧ (flat l)[i * 4 + 3]? = some (.int .i64 a.x)
  | [], i, a, h => by simp at h
  | b :: l, 0, a, h => by
    simp at h
    subst h
    simp [flat]
  | b :: l, i + 1, a, h => by
    have e : (i + 1) * 4 = i * 4 + 4 := by omega
    have := flat_get l i a (by simpa using h)
    rw [e]
    simpa [flat] using this
theorem flat_set : ∀ (l : List Mc) (i : Nat) (a : Mc), i < l.length → ((((flat l).set (i * 4) (.int .i64 a.s)).set (i * 4 + 1) (.int .u32 (a.c : Int))).set (i * 4 + 2) (.int .i64 a.m)).set (i * 4 + 3) (.int .i64 a.x) = flat (l.set i a)
  | [], i, a, h => by simp at h
  | b :: l, 0, a, h => by simp [flat]
  | b :: l, i + 1, a, h => by
    have e : (i + 1) * 4 = i * 4 + 4 := by omega
    have := flat_set l i a (by simpa using h)
    rw [e]
    simp [flat, this]
/-- A row of machines. -/
abbrev mrow (l : List Mc) : Obj := .cells (flat l).toArray 36 (0, 0)
abbrev nrow (l : List Int) : Obj := .cells (nums .i64 l).toArray 3 (0, 0)
theorem mrow_get {w : World} {g : Nat} {l : List Mc} (h : w.heap[g]? = some (mrow l)) {i : Nat} {a : Mc} (hi : l[i]? = some a) :
    w.cell? ⟨g, i * 4, none⟩ = some (.int .i64 a.s) ∧ w.cell? ⟨g, i * 4 + 1, none⟩ = some (.int .u32 (a.c : Int)) ∧ w.cell? ⟨g, i * 4 + 2, none⟩ = some (.int .i64 a.m) ∧ w.cell? ⟨g, i * 4 + 3, none⟩ = some (.int .i64 a.x) := by
  obtain ⟨a0, a1, a2, a3⟩ := flat_get l i a hi
  refine ⟨?_, ?_, ?_, ?_⟩ <;> (rw [cell_of_row w g _ _ _ _ h, List.getElem?_toArray]; assumption)
theorem mrow_free {w : World} {g : Nat} {l : List Mc} (h : w.heap[g]? = some (mrow l)) (j : Nat) : w.frozen? ⟨g, j, none⟩ = false := frozen_of_row w g j _ _ h
theorem mrow_set {w : World} {g : Nat} {l : List Mc} (h : w.heap[g]? = some (mrow l)) {i : Nat} (hi : i < l.length) (a : Mc) :
    ((((w.setCell ⟨g, i * 4, none⟩ (.int .i64 a.s)).setCell ⟨g, i * 4 + 1, none⟩ (.int .u32 (a.c : Int))).setCell ⟨g, i * 4 + 2, none⟩ (.int .i64 a.m)).setCell ⟨g, i * 4 + 3, none⟩ (.int .i64 a.x)).heap[g]? = some (mrow (l.set i a)) := by
  have h1 := heap_setCell_same _ g (i * 4 + 3) _ _ (.int .i64 a.x) (heap_setCell_same _ g (i * 4 + 2) _ _ (.int .i64 a.m) (heap_setCell_same _ g (i * 4 + 1) _ _ (.int .u32 (a.c : Int)) (heap_setCell_same w g (i * 4) _ _ (.int .i64 a.s) h)))
  rw [h1]
  have e := flat_set l i a hi
  unfold mrow
  rw [← e]
  simp
theorem nrow_get {w : World} {g : Nat} {l : List Int} (h : w.heap[g]? = some (nrow l)) {i : Nat} {a : Int} (hi : l[i]? = some a) : w.cell? ⟨g, i, none⟩ = some (.int .i64 a) := by
  rw [cell_of_row w g _ _ _ _ h, List.getElem?_toArray]
  simp [nums, hi]
theorem nrow_set {w : World} {g : Nat} {l : List Int} (h : w.heap[g]? = some (nrow l)) (i : Nat) (a : Int) : (w.setCell ⟨g, i, none⟩ (.int .i64 a)).heap[g]? = some (nrow (l.set i a)) := by
  rw [heap_setCell_same _ g i _ _ (.int .i64 a) h]
  simp [nums, List.map_set]
theorem made_flat (n : Nat) : madeCells #[.int .i64 0, .int .u32 0, .int .i64 0, .int .i64 0] (n * 4) = (flat (List.replicate n ⟨0, 0, 0, 0⟩)).toArray := by
  apply Array.ext_getElem?
  intro j
  rw [show (flat (List.replicate n ⟨0, 0, 0, 0⟩)).toArray[j]? = (flat (List.replicate n ⟨0, 0, 0, 0⟩))[j]? from List.getElem?_toArray]
  by_cases hj : j < n * 4
  · have h1 : (madeCells #[Value.int .i64 0, .int .u32 0, .int .i64 0, .int .i64 0] (n * 4))[j]? = some (#[Value.int .i64 0, .int .u32 0, .int .i64 0, .int .i64 0][j % 4]!) := by
      unfold madeCells
      simp [hj]
    rw [h1]
    have hg := flat_get (List.replicate n ⟨0, 0, 0, 0⟩) (j / 4) ⟨0, 0, 0, 0⟩ (by rw [List.getElem?_replicate, if_pos (by omega)])
    have hm : j % 4 < 4 := Nat.mod_lt _ (by decide)
    have hj4 : j = j / 4 * 4 + j % 4 := by omega
    generalize j % 4 = r at *
    generalize j / 4 = q at *
    subst hj4
    obtain ⟨a0, a1, a2, a3⟩ := hg
    match r, hm with
    | 0, _ => rw [Nat.add_zero, a0]; rfl
    | 1, _ => rw [a1]; rfl
    | 2, _ => rw [a2]; rfl
    | 3, _ => rw [a3]; rfl
  · rw [List.getElem?_eq_none (by rw [flat_len, List.length_replicate]; omega), Array.getElem?_eq_none (by rw [size_madeCells]; omega)]
theorem made_nums (n : Nat) : madeCells #[Value.int .i64 0] n = (nums .i64 (List.replicate n 0)).toArray := by
  apply Array.ext_getElem?
  intro j
  unfold madeCells nums
  by_cases hj : j < n
  · simp [hj, Nat.mod_one]
  · simp [hj]
theorem set_range {α : Type} (n i : Nat) (F : Nat → α) (a : α) : ((List.range n).map F).set i a = (List.range n).map (fun j => if j = i then a else F j) := by
  apply List.ext_getElem?
  intro j
  rw [List.getElem?_set]
  by_cases hj : j < n
  · simp [hj]
    by_cases hij : i = j
    · subst hij; simp [hj]
    · rw [if_neg hij, if_neg (fun h => hij h.symm)]
  · simp [hj]
    omega
/-- What has happened, event by event: the machine behind the first i of them; what is done at the next. -/
def mc (h : Int) (E : Nat → Int × Nat) : Nat → Mc
  | 0 => ⟨1, 0, 0, 0⟩
  | i + 1 => (stp h (mc h E i) (E i).1 (E i).2).1
def dn (h : Int) (E : Nat → Int × Nat) (i : Nat) : Int := (stp h (mc h E i) (E i).1 (E i).2).2
/-- The rows behind the first i events. -/
def mcs (h : Int) (E : Nat → Int × Nat) (n i : Nat) : List Mc := (List.range n).map fun j => if j < i then mc h E (j + 1) else ⟨0, 0, 0, 0⟩
def dns (h : Int) (E : Nat → Int × Nat) (n i : Nat) : List Int := (List.range n).map fun j => if j < i then dn h E j else 0
theorem mcs_len (h : Int) (E : Nat → Int × Nat) (n i : Nat) : (mcs h E n i).length = n := by simp [mcs]
theorem dns_len (h : Int) (E : Nat → Int × Nat) (n i : Nat) : (dns h E n i).length = n := by simp [dns]
theorem mcs_zero (h : Int) (E : Nat → Int × Nat) (n : Nat) : mcs h E n 0 = List.replicate n ⟨0, 0, 0, 0⟩ := by
  unfold mcs
  simp [List.map_const']
theorem dns_zero (h : Int) (E : Nat → Int × Nat) (n : Nat) : dns h E n 0 = List.replicate n 0 := by
  unfold dns
  simp [List.map_const']
theorem mcs_set (h : Int) (E : Nat → Int × Nat) (n i : Nat) : (mcs h E n i).set i (mc h E (i + 1)) = mcs h E n (i + 1) := by
  unfold mcs
  rw [set_range]
  refine List.map_congr_left fun j _ => ?_
  by_cases hj : j = i
  · subst hj; simp
  · rw [if_neg hj]
    by_cases hi : j < i
    · rw [if_pos hi, if_pos (by omega)]
    · rw [if_neg hi, if_neg (by omega)]
theorem dns_set (h : Int) (E : Nat → Int × Nat) (n i : Nat) : (dns h E n i).set i (dn h E i) = dns h E n (i + 1) := by
  unfold dns
  rw [set_range]
  refine List.map_congr_left fun j _ => ?_
  by_cases hj : j = i
  · subst hj; simp
  · rw [if_neg hj]
    by_cases hi : j < i
    · rw [if_pos hi, if_pos (by omega)]
    · rw [if_neg hi, if_neg (by omega)]
theorem mcs_get (h : Int) (E : Nat → Int × Nat) {n i j : Nat} (hj : j < i) (hn : j < n) : (mcs h E n i)[j]? = some (mc h E (j + 1)) := by
  unfold mcs
  rw [nat_get hn, if_pos hj]
theorem mcs_some (h : Int) (E : Nat → Int × Nat) {n i j : Nat} (hn : j < n) : ∃ a, (mcs h E n i)[j]? = some a := ⟨_, nat_get hn _⟩
theorem dns_get (h : Int) (E : Nat → Int × Nat) {n i j : Nat} (hj : j < i) (hn : j < n) : (dns h E n i)[j]? = some (dn h E j) := by
  unfold dns
  rw [nat_get hn, if_pos hj]
theorem dns_some (h : Int) (E : Nat → Int × Nat) {n i j : Nat} (hn : j < n) : ∃ a, (dns h E n i)[j]? = some a := ⟨_, nat_get hn _⟩
theorem may_mc {h : Int} (hh : hostB h = true) (E : Nat → Int × Nat) : ∀ i, may h (mc h E i) = true
  | 0 => by unfold mc may offB; rw [hh]; rfl
  | i + 1 => may_stp _ _ (may_mc hh E i)
theorem mc32 {h : Int} (hh : hostB h = true) (E : Nat → Int × Nat) (i : Nat) : (mc h E i).c < 4294967296 := by
  have := (may_iff.1 (may_mc hh E i)).2
  omega
/-- Events that came in: n of them. -/
def EV (w : World) (A : Option Addr) (n : Nat) (E : Nat → Int × Nat) : Prop :=
  ∀ i, i < n → ∃ b off, A = some ⟨b, off, none⟩ ∧ w.cell? ⟨b, off + i * 2, none⟩ = some (.int .i64 (E i).1) ∧ w.cell? ⟨b, off + i * 2 + 1, none⟩ = some (.int .u32 ((E i).2 : Int)) ∧ (E i).2 < 4294967296
theorem EV.below {w w1 : World} {A : Option Addr} {n : Nat} {E : Nat → Int × Nat} (h : EV w A n E) (b : Below w.heap.size w w1) : EV w1 A n E := by
  intro i hi
  obtain ⟨g, off, hA, h1, h2, h3⟩ := h i hi
  exact ⟨g, off, hA, cell_keep h1 b, cell_keep h2 b, h3⟩
end Go.Proofs.YtigehmlfdbejaaaDoor.MachW
