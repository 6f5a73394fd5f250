/- Plain mathematics: numbers in their one form, and their order. -/
import Derived.Test.YtgcmjmnolkojhaaDoorNumList
import Derived.Shelf.SlSortCmp.Whole1
namespace Go.Proofs.YtgcmjmnolkojhaaDoor.NumP
open Go.Sort
theorem one_one (x : Nat) : oneN (oneN x) = oneN x := by
  by_cases h : 9218868437227405312 < mag x
  · rw [one_nan x h]; rfl
  · rw [one_num x h, one_num x h]
/-- A number in its one form. -/
abbrev Cnum : Type := { x : Nat // x < 18446744073709551616 ∧ oneN x = x }
instance : Inhabited Cnum := ⟨⟨0, by decide, rfl⟩⟩
def can (x : Nat) : Cnum := ⟨oneN (x % 18446744073709551616), one_lt _ (Nat.mod_lt _ (by decide)), one_one _⟩
theorem can_val {x : Nat} (h : x < 18446744073709551616) : (can x).1 = oneN x := by
  show oneN (x % 18446744073709551616) = oneN x
  rw [Nat.mod_eq_of_lt h]
def enc (c : Cnum) : Value := .float .f64 c.1
def cf (a b : Cnum) : Int := cmpN a.1 b.1
theorem ltOf_cf (a b : Cnum) : ltOf cf a b = decide (rank a.1 < rank b.1) := by
  unfold ltOf cf cmpN
  by_cases h : rank a.1 < rank b.1
  · rw [if_pos h]; simp [h]
  · rw [if_neg h]
    by_cases h2 : rank b.1 < rank a.1
    · rw [if_pos h2]; simp [h]
    · rw [if_neg h2]; simp [h]
theorem swo : SWO (ltOf cf) where
  irrefl x := by rw [ltOf_cf]; simp
  trans x y z h1 h2 := by rw [ltOf_cf] at *; simp at *; omega
  ntrans x y z h1 h2 := by rw [ltOf_cf] at *; simp at *; omega
/-- A list is another one's numbers, each in its one form, in order. -/
def IsSort (xs ys : List Nat) : Prop := ys.Perm (xs.map oneN) ∧ ys.Pairwise (fun a b => rank a ≤ rank b)
def canRow (xs : List Nat) : Array Cnum := (xs.map can).toArray
theorem canRow_size (xs : List Nat) : (canRow xs).size = xs.length := by unfold canRow; simp
theorem canRow_at {xs : List Nat} {j x : Nat} (h : xs[j]? = some x) : (canRow xs)[j]! = can x := by
  unfold canRow
  rw [List.getElem!_toArray, List.getElem!_eq_getElem?_getD, List.getElem?_map, h]
  rfl
def words (d : Array Cnum) : List Nat := d.toList.map (·.1)
theorem words_sort {xs : List Nat} (hx : ∀ x ∈ xs, x < 18446744073709551616) {d : Array Cnum} (hp : PermIn 0 (canRow xs).size (canRow xs) d) (hs : SortedIn (ltOf cf) 0 (canRow xs).size d) : IsSort xs (words d) := by
  obtain ⟨h1, _, h3⟩ := hp
  rw [Array.extract_eq_self_of_le (by omega), Array.extract_eq_self_of_le (by omega)] at h3
  constructor
  · unfold words
    refine (h3.map (·.1)).trans ?_
    unfold canRow
    rw [List.map_map]
    apply List.Perm.of_eq
    exact List.map_congr_left fun x hm => can_val (hx x hm)
  · unfold words
    rw [List.pairwise_map, List.pairwise_iff_getElem]
    intro i j hi hj hij
    have := hs i j (Nat.zero_le _) hij (by rw [← h1]; simpa using hj)
    rw [ltOf_cf] at this
    rw [getElem!_pos d i (by simpa using hi), getElem!_pos d j (by simpa using hj)] at this
    simp at this
    simpa using this
end Go.Proofs.YtgcmjmnolkojhaaDoor.NumP
