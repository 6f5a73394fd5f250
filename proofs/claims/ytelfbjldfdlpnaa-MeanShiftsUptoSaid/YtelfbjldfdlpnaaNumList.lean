/- Plain mathematics: sums and outermost numbers of a list; a slice of float64 that reads as a list of words. -/
import Derived.Test.YtelfbjldfdlpnaaNumOrd
import Derived.Laws.FloatArith
import Derived.Deep.Draws
import Derived.Below
namespace Go.Proofs.Ytelfbjldfdlpnaa.NumP
open Go.RowKit
/-- The words that a slice of numbers holds. -/
def FL (w : World) (A : Option Addr) (xs : List Nat) : Prop := ∀ (k x : Nat), xs[k]? = some x → ∃ ad, A = some ad ∧ w.cell? (ad.add k) = some (.float .f64 x) ∧ x < 18446744073709551616
theorem at_ {xs : List Nat} {k : Nat} (h : k < xs.length) : ∃ x, xs[k]? = some x := ⟨xs[k], List.getElem?_eq_getElem h⟩
theorem FL.keep {w w' : World} {A : Option Addr} {xs : List Nat} (h : FL w A xs) (hk : ∀ ad : Addr, A = some ad → ∀ k, w'.cell? (ad.add k) = w.cell? (ad.add k)) : FL w' A xs := by
  intro k x hl
  obtain ⟨ad, e, hc, hx⟩ := h k x hl
  exact ⟨ad, e, by rw [hk ad e k]; exact hc, hx⟩
theorem FL.drewN {w : World} {A : Option Addr} {xs : List Nat} (h : FL w A xs) (n : Nat) : FL (w.drewN n) A xs := h
theorem cell_lt {w : World} {a : Addr} {v : Value} (h : w.cell? a = some v) : a.block < w.heap.size := by
  rcases Nat.lt_or_ge a.block w.heap.size with h1 | h1
  · exact h1
  · unfold World.cell? at h
    rw [Array.getElem?_eq_none h1] at h
    cases h
theorem add_block (a : Addr) (n : Nat) : (a.add n).block = a.block := by unfold Addr.add; split <;> rfl
theorem FL.alloc {w : World} {A : Option Addr} {xs : List Nat} (h : FL w A xs) (o : Obj) : FL (w.alloc o) A xs := by
  intro k x hx
  obtain ⟨ad, e, hc, hb⟩ := h k x hx
  exact ⟨ad, e, by rw [World.cell?_alloc_lt w o _ (cell_lt hc)]; exact hc, hb⟩
theorem FL.below {w w' : World} {A : Option Addr} {xs : List Nat} (h : FL w A xs) (hb : Below w.heap.size w w') : FL w' A xs := by
  intro k x hx
  obtain ⟨ad, e, hc, hbd⟩ := h k x hx
  exact ⟨ad, e, by rw [hb.cell (cell_lt hc)]; exact hc, hbd⟩
theorem take_snoc {xs : List Nat} {k x : Nat} (h : xs[k]? = some x) : xs.take (k + 1) = xs.take k ++ [x] := by
  rw [List.take_add_one, h]; rfl
/-- One step of a sum: none is no number. -/
def sumF (o : Option Nat) (x : Nat) : Option Nat := o.bind fun s => FloatKind.f64.format.add s x
def sumO (xs : List Nat) : Option Nat := xs.foldl sumF (some 0)
def sumN (xs : List Nat) : Nat := match sumO xs with
  | some r => oneN r
  | none => 9221120237041090561
theorem sumO_snoc {xs : List Nat} {k x : Nat} (h : xs[k]? = some x) : sumO (xs.take (k + 1)) = sumF (sumO (xs.take k)) x := by
  rw [take_snoc h]; unfold sumO; rw [List.foldl_append]; rfl
/-- What a walk holds of a sum so far. -/
def SumAt (xs : List Nat) (s : Nat) : Prop := s < 18446744073709551616 ∧ (sumO xs = some s ∨ (sumO xs = none ∧ 9218868437227405312 < mag s))
theorem SumAt.start (xs : List Nat) : SumAt (xs.take 0) 0 := ⟨by decide, Or.inl rfl⟩
theorem SumAt.some_ {xs : List Nat} {k x s r : Nat} (h : SumAt (xs.take k) s) (hk : xs[k]? = some x) (hr : FloatKind.f64.format.add s x = some r) : SumAt (xs.take (k + 1)) r := by
  refine ⟨FloatKind.f64.format.add_lt hr, ?_⟩
  rcases h.2 with h | ⟨_, h2⟩
  · left; rw [sumO_snoc hk, h]; exact hr
  · exfalso
    unfold Ieee.Format.add at hr
    rw [show FloatKind.f64.format.read s = _ from read_nan s h2] at hr
    cases hr
theorem SumAt.none_ {xs : List Nat} {k x s n : Nat} (h : SumAt (xs.take k) s) (hk : xs[k]? = some x) (hr : FloatKind.f64.format.add s x = none) (hn : 9218868437227405312 < mag n ∧ n < 18446744073709551616) : SumAt (xs.take (k + 1)) n := by
  refine ⟨hn.2, Or.inr ⟨?_, hn.1⟩⟩
  rw [sumO_snoc hk]
  rcases h.2 with h | ⟨h, _⟩
  · rw [h]; exact hr
  · rw [h]; rfl
theorem SumAt.done {xs : List Nat} {s : Nat} (h : SumAt xs s) : oneN s = sumN xs := by
  unfold sumN
  rcases h.2 with h | ⟨h, h2⟩
  · rw [h]
  · rw [h, one_nan s h2]
/-- The outermost number so far. -/
def outF (side : Int) (f x : Nat) : Nat := if kind x = 9 then f else if kind f = 9 ∨ cmpN x f = side then x else f
def outN (side : Int) (xs : List Nat) : Nat := xs.foldl (outF side) 9221120237041090561
theorem outN_snoc (side : Int) {xs : List Nat} {k x : Nat} (h : xs[k]? = some x) : outN side (xs.take (k + 1)) = outF side (outN side (xs.take k)) x := by
  rw [take_snoc h]; unfold outN; rw [List.foldl_append]; rfl
theorem outN_lt (side : Int) (xs : List Nat) (h : ∀ (k x : Nat), xs[k]? = some x → x < 18446744073709551616) (k : Nat) (hk : k ≤ xs.length) : outN side (xs.take k) < 18446744073709551616 := by
  induction k with
  | zero => show (9221120237041090561 : Nat) < 18446744073709551616; decide
  | succ k ih =>
    obtain ⟨x, hx⟩ := at_ (show k < xs.length by omega)
    rw [outN_snoc side hx]
    unfold outF
    have := h k x hx
    have := ih (by omega)
    split
    · assumption
    · split <;> assumption
theorem outF_lt (side : Int) (f x : Nat) (hf : f < 18446744073709551616) (hx : x < 18446744073709551616) : outF side f x < 18446744073709551616 := by
  unfold outF
  split
  · assumption
  · split <;> assumption
end Go.Proofs.Ytelfbjldfdlpnaa.NumP

