/- tick.Add, Sub, Mul, MulDiv: of any numbers, by their reckonings. -/
import Derived.Test.YtmpceabhnhipcaaTickCatch
import Derived.Test.YtmpceabhnhipcaaTickOver
namespace Go.Proofs.Ytmpceabhnhipcaa.TickW
open Go.RowKit
def ansV (z : Int) : Value := if -9223372036854775808 ≤ z ∧ z ≤ 9223372036854775807 then .tuple #[.int .i64 z, .int .i64 0] else .tuple #[.int .i64 0, .int .i64 4]
theorem answer_any (K : FuncId) (hK : ∀ args w, (callFunc K args).run Try.prog w = .ok (.enter K args) w) (caps : Array Value) (z : Int) (hl : -170141183460469231731687303715884105728 ≤ z) (hg : z < 170141183460469231731687303715884105728) (w : World)
    (H : ∀ W, Below w.heap.size w W → Calls Try.prog K caps W fun e w' => e = .returned (wv z) ∧ Below W.heap.size W w') :
    Calls Try.prog 40 #[.func (.func K) #[] caps] w fun e w' => e = .returned (ansV z) ∧ Below w.heap.size w w' := by
  unfold ansV
  by_cases h : -9223372036854775808 ≤ z ∧ z ≤ 9223372036854775807
  · rw [if_pos h]; exact answer_in K hK caps z h.1 h.2 w H
  · rw [if_neg h]; exact answer_out K hK caps z (by omega) hl hg w H
theorem set2_keep {w : World} {p : Addr} {v : Value} {g : Nat} (h : w.cell? p = some v) (hp : p.block < g) (x y : Value) : ((w.setCell ⟨g, 0, none⟩ x).setCell ⟨g, 1, none⟩ y).cell? p = some v := by
  have b1 : Below g w ((w.setCell ⟨g, 0, none⟩ x).setCell ⟨g, 1, none⟩ y) := ((Below.refl g w).setCell (Nat.le_refl _) _).setCell (Nat.le_refl _) _
  exact (b1.cell hp).trans h
theorem ansV_tuple (z : Int) : ∃ n k : Int, ansV z = .tuple #[.int .i64 n, .int .i64 k] := by
  unfold ansV
  by_cases h : -9223372036854775808 ≤ z ∧ z ≤ 9223372036854775807
  · rw [if_pos h]; exact ⟨_, _, rfl⟩
  · rw [if_neg h]; exact ⟨_, _, rfl⟩
theorem mul_bounds (a b : Int) (ha0 : -9223372036854775808 ≤ a) (ha1 : a ≤ 9223372036854775807) (hb0 : -9223372036854775808 ≤ b) (hb1 : b ≤ 9223372036854775807) : -170141183460469231731687303715884105728 ≤ a * b ∧ a * b < 170141183460469231731687303715884105728 := by
  have hn : (a * b).natAbs ≤ 9223372036854775808 * 9223372036854775808 := by
    rw [Int.natAbs_mul]
    exact Nat.mul_le_mul (by omega) (by omega)
  generalize a * b = z at *
  omega
end Go.Proofs.Ytmpceabhnhipcaa.TickW

