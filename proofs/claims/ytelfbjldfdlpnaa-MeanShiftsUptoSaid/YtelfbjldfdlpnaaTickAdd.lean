/- tick.Add, Sub, Mul, MulDiv: of any numbers, by their reckonings. -/
import Derived.Test.YtelfbjldfdlpnaaTickWide
import Derived.Tactics
import Derived.Tactics2
import Derived.Defers
import Derived.Recover
import Derived.Laws.Pointers

import Derived.Deep.DeepCutAuto
import Derived.Deep.CutBlock
import Derived.BigRegion
namespace Go.Proofs.Ytelfbjldfdlpnaa.TickW
open Go.RowKit
def ansV (z : Int) : Value := if -9223372036854775808 ≤ z ∧ z ≤ 9223372036854775807 then .tuple #[.int .i64 z, .int .i64 0] else .tuple #[.int .i64 0, .int .i64 4]
theorem set2_keep {w : World} {p : Addr} {v : Value} {g : Nat} (h : w.cell? p = some v) (hp : p.block < g) (x y : Value) : ((w.setCell ⟨g, 0, none⟩ x).setCell ⟨g, 1, none⟩ y).cell? p = some v := by
  have b1 : Below g w ((w.setCell ⟨g, 0, none⟩ x).setCell ⟨g, 1, none⟩ y) := ((Below.refl g w).setCell (Nat.le_refl _) _).setCell (Nat.le_refl _) _
  exact (b1.cell hp).trans h
end Go.Proofs.Ytelfbjldfdlpnaa.TickW

