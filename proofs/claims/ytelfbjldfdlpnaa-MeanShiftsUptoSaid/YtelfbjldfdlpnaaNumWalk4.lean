/- Walks of num.Int and num.Times. -/
import Derived.Test.YtelfbjldfdlpnaaNumWalk3
import Derived.Laws.FloatArith
namespace Go.Proofs.Ytelfbjldfdlpnaa.NumW
open Go.RowKit NumP
/-- A NaN that the tape gives. -/
def drawnNaN (a b t : Nat) : Nat := Question.cut (.nanBits .f64 a b) t
theorem drawnNaN_nan (a b t : Nat) : 9218868437227405312 < mag (drawnNaN a b t) ∧ drawnNaN a b t < 18446744073709551616 := by
  unfold drawnNaN mag
  show 9218868437227405312 < ((t % 2) * 9223372036854775808 + 9218868437227405312 + 1 + (t / 2) % 4503599627370495) % 9223372036854775808 ∧ (t % 2) * 9223372036854775808 + 9218868437227405312 + 1 + (t / 2) % 4503599627370495 < 18446744073709551616
  have h1 : (t / 2) % 4503599627370495 < 4503599627370495 := Nat.mod_lt _ (by decide)
  have h2 : t % 2 < 2 := Nat.mod_lt _ (by decide)
  generalize (t / 2) % 4503599627370495 = m at *
  generalize t % 2 = s at *
  omega
theorem run_nan (op : BinOp) (t : TypeId) (a b : Nat) (h : (op = .add ∧ FloatKind.f64.format.add a b = none) ∨ (op = .mul ∧ FloatKind.f64.format.mul a b = none)) (w : World) :
    (binOp op t (.float .f64 a) (.float .f64 b)).run Try.prog w = .ok (.float .f64 (drawnNaN a b (w.tape w.drawn (.nanBits .f64 a b)))) w.drew := by
  rcases h with ⟨rfl, h⟩ | ⟨rfl, h⟩
  · simp [binOp, Op.floatArith, h]; rfl
  · simp [binOp, Op.floatArith, h]; rfl
end Go.Proofs.Ytelfbjldfdlpnaa.NumW

