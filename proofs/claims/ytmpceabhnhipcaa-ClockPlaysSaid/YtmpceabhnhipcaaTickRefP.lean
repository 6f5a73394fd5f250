/- Plain mathematics: the document's numbers, as digits of 16 bits, the lowest first. -/
import Derived.WalkKit
namespace Go.Proofs.Ytmpceabhnhipcaa.TickW
def val : List Nat → Nat
  | [] => 0
  | d :: r => d + 65536 * val r
end Go.Proofs.Ytmpceabhnhipcaa.TickW

