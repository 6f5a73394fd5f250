/-
  No cell of these rows narrows 'for every input' (looked for: loops, veiled, ifaces, maps, wideKeys, modest, calm, conditions, laid).
  DERIVED. THE GIVEN ROWS OF THIS SEAT. 10 by the template 'for every input the law returns true; each argument reads behind the call as it read before'; 0 by the template 'total and deterministic' (their statements: YtmagjekmlnpfpaaGreatTotals.lean).
  GIVEN WITH THE SEED: the statements are not yours to turn. If you find one false, say at which input.
  Laid BY PROGRAM, IN A SANDBOX (cutbox-rows.mjs): the forced cells as the released guide's own fill.sh prints them over the translation 8a4e49a782e657f5… (all of the seat's roots in one cut). By AI agents, Wed Nov 11 2026. No macro, syntax, notation, axiom, sorry.
-/
import Derived.Test.YtmagjekmlnpfpaaGreatChecked
import GoSem.Claim
import GoSem.ClaimJoined
import GoSem.ClaimMapViews
import Derived.JoinedTies
import Derived.KernelRfl
namespace Go.Proofs.YtmagjekmlnpfpaaGreat
/- THE CELL 'sum', in the pinned program and in every row, IS THE sha256 OF THE DUMP (.gsa) THAT YtmagjekmlnpfpaaGreatProg.lean LOADS. Nothing in Lean hashes anything: it is a label: what it is worth is what the hold of that sum in a sandbox is worth. -/
noncomputable def Tryz.pinned : Pinned := { name := "ytmagjekmlnpfpaagreat", sum := "8a4e49a782e657f5bcefdc4fa548e0cca0424b55a8984ea65368c828f24c8f26", checked := Tryz.checked }
namespace Rows
def none {H : Type} : Left H := { results := [], args := [] }

/-- 'tocsinlaw20.RoundGoes': WHATEVER THE INPUT: true; the input reads as it did. -/
def roundGoesSpec : ChangeSpec := { name := "roundGoes", fn := fun _ => fun
  | [d1, d2, d3] => { results := [.lit (.bool true)], args := [d1, d2, d3] }
  | _ => none }
def roundGoesRow : OpenClaim := { program := "ytmagjekmlnpfpaagreat", sum := "8a4e49a782e657f5bcefdc4fa548e0cca0424b55a8984ea65368c828f24c8f26", func := "tocsin/tocsinlaw20.RoundGoes", spec := "roundGoes", unfollowed := true, recurses := true, named := ["math/bits.divideError", "math/bits.overflowError"], apart := false }
def RoundGoesSaid : Prop := roundGoesRow.holds Tryz.pinned (OpenSpec.ofChange roundGoesSpec)

/-- ITS FALSE NEIGHBOUR: 'it returns false'. Refute it at one input. -/
def roundGoesWrong : ChangeSpec := { name := "roundGoes", fn := fun _ => fun
  | [d1, d2, d3] => { results := [.lit (.bool false)], args := [d1, d2, d3] }
  | _ => none }
def RoundGoesWrongFalsely : Prop := roundGoesRow.holds Tryz.pinned (OpenSpec.ofChange roundGoesWrong)

/-- 'tocsinlaw20.RoundRuns': WHATEVER THE INPUT: true; the input reads as it did. -/
def roundRunsSpec : ChangeSpec := { name := "roundRuns", fn := fun _ => fun
  | [d1, d2, d3] => { results := [.lit (.bool true)], args := [d1, d2, d3] }
  | _ => none }
def roundRunsRow : OpenClaim := { program := "ytmagjekmlnpfpaagreat", sum := "8a4e49a782e657f5bcefdc4fa548e0cca0424b55a8984ea65368c828f24c8f26", func := "tocsin/tocsinlaw20.RoundRuns", spec := "roundRuns", unfollowed := true, recurses := true, named := ["math/bits.divideError", "math/bits.overflowError"], apart := false }
def RoundRunsSaid : Prop := roundRunsRow.holds Tryz.pinned (OpenSpec.ofChange roundRunsSpec)

/-- ITS FALSE NEIGHBOUR: 'it returns false'. Refute it at one input. -/
def roundRunsWrong : ChangeSpec := { name := "roundRuns", fn := fun _ => fun
  | [d1, d2, d3] => { results := [.lit (.bool false)], args := [d1, d2, d3] }
  | _ => none }
def RoundRunsWrongFalsely : Prop := roundRunsRow.holds Tryz.pinned (OpenSpec.ofChange roundRunsWrong)

/-- 'tocsinlaw20.RoundRight': WHATEVER THE INPUT: true; the input reads as it did. -/
def roundRightSpec : ChangeSpec := { name := "roundRight", fn := fun _ => fun
  | [d1, d2, d3] => { results := [.lit (.bool true)], args := [d1, d2, d3] }
  | _ => none }
def roundRightRow : OpenClaim := { program := "ytmagjekmlnpfpaagreat", sum := "8a4e49a782e657f5bcefdc4fa548e0cca0424b55a8984ea65368c828f24c8f26", func := "tocsin/tocsinlaw20.RoundRight", spec := "roundRight", unfollowed := true, recurses := true, named := ["math/bits.divideError", "math/bits.overflowError"], apart := false }
def RoundRightSaid : Prop := roundRightRow.holds Tryz.pinned (OpenSpec.ofChange roundRightSpec)

/-- ITS FALSE NEIGHBOUR: 'it returns false'. Refute it at one input. -/
def roundRightWrong : ChangeSpec := { name := "roundRight", fn := fun _ => fun
  | [d1, d2, d3] => { results := [.lit (.bool false)], args := [d1, d2, d3] }
  | _ => none }
def RoundRightWrongFalsely : Prop := roundRightRow.holds Tryz.pinned (OpenSpec.ofChange roundRightWrong)

/-- 'tocsinlaw20.RoundSpreads': WHATEVER THE INPUT: true; the input reads as it did. -/
def roundSpreadsSpec : ChangeSpec := { name := "roundSpreads", fn := fun _ => fun
  | [d1, d2, d3] => { results := [.lit (.bool true)], args := [d1, d2, d3] }
  | _ => none }
def roundSpreadsRow : OpenClaim := { program := "ytmagjekmlnpfpaagreat", sum := "8a4e49a782e657f5bcefdc4fa548e0cca0424b55a8984ea65368c828f24c8f26", func := "tocsin/tocsinlaw20.RoundSpreads", spec := "roundSpreads", unfollowed := true, recurses := true, named := ["math/bits.divideError", "math/bits.overflowError"], apart := false }
def RoundSpreadsSaid : Prop := roundSpreadsRow.holds Tryz.pinned (OpenSpec.ofChange roundSpreadsSpec)

/-- ITS FALSE NEIGHBOUR: 'it returns false'. Refute it at one input. -/
def roundSpreadsWrong : ChangeSpec := { name := "roundSpreads", fn := fun _ => fun
  | [d1, d2, d3] => { results := [.lit (.bool false)], args := [d1, d2, d3] }
  | _ => none }
def RoundSpreadsWrongFalsely : Prop := roundSpreadsRow.holds Tryz.pinned (OpenSpec.ofChange roundSpreadsWrong)

/-- 'tocsinlaw20.RoundDeaf': WHATEVER THE INPUT: true; the input reads as it did. -/
def roundDeafSpec : ChangeSpec := { name := "roundDeaf", fn := fun _ => fun
  | [d1, d2, d3] => { results := [.lit (.bool true)], args := [d1, d2, d3] }
  | _ => none }
def roundDeafRow : OpenClaim := { program := "ytmagjekmlnpfpaagreat", sum := "8a4e49a782e657f5bcefdc4fa548e0cca0424b55a8984ea65368c828f24c8f26", func := "tocsin/tocsinlaw20.RoundDeaf", spec := "roundDeaf", unfollowed := true, recurses := true, named := ["math/bits.divideError", "math/bits.overflowError"], apart := false }
def RoundDeafSaid : Prop := roundDeafRow.holds Tryz.pinned (OpenSpec.ofChange roundDeafSpec)

/-- ITS FALSE NEIGHBOUR: 'it returns false'. Refute it at one input. -/
def roundDeafWrong : ChangeSpec := { name := "roundDeaf", fn := fun _ => fun
  | [d1, d2, d3] => { results := [.lit (.bool false)], args := [d1, d2, d3] }
  | _ => none }
def RoundDeafWrongFalsely : Prop := roundDeafRow.holds Tryz.pinned (OpenSpec.ofChange roundDeafWrong)

/-- 'tocsinlaw20.RoundOnce': WHATEVER THE INPUT: true; the input reads as it did. -/
def roundOnceSpec : ChangeSpec := { name := "roundOnce", fn := fun _ => fun
  | [d1, d2] => { results := [.lit (.bool true)], args := [d1, d2] }
  | _ => none }
def roundOnceRow : OpenClaim := { program := "ytmagjekmlnpfpaagreat", sum := "8a4e49a782e657f5bcefdc4fa548e0cca0424b55a8984ea65368c828f24c8f26", func := "tocsin/tocsinlaw20.RoundOnce", spec := "roundOnce", unfollowed := true, recurses := true, named := ["math/bits.divideError", "math/bits.overflowError"], apart := false }
def RoundOnceSaid : Prop := roundOnceRow.holds Tryz.pinned (OpenSpec.ofChange roundOnceSpec)

/-- ITS FALSE NEIGHBOUR: 'it returns false'. Refute it at one input. -/
def roundOnceWrong : ChangeSpec := { name := "roundOnce", fn := fun _ => fun
  | [d1, d2] => { results := [.lit (.bool false)], args := [d1, d2] }
  | _ => none }
def RoundOnceWrongFalsely : Prop := roundOnceRow.holds Tryz.pinned (OpenSpec.ofChange roundOnceWrong)

/-- 'tocsintop.TopSteady': WHATEVER THE INPUT: true; the input reads as it did. -/
def topSteadySpec : ChangeSpec := { name := "topSteady", fn := fun _ => fun
  | [d1, d2, d3] => { results := [.lit (.bool true)], args := [d1, d2, d3] }
  | _ => none }
def topSteadyRow : OpenClaim := { program := "ytmagjekmlnpfpaagreat", sum := "8a4e49a782e657f5bcefdc4fa548e0cca0424b55a8984ea65368c828f24c8f26", func := "tocsin/tocsintop.TopSteady", spec := "topSteady", unfollowed := true, recurses := true, named := ["math/bits.divideError", "math/bits.overflowError"], apart := false }
def TopSteadySaid : Prop := topSteadyRow.holds Tryz.pinned (OpenSpec.ofChange topSteadySpec)

/-- ITS FALSE NEIGHBOUR: 'it returns false'. Refute it at one input. -/
def topSteadyWrong : ChangeSpec := { name := "topSteady", fn := fun _ => fun
  | [d1, d2, d3] => { results := [.lit (.bool false)], args := [d1, d2, d3] }
  | _ => none }
def TopSteadyWrongFalsely : Prop := topSteadyRow.holds Tryz.pinned (OpenSpec.ofChange topSteadyWrong)

/-- 'tocsintop.TopRight': WHATEVER THE INPUT: true; the input reads as it did. -/
def topRightSpec : ChangeSpec := { name := "topRight", fn := fun _ => fun
  | [d1, d2, d3] => { results := [.lit (.bool true)], args := [d1, d2, d3] }
  | _ => none }
def topRightRow : OpenClaim := { program := "ytmagjekmlnpfpaagreat", sum := "8a4e49a782e657f5bcefdc4fa548e0cca0424b55a8984ea65368c828f24c8f26", func := "tocsin/tocsintop.TopRight", spec := "topRight", unfollowed := true, recurses := true, named := ["math/bits.divideError", "math/bits.overflowError"], apart := false }
def TopRightSaid : Prop := topRightRow.holds Tryz.pinned (OpenSpec.ofChange topRightSpec)

/-- ITS FALSE NEIGHBOUR: 'it returns false'. Refute it at one input. -/
def topRightWrong : ChangeSpec := { name := "topRight", fn := fun _ => fun
  | [d1, d2, d3] => { results := [.lit (.bool false)], args := [d1, d2, d3] }
  | _ => none }
def TopRightWrongFalsely : Prop := topRightRow.holds Tryz.pinned (OpenSpec.ofChange topRightWrong)

/-- 'tocsintop.TopOneSwitch': WHATEVER THE INPUT: true; the input reads as it did. -/
def topOneSwitchSpec : ChangeSpec := { name := "topOneSwitch", fn := fun _ => fun
  | [d1, d2, d3] => { results := [.lit (.bool true)], args := [d1, d2, d3] }
  | _ => none }
def topOneSwitchRow : OpenClaim := { program := "ytmagjekmlnpfpaagreat", sum := "8a4e49a782e657f5bcefdc4fa548e0cca0424b55a8984ea65368c828f24c8f26", func := "tocsin/tocsintop.TopOneSwitch", spec := "topOneSwitch", unfollowed := true, recurses := true, named := ["math/bits.divideError", "math/bits.overflowError"], apart := false }
def TopOneSwitchSaid : Prop := topOneSwitchRow.holds Tryz.pinned (OpenSpec.ofChange topOneSwitchSpec)

/-- ITS FALSE NEIGHBOUR: 'it returns false'. Refute it at one input. -/
def topOneSwitchWrong : ChangeSpec := { name := "topOneSwitch", fn := fun _ => fun
  | [d1, d2, d3] => { results := [.lit (.bool false)], args := [d1, d2, d3] }
  | _ => none }
def TopOneSwitchWrongFalsely : Prop := topOneSwitchRow.holds Tryz.pinned (OpenSpec.ofChange topOneSwitchWrong)

/-- 'tocsintop.TopBad': WHATEVER THE INPUT: true; the input reads as it did. -/
def topBadSpec : ChangeSpec := { name := "topBad", fn := fun _ => fun
  | [d1, d2, d3] => { results := [.lit (.bool true)], args := [d1, d2, d3] }
  | _ => none }
def topBadRow : OpenClaim := { program := "ytmagjekmlnpfpaagreat", sum := "8a4e49a782e657f5bcefdc4fa548e0cca0424b55a8984ea65368c828f24c8f26", func := "tocsin/tocsintop.TopBad", spec := "topBad", unfollowed := true, recurses := true, named := ["math/bits.divideError", "math/bits.overflowError"], apart := false }
def TopBadSaid : Prop := topBadRow.holds Tryz.pinned (OpenSpec.ofChange topBadSpec)

/-- ITS FALSE NEIGHBOUR: 'it returns false'. Refute it at one input. -/
def topBadWrong : ChangeSpec := { name := "topBad", fn := fun _ => fun
  | [d1, d2, d3] => { results := [.lit (.bool false)], args := [d1, d2, d3] }
  | _ => none }
def TopBadWrongFalsely : Prop := topBadRow.holds Tryz.pinned (OpenSpec.ofChange topBadWrong)

/- THE SECOND FORM. 'bulk': how many values and letters a reading holds, each counted each time it is reached (what is shared counts as often as it is met; a slice's spare places count too). A statement '..UptoSaid' is the law's where the arguments, and the package variables that the reading takes, are together of bulk at most 1048576: NARROWER than '..Said'. Prove '..Said' where nothing that the law and all that it calls make is longer than what came in: it says more and counts as full. Else prove '..UptoSaid'. A law counts once. -/
mutual
def uptoBulk {H : Type} : DataW H → Nat
  | .lit (.string bytes) => bytes.length + 1
  | .lit _ => 1
  | .nil => 1
  | .ptr d => uptoBulk d + 1
  | .slice elems spare => uptoBulkAll elems + uptoBulkAll spare + 1
  | .agg parts => uptoBulkAll parts + 1
  | .iface _ d => uptoBulk d + 1
  | .map entries => uptoBulkEntries entries + 1
  | .held _ => 1
def uptoBulkAll {H : Type} : List (DataW H) → Nat
  | [] => 0
  | d :: r => uptoBulk d + uptoBulkAll r
def uptoBulkEntries {H : Type} : List (Lit × DataW H) → Nat
  | [] => 0
  | x :: r => uptoBulkEntry x + uptoBulkEntries r
def uptoBulkEntry {H : Type} : Lit × DataW H → Nat
  | (.string bytes, d) => bytes.length + uptoBulk d + 1
  | (_, d) => uptoBulk d + 1
 end
def uptoSmall : (H : Type) → List (DataW H) → Bool := fun _ ds => decide (uptoBulkAll ds ≤ 1048576)
def OpenSpec.upto (s : _root_.Go.ChangeSpec) : _root_.Go.OpenSpec := { _root_.Go.OpenSpec.ofChange s with cond := some uptoSmall }

/-- 'tocsinlaw20.RoundGoes', WHERE WHAT IT READS IS OF BULK AT MOST 1048576: true; the input reads as it did. -/
def roundGoesUptoRow : OpenClaim := { program := "ytmagjekmlnpfpaagreat", sum := "8a4e49a782e657f5bcefdc4fa548e0cca0424b55a8984ea65368c828f24c8f26", func := "tocsin/tocsinlaw20.RoundGoes", spec := "roundGoes", unfollowed := true, recurses := true, named := ["math/bits.divideError", "math/bits.overflowError"], apart := false, narrowed := true }
def RoundGoesUptoSaid : Prop := roundGoesUptoRow.holds Tryz.pinned (OpenSpec.upto roundGoesSpec)

/-- 'tocsinlaw20.RoundRuns', WHERE WHAT IT READS IS OF BULK AT MOST 1048576: true; the input reads as it did. -/
def roundRunsUptoRow : OpenClaim := { program := "ytmagjekmlnpfpaagreat", sum := "8a4e49a782e657f5bcefdc4fa548e0cca0424b55a8984ea65368c828f24c8f26", func := "tocsin/tocsinlaw20.RoundRuns", spec := "roundRuns", unfollowed := true, recurses := true, named := ["math/bits.divideError", "math/bits.overflowError"], apart := false, narrowed := true }
def RoundRunsUptoSaid : Prop := roundRunsUptoRow.holds Tryz.pinned (OpenSpec.upto roundRunsSpec)

/-- 'tocsinlaw20.RoundRight', WHERE WHAT IT READS IS OF BULK AT MOST 1048576: true; the input reads as it did. -/
def roundRightUptoRow : OpenClaim := { program := "ytmagjekmlnpfpaagreat", sum := "8a4e49a782e657f5bcefdc4fa548e0cca0424b55a8984ea65368c828f24c8f26", func := "tocsin/tocsinlaw20.RoundRight", spec := "roundRight", unfollowed := true, recurses := true, named := ["math/bits.divideError", "math/bits.overflowError"], apart := false, narrowed := true }
def RoundRightUptoSaid : Prop := roundRightUptoRow.holds Tryz.pinned (OpenSpec.upto roundRightSpec)

/-- 'tocsinlaw20.RoundSpreads', WHERE WHAT IT READS IS OF BULK AT MOST 1048576: true; the input reads as it did. -/
def roundSpreadsUptoRow : OpenClaim := { program := "ytmagjekmlnpfpaagreat", sum := "8a4e49a782e657f5bcefdc4fa548e0cca0424b55a8984ea65368c828f24c8f26", func := "tocsin/tocsinlaw20.RoundSpreads", spec := "roundSpreads", unfollowed := true, recurses := true, named := ["math/bits.divideError", "math/bits.overflowError"], apart := false, narrowed := true }
def RoundSpreadsUptoSaid : Prop := roundSpreadsUptoRow.holds Tryz.pinned (OpenSpec.upto roundSpreadsSpec)

/-- 'tocsinlaw20.RoundDeaf', WHERE WHAT IT READS IS OF BULK AT MOST 1048576: true; the input reads as it did. -/
def roundDeafUptoRow : OpenClaim := { program := "ytmagjekmlnpfpaagreat", sum := "8a4e49a782e657f5bcefdc4fa548e0cca0424b55a8984ea65368c828f24c8f26", func := "tocsin/tocsinlaw20.RoundDeaf", spec := "roundDeaf", unfollowed := true, recurses := true, named := ["math/bits.divideError", "math/bits.overflowError"], apart := false, narrowed := true }
def RoundDeafUptoSaid : Prop := roundDeafUptoRow.holds Tryz.pinned (OpenSpec.upto roundDeafSpec)

/-- 'tocsinlaw20.RoundOnce', WHERE WHAT IT READS IS OF BULK AT MOST 1048576: true; the input reads as it did. -/
def roundOnceUptoRow : OpenClaim := { program := "ytmagjekmlnpfpaagreat", sum := "8a4e49a782e657f5bcefdc4fa548e0cca0424b55a8984ea65368c828f24c8f26", func := "tocsin/tocsinlaw20.RoundOnce", spec := "roundOnce", unfollowed := true, recurses := true, named := ["math/bits.divideError", "math/bits.overflowError"], apart := false, narrowed := true }
def RoundOnceUptoSaid : Prop := roundOnceUptoRow.holds Tryz.pinned (OpenSpec.upto roundOnceSpec)

/-- 'tocsintop.TopSteady', WHERE WHAT IT READS IS OF BULK AT MOST 1048576: true; the input reads as it did. -/
def topSteadyUptoRow : OpenClaim := { program := "ytmagjekmlnpfpaagreat", sum := "8a4e49a782e657f5bcefdc4fa548e0cca0424b55a8984ea65368c828f24c8f26", func := "tocsin/tocsintop.TopSteady", spec := "topSteady", unfollowed := true, recurses := true, named := ["math/bits.divideError", "math/bits.overflowError"], apart := false, narrowed := true }
def TopSteadyUptoSaid : Prop := topSteadyUptoRow.holds Tryz.pinned (OpenSpec.upto topSteadySpec)

/-- 'tocsintop.TopRight', WHERE WHAT IT READS IS OF BULK AT MOST 1048576: true; the input reads as it did. -/
def topRightUptoRow : OpenClaim := { program := "ytmagjekmlnpfpaagreat", sum := "8a4e49a782e657f5bcefdc4fa548e0cca0424b55a8984ea65368c828f24c8f26", func := "tocsin/tocsintop.TopRight", spec := "topRight", unfollowed := true, recurses := true, named := ["math/bits.divideError", "math/bits.overflowError"], apart := false, narrowed := true }
def TopRightUptoSaid : Prop := topRightUptoRow.holds Tryz.pinned (OpenSpec.upto topRightSpec)

/-- 'tocsintop.TopOneSwitch', WHERE WHAT IT READS IS OF BULK AT MOST 1048576: true; the input reads as it did. -/
def topOneSwitchUptoRow : OpenClaim := { program := "ytmagjekmlnpfpaagreat", sum := "8a4e49a782e657f5bcefdc4fa548e0cca0424b55a8984ea65368c828f24c8f26", func := "tocsin/tocsintop.TopOneSwitch", spec := "topOneSwitch", unfollowed := true, recurses := true, named := ["math/bits.divideError", "math/bits.overflowError"], apart := false, narrowed := true }
def TopOneSwitchUptoSaid : Prop := topOneSwitchUptoRow.holds Tryz.pinned (OpenSpec.upto topOneSwitchSpec)

/-- 'tocsintop.TopBad', WHERE WHAT IT READS IS OF BULK AT MOST 1048576: true; the input reads as it did. -/
def topBadUptoRow : OpenClaim := { program := "ytmagjekmlnpfpaagreat", sum := "8a4e49a782e657f5bcefdc4fa548e0cca0424b55a8984ea65368c828f24c8f26", func := "tocsin/tocsintop.TopBad", spec := "topBad", unfollowed := true, recurses := true, named := ["math/bits.divideError", "math/bits.overflowError"], apart := false, narrowed := true }
def TopBadUptoSaid : Prop := topBadUptoRow.holds Tryz.pinned (OpenSpec.upto topBadSpec)

end Rows
end Go.Proofs.YtmagjekmlnpfpaaGreat
