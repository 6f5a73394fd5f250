/-
  No cell of these rows narrows 'for every input' (looked for: loops, veiled, ifaces, maps, wideKeys, modest, calm, conditions, laid).
  DERIVED. THE GIVEN ROWS OF THIS SEAT. 5 by the template 'for every input the law returns true; each argument reads behind the call as it read before'; 0 by the template 'total and deterministic' (their statements: YtnlimdlmhfnkiaaTotals.lean).
  GIVEN WITH THE SEED: the statements are not yours to turn. If you find one false, say at which input.
  Laid BY PROGRAM, IN A SANDBOX (cutbox-rows.mjs): the forced cells as the released guide's own fill.sh prints them over the translation 79612067547a3c1e… (all of the seat's roots in one cut). By AI agents, Wed Nov 11 2026. No macro, syntax, notation, axiom, sorry.
-/
import Derived.Test.YtnlimdlmhfnkiaaChecked
import GoSem.Claim
import GoSem.ClaimJoined
import GoSem.ClaimMapViews
import Derived.JoinedTies
import Derived.KernelRfl
namespace Go.Proofs.Ytnlimdlmhfnkiaa
/- THE CELL 'sum', in the pinned program and in every row, IS THE sha256 OF THE DUMP (.gsa) THAT YtnlimdlmhfnkiaaProg.lean LOADS. Nothing in Lean hashes anything: it is a label: what it is worth is what the hold of that sum in a sandbox is worth. -/
noncomputable def Try.pinned : Pinned := { name := "ytnlimdlmhfnkiaa", sum := "79612067547a3c1e531c4b16cd22112e0797b868d04d6d0a54cdfbd353fd57b8", checked := Try.checked }
namespace Rows
def none {H : Type} : Left H := { results := [], args := [] }

/-- 'tocsinlaw19.StationJudges': WHATEVER THE INPUT: true; the input reads as it did. -/
def stationJudgesSpec : ChangeSpec := { name := "stationJudges", fn := fun _ => fun
  | [d1, d2, d3] => { results := [.lit (.bool true)], args := [d1, d2, d3] }
  | _ => none }
def stationJudgesRow : OpenClaim := { program := "ytnlimdlmhfnkiaa", sum := "79612067547a3c1e531c4b16cd22112e0797b868d04d6d0a54cdfbd353fd57b8", func := "tocsin/tocsinlaw19.StationJudges", spec := "stationJudges", unfollowed := true, recurses := true, apart := false }
def StationJudgesSaid : Prop := stationJudgesRow.holds Try.pinned (OpenSpec.ofChange stationJudgesSpec)

/-- ITS FALSE NEIGHBOUR: 'it returns false'. Refute it at one input. -/
def stationJudgesWrong : ChangeSpec := { name := "stationJudges", fn := fun _ => fun
  | [d1, d2, d3] => { results := [.lit (.bool false)], args := [d1, d2, d3] }
  | _ => none }
def StationJudgesWrongFalsely : Prop := stationJudgesRow.holds Try.pinned (OpenSpec.ofChange stationJudgesWrong)

/-- 'tocsinlaw19.StationOnce': WHATEVER THE INPUT: true; the input reads as it did. -/
def stationOnceSpec : ChangeSpec := { name := "stationOnce", fn := fun _ => fun
  | [d1, d2, d3] => { results := [.lit (.bool true)], args := [d1, d2, d3] }
  | _ => none }
def stationOnceRow : OpenClaim := { program := "ytnlimdlmhfnkiaa", sum := "79612067547a3c1e531c4b16cd22112e0797b868d04d6d0a54cdfbd353fd57b8", func := "tocsin/tocsinlaw19.StationOnce", spec := "stationOnce", unfollowed := true, recurses := true, apart := false }
def StationOnceSaid : Prop := stationOnceRow.holds Try.pinned (OpenSpec.ofChange stationOnceSpec)

/-- ITS FALSE NEIGHBOUR: 'it returns false'. Refute it at one input. -/
def stationOnceWrong : ChangeSpec := { name := "stationOnce", fn := fun _ => fun
  | [d1, d2, d3] => { results := [.lit (.bool false)], args := [d1, d2, d3] }
  | _ => none }
def StationOnceWrongFalsely : Prop := stationOnceRow.holds Try.pinned (OpenSpec.ofChange stationOnceWrong)

/-- 'tocsinlaw19.StationTimed': WHATEVER THE INPUT: true; the input reads as it did. -/
def stationTimedSpec : ChangeSpec := { name := "stationTimed", fn := fun _ => fun
  | [d1, d2, d3] => { results := [.lit (.bool true)], args := [d1, d2, d3] }
  | _ => none }
def stationTimedRow : OpenClaim := { program := "ytnlimdlmhfnkiaa", sum := "79612067547a3c1e531c4b16cd22112e0797b868d04d6d0a54cdfbd353fd57b8", func := "tocsin/tocsinlaw19.StationTimed", spec := "stationTimed", unfollowed := true, recurses := true, apart := false }
def StationTimedSaid : Prop := stationTimedRow.holds Try.pinned (OpenSpec.ofChange stationTimedSpec)

/-- ITS FALSE NEIGHBOUR: 'it returns false'. Refute it at one input. -/
def stationTimedWrong : ChangeSpec := { name := "stationTimed", fn := fun _ => fun
  | [d1, d2, d3] => { results := [.lit (.bool false)], args := [d1, d2, d3] }
  | _ => none }
def StationTimedWrongFalsely : Prop := stationTimedRow.holds Try.pinned (OpenSpec.ofChange stationTimedWrong)

/-- 'tocsinlaw19.StationCopies': WHATEVER THE INPUT: true; the input reads as it did. -/
def stationCopiesSpec : ChangeSpec := { name := "stationCopies", fn := fun _ => fun
  | [d1, d2, d3] => { results := [.lit (.bool true)], args := [d1, d2, d3] }
  | _ => none }
def stationCopiesRow : OpenClaim := { program := "ytnlimdlmhfnkiaa", sum := "79612067547a3c1e531c4b16cd22112e0797b868d04d6d0a54cdfbd353fd57b8", func := "tocsin/tocsinlaw19.StationCopies", spec := "stationCopies", unfollowed := true, recurses := true, apart := false }
def StationCopiesSaid : Prop := stationCopiesRow.holds Try.pinned (OpenSpec.ofChange stationCopiesSpec)

/-- ITS FALSE NEIGHBOUR: 'it returns false'. Refute it at one input. -/
def stationCopiesWrong : ChangeSpec := { name := "stationCopies", fn := fun _ => fun
  | [d1, d2, d3] => { results := [.lit (.bool false)], args := [d1, d2, d3] }
  | _ => none }
def StationCopiesWrongFalsely : Prop := stationCopiesRow.holds Try.pinned (OpenSpec.ofChange stationCopiesWrong)

/-- 'tocsinlaw19.StationNumbers': WHATEVER THE INPUT: true; the input reads as it did. -/
def stationNumbersSpec : ChangeSpec := { name := "stationNumbers", fn := fun _ => fun
  | [d1, d2] => { results := [.lit (.bool true)], args := [d1, d2] }
  | _ => none }
def stationNumbersRow : OpenClaim := { program := "ytnlimdlmhfnkiaa", sum := "79612067547a3c1e531c4b16cd22112e0797b868d04d6d0a54cdfbd353fd57b8", func := "tocsin/tocsinlaw19.StationNumbers", spec := "stationNumbers", unfollowed := true, recurses := true, apart := false }
def StationNumbersSaid : Prop := stationNumbersRow.holds Try.pinned (OpenSpec.ofChange stationNumbersSpec)

/-- ITS FALSE NEIGHBOUR: 'it returns false'. Refute it at one input. -/
def stationNumbersWrong : ChangeSpec := { name := "stationNumbers", fn := fun _ => fun
  | [d1, d2] => { results := [.lit (.bool false)], args := [d1, d2] }
  | _ => none }
def StationNumbersWrongFalsely : Prop := stationNumbersRow.holds Try.pinned (OpenSpec.ofChange stationNumbersWrong)

/- THE SECOND FORM. 'bulk': how many values and letters a reading holds, each counted each time it is reached (what is shared counts as often as it is met; a slice's spare places count too). A statement '..UptoSaid' is the law's where the arguments, and the package variables that the reading takes, are together of bulk at most 1048576: NARROWER than '..Said'. Prove '..Said' where nothing that the law and all that it calls make is longer than what came in: it says more and counts as full. Else prove '..UptoSaid'. A law counts once. -/
mutual
def uptoBulk {H : Type} : DataW H → Nat
  | .lit (.string bytes) => bytes.length + 1
  | .lit _ => 1
  | .nil => 1
  | .ptr d => uptoBulk d + 1
  | .slice elems spare => uptoBulkAll elems + uptoBulkAll spare + 1
  | .agg parts => uptoBulkAll parts + 1
  | .iface _ d => uptoBulk d + 1
  | .map entries => uptoBulkEntries entries + 1
  | .held _ => 1
def uptoBulkAll {H : Type} : List (DataW H) → Nat
  | [] => 0
  | d :: r => uptoBulk d + uptoBulkAll r
def uptoBulkEntries {H : Type} : List (Lit × DataW H) → Nat
  | [] => 0
  | x :: r => uptoBulkEntry x + uptoBulkEntries r
def uptoBulkEntry {H : Type} : Lit × DataW H → Nat
  | (.string bytes, d) => bytes.length + uptoBulk d + 1
  | (_, d) => uptoBulk d + 1
 end
def uptoSmall : (H : Type) → List (DataW H) → Bool := fun _ ds => decide (uptoBulkAll ds ≤ 1048576)
def OpenSpec.upto (s : _root_.Go.ChangeSpec) : _root_.Go.OpenSpec := { _root_.Go.OpenSpec.ofChange s with cond := some uptoSmall }

/-- 'tocsinlaw19.StationJudges', WHERE WHAT IT READS IS OF BULK AT MOST 1048576: true; the input reads as it did. -/
def stationJudgesUptoRow : OpenClaim := { program := "ytnlimdlmhfnkiaa", sum := "79612067547a3c1e531c4b16cd22112e0797b868d04d6d0a54cdfbd353fd57b8", func := "tocsin/tocsinlaw19.StationJudges", spec := "stationJudges", unfollowed := true, recurses := true, apart := false, narrowed := true }
def StationJudgesUptoSaid : Prop := stationJudgesUptoRow.holds Try.pinned (OpenSpec.upto stationJudgesSpec)

/-- 'tocsinlaw19.StationOnce', WHERE WHAT IT READS IS OF BULK AT MOST 1048576: true; the input reads as it did. -/
def stationOnceUptoRow : OpenClaim := { program := "ytnlimdlmhfnkiaa", sum := "79612067547a3c1e531c4b16cd22112e0797b868d04d6d0a54cdfbd353fd57b8", func := "tocsin/tocsinlaw19.StationOnce", spec := "stationOnce", unfollowed := true, recurses := true, apart := false, narrowed := true }
def StationOnceUptoSaid : Prop := stationOnceUptoRow.holds Try.pinned (OpenSpec.upto stationOnceSpec)

/-- 'tocsinlaw19.StationTimed', WHERE WHAT IT READS IS OF BULK AT MOST 1048576: true; the input reads as it did. -/
def stationTimedUptoRow : OpenClaim := { program := "ytnlimdlmhfnkiaa", sum := "79612067547a3c1e531c4b16cd22112e0797b868d04d6d0a54cdfbd353fd57b8", func := "tocsin/tocsinlaw19.StationTimed", spec := "stationTimed", unfollowed := true, recurses := true, apart := false, narrowed := true }
def StationTimedUptoSaid : Prop := stationTimedUptoRow.holds Try.pinned (OpenSpec.upto stationTimedSpec)

/-- 'tocsinlaw19.StationCopies', WHERE WHAT IT READS IS OF BULK AT MOST 1048576: true; the input reads as it did. -/
def stationCopiesUptoRow : OpenClaim := { program := "ytnlimdlmhfnkiaa", sum := "79612067547a3c1e531c4b16cd22112e0797b868d04d6d0a54cdfbd353fd57b8", func := "tocsin/tocsinlaw19.StationCopies", spec := "stationCopies", unfollowed := true, recurses := true, apart := false, narrowed := true }
def StationCopiesUptoSaid : Prop := stationCopiesUptoRow.holds Try.pinned (OpenSpec.upto stationCopiesSpec)

/-- 'tocsinlaw19.StationNumbers', WHERE WHAT IT READS IS OF BULK AT MOST 1048576: true; the input reads as it did. -/
def stationNumbersUptoRow : OpenClaim := { program := "ytnlimdlmhfnkiaa", sum := "79612067547a3c1e531c4b16cd22112e0797b868d04d6d0a54cdfbd353fd57b8", func := "tocsin/tocsinlaw19.StationNumbers", spec := "stationNumbers", unfollowed := true, recurses := true, apart := false, narrowed := true }
def StationNumbersUptoSaid : Prop := stationNumbersUptoRow.holds Try.pinned (OpenSpec.upto stationNumbersSpec)

end Rows
end Go.Proofs.Ytnlimdlmhfnkiaa
