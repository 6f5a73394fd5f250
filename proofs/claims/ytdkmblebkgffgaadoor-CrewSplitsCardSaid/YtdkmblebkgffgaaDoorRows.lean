/-
  NARROWER THAN 'FOR EVERY INPUT', by the rows' own cells (each row's printed sentence says how): CrewTells: laid · CrewMakes: laid · CrewCommons: laid · CrewTexts: laid · CrewWithins: laid · CrewSplits: laid.
  DERIVED. THE GIVEN ROWS OF THIS SEAT. 6 by the template 'for every input the law returns true; each argument reads behind the call as it read before'; 0 by the template 'total and deterministic' (their statements: YtdkmblebkgffgaaDoorTotals.lean).
  GIVEN WITH THE SEED: the statements are not yours to turn. If you find one false, say at which input.
  Laid BY PROGRAM, IN A SANDBOX (cutbox-rows.mjs): the forced cells as the released guide's own fill.sh prints them over the translation 9bc002d492a1112a… (all of the seat's roots in one cut). By AI agents, Wed Nov 11 2026. No macro, syntax, notation, axiom, sorry.
-/
import Derived.Test.YtdkmblebkgffgaaDoorChecked
import GoSem.Claim
import GoSem.ClaimJoined
import GoSem.ClaimMapViews
import Derived.JoinedTies
import Derived.KernelRfl
namespace Go.Proofs.YtdkmblebkgffgaaDoor
/- THE CELL 'sum', in the pinned program and in every row, IS THE sha256 OF THE DUMP (.gsa) THAT YtdkmblebkgffgaaDoorProg.lean LOADS. Nothing in Lean hashes anything: it is a label: what it is worth is what the hold of that sum in a sandbox is worth. -/
noncomputable def Tryd.pinned : Pinned := { name := "ytdkmblebkgffgaadoor", sum := "9bc002d492a1112ad429135714065e724732143e46db5fcc0ea831bca7444d40", checked := Tryd.checked }
namespace Rows
def none {H : Type} : Left H := { results := [], args := [] }

/- WHAT THE LISTED PACKAGE-LEVEL VARIABLES READ AS WHEN THE CALL BEGINS. Each datum BY PROGRAM (the guide's laid-datum.mjs) off the statement by which the dump's own 'gosem.cut.vars' lays the variable. In a bare row this is a premise. The card (YtdkmblebkgffgaaDoorCards.lean) ties it to the program's text. -/
def laid_math_bits_deBruijn32tab {H : Type} : DataW H := .agg [.lit (.int .u8 0), .lit (.int .u8 1), .lit (.int .u8 28), .lit (.int .u8 2), .lit (.int .u8 29), .lit (.int .u8 14), .lit (.int .u8 24), .lit (.int .u8 3), .lit (.int .u8 30), .lit (.int .u8 22), .lit (.int .u8 20), .lit (.int .u8 15), .lit (.int .u8 25), .lit (.int .u8 17), .lit (.int .u8 4), .lit (.int .u8 8), .lit (.int .u8 31), .lit (.int .u8 27), .lit (.int .u8 13), .lit (.int .u8 23), .lit (.int .u8 21), .lit (.int .u8 19), .lit (.int .u8 16), .lit (.int .u8 7), .lit (.int .u8 26), .lit (.int .u8 12), .lit (.int .u8 18), .lit (.int .u8 6), .lit (.int .u8 11), .lit (.int .u8 5), .lit (.int .u8 10), .lit (.int .u8 9)]

/-- 'tocsinlaw07.CrewTells': WHATEVER THE INPUT: true; the input reads as it did. -/
def crewTellsSpec : ChangeSpec := { name := "crewTells", fn := fun _ => fun
  | [d1, d2] => { results := [.lit (.bool true)], args := [d1, d2] }
  | _ => none }
def crewTellsRow : OpenClaim := { program := "ytdkmblebkgffgaadoor", sum := "9bc002d492a1112ad429135714065e724732143e46db5fcc0ea831bca7444d40", func := "tocsin/tocsinlaw07.CrewTells", spec := "crewTells", named := ["math/bits.deBruijn32tab"], apart := false, laid := [("math/bits.deBruijn32tab", laid_math_bits_deBruijn32tab)] }
def CrewTellsSaid : Prop := crewTellsRow.holds Tryd.pinned (OpenSpec.ofChange crewTellsSpec)

/-- ITS FALSE NEIGHBOUR: 'it returns false'. Refute it at one input. -/
def crewTellsWrong : ChangeSpec := { name := "crewTells", fn := fun _ => fun
  | [d1, d2] => { results := [.lit (.bool false)], args := [d1, d2] }
  | _ => none }
def CrewTellsWrongFalsely : Prop := crewTellsRow.holds Tryd.pinned (OpenSpec.ofChange crewTellsWrong)

/-- 'tocsinlaw07.CrewMakes': WHATEVER THE INPUT: true; the input reads as it did. -/
def crewMakesSpec : ChangeSpec := { name := "crewMakes", fn := fun _ => fun
  | [d] => { results := [.lit (.bool true)], args := [d] }
  | _ => none }
def crewMakesRow : OpenClaim := { program := "ytdkmblebkgffgaadoor", sum := "9bc002d492a1112ad429135714065e724732143e46db5fcc0ea831bca7444d40", func := "tocsin/tocsinlaw07.CrewMakes", spec := "crewMakes", named := ["math/bits.deBruijn32tab"], apart := false, laid := [("math/bits.deBruijn32tab", laid_math_bits_deBruijn32tab)] }
def CrewMakesSaid : Prop := crewMakesRow.holds Tryd.pinned (OpenSpec.ofChange crewMakesSpec)

/-- ITS FALSE NEIGHBOUR: 'it returns false'. Refute it at one input. -/
def crewMakesWrong : ChangeSpec := { name := "crewMakes", fn := fun _ => fun
  | [d] => { results := [.lit (.bool false)], args := [d] }
  | _ => none }
def CrewMakesWrongFalsely : Prop := crewMakesRow.holds Tryd.pinned (OpenSpec.ofChange crewMakesWrong)

/-- 'tocsinlaw07.CrewCommons': WHATEVER THE INPUT: true; the input reads as it did. -/
def crewCommonsSpec : ChangeSpec := { name := "crewCommons", fn := fun _ => fun
  | [d1, d2] => { results := [.lit (.bool true)], args := [d1, d2] }
  | _ => none }
def crewCommonsRow : OpenClaim := { program := "ytdkmblebkgffgaadoor", sum := "9bc002d492a1112ad429135714065e724732143e46db5fcc0ea831bca7444d40", func := "tocsin/tocsinlaw07.CrewCommons", spec := "crewCommons", named := ["math/bits.deBruijn32tab"], apart := false, laid := [("math/bits.deBruijn32tab", laid_math_bits_deBruijn32tab)] }
def CrewCommonsSaid : Prop := crewCommonsRow.holds Tryd.pinned (OpenSpec.ofChange crewCommonsSpec)

/-- ITS FALSE NEIGHBOUR: 'it returns false'. Refute it at one input. -/
def crewCommonsWrong : ChangeSpec := { name := "crewCommons", fn := fun _ => fun
  | [d1, d2] => { results := [.lit (.bool false)], args := [d1, d2] }
  | _ => none }
def CrewCommonsWrongFalsely : Prop := crewCommonsRow.holds Tryd.pinned (OpenSpec.ofChange crewCommonsWrong)

/-- 'tocsinlaw07.CrewTexts': WHATEVER THE INPUT: true; the input reads as it did. -/
def crewTextsSpec : ChangeSpec := { name := "crewTexts", fn := fun _ => fun
  | [d1, d2] => { results := [.lit (.bool true)], args := [d1, d2] }
  | _ => none }
def crewTextsRow : OpenClaim := { program := "ytdkmblebkgffgaadoor", sum := "9bc002d492a1112ad429135714065e724732143e46db5fcc0ea831bca7444d40", func := "tocsin/tocsinlaw07.CrewTexts", spec := "crewTexts", named := ["math/bits.deBruijn32tab"], apart := false, laid := [("math/bits.deBruijn32tab", laid_math_bits_deBruijn32tab)] }
def CrewTextsSaid : Prop := crewTextsRow.holds Tryd.pinned (OpenSpec.ofChange crewTextsSpec)

/-- ITS FALSE NEIGHBOUR: 'it returns false'. Refute it at one input. -/
def crewTextsWrong : ChangeSpec := { name := "crewTexts", fn := fun _ => fun
  | [d1, d2] => { results := [.lit (.bool false)], args := [d1, d2] }
  | _ => none }
def CrewTextsWrongFalsely : Prop := crewTextsRow.holds Tryd.pinned (OpenSpec.ofChange crewTextsWrong)

/-- 'tocsinlaw07.CrewWithins': WHATEVER THE INPUT: true; the input reads as it did. -/
def crewWithinsSpec : ChangeSpec := { name := "crewWithins", fn := fun _ => fun
  | [d1, d2] => { results := [.lit (.bool true)], args := [d1, d2] }
  | _ => none }
def crewWithinsRow : OpenClaim := { program := "ytdkmblebkgffgaadoor", sum := "9bc002d492a1112ad429135714065e724732143e46db5fcc0ea831bca7444d40", func := "tocsin/tocsinlaw07.CrewWithins", spec := "crewWithins", named := ["math/bits.deBruijn32tab"], apart := false, laid := [("math/bits.deBruijn32tab", laid_math_bits_deBruijn32tab)] }
def CrewWithinsSaid : Prop := crewWithinsRow.holds Tryd.pinned (OpenSpec.ofChange crewWithinsSpec)

/-- ITS FALSE NEIGHBOUR: 'it returns false'. Refute it at one input. -/
def crewWithinsWrong : ChangeSpec := { name := "crewWithins", fn := fun _ => fun
  | [d1, d2] => { results := [.lit (.bool false)], args := [d1, d2] }
  | _ => none }
def CrewWithinsWrongFalsely : Prop := crewWithinsRow.holds Tryd.pinned (OpenSpec.ofChange crewWithinsWrong)

/-- 'tocsinlaw07.CrewSplits': WHATEVER THE INPUT: true; the input reads as it did. -/
def crewSplitsSpec : ChangeSpec := { name := "crewSplits", fn := fun _ => fun
  | [d1, d2] => { results := [.lit (.bool true)], args := [d1, d2] }
  | _ => none }
def crewSplitsRow : OpenClaim := { program := "ytdkmblebkgffgaadoor", sum := "9bc002d492a1112ad429135714065e724732143e46db5fcc0ea831bca7444d40", func := "tocsin/tocsinlaw07.CrewSplits", spec := "crewSplits", named := ["math/bits.deBruijn32tab"], apart := false, laid := [("math/bits.deBruijn32tab", laid_math_bits_deBruijn32tab)] }
def CrewSplitsSaid : Prop := crewSplitsRow.holds Tryd.pinned (OpenSpec.ofChange crewSplitsSpec)

/-- ITS FALSE NEIGHBOUR: 'it returns false'. Refute it at one input. -/
def crewSplitsWrong : ChangeSpec := { name := "crewSplits", fn := fun _ => fun
  | [d1, d2] => { results := [.lit (.bool false)], args := [d1, d2] }
  | _ => none }
def CrewSplitsWrongFalsely : Prop := crewSplitsRow.holds Tryd.pinned (OpenSpec.ofChange crewSplitsWrong)

/- THE SECOND FORM. 'bulk': how many values and letters a reading holds, each counted each time it is reached (what is shared counts as often as it is met; a slice's spare places count too). A statement '..UptoSaid' is the law's where the arguments, and the package variables that the reading takes, are together of bulk at most 1048576: NARROWER than '..Said'. Prove '..Said' where nothing that the law and all that it calls make is longer than what came in: it says more and counts as full. Else prove '..UptoSaid'. A law counts once. -/
mutual
def uptoBulk {H : Type} : DataW H → Nat
  | .lit (.string bytes) => bytes.length + 1
  | .lit _ => 1
  | .nil => 1
  | .ptr d => uptoBulk d + 1
  | .slice elems spare => uptoBulkAll elems + uptoBulkAll spare + 1
  | .agg parts => uptoBulkAll parts + 1
  | .iface _ d => uptoBulk d + 1
  | .map entries => uptoBulkEntries entries + 1
  | .held _ => 1
def uptoBulkAll {H : Type} : List (DataW H) → Nat
  | [] => 0
  | d :: r => uptoBulk d + uptoBulkAll r
def uptoBulkEntries {H : Type} : List (Lit × DataW H) → Nat
  | [] => 0
  | x :: r => uptoBulkEntry x + uptoBulkEntries r
def uptoBulkEntry {H : Type} : Lit × DataW H → Nat
  | (.string bytes, d) => bytes.length + uptoBulk d + 1
  | (_, d) => uptoBulk d + 1
 end
def uptoSmall : (H : Type) → List (DataW H) → Bool := fun _ ds => decide (uptoBulkAll ds ≤ 1048576)
def OpenSpec.upto (s : _root_.Go.ChangeSpec) : _root_.Go.OpenSpec := { _root_.Go.OpenSpec.ofChange s with cond := some uptoSmall }

/-- 'tocsinlaw07.CrewTells', WHERE WHAT IT READS IS OF BULK AT MOST 1048576: true; the input reads as it did. -/
def crewTellsUptoRow : OpenClaim := { program := "ytdkmblebkgffgaadoor", sum := "9bc002d492a1112ad429135714065e724732143e46db5fcc0ea831bca7444d40", func := "tocsin/tocsinlaw07.CrewTells", spec := "crewTells", named := ["math/bits.deBruijn32tab"], apart := false, laid := [("math/bits.deBruijn32tab", laid_math_bits_deBruijn32tab)], narrowed := true }
def CrewTellsUptoSaid : Prop := crewTellsUptoRow.holds Tryd.pinned (OpenSpec.upto crewTellsSpec)

/-- 'tocsinlaw07.CrewMakes', WHERE WHAT IT READS IS OF BULK AT MOST 1048576: true; the input reads as it did. -/
def crewMakesUptoRow : OpenClaim := { program := "ytdkmblebkgffgaadoor", sum := "9bc002d492a1112ad429135714065e724732143e46db5fcc0ea831bca7444d40", func := "tocsin/tocsinlaw07.CrewMakes", spec := "crewMakes", named := ["math/bits.deBruijn32tab"], apart := false, laid := [("math/bits.deBruijn32tab", laid_math_bits_deBruijn32tab)], narrowed := true }
def CrewMakesUptoSaid : Prop := crewMakesUptoRow.holds Tryd.pinned (OpenSpec.upto crewMakesSpec)

/-- 'tocsinlaw07.CrewCommons', WHERE WHAT IT READS IS OF BULK AT MOST 1048576: true; the input reads as it did. -/
def crewCommonsUptoRow : OpenClaim := { program := "ytdkmblebkgffgaadoor", sum := "9bc002d492a1112ad429135714065e724732143e46db5fcc0ea831bca7444d40", func := "tocsin/tocsinlaw07.CrewCommons", spec := "crewCommons", named := ["math/bits.deBruijn32tab"], apart := false, laid := [("math/bits.deBruijn32tab", laid_math_bits_deBruijn32tab)], narrowed := true }
def CrewCommonsUptoSaid : Prop := crewCommonsUptoRow.holds Tryd.pinned (OpenSpec.upto crewCommonsSpec)

/-- 'tocsinlaw07.CrewTexts', WHERE WHAT IT READS IS OF BULK AT MOST 1048576: true; the input reads as it did. -/
def crewTextsUptoRow : OpenClaim := { program := "ytdkmblebkgffgaadoor", sum := "9bc002d492a1112ad429135714065e724732143e46db5fcc0ea831bca7444d40", func := "tocsin/tocsinlaw07.CrewTexts", spec := "crewTexts", named := ["math/bits.deBruijn32tab"], apart := false, laid := [("math/bits.deBruijn32tab", laid_math_bits_deBruijn32tab)], narrowed := true }
def CrewTextsUptoSaid : Prop := crewTextsUptoRow.holds Tryd.pinned (OpenSpec.upto crewTextsSpec)

/-- 'tocsinlaw07.CrewWithins', WHERE WHAT IT READS IS OF BULK AT MOST 1048576: true; the input reads as it did. -/
def crewWithinsUptoRow : OpenClaim := { program := "ytdkmblebkgffgaadoor", sum := "9bc002d492a1112ad429135714065e724732143e46db5fcc0ea831bca7444d40", func := "tocsin/tocsinlaw07.CrewWithins", spec := "crewWithins", named := ["math/bits.deBruijn32tab"], apart := false, laid := [("math/bits.deBruijn32tab", laid_math_bits_deBruijn32tab)], narrowed := true }
def CrewWithinsUptoSaid : Prop := crewWithinsUptoRow.holds Tryd.pinned (OpenSpec.upto crewWithinsSpec)

/-- 'tocsinlaw07.CrewSplits', WHERE WHAT IT READS IS OF BULK AT MOST 1048576: true; the input reads as it did. -/
def crewSplitsUptoRow : OpenClaim := { program := "ytdkmblebkgffgaadoor", sum := "9bc002d492a1112ad429135714065e724732143e46db5fcc0ea831bca7444d40", func := "tocsin/tocsinlaw07.CrewSplits", spec := "crewSplits", named := ["math/bits.deBruijn32tab"], apart := false, laid := [("math/bits.deBruijn32tab", laid_math_bits_deBruijn32tab)], narrowed := true }
def CrewSplitsUptoSaid : Prop := crewSplitsUptoRow.holds Tryd.pinned (OpenSpec.upto crewSplitsSpec)

end Rows
end Go.Proofs.YtdkmblebkgffgaaDoor
