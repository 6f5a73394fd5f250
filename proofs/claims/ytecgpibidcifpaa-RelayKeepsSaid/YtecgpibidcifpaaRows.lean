/-
  No cell of these rows narrows 'for every input' (looked for: loops, veiled, ifaces, maps, wideKeys, modest, calm, conditions, laid).
  DERIVED. THE GIVEN ROWS OF THIS SEAT. 5 by the template 'for every input the law returns true; each argument reads behind the call as it read before'; 0 by the template 'total and deterministic' (their statements: YtecgpibidcifpaaTotals.lean).
  GIVEN WITH THE SEED: the statements are not yours to turn. If you find one false, say at which input.
  Laid BY PROGRAM, IN A SANDBOX (cutbox-rows.mjs): the forced cells as the released guide's own fill.sh prints them over the translation aee6a9dc0e2a1a1d… (all of the seat's roots in one cut). By AI agents, Wed Nov 11 2026. No macro, syntax, notation, axiom, sorry.
-/
import Derived.Test.YtecgpibidcifpaaChecked
import GoSem.Claim
import GoSem.ClaimJoined
import GoSem.ClaimMapViews
import Derived.JoinedTies
import Derived.KernelRfl
namespace Go.Proofs.Ytecgpibidcifpaa
/- THE CELL 'sum', in the pinned program and in every row, IS THE sha256 OF THE DUMP (.gsa) THAT YtecgpibidcifpaaProg.lean LOADS. Nothing in Lean hashes anything: it is a label: what it is worth is what the hold of that sum in a sandbox is worth. -/
noncomputable def Try.pinned : Pinned := { name := "ytecgpibidcifpaa", sum := "aee6a9dc0e2a1a1d0ab5308bbf0ea0a7fd7142d54cab07822f9f3199e3ec6ca3", checked := Try.checked }
namespace Rows
def none {H : Type} : Left H := { results := [], args := [] }

/-- 'tocsinlaw18.RelayJudges': WHATEVER THE INPUT: true; the input reads as it did. -/
def relayJudgesSpec : ChangeSpec := { name := "relayJudges", fn := fun _ => fun
  | [d1, d2] => { results := [.lit (.bool true)], args := [d1, d2] }
  | _ => none }
def relayJudgesRow : OpenClaim := { program := "ytecgpibidcifpaa", sum := "aee6a9dc0e2a1a1d0ab5308bbf0ea0a7fd7142d54cab07822f9f3199e3ec6ca3", func := "tocsin/tocsinlaw18.RelayJudges", spec := "relayJudges", unfollowed := true, recurses := true, apart := false }
def RelayJudgesSaid : Prop := relayJudgesRow.holds Try.pinned (OpenSpec.ofChange relayJudgesSpec)

/-- ITS FALSE NEIGHBOUR: 'it returns false'. Refute it at one input. -/
def relayJudgesWrong : ChangeSpec := { name := "relayJudges", fn := fun _ => fun
  | [d1, d2] => { results := [.lit (.bool false)], args := [d1, d2] }
  | _ => none }
def RelayJudgesWrongFalsely : Prop := relayJudgesRow.holds Try.pinned (OpenSpec.ofChange relayJudgesWrong)

/-- 'tocsinlaw18.RelayBudget': WHATEVER THE INPUT: true; the input reads as it did. -/
def relayBudgetSpec : ChangeSpec := { name := "relayBudget", fn := fun _ => fun
  | [d1, d2] => { results := [.lit (.bool true)], args := [d1, d2] }
  | _ => none }
def relayBudgetRow : OpenClaim := { program := "ytecgpibidcifpaa", sum := "aee6a9dc0e2a1a1d0ab5308bbf0ea0a7fd7142d54cab07822f9f3199e3ec6ca3", func := "tocsin/tocsinlaw18.RelayBudget", spec := "relayBudget", unfollowed := true, recurses := true, apart := false }
def RelayBudgetSaid : Prop := relayBudgetRow.holds Try.pinned (OpenSpec.ofChange relayBudgetSpec)

/-- ITS FALSE NEIGHBOUR: 'it returns false'. Refute it at one input. -/
def relayBudgetWrong : ChangeSpec := { name := "relayBudget", fn := fun _ => fun
  | [d1, d2] => { results := [.lit (.bool false)], args := [d1, d2] }
  | _ => none }
def RelayBudgetWrongFalsely : Prop := relayBudgetRow.holds Try.pinned (OpenSpec.ofChange relayBudgetWrong)

/-- 'tocsinlaw18.RelayTimed': WHATEVER THE INPUT: true; the input reads as it did. -/
def relayTimedSpec : ChangeSpec := { name := "relayTimed", fn := fun _ => fun
  | [d1, d2, d3] => { results := [.lit (.bool true)], args := [d1, d2, d3] }
  | _ => none }
def relayTimedRow : OpenClaim := { program := "ytecgpibidcifpaa", sum := "aee6a9dc0e2a1a1d0ab5308bbf0ea0a7fd7142d54cab07822f9f3199e3ec6ca3", func := "tocsin/tocsinlaw18.RelayTimed", spec := "relayTimed", unfollowed := true, recurses := true, apart := false }
def RelayTimedSaid : Prop := relayTimedRow.holds Try.pinned (OpenSpec.ofChange relayTimedSpec)

/-- ITS FALSE NEIGHBOUR: 'it returns false'. Refute it at one input. -/
def relayTimedWrong : ChangeSpec := { name := "relayTimed", fn := fun _ => fun
  | [d1, d2, d3] => { results := [.lit (.bool false)], args := [d1, d2, d3] }
  | _ => none }
def RelayTimedWrongFalsely : Prop := relayTimedRow.holds Try.pinned (OpenSpec.ofChange relayTimedWrong)

/-- 'tocsinlaw18.RelayKeeps': WHATEVER THE INPUT: true; the input reads as it did. -/
def relayKeepsSpec : ChangeSpec := { name := "relayKeeps", fn := fun _ => fun
  | [d1, d2] => { results := [.lit (.bool true)], args := [d1, d2] }
  | _ => none }
def relayKeepsRow : OpenClaim := { program := "ytecgpibidcifpaa", sum := "aee6a9dc0e2a1a1d0ab5308bbf0ea0a7fd7142d54cab07822f9f3199e3ec6ca3", func := "tocsin/tocsinlaw18.RelayKeeps", spec := "relayKeeps", unfollowed := true, recurses := true, apart := false }
def RelayKeepsSaid : Prop := relayKeepsRow.holds Try.pinned (OpenSpec.ofChange relayKeepsSpec)

/-- ITS FALSE NEIGHBOUR: 'it returns false'. Refute it at one input. -/
def relayKeepsWrong : ChangeSpec := { name := "relayKeeps", fn := fun _ => fun
  | [d1, d2] => { results := [.lit (.bool false)], args := [d1, d2] }
  | _ => none }
def RelayKeepsWrongFalsely : Prop := relayKeepsRow.holds Try.pinned (OpenSpec.ofChange relayKeepsWrong)

/-- 'tocsinlaw18.RelayMinds': WHATEVER THE INPUT: true; the input reads as it did. -/
def relayMindsSpec : ChangeSpec := { name := "relayMinds", fn := fun _ => fun
  | [d1, d2] => { results := [.lit (.bool true)], args := [d1, d2] }
  | _ => none }
def relayMindsRow : OpenClaim := { program := "ytecgpibidcifpaa", sum := "aee6a9dc0e2a1a1d0ab5308bbf0ea0a7fd7142d54cab07822f9f3199e3ec6ca3", func := "tocsin/tocsinlaw18.RelayMinds", spec := "relayMinds", unfollowed := true, recurses := true, apart := false }
def RelayMindsSaid : Prop := relayMindsRow.holds Try.pinned (OpenSpec.ofChange relayMindsSpec)

/-- ITS FALSE NEIGHBOUR: 'it returns false'. Refute it at one input. -/
def relayMindsWrong : ChangeSpec := { name := "relayMinds", fn := fun _ => fun
  | [d1, d2] => { results := [.lit (.bool false)], args := [d1, d2] }
  | _ => none }
def RelayMindsWrongFalsely : Prop := relayMindsRow.holds Try.pinned (OpenSpec.ofChange relayMindsWrong)

/- THE SECOND FORM. 'bulk': how many values and letters a reading holds, each counted each time it is reached (what is shared counts as often as it is met; a slice's spare places count too). A statement '..UptoSaid' is the law's where the arguments, and the package variables that the reading takes, are together of bulk at most 1048576: NARROWER than '..Said'. Prove '..Said' where nothing that the law and all that it calls make is longer than what came in: it says more and counts as full. Else prove '..UptoSaid'. A law counts once. -/
mutual
def uptoBulk {H : Type} : DataW H → Nat
  | .lit (.string bytes) => bytes.length + 1
  | .lit _ => 1
  | .nil => 1
  | .ptr d => uptoBulk d + 1
  | .slice elems spare => uptoBulkAll elems + uptoBulkAll spare + 1
  | .agg parts => uptoBulkAll parts + 1
  | .iface _ d => uptoBulk d + 1
  | .map entries => uptoBulkEntries entries + 1
  | .held _ => 1
def uptoBulkAll {H : Type} : List (DataW H) → Nat
  | [] => 0
  | d :: r => uptoBulk d + uptoBulkAll r
def uptoBulkEntries {H : Type} : List (Lit × DataW H) → Nat
  | [] => 0
  | x :: r => uptoBulkEntry x + uptoBulkEntries r
def uptoBulkEntry {H : Type} : Lit × DataW H → Nat
  | (.string bytes, d) => bytes.length + uptoBulk d + 1
  | (_, d) => uptoBulk d + 1
 end
def uptoSmall : (H : Type) → List (DataW H) → Bool := fun _ ds => decide (uptoBulkAll ds ≤ 1048576)
def OpenSpec.upto (s : _root_.Go.ChangeSpec) : _root_.Go.OpenSpec := { _root_.Go.OpenSpec.ofChange s with cond := some uptoSmall }

/-- 'tocsinlaw18.RelayJudges', WHERE WHAT IT READS IS OF BULK AT MOST 1048576: true; the input reads as it did. -/
def relayJudgesUptoRow : OpenClaim := { program := "ytecgpibidcifpaa", sum := "aee6a9dc0e2a1a1d0ab5308bbf0ea0a7fd7142d54cab07822f9f3199e3ec6ca3", func := "tocsin/tocsinlaw18.RelayJudges", spec := "relayJudges", unfollowed := true, recurses := true, apart := false, narrowed := true }
def RelayJudgesUptoSaid : Prop := relayJudgesUptoRow.holds Try.pinned (OpenSpec.upto relayJudgesSpec)

/-- 'tocsinlaw18.RelayBudget', WHERE WHAT IT READS IS OF BULK AT MOST 1048576: true; the input reads as it did. -/
def relayBudgetUptoRow : OpenClaim := { program := "ytecgpibidcifpaa", sum := "aee6a9dc0e2a1a1d0ab5308bbf0ea0a7fd7142d54cab07822f9f3199e3ec6ca3", func := "tocsin/tocsinlaw18.RelayBudget", spec := "relayBudget", unfollowed := true, recurses := true, apart := false, narrowed := true }
def RelayBudgetUptoSaid : Prop := relayBudgetUptoRow.holds Try.pinned (OpenSpec.upto relayBudgetSpec)

/-- 'tocsinlaw18.RelayTimed', WHERE WHAT IT READS IS OF BULK AT MOST 1048576: true; the input reads as it did. -/
def relayTimedUptoRow : OpenClaim := { program := "ytecgpibidcifpaa", sum := "aee6a9dc0e2a1a1d0ab5308bbf0ea0a7fd7142d54cab07822f9f3199e3ec6ca3", func := "tocsin/tocsinlaw18.RelayTimed", spec := "relayTimed", unfollowed := true, recurses := true, apart := false, narrowed := true }
def RelayTimedUptoSaid : Prop := relayTimedUptoRow.holds Try.pinned (OpenSpec.upto relayTimedSpec)

/-- 'tocsinlaw18.RelayKeeps', WHERE WHAT IT READS IS OF BULK AT MOST 1048576: true; the input reads as it did. -/
def relayKeepsUptoRow : OpenClaim := { program := "ytecgpibidcifpaa", sum := "aee6a9dc0e2a1a1d0ab5308bbf0ea0a7fd7142d54cab07822f9f3199e3ec6ca3", func := "tocsin/tocsinlaw18.RelayKeeps", spec := "relayKeeps", unfollowed := true, recurses := true, apart := false, narrowed := true }
def RelayKeepsUptoSaid : Prop := relayKeepsUptoRow.holds Try.pinned (OpenSpec.upto relayKeepsSpec)

/-- 'tocsinlaw18.RelayMinds', WHERE WHAT IT READS IS OF BULK AT MOST 1048576: true; the input reads as it did. -/
def relayMindsUptoRow : OpenClaim := { program := "ytecgpibidcifpaa", sum := "aee6a9dc0e2a1a1d0ab5308bbf0ea0a7fd7142d54cab07822f9f3199e3ec6ca3", func := "tocsin/tocsinlaw18.RelayMinds", spec := "relayMinds", unfollowed := true, recurses := true, apart := false, narrowed := true }
def RelayMindsUptoSaid : Prop := relayMindsUptoRow.holds Try.pinned (OpenSpec.upto relayMindsSpec)

end Rows
end Go.Proofs.Ytecgpibidcifpaa
