/- ReadControl. -/
import Derived.Test.YtpjaijibkjmgiaaFrameH
namespace Go.Proofs.Ytpjaijibkjmgiaa.FrameW
open Go.RowKit
theorem results_ctl {fn : Func} {p u : Tmp} (h : fn.results = #[.cell p 31, .tmp u]) (tmps : Array Value) (w : World) (g : Nat) (t : TypeId) (x1 x2 x3 x4 x5 : Value) (fr : Nat × Nat)
    (hp : tmps.getD p undef = .pointer (some ⟨g, 0, none⟩)) (hg : w.heap[g]? = some (.cells #[x1, x2, x3, x4, x5] t fr)) :
    (results fn tmps).run Try.prog w = .ok (.tuple #[.agg #[x1, x2, x3, x4, x5], tmps.getD u undef]) w := by
  have hp' : tmps[p]?.getD undef = .pointer (some ⟨g, 0, none⟩) := by simpa using hp
  simp [results, h, hp', asAddr, run_loadVar_row w g t 31 #[x1, x2, x3, x4, x5] fr _ hg Try.underlying31 rfl (by kernel_rfl)]
theorem ret_ctl {fn : Func} {R : Ending → World → Prop} {p u : Tmp} (h : fn.results = #[.cell p 31, .tmp u]) {tmps : Array Value} {w : World} {g : Nat} {x1 x2 x3 x4 x5 : Value} {t : TypeId} {fr : Nat × Nat}
    (hp : tmps.getD p undef = .pointer (some ⟨g, 0, none⟩)) (hg : w.heap[g]? = some (.cells #[x1, x2, x3, x4, x5] t fr)) (hR : R (.returned (.tuple #[.agg #[x1, x2, x3, x4, x5], tmps.getD u undef])) w) :
    bodyPost Try.prog fn R .ret { tmps := tmps, defers := [] } w :=
  bodyPost_ret (results_ctl h tmps w g t x1 x2 x3 x4 x5 fr hp hg) rfl hR
end Go.Proofs.Ytpjaijibkjmgiaa.FrameW

