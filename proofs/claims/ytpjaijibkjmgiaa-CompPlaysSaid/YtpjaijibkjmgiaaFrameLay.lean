/- What the laws' shells take: no variable is listed; frames and bytes that came in, opened. -/
import Derived.Test.YtpjaijibkjmgiaaRows
import Derived.Test.YtpjaijibkjmgiaaFrameK
import Derived.Test.YtpjaijibkjmgiaaLawShell
import Derived.Test.YtpjaijibkjmgiaaOpen
import Derived.ProofKit
import Derived.OpenShut
import Derived.Laws.Cover2
import Derived.Deep.DeepHandedRow
import Derived.Deep.DeepWitnessRowRef
import Derived.SizedLaws
namespace Go.Proofs.Ytpjaijibkjmgiaa.FrameW
open Go.ChangeShapes Go.WideShapes Go.ChangeAt Go.RowKit Shell
theorem own : ownKnob Try.prog.godebug = none := by kernel_rfl
theorem laidOut : laidOutB Try.prog = true := by kernel_rfl
theorem laid_met (os : Os) (args : Array Value) : laidMet Try.prog [] ((World.holding Try.prog os ⟨#[], #[], []⟩).forCall (fun _ _ => 0) ⟨#[], args, []⟩).memory :=
  laidMet_of_run' 8 (by kernel_rfl) (by kernel_rfl)
section
variable {H : Type} {enc : TypeId × Value → H}
theorem i64_wf {n : Int} (h : (Lit.int .i64 n).wf = true) : -9223372036854775808 ≤ n ∧ n ≤ 9223372036854775807 := by
  simp [Lit.wf] at h
  exact h
theorem u32_wf {n : Int} (h : (Lit.int .u32 n).wf = true) : 0 ≤ n ∧ n ≤ 4294967295 := by
  simp [Lit.wf] at h
  exact h
theorem five {l : Array Value} (h : l.size = 5) : ∃ a b c d e, l = #[a, b, c, d, e] := by
  obtain ⟨l⟩ := l
  match l, h with
  | [a, b, c, d, e], _ => exact ⟨a, b, c, d, e, rfl⟩
theorem field_at {w : World} {base : Nat} {spare : Nat → Bool} {held : Bool} {n : Nat} {fs : Array Field} {cs : List Value} {ys : List (DataW H × List MemPlace)}
    (hg : ∀ (i : Nat) (f : Field), fs[i]? = some f → DataW.trod enc Try.prog w base spare held n f.type ((cs.drop f.offset).take (Try.prog.cellsOf f.type)) = ys[i]?) (hl : ys.length = fs.size)
    (i : Nat) (t : TypeId) (f : Field) (x : Value) (hf : fs[i]? = some f) (ho : f.offset = i) (ht : f.type = t) (hc : Try.prog.cellsOf t = 1) (hx : cs[i]? = some x) : ∃ y, DataW.trod enc Try.prog w base spare held n t [x] = some y := by
  have h := hg i f hf
  have hi : i < ys.length := by
    rw [hl]
    rcases Nat.lt_or_ge i fs.size with h | h
    · exact h
    · rw [Array.getElem?_eq_none h] at hf; cases hf
  have hj : i < cs.length := by
    rcases Nat.lt_or_ge i cs.length with h | h
    · exact h
    · rw [List.getElem?_eq_none h] at hx; cases hx
  rw [ht, ho, hc, List.getElem?_eq_getElem hi] at h
  rw [List.getElem?_eq_getElem hj] at hx
  have h1 : (cs.drop i).take 1 = [x] := by
    rw [List.drop_eq_getElem_cons hj, Option.some.inj hx]
    rfl
  rw [h1] at h
  exact ⟨_, h⟩
set_option maxRecDepth 100000 in
theorem open_ctl {W : World} {r : Reach} {b0 : Nat} {v : Value} {d : DataW H} {ps : List MemPlace}
    (hval : Value.okWide Try.prog W r b0 31 v) (hd : DataW.Trod enc Try.prog W 0 (fun _ => true) true 31 v d ps) : ∃ k f cy cr cl, v = CV k f cy cr cl ∧ 0 ≤ cr := by
  simp only [Value.okWide, Try.underlying31] at hval
  obtain ⟨cs, rfl, hsz, -⟩ := hval
  rw [show Try.prog.cellsOf 31 = 5 by kernel_rfl] at hsz
  obtain ⟨x0, x1, x2, x3, x4, rfl⟩ := five hsz
  obtain ⟨fuel, hf⟩ := hd
  obtain ⟨ys, k', -, -, -, hyl, hg⟩ := DataW.trod_struct Try.underlying31 hf
  have c3 : Try.prog.cellsOf 3 = 1 := by kernel_rfl
  have c2 : Try.prog.cellsOf 2 = 1 := by kernel_rfl
  have c22 : Try.prog.cellsOf 29 = 1 := by kernel_rfl
  obtain ⟨y0, h0⟩ := field_at hg hyl 0 3 _ x0 rfl rfl rfl c3 rfl
  obtain ⟨y1, h1⟩ := field_at hg hyl 1 3 _ x1 rfl rfl rfl c3 rfl
  obtain ⟨y2, h2⟩ := field_at hg hyl 2 2 _ x2 rfl rfl rfl c2 rfl
  obtain ⟨y3, h3⟩ := field_at hg hyl 3 29 _ x3 rfl rfl rfl c22 rfl
  obtain ⟨y4, h4⟩ := field_at hg hyl 4 2 _ x4 rfl rfl rfl c2 rfl
  obtain ⟨k, rfl, -⟩ := trod_num Try.underlying3 h0
  obtain ⟨f, rfl, -⟩ := trod_num Try.underlying3 h1
  obtain ⟨cy, rfl, -⟩ := trod_num Try.underlying2 h2
  obtain ⟨cr, rfl, wr⟩ := trod_num Try.underlying29 h3
  obtain ⟨cl, rfl, -⟩ := trod_num Try.underlying2 h4
  exact ⟨k, f, cy, cr, cl, rfl, (u32_wf wr).1⟩
end
end Go.Proofs.Ytpjaijibkjmgiaa.FrameW

