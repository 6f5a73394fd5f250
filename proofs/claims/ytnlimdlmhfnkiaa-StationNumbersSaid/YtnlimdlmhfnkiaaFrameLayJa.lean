/- What the laws' shells take: no variable is listed; frames and bytes that came in, opened. -/
import Derived.Test.YtnlimdlmhfnkiaaRows
import Derived.Test.YtnlimdlmhfnkiaaFrameEJa
import Derived.Test.YtnlimdlmhfnkiaaLawShell
import Derived.Test.YtnlimdlmhfnkiaaOpen
import Derived.ProofKit
import Derived.OpenShut
import Derived.Laws.Cover2
import Derived.Deep.DeepHandedRow
import Derived.Deep.DeepWitnessRowRef
import Derived.SizedLaws
import Derived.Laws.StructEq
namespace Go.Proofs.Ytnlimdlmhfnkiaa.FrameW
open Go.ChangeShapes Go.WideShapes Go.ChangeAt Go.RowKit Shell
set_option maxRecDepth 100000 in
theorem own : ownKnob Try.prog.godebug = none := by kernel_rfl
set_option maxRecDepth 100000 in
theorem laidOut : laidOutB Try.prog = true := by kernel_rfl
set_option maxRecDepth 100000 in
theorem laid_met (os : Os) (args : Array Value) : laidMet Try.prog [] ((World.holding Try.prog os ⟨#[], #[], []⟩).forCall (fun _ _ => 0) ⟨#[], args, []⟩).memory :=
  laidMet_of_run' 8 (by kernel_rfl) (by kernel_rfl)
section
variable {H : Type} {enc : TypeId × Value → H}
set_option maxRecDepth 100000 in
theorem u32_wf {n : Int} (h : (Lit.int .u32 n).wf = true) : 0 ≤ n ∧ n ≤ 4294967295 := by
  simp [Lit.wf] at h
  exact h
set_option maxRecDepth 100000 in
theorem u8_wf {n : Int} (h : (Lit.int .u8 n).wf = true) : 0 ≤ n ∧ n ≤ 255 := by
  simp [Lit.wf] at h
  exact h
set_option maxRecDepth 100000 in
theorem five {l : Array Value} (h : l.size = 5) : ∃ a b c d e, l = #[a, b, c, d, e] := by
  obtain ⟨l⟩ := l
  match l, h with
  | [a, b, c, d, e], _ => exact ⟨a, b, c, d, e, rfl⟩
set_option maxRecDepth 100000 in
theorem field_at {w : World} {base : Nat} {spare : Nat → Bool} {held : Bool} {n : Nat} {fs : Array Field} {cs : List Value} {ys : List (DataW H × List MemPlace)}
    (hg : ∀ (i : Nat) (f : Field), fs[i]? = some f → DataW.trod enc Try.prog w base spare held n f.type ((cs.drop f.offset).take (Try.prog.cellsOf f.type)) = ys[i]?) (hl : ys.length = fs.size)
    (i : Nat) (t : TypeId) (f : Field) (x : Value) (hf : fs[i]? = some f) (ho : f.offset = i) (ht : f.type = t) (hc : Try.prog.cellsOf t = 1) (hx : cs[i]? = some x) : ∃ y, DataW.trod enc Try.prog w base spare held n t [x] = some y := by
  have h := hg i f hf
  have hi : i < ys.length := by
    rw [hl]
    rcases Nat.lt_or_ge i fs.size with h | h
    · exact h
    · rw [Array.getElem?_eq_none h] at hf; cases hf
  have hj : i < cs.length := by
    rcases Nat.lt_or_ge i cs.length with h | h
    · exact h
    · rw [List.getElem?_eq_none h] at hx; cases hx
  rw [ht, ho, hc, List.getElem?_eq_getElem hi] at h
  rw [List.getElem?_eq_getElem hj] at hx
  have h1 : (cs.drop i).take 1 = [x] := by
    rw [List.drop_eq_getElem_cons hj, Option.some.inj hx]
    rfl
  rw [h1] at h
  exact ⟨_, h⟩
set_option maxRecDepth 100000 in
theorem open_bytes {W : World} {r : Reach} {b0 : Nat} {v : Value} {d : DataW H} {ps : List MemPlace}
    (hval : Value.okWide Try.prog W r b0 35 v) (hd : DataW.Trod enc Try.prog W 0 (fun _ => true) true 35 v d ps) : ∃ (A : Option Addr) (xs : List Int) (c : Nat), v = .slice A xs.length c ∧ BL W A xs ∧ xs.length ≤ maxLen ∧ xs.length ≤ c ∧ (xs = [] ∨ ∃ es sp, d = .slice es sp ∧ xs.length = es.length) ∧ (A = none → c = 0) := by
  obtain ⟨A, n, c, rfl⟩ := slice_val Try.underlying35 hval
  obtain ⟨fuel, hf⟩ := hd
  rcases Go.Deep.open_slice1 Try.underlying35 (by kernel_rfl) hf with ⟨h1, _⟩ | ⟨a, len, cap, m, k, V, D, Pl, h1, _, hl, hm, hmm, hdat, hx⟩
  · simp only [Value.cells] at h1
    injection h1 with h1 _
    injection h1 with e1 e2 e3
    subst e1; subst e2; subst e3
    exact ⟨none, [], 0, rfl, fun k x h => by simp at h, by decide, Nat.le_refl _, Or.inl rfl, fun _ => rfl⟩
  · simp only [Value.cells] at h1
    injection h1 with h1 _
    injection h1 with e1 e2 e3
    subst e1; subst e2; subst e3
    have hb : ∀ i, i < n → ∃ b : Int, W.cell? (a.add i) = some (.int .u8 b) ∧ 0 ≤ b ∧ b < 256 := by
      intro i hi
      obtain ⟨h2, h3⟩ := hx i (by rw [hmm]; simp; omega)
      obtain ⟨b, hv, hlt⟩ := trod_num Try.underlying5 h3
      have := u8_wf hlt
      exact ⟨b, by rw [h2, hv], this.1, by omega⟩
    obtain ⟨f, hfn⟩ := Go.Deep.choose_lt (α := Int) (p := fun i b => W.cell? (a.add i) = some (.int .u8 b) ∧ 0 ≤ b ∧ b < 256) hb
    refine ⟨some a, (List.range n).map f, c, by simp, ?_, by simp; omega, by simp; exact hl, Or.inr ⟨_, _, congrArg (·.1) hdat, by simp⟩, fun h => by cases h⟩
    intro i x hix
    have hi : i < n := by
      rcases Nat.lt_or_ge i n with h | h
      · exact h
      · rw [List.getElem?_eq_none (by simpa using h)] at hix; cases hix
    have : x = f i := by
      rw [List.getElem?_map, List.getElem?_range hi] at hix
      exact (Option.some.inj hix).symm
    subst this
    exact ⟨a, rfl, (hfn i hi).1, (hfn i hi).2⟩
end
end Go.Proofs.Ytnlimdlmhfnkiaa.FrameW


/- Frames compared; frames that lie in memory. -/
namespace Go.Proofs.Ytnlimdlmhfnkiaa.FrameW
open Go.RowKit
set_option maxRecDepth 100000 in
theorem guardD : Try.prog.eqGuardType Try.prog.depth 39 = false := by kernel_rfl
set_option maxRecDepth 100000 in
theorem eql_dat (c l n : Int) (p : ByteArray) (s : Int) (w : World) : (binOp .eql 39 (.agg #[.int .i64 c, .int .i64 l, .int .i64 n, .string p, .int .i64 s]) (.agg #[.int .i64 c, .int .i64 l, .int .i64 n, .string p, .int .i64 s])).run Try.prog w = .ok (.bool true) w := by
  have u3 := Try.underlying3
  have u4 := Try.underlying9
  have a3 := Try.isAgg3
  have z3 := Try.sizeOf3
  have a4 := Try.isAgg9
  have z4 := Try.sizeOf9
  have hS : Try.prog.underlying 39 = some (.struct (Try.prog.fieldsOf 39)) := by kernel_rfl
  have hp : Try.prog.stoodInHeld 39 = false := by kernel_rfl
  rw [run_eql_struct, show (10000 : Nat) = 9999 + 1 from rfl, run_equalIn_agg w 9999 39 _ _ hS hp]
  simp only [Program.fieldsOf, Try.underlying39]
  go_simp
set_option maxRecDepth 100000 in
theorem neq_of_eql {t : TypeId} {xs ys : Array Value} {w : World} (h : (binOp .eql t (.agg xs) (.agg ys)).run Try.prog w = .ok (.bool true) w) : (binOp .neq t (.agg xs) (.agg ys)).run Try.prog w = .ok (.bool false) w := by
  rw [run_eql_struct] at h
  rw [run_neq_struct]
  cases hr : (Op.equalIn 10000 t (.agg xs) (.agg ys)).run Try.prog w with
  | ok b w' => rw [hr] at h; simp [Result.andThen] at h ⊢; obtain ⟨rfl, rfl⟩ := h; simp
  | _ => rw [hr] at h; simp [Result.andThen] at h
set_option maxRecDepth 100000 in
theorem neq_dat (c l n : Int) (p : ByteArray) (s : Int) (w : World) : (binOp .neq 39 (.agg #[.int .i64 c, .int .i64 l, .int .i64 n, .string p, .int .i64 s]) (.agg #[.int .i64 c, .int .i64 l, .int .i64 n, .string p, .int .i64 s])).run Try.prog w = .ok (.bool false) w := neq_of_eql (eql_dat c l n p s w)
end Go.Proofs.Ytnlimdlmhfnkiaa.FrameW

