/- What the laws' shells take: no variable is listed; frames and bytes that came in, opened. -/
import Derived.Test.YtjejljjahmbhiaaRows
import Derived.Test.YtjejljjahmbhiaaFrameFixed
import Derived.Test.YtjejljjahmbhiaaLawShell
import Derived.Test.YtjejljjahmbhiaaOpen
import Derived.ProofKit
import Derived.OpenShut
import Derived.Laws.Cover2
import Derived.Deep.DeepHandedRow
import Derived.Deep.DeepWitnessRowRef
import Derived.SizedLaws
namespace Go.Proofs.Ytjejljjahmbhiaa.FrameW
open Go.ChangeShapes Go.WideShapes Go.ChangeAt Go.RowKit Shell
theorem own : ownKnob Try.prog.godebug = none := by kernel_rfl
theorem laidOut : laidOutB Try.prog = true := by kernel_rfl
theorem laid_met (os : Os) (args : Array Value) : laidMet Try.prog [] ((World.holding Try.prog os ⟨#[], #[], []⟩).forCall (fun _ _ => 0) ⟨#[], args, []⟩).memory :=
  laidMet_of_run' 8 (by kernel_rfl) (by kernel_rfl)
section
variable {H : Type} {enc : TypeId × Value → H}
theorem i64_wf {n : Int} (h : (Lit.int .i64 n).wf = true) : -9223372036854775808 ≤ n ∧ n ≤ 9223372036854775807 := by
  simp [Lit.wf] at h
  exact h
theorem u32_wf {n : Int} (h : (Lit.int .u32 n).wf = true) : 0 ≤ n ∧ n ≤ 4294967295 := by
  simp [Lit.wf] at h
  exact h
theorem u16_wf {n : Int} (h : (Lit.int .u16 n).wf = true) : 0 ≤ n ∧ n ≤ 65535 := by
  simp [Lit.wf] at h
  exact h
theorem u8_wf {n : Int} (h : (Lit.int .u8 n).wf = true) : 0 ≤ n ∧ n ≤ 255 := by
  simp [Lit.wf] at h
  exact h
theorem five {l : Array Value} (h : l.size = 5) : ∃ a b c d e, l = #[a, b, c, d, e] := by
  obtain ⟨l⟩ := l
  match l, h with
  | [a, b, c, d, e], _ => exact ⟨a, b, c, d, e, rfl⟩
theorem field_at {w : World} {base : Nat} {spare : Nat → Bool} {held : Bool} {n : Nat} {fs : Array Field} {cs : List Value} {ys : List (DataW H × List MemPlace)}
    (hg : ∀ (i : Nat) (f : Field), fs[i]? = some f → DataW.trod enc Try.prog w base spare held n f.type ((cs.drop f.offset).take (Try.prog.cellsOf f.type)) = ys[i]?) (hl : ys.length = fs.size)
    (i : Nat) (t : TypeId) (f : Field) (x : Value) (hf : fs[i]? = some f) (ho : f.offset = i) (ht : f.type = t) (hc : Try.prog.cellsOf t = 1) (hx : cs[i]? = some x) : ∃ y, DataW.trod enc Try.prog w base spare held n t [x] = some y := by
  have h := hg i f hf
  have hi : i < ys.length := by
    rw [hl]
    rcases Nat.lt_or_ge i fs.size with h | h
    · exact h
    · rw [Array.getElem?_eq_none h] at hf; cases hf
  have hj : i < cs.length := by
    rcases Nat.lt_or_ge i cs.length with h | h
    · exact h
    · rw [List.getElem?_eq_none h] at hx; cases hx
  rw [ht, ho, hc, List.getElem?_eq_getElem hi] at h
  rw [List.getElem?_eq_getElem hj] at hx
  have h1 : (cs.drop i).take 1 = [x] := by
    rw [List.drop_eq_getElem_cons hj, Option.some.inj hx]
    rfl
  rw [h1] at h
  exact ⟨_, h⟩
theorem open_ctl {W : World} {r : Reach} {b0 : Nat} {v : Value} {d : DataW H} {ps : List MemPlace}
    (hval : Value.okWide Try.prog W r b0 24 v) (hd : DataW.Trod enc Try.prog W 0 (fun _ => true) true 24 v d ps) : ∃ k f cy cr cl, v = CV k f cy cr cl ∧ 0 ≤ cr := by
  simp only [Value.okWide, Try.underlying24] at hval
  obtain ⟨cs, rfl, hsz, -⟩ := hval
  rw [show Try.prog.cellsOf 24 = 5 by kernel_rfl] at hsz
  obtain ⟨x0, x1, x2, x3, x4, rfl⟩ := five hsz
  obtain ⟨fuel, hf⟩ := hd
  obtain ⟨ys, k', -, -, -, hyl, hg⟩ := DataW.trod_struct Try.underlying24 hf
  have c3 : Try.prog.cellsOf 3 = 1 := by kernel_rfl
  have c2 : Try.prog.cellsOf 2 = 1 := by kernel_rfl
  have c22 : Try.prog.cellsOf 22 = 1 := by kernel_rfl
  obtain ⟨y0, h0⟩ := field_at hg hyl 0 3 _ x0 rfl rfl rfl c3 rfl
  obtain ⟨y1, h1⟩ := field_at hg hyl 1 3 _ x1 rfl rfl rfl c3 rfl
  obtain ⟨y2, h2⟩ := field_at hg hyl 2 2 _ x2 rfl rfl rfl c2 rfl
  obtain ⟨y3, h3⟩ := field_at hg hyl 3 22 _ x3 rfl rfl rfl c22 rfl
  obtain ⟨y4, h4⟩ := field_at hg hyl 4 2 _ x4 rfl rfl rfl c2 rfl
  obtain ⟨k, rfl, -⟩ := trod_num Try.underlying3 h0
  obtain ⟨f, rfl, -⟩ := trod_num Try.underlying3 h1
  obtain ⟨cy, rfl, -⟩ := trod_num Try.underlying2 h2
  obtain ⟨cr, rfl, wr⟩ := trod_num Try.underlying22 h3
  obtain ⟨cl, rfl, -⟩ := trod_num Try.underlying2 h4
  exact ⟨k, f, cy, cr, cl, rfl, (u32_wf wr).1⟩
theorem open_dat {W : World} {r : Reach} {b0 : Nat} {v : Value} {d : DataW H} {ps : List MemPlace}
    (hval : Value.okWide Try.prog W r b0 36 v) (hd : DataW.Trod enc Try.prog W 0 (fun _ => true) true 36 v d ps) : ∃ c l n p s, v = DV c l n p s ∧ p.size ≤ 9223372036854775807 := by
  simp only [Value.okWide, Try.underlying36] at hval
  obtain ⟨cs, rfl, hsz, -⟩ := hval
  rw [show Try.prog.cellsOf 36 = 5 by kernel_rfl] at hsz
  obtain ⟨x0, x1, x2, x3, x4, rfl⟩ := five hsz
  obtain ⟨fuel, hf⟩ := hd
  obtain ⟨ys, k', -, -, -, hyl, hg⟩ := DataW.trod_struct Try.underlying36 hf
  have c3 : Try.prog.cellsOf 3 = 1 := by kernel_rfl
  have c9 : Try.prog.cellsOf 9 = 1 := by kernel_rfl
  obtain ⟨y0, h0⟩ := field_at hg hyl 0 3 _ x0 rfl rfl rfl c3 rfl
  obtain ⟨y1, h1⟩ := field_at hg hyl 1 3 _ x1 rfl rfl rfl c3 rfl
  obtain ⟨y2, h2⟩ := field_at hg hyl 2 3 _ x2 rfl rfl rfl c3 rfl
  obtain ⟨y3, h3⟩ := field_at hg hyl 3 9 _ x3 rfl rfl rfl c9 rfl
  obtain ⟨y4, h4⟩ := field_at hg hyl 4 3 _ x4 rfl rfl rfl c3 rfl
  obtain ⟨k, rfl, -⟩ := trod_num Try.underlying3 h0
  obtain ⟨f, rfl, -⟩ := trod_num Try.underlying3 h1
  obtain ⟨cy, rfl, -⟩ := trod_num Try.underlying3 h2
  obtain ⟨p, hp, -, hs⟩ := DataW.trod_string Try.underlying9 h3
  obtain ⟨cl, rfl, -⟩ := trod_num Try.underlying3 h4
  obtain rfl : x3 = .string p := by simpa using hp
  exact ⟨k, f, cy, p, cl, rfl, hs⟩
theorem open_bytes {W : World} {r : Reach} {b0 : Nat} {v : Value} {d : DataW H} {ps : List MemPlace}
    (hval : Value.okWide Try.prog W r b0 26 v) (hd : DataW.Trod enc Try.prog W 0 (fun _ => true) true 26 v d ps) : ∃ (A : Option Addr) (xs : List Int) (c : Nat), v = .slice A xs.length c ∧ BL W A xs ∧ xs.length ≤ maxLen ∧ xs.length ≤ c ∧ (xs = [] ∨ ∃ es sp, d = .slice es sp ∧ xs.length = es.length) ∧ (A = none → c = 0) := by
  obtain ⟨A, n, c, rfl⟩ := slice_val Try.underlying26 hval
  obtain ⟨fuel, hf⟩ := hd
  rcases Go.Deep.open_slice1 Try.underlying26 (by kernel_rfl) hf with ⟨h1, _⟩ | ⟨a, len, cap, m, k, V, D, Pl, h1, _, hl, hm, hmm, hdat, hx⟩
  · simp only [Value.cells] at h1
    injection h1 with h1 _
    injection h1 with e1 e2 e3
    subst e1; subst e2; subst e3
    exact ⟨none, [], 0, rfl, fun k x h => by simp at h, by decide, Nat.le_refl _, Or.inl rfl, fun _ => rfl⟩
  · simp only [Value.cells] at h1
    injection h1 with h1 _
    injection h1 with e1 e2 e3
    subst e1; subst e2; subst e3
    have hb : ∀ i, i < n → ∃ b : Int, W.cell? (a.add i) = some (.int .u8 b) ∧ 0 ≤ b ∧ b < 256 := by
      intro i hi
      obtain ⟨h2, h3⟩ := hx i (by rw [hmm]; simp; omega)
      obtain ⟨b, hv, hlt⟩ := trod_num Try.underlying5 h3
      have := u8_wf hlt
      exact ⟨b, by rw [h2, hv], this.1, by omega⟩
    obtain ⟨f, hfn⟩ := Go.Deep.choose_lt (α := Int) (p := fun i b => W.cell? (a.add i) = some (.int .u8 b) ∧ 0 ≤ b ∧ b < 256) hb
    refine ⟨some a, (List.range n).map f, c, by simp, ?_, by simp; omega, by simp; exact hl, Or.inr ⟨_, _, congrArg (·.1) hdat, by simp⟩, fun h => by cases h⟩
    intro i x hix
    have hi : i < n := by
      rcases Nat.lt_or_ge i n with h | h
      · exact h
      · rw [List.getElem?_eq_none (by simpa using h)] at hix; cases hix
    have : x = f i := by
      rw [List.getElem?_map, List.getElem?_range hi] at hix
      exact (Option.some.inj hix).symm
    subst this
    exact ⟨a, rfl, (hfn i hi).1, (hfn i hi).2⟩
end
end Go.Proofs.Ytjejljjahmbhiaa.FrameW
