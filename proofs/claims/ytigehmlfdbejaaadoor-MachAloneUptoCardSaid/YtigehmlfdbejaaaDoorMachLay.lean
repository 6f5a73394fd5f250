/- What the row's listed variable gives a walk; a world for the witness; arguments opened. -/
import Derived.Test.YtigehmlfdbejaaaDoorMachFixed
import Derived.Test.YtigehmlfdbejaaaDoorLawShell
import Derived.Test.YtigehmlfdbejaaaDoorCards
import Derived.Test.YtigehmlfdbejaaaDoorTie
import Derived.ProofKit
import Derived.OpenShut
import Derived.Laws.Cover2
import Derived.Deep.DeepHandedRow
import Derived.Deep.DeepWitnessRowRef
import Derived.Lib.LaidTab
import Derived.SizedLaws
namespace Go.Proofs.YtigehmlfdbejaaaDoor.MachW
open Go.ChangeShapes Go.WideShapes Go.ChangeAt Go.RowKit Shell
open CrewW (Tz u32_bound)
theorem own : ownKnob Tryd.prog.godebug = none := by kernel_rfl
theorem laidOut : laidOutB Tryd.prog = true := by kernel_rfl
def lay : List (String × DataW Unit) := Rows.machRunsRow.laid
theorem gTab : Tryd.prog.globalNamed "math/bits.deBruijn32tab" = some 0 := by kernel_rfl
theorem gTabType : (Tryd.prog.globals[0]?).map (·.type) = some 62 := by kernel_rfl
theorem tz_of {W : World} (h : laidMetH Tryd.prog lay W) : Tz W := by
  have h1 : laidMet Tryd.prog lay W := h
  have ht : Lib.TabIs Tryd.prog W "math/bits.deBruijn32tab" .u8 [0, 1, 28, 2, 29, 14, 24, 3, 30, 22, 20, 15, 25, 17, 4, 8, 31, 27, 13, 23, 21, 19, 16, 7, 26, 12, 18, 6, 11, 5, 10, 9] :=
    Lib.tabIs_of_head (rest := _) gTab gTabType Tryd.underlying62 Tryd.underlying5 (by kernel_rfl) (by kernel_rfl) h1
  intro j hj
  have hc := ht.cell gTab j hj
  have e : ∀ j, j < 32 → (([0, 1, 28, 2, 29, 14, 24, 3, 30, 22, 20, 15, 25, 17, 4, 8, 31, 27, 13, 23, 21, 19, 16, 7, 26, 12, 18, 6, 11, 5, 10, 9] : List Int).getD j 0) = ((Go.Lib.deBruijn32tab.getD j 0 : Nat) : Int) := by decide
  rw [← e j hj]
  exact hc
/-- A world for the witness: the settled one, the listed variable holding what its initialiser lays. -/
noncomputable def laidWorld (os : Os) : World :=
  let w0 := World.holding Tryd.prog os ⟨#[], #[], []⟩
  let put (h : Array Obj) (g : Nat) (cs : Array Value) : Array Obj := h.modify g fun
    | .cells _ t frozen => .cells cs t frozen
    | o => o
  let h0 := put w0.heap 0 ([0, 1, 28, 2, 29, 14, 24, 3, 30, 22, 20, 15, 25, 17, 4, 8, 31, 27, 13, 23, 21, 19, 16, 7, 26, 12, 18, 6, 11, 5, 10, 9].map fun z : Int => Value.int .u8 z).toArray
  { w0 with heap := h0 }
theorem laid_met (os : Os) (args : Array Value) : laidMet Tryd.prog lay ((laidWorld os).forCall (fun _ _ => 0) ⟨#[], args, []⟩).memory :=
  laidMet_of_run' 8 (by kernel_rfl) (by kernel_rfl)
theorem u32_nat {n : Int} (h : (Lit.int .u32 n).wf = true) : ∃ c : Nat, n = (c : Int) ∧ c < 4294967296 := by
  obtain ⟨h0, h1⟩ := u32_bound h
  exact ⟨n.toNat, by omega, by omega⟩
theorem u8_nat {n : Int} (h : (Lit.int .u8 n).wf = true) : ∃ c : Nat, n = (c : Int) ∧ c < 256 := by
  have hb : 0 ≤ n ∧ n < 256 := by
    simp [Lit.wf] at h
    have h2 : n ≤ 255 := h.2
    exact ⟨h.1, by omega⟩
  exact ⟨n.toNat, by omega, by omega⟩
theorem four {α : Type} {a : Array α} (h : a.size = 4) : ∃ x0 x1 x2 x3, a = #[x0, x1, x2, x3] := by
  obtain ⟨l⟩ := a
  match l, h with
  | [x0, x1, x2, x3], _ => exact ⟨x0, x1, x2, x3, rfl⟩
section
variable {H : Type} {enc : TypeId × Value → H}
set_option maxRecDepth 100000 in
theorem open_mach {W : World} {r : Reach} {b0 : Nat} {v : Value} {d : DataW H} {ps : List MemPlace}
    (hval : Value.okWide Tryd.prog W r b0 36 v) (hd : DataW.Trod enc Tryd.prog W 0 (fun _ => true) true 36 v d ps) : ∃ a : Mc, v = mv a ∧ a.c < 4294967296 ∧ -9223372036854775808 ≤ a.m ∧ a.m ≤ 9223372036854775807 := by
  simp only [Value.okWide, Tryd.underlying36] at hval
  obtain ⟨cs, rfl, hsz, -⟩ := hval
  rw [show Tryd.prog.cellsOf 36 = 4 by kernel_rfl] at hsz
  obtain ⟨x0, x1, x2, x3, rfl⟩ := four hsz
  obtain ⟨fuel, hf⟩ := hd
  obtain ⟨ys, k', -, -, -, hyl, hg⟩ := DataW.trod_struct Tryd.underlying36 hf
  have c3 : Tryd.prog.cellsOf 3 = 1 := by kernel_rfl
  have c22 : Tryd.prog.cellsOf 28 = 1 := by kernel_rfl
  obtain ⟨y0, h0⟩ := fieldC hg hyl 0 3 _ 0 1 rfl rfl rfl c3
  obtain ⟨y1, h1⟩ := fieldC hg hyl 1 28 _ 1 1 rfl rfl rfl c22
  obtain ⟨y2, h2⟩ := fieldC hg hyl 2 3 _ 2 1 rfl rfl rfl c3
  obtain ⟨y3, h3⟩ := fieldC hg hyl 3 3 _ 3 1 rfl rfl rfl c3
  obtain ⟨s, rfl, -⟩ := trod_num Tryd.underlying3 h0
  obtain ⟨c, rfl, wc⟩ := trod_num Tryd.underlying28 h1
  obtain ⟨m, rfl, wm⟩ := trod_num Tryd.underlying3 h2
  obtain ⟨x, rfl, -⟩ := trod_num Tryd.underlying3 h3
  obtain ⟨c, rfl, hc⟩ := u32_nat wc
  have hm : -9223372036854775808 ≤ m ∧ m ≤ 9223372036854775807 := by
    simp [Lit.wf] at wm
    exact wm
  exact ⟨⟨s, c, m, x⟩, rfl, hc, hm.1, hm.2⟩
end
/-- The events of rows that came in. -/
def evs (rows : List (List Int)) (i : Nat) : Int × Nat := (((rows[i]?).getD []).getD 0 0, (((rows[i]?).getD []).getD 1 0).toNat)
theorem ev_of {w : World} {A : Option Addr} {rows : List (List Int)} (h : RL w [.i64, .u32] A rows) : EV w A rows.length (evs rows) := by
  intro i hi
  obtain ⟨xs, hx⟩ : ∃ xs, rows[i]? = some xs := ⟨_, List.getElem?_eq_getElem hi⟩
  obtain ⟨b, off, hA, hl, hc⟩ := h.cellAt (by decide) hx
  obtain ⟨k, e, rfl⟩ := len2 hl
  obtain ⟨c0, -⟩ := hc 0 .i64 k rfl rfl
  obtain ⟨c1, w1⟩ := hc 1 .u32 e rfl rfl
  obtain ⟨e, rfl, he⟩ := u32_nat w1
  have hv : evs rows i = (k, e) := by unfold evs; rw [hx]; rfl
  rw [hv]
  exact ⟨b, off, hA, c0, c1, he⟩
end Go.Proofs.YtigehmlfdbejaaaDoor.MachW
