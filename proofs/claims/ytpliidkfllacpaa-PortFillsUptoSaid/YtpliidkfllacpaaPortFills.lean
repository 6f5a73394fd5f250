/- tocsinlaw16.PortFills answers true at every input of small bulk (its second form): a port takes just as many frames as it has room for, and has that room again when one was taken. Condition: what came in is of small bulk (a frame is numbered by its place, and no right frame has a number above 2147483647). -/
import Derived.Test.YtpliidkfllacpaaPortLay
import Derived.Test.YtpliidkfllacpaaPortFillsW
namespace Go.Proofs.Ytpliidkfllacpaa.PortW.PortFills
open Go.ChangeShapes Go.WideShapes Go.ChangeAt Go.RowKit PortW Shell
theorem walkI (q : Int) (A : Option Addr) (bs : List Bool) (cp : Nat) (w : World) (wq : (Lit.int .u8 q).wf = true) (h : BB w A bs) (hm : bs.length ≤ 1048577) : Calls Try.prog 6 #[.int .u8 q, .slice A bs.length cp] w fun r w' => r = .returned (.bool true) ∧ Below w.heap.size w w' := by
  obtain ⟨n, rfl, hn⟩ := u8_nat wq
  exact walkS landed n A bs bs.length cp w hn h rfl hm
theorem short {H : Type} {l : Lit} {d : DataW H} {xs : List Bool} (hk : Rows.uptoSmall H [.lit l, d] = true) (hs : xs = [] ∨ ∃ es sp, d = .slice es sp ∧ xs.length = es.length) : xs.length ≤ 1048577 := by
  have h : Rows.uptoBulkAll [DataW.lit l, d] ≤ 1048576 := of_decide_eq_true hk
  have h2 : ∀ l : List (DataW H), l.length ≤ Rows.uptoBulkAll l := by
    intro l
    induction l with
    | nil => simp [Rows.uptoBulkAll]
    | cons x l ih =>
      have h1 : 1 ≤ Rows.uptoBulk x := by
        cases x with
        | lit l => cases l <;> simp [Rows.uptoBulk]
        | nil => simp [Rows.uptoBulk]
        | ptr d => simp [Rows.uptoBulk]
        | slice elems spare => simp [Rows.uptoBulk]
        | agg parts => simp [Rows.uptoBulk]
        | iface t d => simp [Rows.uptoBulk]
        | map entries => simp [Rows.uptoBulk]
        | held h => simp [Rows.uptoBulk]
      simp only [Rows.uptoBulkAll, List.length_cons]; omega
  rcases hs with rfl | ⟨es, sp, rfl, hl⟩
  · decide
  · have h3 := h2 es
    simp only [Rows.uptoBulkAll, Rows.uptoBulk] at h
    omega
set_option maxRecDepth 100000 in
/-- What the walk gives, for every argument and every world. -/
theorem contract (H : Type) (enc : TypeId × Value → H) (W : World) (base : Nat) (args : Array Value) (ds gs : List (DataW H)) (before : List MemPlace)
    (hval : ∀ (j : Nat) t v, Try.f6.params[j]? = some t → args[j]? = some v → Value.okWide Try.prog W .any base t v)
    (hW : DataW.Whole enc Try.prog Try.f6.params.toList Rows.portFillsSpec.vars false W args.toList ds gs before) (hk : Rows.uptoSmall H (ds ++ gs) = true) : 
    Calls Try.prog 6 args W fun e W' => ∃ v, e = .returned v ∧ Rows.portFillsSpec.post enc Try.prog Try.f6 false true false false W args v W' := by
  have hW' := hW
  obtain ⟨p, q, hA0, hV, rfl, hfz, hnd⟩ := hW
  have hA : DataW.TrodAll enc Try.prog W 0 (fun _ => true) true Try.f6.params.toList args.toList ds p := hA0
  rw [Try.params6] at hA hval
  obtain ⟨v0, vs0, d0, ds0, p0, q0, hargs, rfl, rfl, h0, r0⟩ := trodAll_cons hA
  obtain ⟨v1, vs1, d1, ds1, p1, q1, rfl, rfl, rfl, h1, r1⟩ := trodAll_cons r0
  obtain ⟨rfl, rfl, rfl⟩ := trodAll_nil r1
  obtain rfl : args = #[v0, v1] := by cases args; simp_all
  obtain ⟨rfl, rfl⟩ := trodVars_none hV
  simp only [List.append_nil] at hk
  obtain ⟨most, rfl, rfl, rfl, w0⟩ := open_int Try.underlying5 (hval 0 5 v0 rfl rfl) h0
  obtain ⟨A1, xs, c1, rfl, f1, l1, lc1, sz1, nl1⟩ := open_bools Try.underlying45 Try.underlying4 (by kernel_rfl) (hval 1 45 v1 rfl rfl) h1
  refine (walkI most A1 xs c1 W w0 f1 (short hk sz1)).mono fun e W' ⟨he, hb⟩ => ?_
  exact ⟨_, he, Shell.post_law laidOut (by kernel_rfl) rfl Try.underlying4 rfl hW' rfl hb⟩
theorem reads (os : Os) {H : Type} (enc : TypeId × Value → H) : ∃ places, DataW.whole enc Try.prog ((World.holding Try.prog os ⟨#[], #[], []⟩).forCall (fun _ _ => 0) ⟨#[], #[.int .u8 0, .slice none 0 0], []⟩).memory Try.f6.params.toList Rows.portFillsSpec.vars false (#[Value.int .u8 0, Value.slice none 0 0]).toList 8 = some ([.lit (.int .u8 0), .nil], [], places) :=
  ⟨[], by kernel_rfl⟩
set_option maxRecDepth 100000 in
theorem lifted (os : Os) (started : os.Started) (H : Type) (enc : TypeId × Value → H) (F : Stop.Interp) :
    ReturnsInHanded {} Try.checked os 6 .any ((Rows.OpenSpec.upto Rows.portFillsSpec).preRow enc Try.prog Try.f6 Rows.portFillsUptoRow.domain false Rows.portFillsUptoRow.laid) (((Rows.OpenSpec.upto Rows.portFillsSpec).at F).post enc Try.prog Try.f6 false true false false) := by
  obtain ⟨places, hx⟩ := reads os enc
  refine returnsInHanded_of_row (C := Try.checked) (s := Rows.OpenSpec.upto Rows.portFillsSpec) own started (by kernel_rfl) Try.func6
    (witness_row_atRef (enc := enc) (C := Try.checked) false (World.holding Try.prog os ⟨#[], #[], []⟩) #[.int .u8 0, .slice none 0 0] rfl (by kernel_rfl) (by kernel_rfl) (by kernel_rfl)
      (OpenSpec.preRow_of_cond 8 hx (by kernel_rfl) (fun k hk => by cases hk; kernel_rfl) (by kernel_rfl) (laid_met os _))) ?_
  intro W base args ds gs before hval hW _ hcond _ hL _ _
  exact contract H enc W base args ds gs before hval hW (hcond _ rfl)
theorem saidUpto : Rows.PortFillsUptoSaid :=
  OpenClaim.holds_of_cond 6 Try.f6 rfl rfl rfl rfl rfl rfl rfl ⟨rfl, rfl, rfl, rfl, rfl⟩ rfl rfl rfl rfl rfl (by kernel_rfl) Try.func6 (by kernel_rfl)
    (of_decide_eq_true (by kernel_rfl)) (by unfold Func.isWrapper; first | (rw [if_pos (by decide +kernel)]; kernel_rfl) | (rw [if_neg (by decide +kernel)]; exact ⟨rfl, rfl⟩))
    (fun os started H enc _ F => by rw [OpenClaim.pre_eq_preRow]; exact lifted os started H enc F)
end Go.Proofs.Ytpliidkfllacpaa.PortW.PortFills
