/- tocsinlaw18.RelayKeeps answers true at every input: a configuration and bytes that were handed in may be written over. No condition but the row's own. -/
import Derived.Test.YtecgpibidcifpaaRelayLBJa
import Derived.Test.YtecgpibidcifpaaRelayKJa
import Derived.Test.YtecgpibidcifpaaRelayFixed
import Derived.Test.YtecgpibidcifpaaRelayKeepsW
import Derived.Test.YtecgpibidcifpaaConfCpZ
namespace Go.Proofs.Ytecgpibidcifpaa.RelayW.RelayKeeps
open Go.ChangeShapes Go.WideShapes Go.ChangeAt Go.RowKit RelayW Shell
set_option maxRecDepth 100000 in
/-- What the walk gives, for every argument and every world. -/
theorem contract (H : Type) (enc : TypeId × Value → H) (W : World) (base : Nat) (args : Array Value) (ds gs : List (DataW H)) (before : List MemPlace)
    (hval : ∀ (j : Nat) t v, Try.f6.params[j]? = some t → args[j]? = some v → Value.okWide Try.prog W .any base t v)
    (hW : DataW.Whole enc Try.prog Try.f6.params.toList Rows.relayKeepsSpec.vars false W args.toList ds gs before) (hz : (DataW.weightsEach Try.prog (Try.f6.params.toList ++ (OpenSpec.ofChange Rows.relayKeepsSpec).bare.plain.varTypes Try.prog) (ds ++ gs)).all (· ≤ reachBytes) = true) : 
    Calls Try.prog 6 args W fun e W' => ∃ v, e = .returned v ∧ Rows.relayKeepsSpec.post enc Try.prog Try.f6 false true false false W args v W' := by
  have hW' := hW
  obtain ⟨p, q, hA0, hV, rfl, hfz, hnd⟩ := hW
  have hA : DataW.TrodAll enc Try.prog W 0 (fun _ => true) true Try.f6.params.toList args.toList ds p := hA0
  rw [Try.params6] at hA hval
  obtain ⟨v0, vs0, d0, ds0, p0, q0, hargs, rfl, rfl, h0, r0⟩ := trodAll_cons hA
  obtain ⟨v1, vs1, d1, ds1, p1, q1, rfl, rfl, rfl, h1, r1⟩ := trodAll_cons r0
  obtain ⟨rfl, rfl, rfl⟩ := trodAll_nil r1
  obtain rfl : args = #[v0, v1] := by cases args; simp_all
  obtain ⟨rfl, rfl⟩ := trodVars_none hV
  obtain ⟨c0, D0, E0, L0, nd0, cd0, ne0, ce0, nl0, cl0, rfl, m0, s0⟩ := ConfW.open_cfg (hval 0 26 v0 rfl rfl) h0
  obtain ⟨ys0, hy0, s00, s01, s02⟩ := s0
  have Z0 := ConfW.sized_cfg hz (j := 0) (ys := ys0) (by rw [Try.params6]; rfl) (by rw [hy0]; rfl) c0 s00 s01 s02
  rw [← m0.nD, ← m0.nE, ← m0.nL] at Z0
  obtain ⟨o, rfl, f1, l1, lc1, nn1, sz1⟩ := open_op (hval 1 39 v1 rfl rfl) h1
  obtain ⟨yo, hyo, so⟩ := sz1
  have zo := sized_op hz (j := 1) (ys := yo) (by rw [Try.params6]; rfl) (by rw [hyo]; rfl) so
  refine (keeps_walk landed c0 D0 E0 L0 nd0 cd0 ne0 ce0 nl0 cl0 o W m0 f1 (by have h := l1; unfold maxLen at h; omega) lc1 nn1 (Nat.le_trans zo (by decide)) Z0.1 Z0.2.1 Z0.2.2.1 Z0.2.2.2 (ConfW.CM.wf c0 D0 E0 L0 nd0 cd0 ne0 ce0 nl0 cl0 m0) m0.he.u32 m0.hl.u32).mono fun e W' ⟨he, hb⟩ => ?_
  exact ⟨_, he, Shell.post_law ConfW.laidOut (by kernel_rfl) rfl Try.underlying4 rfl hW' rfl hb⟩
theorem reads (os : Os) {H : Type} (enc : TypeId × Value → H) : ∃ places, DataW.whole enc Try.prog ((World.holding Try.prog os ⟨#[], #[], []⟩).forCall (fun _ _ => 0) ⟨#[], #[.agg #[.int .i64 0, .int .i64 0, .int .i64 0, .int .i64 0, .int .i64 0, .slice none 0 0, .slice none 0 0, .slice none 0 0, .int .i64 0], .agg #[.int .i64 0, .int .i64 0, .int .i64 0, .slice none 0 0]], []⟩).memory Try.f6.params.toList Rows.relayKeepsSpec.vars false (#[Value.agg #[.int .i64 0, .int .i64 0, .int .i64 0, .int .i64 0, .int .i64 0, .slice none 0 0, .slice none 0 0, .slice none 0 0, .int .i64 0], Value.agg #[.int .i64 0, .int .i64 0, .int .i64 0, .slice none 0 0]]).toList 8 = some ([.agg [.lit (.int .i64 0), .lit (.int .i64 0), .lit (.int .i64 0), .lit (.int .i64 0), .lit (.int .i64 0), .nil, .nil, .nil, .lit (.int .i64 0)], .agg [.lit (.int .i64 0), .lit (.int .i64 0), .lit (.int .i64 0), .nil]], [], places) :=
  ⟨[], by kernel_rfl⟩
set_option maxRecDepth 100000 in
theorem lifted (os : Os) (started : os.Started) (H : Type) (enc : TypeId × Value → H) (F : Stop.Interp) :
    ReturnsInHanded {} Try.checked os 6 .any ((OpenSpec.ofChange Rows.relayKeepsSpec).preRow enc Try.prog Try.f6 Rows.relayKeepsRow.domain false Rows.relayKeepsRow.laid) (((OpenSpec.ofChange Rows.relayKeepsSpec).at F).post enc Try.prog Try.f6 false true false false) := by
  obtain ⟨places, hx⟩ := reads os enc
  refine returnsInHanded_of_row (C := Try.checked) (s := OpenSpec.ofChange Rows.relayKeepsSpec) ConfW.own started (by kernel_rfl) Try.func6
    (witness_row_atRef (enc := enc) (C := Try.checked) false (World.holding Try.prog os ⟨#[], #[], []⟩) #[.agg #[.int .i64 0, .int .i64 0, .int .i64 0, .int .i64 0, .int .i64 0, .slice none 0 0, .slice none 0 0, .slice none 0 0, .int .i64 0], .agg #[.int .i64 0, .int .i64 0, .int .i64 0, .slice none 0 0]] rfl (by kernel_rfl) (by kernel_rfl) (by kernel_rfl)
      (OpenSpec.preRow_of_cond 8 hx (by kernel_rfl) (fun k hk => by cases hk) (by kernel_rfl) (ConfW.laid_met os _))) ?_
  intro W base args ds gs before hval hW _ _ hz hL _ _
  exact contract H enc W base args ds gs before hval hW hz
theorem said : Rows.RelayKeepsSaid :=
  OpenClaim.holds_of_cond 6 Try.f6 rfl rfl rfl rfl rfl rfl rfl ⟨rfl, rfl, rfl, rfl, rfl⟩ rfl rfl rfl rfl rfl (by kernel_rfl) Try.func6 (by kernel_rfl)
    (of_decide_eq_true (by kernel_rfl)) (by unfold Func.isWrapper; first | (rw [if_pos (by decide +kernel)]; kernel_rfl) | (rw [if_neg (by decide +kernel)]; exact ⟨rfl, rfl⟩))
    (fun os started H enc _ F => by rw [OpenClaim.pre_eq_preRow]; exact lifted os started H enc F)
end Go.Proofs.Ytecgpibidcifpaa.RelayW.RelayKeeps
