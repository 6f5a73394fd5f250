/- Frames compared; frames that lie in memory. -/
import Derived.Test.YtjejljjahmbhiaaFrameLay
import Derived.Test.YtjejljjahmbhiaaFrameL
import Derived.Laws.StructEq
namespace Go.Proofs.Ytjejljjahmbhiaa.FrameW
open Go.RowKit
theorem guardC : Try.prog.eqGuardType Try.prog.depth 24 = false := by kernel_rfl
theorem guardD : Try.prog.eqGuardType Try.prog.depth 36 = false := by kernel_rfl
set_option maxRecDepth 100000 in
theorem eql_ctl (k f cy cr cl : Int) (w : World) : (binOp .eql 24 (.agg #[.int .i64 k, .int .i64 f, .int .i64 cy, .int .u32 cr, .int .i64 cl]) (.agg #[.int .i64 k, .int .i64 f, .int .i64 cy, .int .u32 cr, .int .i64 cl])).run Try.prog w = .ok (.bool true) w := by
  have u3 := Try.underlying3
  have u2 := Try.underlying2
  have u4 := Try.underlying22
  have a3 := Try.isAgg3
  have z3 := Try.sizeOf3
  have a2 := Try.isAgg2
  have z2 := Try.sizeOf2
  have a4 := Try.isAgg22
  have z4 := Try.sizeOf22
  have hS : Try.prog.underlying 24 = some (.struct (Try.prog.fieldsOf 24)) := by kernel_rfl
  have hp : Try.prog.stoodInHeld 24 = false := by kernel_rfl
  rw [run_eql_struct, show (10000 : Nat) = 9999 + 1 from rfl, run_equalIn_agg w 9999 24 _ _ hS hp]
  simp only [Program.fieldsOf, Try.underlying24]
  go_simp
set_option maxRecDepth 100000 in
theorem eql_dat (c l n : Int) (p : ByteArray) (s : Int) (w : World) : (binOp .eql 36 (.agg #[.int .i64 c, .int .i64 l, .int .i64 n, .string p, .int .i64 s]) (.agg #[.int .i64 c, .int .i64 l, .int .i64 n, .string p, .int .i64 s])).run Try.prog w = .ok (.bool true) w := by
  have u3 := Try.underlying3
  have u4 := Try.underlying9
  have a3 := Try.isAgg3
  have z3 := Try.sizeOf3
  have a4 := Try.isAgg9
  have z4 := Try.sizeOf9
  have hS : Try.prog.underlying 36 = some (.struct (Try.prog.fieldsOf 36)) := by kernel_rfl
  have hp : Try.prog.stoodInHeld 36 = false := by kernel_rfl
  rw [run_eql_struct, show (10000 : Nat) = 9999 + 1 from rfl, run_equalIn_agg w 9999 36 _ _ hS hp]
  simp only [Program.fieldsOf, Try.underlying36]
  go_simp
theorem neq_of_eql {t : TypeId} {xs ys : Array Value} {w : World} (h : (binOp .eql t (.agg xs) (.agg ys)).run Try.prog w = .ok (.bool true) w) : (binOp .neq t (.agg xs) (.agg ys)).run Try.prog w = .ok (.bool false) w := by
  rw [run_eql_struct] at h
  rw [run_neq_struct]
  cases hr : (Op.equalIn 10000 t (.agg xs) (.agg ys)).run Try.prog w with
  | ok b w' => rw [hr] at h; simp [Result.andThen] at h ⊢; obtain ⟨rfl, rfl⟩ := h; simp
  | _ => rw [hr] at h; simp [Result.andThen] at h
theorem neq_ctl (k f cy cr cl : Int) (w : World) : (binOp .neq 24 (.agg #[.int .i64 k, .int .i64 f, .int .i64 cy, .int .u32 cr, .int .i64 cl]) (.agg #[.int .i64 k, .int .i64 f, .int .i64 cy, .int .u32 cr, .int .i64 cl])).run Try.prog w = .ok (.bool false) w := neq_of_eql (eql_ctl k f cy cr cl w)
theorem neq_dat (c l n : Int) (p : ByteArray) (s : Int) (w : World) : (binOp .neq 36 (.agg #[.int .i64 c, .int .i64 l, .int .i64 n, .string p, .int .i64 s]) (.agg #[.int .i64 c, .int .i64 l, .int .i64 n, .string p, .int .i64 s])).run Try.prog w = .ok (.bool false) w := neq_of_eql (eql_dat c l n p s w)
theorem conv_row {w : World} {base : Nat} {A : Option Addr} {m c : Nat} {xs : List Int} (h : OB w base (.slice A m c) xs) : (convert 26 9 (.slice A m c)).run Try.prog w = .ok (.string (strOfNums xs)) w := by
  obtain ⟨A', m', c', hv, hm, hb, hc⟩ := h.form2
  cases hv
  exact conv_str hb hm
theorem cells10 {w : World} {g j : Nat} {x y z u v x' y' z' u' v' : Value} {t t' : TypeId} {fr fr' : Nat × Nat} (h : w.heap[g]? = some (.cells #[x, y, z, u, v] t fr)) (h' : w.heap[j]? = some (.cells #[x', y', z', u', v'] t' fr')) :
    w.cell? ⟨g, 0, none⟩ = some x ∧ w.cell? ⟨g, 1, none⟩ = some y ∧ w.cell? ⟨g, 2, none⟩ = some z ∧ w.cell? ⟨g, 3, none⟩ = some u ∧ w.cell? ⟨g, 4, none⟩ = some v ∧
    w.cell? ⟨j, 0, none⟩ = some x' ∧ w.cell? ⟨j, 1, none⟩ = some y' ∧ w.cell? ⟨j, 2, none⟩ = some z' ∧ w.cell? ⟨j, 3, none⟩ = some u' ∧ w.cell? ⟨j, 4, none⟩ = some v' := by
  obtain ⟨a0, a1, a2, a3, a4⟩ := cells5 h
  obtain ⟨b0, b1, b2, b3, b4⟩ := cells5 h'
  exact ⟨a0, a1, a2, a3, a4, b0, b1, b2, b3, b4⟩
end Go.Proofs.Ytjejljjahmbhiaa.FrameW
