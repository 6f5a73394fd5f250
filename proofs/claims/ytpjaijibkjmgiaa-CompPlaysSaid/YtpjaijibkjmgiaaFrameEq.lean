/- Frames compared; frames that lie in memory. -/
import Derived.Test.YtpjaijibkjmgiaaFrameLay
import Derived.Test.YtpjaijibkjmgiaaFrameK
import Derived.Test.YtpjaijibkjmgiaaFrameH
import Derived.Lib.ConvBytes
import Derived.Laws.StructEq
namespace Go.Proofs.Ytpjaijibkjmgiaa.FrameW
open Go.RowKit
set_option maxRecDepth 100000 in
theorem eql_ctl (k f cy cr cl : Int) (w : World) : (binOp .eql 31 (.agg #[.int .i64 k, .int .i64 f, .int .i64 cy, .int .u32 cr, .int .i64 cl]) (.agg #[.int .i64 k, .int .i64 f, .int .i64 cy, .int .u32 cr, .int .i64 cl])).run Try.prog w = .ok (.bool true) w := by
  have u3 := Try.underlying3
  have u2 := Try.underlying2
  have u4 := Try.underlying29
  have a3 := Try.isAgg3
  have z3 := Try.sizeOf3
  have a2 := Try.isAgg2
  have z2 := Try.sizeOf2
  have a4 := Try.isAgg29
  have z4 := Try.sizeOf29
  have hS : Try.prog.underlying 31 = some (.struct (Try.prog.fieldsOf 31)) := by kernel_rfl
  have hp : Try.prog.stoodInHeld 31 = false := by kernel_rfl
  rw [run_eql_struct, show (10000 : Nat) = 9999 + 1 from rfl, run_equalIn_agg w 9999 31 _ _ hS hp]
  simp only [Program.fieldsOf, Try.underlying31]
  go_simp
theorem neq_of_eql {t : TypeId} {xs ys : Array Value} {w : World} (h : (binOp .eql t (.agg xs) (.agg ys)).run Try.prog w = .ok (.bool true) w) : (binOp .neq t (.agg xs) (.agg ys)).run Try.prog w = .ok (.bool false) w := by
  rw [run_eql_struct] at h
  rw [run_neq_struct]
  cases hr : (Op.equalIn 10000 t (.agg xs) (.agg ys)).run Try.prog w with
  | ok b w' => rw [hr] at h; simp [Result.andThen] at h ⊢; obtain ⟨rfl, rfl⟩ := h; simp
  | _ => rw [hr] at h; simp [Result.andThen] at h
theorem neq_ctl (k f cy cr cl : Int) (w : World) : (binOp .neq 31 (.agg #[.int .i64 k, .int .i64 f, .int .i64 cy, .int .u32 cr, .int .i64 cl]) (.agg #[.int .i64 k, .int .i64 f, .int .i64 cy, .int .u32 cr, .int .i64 cl])).run Try.prog w = .ok (.bool false) w := neq_of_eql (eql_ctl k f cy cr cl w)
end Go.Proofs.Ytpjaijibkjmgiaa.FrameW

