/- Nothing to sort, nothing kept or gone. DeleteFunc. -/
import Derived.Test.YtniemmnmiefgeaaQueueV
import Derived.Shelf.SlSortCmp.NoneTotal
namespace Go.Proofs.Ytniemmnmiefgeaa.QueueW
open Go.RowKit
theorem sortI_none (A : Option Addr) (c : Nat) (fv : Value) (w : World) : Calls Try.prog 38 #[.slice A 0 c, fv] w fun e w' => e = .returned (.tuple #[]) ∧ w = w' := by
  have B := fun w => Try.bits_Len 0 w (by omega) (by omega)
  have P := fun lim w => AnyF.pdqsortCmpFunc_none (ρ := Try.pdqIt_ren) Try.pdqIt A c lim fv w
  have P' : ∀ lim w, Calls Try.prog 41 #[.slice A 0 c, .int .i64 0, .int .i64 0, .int .i64 lim, fv] w fun e w' => e = .returned (.tuple #[]) ∧ w' = w := P
  clear P
  go_enter Try.func38, Try.ntmps38
  go_wp2_with (first
    | (go_at_call 42; refine (B _).mono ?_; rintro e w' ⟨rfl, hw⟩; cases hw)
    | (go_at_call 41; refine (P' _ _).mono ?_; rintro e w' ⟨rfl, hw⟩; cases hw))
  go_end0
  exact ⟨rfl, rfl⟩
set_option maxHeartbeats 2000000 in
set_option maxRecDepth 100000 in
theorem unkeptI_none (k : Nat) (m n : Int) (v : Value) (fv : Value) (w0 : World) (h : QSI w0 k m n v []) :
    Calls Try.prog 30 #[.pointer (some ⟨k, 0, none⟩), fv] w0 fun e w' => ∃ b, e = .returned (.map (some b)) ∧ w0.heap.size ≤ b ∧ PS w' b [] ∧ Below w0.heap.size w0 w' := by
  obtain ⟨L, r, p, o⟩ := h.row
  obtain rfl : L = [] := p.eq_nil
  have c2 : w0.cell? ⟨k, 2, none⟩ = some v := cell_of_row w0 k 2 _ _ _ h.blk
  have C := Lib.hid (cloneI v [] w0 r (by decide))
  have hmm := @run_makeMap Try.prog
  obtain ⟨A, cc, hv⟩ := RowI.form r
  simp only [List.length_nil] at hv
  subst hv
  clear h r p o
  go_enter Try.func30, Try.ntmps30
  go_wp2_with fail
  refine C.out.mono ?_
  rintro e w1 ⟨v1, rfl, r1, b1⟩
  obtain ⟨A1, c1, rfl⟩ : ∃ A1 c1, v1 = .slice A1 0 c1 := by
    rcases r1.nil_form with ⟨h, _⟩ | ⟨g, c, h, _⟩
    · exact ⟨_, _, h⟩
    · exact ⟨_, _, h⟩
  have B1 := Lib.hid b1
  clear r1 b1 C
  go_wp2_with (go_at_call 38; refine (sortI_none _ _ _ _).mono ?_; rintro e w' ⟨rfl, rfl⟩)
  have H0 := Lib.hid (show PS (w1.alloc (.map #[] 0)) w1.heap.size [] ∧ Below w0.heap.size w0 (w1.alloc (.map #[] 0)) from ⟨PS.made w1, B1.out.alloc B1.out.size _⟩)
  have hb := B1.out.size
  generalize w1.heap.size = mb at *
  clear B1
  go_loopw [19] (fun iv wr => iv = .int .i64 0 ∧ Hid (PS wr mb [] ∧ Below w0.heap.size w0 wr)) (fun _ _ => 0)
  case atStart => exact ⟨rfl, H0⟩
  case round =>
    clear H0
    obtain ⟨rfl, H⟩ := hrel
    go_wp2
    go_ret
    exact ⟨mb, rfl, hb, H.out.1, H.out.2⟩
end Go.Proofs.Ytniemmnmiefgeaa.QueueW
