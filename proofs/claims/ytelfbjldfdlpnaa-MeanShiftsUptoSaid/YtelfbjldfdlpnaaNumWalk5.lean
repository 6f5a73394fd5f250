/- Walks of num.Sum, num.Least, num.Greatest and the document's sum. -/
import Derived.Test.YtelfbjldfdlpnaaNumWalk4
import Derived.Test.YtelfbjldfdlpnaaNumList
import Derived.Deep.Draws
namespace Go.Proofs.Ytelfbjldfdlpnaa.NumW
open Go.RowKit NumP
def SumV (xs : List Nat) (k : Nat) (v : Value) : Prop := ∃ s, v = .float .f64 s ∧ SumAt (xs.take k) s
def Drawn (w w' : World) : Prop := ∃ n, w' = w.drewN n
set_option maxHeartbeats 400000 in
set_option maxRecDepth 100000 in
theorem sum_any (A : Option Addr) (c : Nat) (xs : List Nat) (w : World) (h : FL w A xs) (hl : xs.length ≤ maxLen) :
    Calls Try.prog 32 #[.slice A xs.length c] w fun e w' => e = .returned (.float .f64 (sumN xs)) ∧ Drawn w w' := by
  unfold maxLen at hl
  have H := Lib.hid h
  clear h
  go_enter Try.func32, Try.ntmps32
  go_wp2
  go_loopw [3, 8] (fun s i wr => ∃ k n : Nat, k ≤ xs.length ∧ i = .int .i64 k ∧ wr = w.drewN n ∧ SumV xs k s) (fun _ i _ => xs.length - (intOf i).toNat)
  case atStart => exact ⟨0, 0, Nat.zero_le _, rfl, rfl, 0, rfl, SumAt.start xs⟩
  case round =>
    obtain ⟨k, n, hk, rfl, rfl, s, rfl, hs⟩ := hrel
    have HS := Lib.hid hs
    clear hs
    by_cases hlt : k < xs.length
    · obtain ⟨x, hx⟩ := at_ hlt
      obtain ⟨ad, rfl, hc, hb⟩ := H.out k x hx
      have HX := Lib.hid hx
      clear hx hb
      cases ha : FloatKind.f64.format.add s x with
      | some r =>
        have m : ∀ w, (binOp .add 31 (.float .f64 s) (.float .f64 x)).run Try.prog w = .ok (.float .f64 r) w := fun w => run_float_arith w _ _ _ _ _ _ ha
        have HN := Lib.hid (HS.out.some_ HX.out ha)
        clear ha
        go_wp2
        go_roundw
        case rel => exact ⟨k + 1, n, by omega, by go_num, rfl, r, rfl, HN.out⟩
        case measure => simp [intOf]; omega
      | none =>
        have m := run_nan .add 31 s x (Or.inl ⟨rfl, ha⟩)
        have HN := Lib.hid (fun t => HS.out.none_ HX.out ha (drawnNaN_nan s x t))
        clear ha
        go_wp2
        go_roundw
        case rel => exact ⟨k + 1, n + 1, by omega, by go_num, rfl, _, rfl, HN.out _⟩
        case measure => simp [intOf]; omega
    · obtain rfl : k = xs.length := by omega
      have HE : Hid (SumAt xs s) := by
        have z := HS.out
        rw [List.take_length] at z
        exact Lib.hid z
      go_wp2_with (go_at_call 44; refine (one_any _ HE.out.1 _).mono ?_; rintro e w' ⟨rfl, rfl⟩)
      go_ret
      exact ⟨ret_float HE.out.done, n, rfl⟩
end Go.Proofs.Ytelfbjldfdlpnaa.NumW

