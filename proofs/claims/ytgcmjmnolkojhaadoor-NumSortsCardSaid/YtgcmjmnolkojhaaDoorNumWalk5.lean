/- Walks of num.Sum, num.Least, num.Greatest and the document's sum. -/
import Derived.Test.YtgcmjmnolkojhaaDoorNumWalk4
import Derived.Test.YtgcmjmnolkojhaaDoorNumList
import Derived.Deep.Draws
namespace Go.Proofs.YtgcmjmnolkojhaaDoor.NumW
open Go.RowKit NumP
def SumV (xs : List Nat) (k : Nat) (v : Value) : Prop := ∃ s, v = .float .f64 s ∧ SumAt (xs.take k) s
def Drawn (w w' : World) : Prop := ∃ n, w' = w.drewN n
set_option maxHeartbeats 400000 in
set_option maxRecDepth 100000 in
theorem sum_any (A : Option Addr) (c : Nat) (xs : List Nat) (w : World) (h : FL w A xs) (hl : xs.length ≤ maxLen) :
    Calls Tryd.prog 26 #[.slice A xs.length c] w fun e w' => e = .returned (.float .f64 (sumN xs)) ∧ Drawn w w' := by
  unfold maxLen at hl
  have H := Lib.hid h
  clear h
  go_enter Tryd.func26, Tryd.ntmps26
  go_wp2
  go_loopw [3, 8] (fun s i wr => ∃ k n : Nat, k ≤ xs.length ∧ i = .int .i64 k ∧ wr = w.drewN n ∧ SumV xs k s) (fun _ i _ => xs.length - (intOf i).toNat)
  case atStart => exact ⟨0, 0, Nat.zero_le _, rfl, rfl, 0, rfl, SumAt.start xs⟩
  case round =>
    obtain ⟨k, n, hk, rfl, rfl, s, rfl, hs⟩ := hrel
    have HS := Lib.hid hs
    clear hs
    by_cases hlt : k < xs.length
    · obtain ⟨x, hx⟩ := at_ hlt
      obtain ⟨ad, rfl, hc, hb⟩ := H.out k x hx
      have HX := Lib.hid hx
      clear hx hb
      cases ha : FloatKind.f64.format.add s x with
      | some r =>
        have m : ∀ w, (binOp .add 22 (.float .f64 s) (.float .f64 x)).run Tryd.prog w = .ok (.float .f64 r) w := fun w => run_float_arith w _ _ _ _ _ _ ha
        have HN := Lib.hid (HS.out.some_ HX.out ha)
        clear ha
        go_wp2
        go_roundw
        case rel => exact ⟨k + 1, n, by omega, by go_num, rfl, r, rfl, HN.out⟩
        case measure => simp [intOf]; omega
      | none =>
        have m := run_nan .add 22 s x (Or.inl ⟨rfl, ha⟩)
        have HN := Lib.hid (fun t => HS.out.none_ HX.out ha (drawnNaN_nan s x t))
        clear ha
        go_wp2
        go_roundw
        case rel => exact ⟨k + 1, n + 1, by omega, by go_num, rfl, _, rfl, HN.out _⟩
        case measure => simp [intOf]; omega
    · obtain rfl : k = xs.length := by omega
      have HE : Hid (SumAt xs s) := by
        have z := HS.out
        rw [List.take_length] at z
        exact Lib.hid z
      go_wp2_with (go_at_call 16; refine (one_any _ HE.out.1 _).mono ?_; rintro e w' ⟨rfl, rfl⟩)
      go_ret
      exact ⟨ret_float HE.out.done, n, rfl⟩
set_option maxHeartbeats 400000 in
set_option maxRecDepth 100000 in
theorem refSum_any (A : Option Addr) (c : Nat) (xs : List Nat) (w : World) (h : FL w A xs) (hl : xs.length ≤ maxLen) :
    Calls Tryd.prog 27 #[.slice A xs.length c] w fun e w' => e = .returned (.int .u64 (sumN xs)) ∧ Drawn w w' := by
  unfold maxLen at hl
  have H := Lib.hid h
  clear h
  go_enter Tryd.func27, Tryd.ntmps27
  go_wp2
  go_loopw [3, 4] (fun s i wr => ∃ k n : Nat, k ≤ xs.length ∧ i = .int .i64 k ∧ wr = w.drewN n ∧ SumV xs k s) (fun _ i _ => xs.length - (intOf i).toNat)
  case atStart => exact ⟨0, 0, Nat.zero_le _, rfl, rfl, 0, rfl, SumAt.start xs⟩
  case round =>
    obtain ⟨k, n, hk, rfl, rfl, s, rfl, hs⟩ := hrel
    have HS := Lib.hid hs
    clear hs
    by_cases hlt : k < xs.length
    · obtain ⟨x, hx⟩ := at_ hlt
      obtain ⟨ad, rfl, hc, hb⟩ := H.out k x hx
      have HX := Lib.hid hx
      clear hx hb
      cases ha : FloatKind.f64.format.add s x with
      | some r =>
        have m : ∀ w, (binOp .add 22 (.float .f64 s) (.float .f64 x)).run Tryd.prog w = .ok (.float .f64 r) w := fun w => run_float_arith w _ _ _ _ _ _ ha
        have HN := Lib.hid (HS.out.some_ HX.out ha)
        clear ha
        go_wp2
        go_roundw
        case rel => exact ⟨k + 1, n, by omega, by go_num, rfl, r, rfl, HN.out⟩
        case measure => simp [intOf]; omega
      | none =>
        have m := run_nan .add 22 s x (Or.inl ⟨rfl, ha⟩)
        have HN := Lib.hid (fun t => HS.out.none_ HX.out ha (drawnNaN_nan s x t))
        clear ha
        go_wp2
        go_roundw
        case rel => exact ⟨k + 1, n + 1, by omega, by go_num, rfl, _, rfl, HN.out _⟩
        case measure => simp [intOf]; omega
    · obtain rfl : k = xs.length := by omega
      have HE : Hid (SumAt xs s) := by
        have z := HS.out
        rw [List.take_length] at z
        exact Lib.hid z
      go_wp2_with (go_at_call 17; refine (refOne_any _ HE.out.1 _).mono ?_; rintro e w' ⟨rfl, rfl⟩)
      go_ret
      exact ⟨ret_int (by rw [HE.out.done]), n, rfl⟩
set_option maxHeartbeats 400000 in
set_option maxRecDepth 100000 in
theorem outer_any (A : Option Addr) (c : Nat) (xs : List Nat) (side : Int) (w : World) (h : FL w A xs) (hl : xs.length ≤ maxLen) :
    Calls Tryd.prog 42 #[.slice A xs.length c, .int .i64 side] w fun e w' => e = .returned (.float .f64 (outN side xs)) ∧ w = w' := by
  unfold maxLen at hl
  have hbd := outN_lt side xs (fun k x hk => (h k x hk).choose_spec.2.2)
  have HB := Lib.hid hbd
  have H := Lib.hid h
  clear h hbd
  go_enter Tryd.func42, Tryd.ntmps42
  go_wp2
  go_loop [5, 11] (fun f i => ∃ k : Nat, k ≤ xs.length ∧ i = .int .i64 k ∧ f = .float .f64 (outN side (xs.take k))) (fun _ i => xs.length - (intOf i).toNat)
  case atStart => exact ⟨0, Nat.zero_le _, rfl, rfl⟩
  case round =>
    obtain ⟨k, hk, rfl, rfl⟩ := hrel
    by_cases hlt : k < xs.length
    · obtain ⟨x, hx⟩ := at_ hlt
      obtain ⟨ad, rfl, hc, hb⟩ := H.out k x hx
      have hf := HB.out k hk
      have HS := Lib.hid (outN_snoc side hx)
      clear hx
      generalize outN side (xs.take k) = f at *
      by_cases h9 : kind x = 9
      · have k1 : (kind x == 9) = true := by rw [beq_iff_eq]; exact h9
        have HE : Hid (f = outN side (xs.take (k + 1))) := Lib.hid (by rw [HS.out]; unfold outF; rw [if_pos h9])
        clear h9
        go_wp2_with (go_at_call 13; refine (kind_any _ (by assumption) _).mono ?_; rintro e w' ⟨rfl, rfl⟩)
        go_round
        case rel => exact ⟨k + 1, by omega, by go_num, by rw [HE.out]⟩
        case measure => simp [intOf]; omega
      · have k1 : (kind x == 9) = false := by rw [beq_eq_false_iff_ne]; exact h9
        by_cases f9 : kind f = 9
        · have k2 : (kind f == 9) = true := by rw [beq_iff_eq]; exact f9
          have HE : Hid (x = outN side (xs.take (k + 1))) := Lib.hid (by rw [HS.out]; unfold outF; rw [if_neg h9, if_pos (Or.inl f9)])
          clear h9 f9
          go_wp2_with (go_at_call 13; refine (kind_any _ (by assumption) _).mono ?_; rintro e w' ⟨rfl, rfl⟩)
          go_round
          case rel => exact ⟨k + 1, by omega, by go_num, by rw [HE.out]⟩
          case measure => simp [intOf]; omega
        · have k2 : (kind f == 9) = false := by rw [beq_eq_false_iff_ne]; exact f9
          by_cases cs : cmpN x f = side
          · have k3 : (cmpN x f == side) = true := by rw [beq_iff_eq]; exact cs
            have HE : Hid (x = outN side (xs.take (k + 1))) := Lib.hid (by rw [HS.out]; unfold outF; rw [if_neg h9, if_pos (Or.inr cs)])
            clear h9 f9 cs
            go_wp2_with (first | (go_at_call 13; refine (kind_any _ (by assumption) _).mono ?_; rintro e w' ⟨rfl, rfl⟩) | (go_at_call 18; refine (cmp_any _ _ (by assumption) (by assumption) _).mono ?_; rintro e w' ⟨rfl, rfl⟩))
            go_round
            case rel => exact ⟨k + 1, by omega, by go_num, by rw [HE.out]⟩
            case measure => simp [intOf]; omega
          · have k3 : (cmpN x f == side) = false := by rw [beq_eq_false_iff_ne]; exact cs
            have HE : Hid (f = outN side (xs.take (k + 1))) := Lib.hid (by rw [HS.out]; unfold outF; rw [if_neg h9, if_neg (fun z => z.elim f9 cs)])
            clear h9 f9 cs
            go_wp2_with (first | (go_at_call 13; refine (kind_any _ (by assumption) _).mono ?_; rintro e w' ⟨rfl, rfl⟩) | (go_at_call 18; refine (cmp_any _ _ (by assumption) (by assumption) _).mono ?_; rintro e w' ⟨rfl, rfl⟩))
            go_round
            case rel => exact ⟨k + 1, by omega, by go_num, by rw [HE.out]⟩
            case measure => simp [intOf]; omega
    · obtain rfl : k = xs.length := by omega
      go_wp2
      go_ret
      exact ⟨rfl, rfl⟩
set_option maxHeartbeats 400000 in
set_option maxRecDepth 100000 in
theorem least_any (A : Option Addr) (c : Nat) (xs : List Nat) (w : World) (h : FL w A xs) (hl : xs.length ≤ maxLen) :
    Calls Tryd.prog 22 #[.slice A xs.length c] w fun e w' => e = .returned (.float .f64 (outN (-1) xs)) ∧ w = w' := by
  have H := Lib.hid h
  have HL := Lib.hid hl
  clear h hl
  go_enter Tryd.func22, Tryd.ntmps22
  go_wp2_with (go_at_call 42; refine (outer_any _ _ _ _ _ H.out HL.out).mono ?_; rintro e w' ⟨rfl, rfl⟩)
  go_ret
  exact ⟨rfl, rfl⟩
set_option maxHeartbeats 400000 in
set_option maxRecDepth 100000 in
theorem greatest_any (A : Option Addr) (c : Nat) (xs : List Nat) (w : World) (h : FL w A xs) (hl : xs.length ≤ maxLen) :
    Calls Tryd.prog 24 #[.slice A xs.length c] w fun e w' => e = .returned (.float .f64 (outN 1 xs)) ∧ w = w' := by
  have H := Lib.hid h
  have HL := Lib.hid hl
  clear h hl
  go_enter Tryd.func24, Tryd.ntmps24
  go_wp2_with (go_at_call 42; refine (outer_any _ _ _ _ _ H.out HL.out).mono ?_; rintro e w' ⟨rfl, rfl⟩)
  go_ret
  exact ⟨rfl, rfl⟩
end Go.Proofs.YtgcmjmnolkojhaaDoor.NumW
