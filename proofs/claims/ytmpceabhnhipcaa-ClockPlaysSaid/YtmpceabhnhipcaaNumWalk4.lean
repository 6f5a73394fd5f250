/- Walks of num.Int and num.Times. -/
import Derived.Test.YtmpceabhnhipcaaNumWalk3
import Derived.Laws.FloatArith
namespace Go.Proofs.Ytmpceabhnhipcaa.NumW
open Go.RowKit NumP
/-- The nearest whole number, as a word. -/
def rte (x : Nat) : Nat := FloatKind.f64.encode ((FloatKind.f64.decode x).integral .even)
theorem run_rte (x : Nat) (h : ¬ 9218868437227405312 < mag x) (w : World) : (callFunc 45 #[.float .f64 x]).run Try.prog w = .ok (.value (.float .f64 (rte x))) w := by
  rw [run_callFunc_extern Try.func45 (by kernel_rfl) (by kernel_rfl) (by kernel_rfl) (show _ = some (Extern.MathFloor.toIntegral "math.RoundToEven" .even) by kernel_rfl)]
  have hd : ∀ s t, FloatKind.f64.decode x ≠ .nan s t := by
    intro s t e
    have e' : Ieee.double.read x = .nan s t := e
    by_cases h1 : mag x = 9218868437227405312
    · rw [read_inf x h1] at e'; cases e'
    · obtain ⟨m, k, hr, _⟩ := read_number x (by omega)
      rw [hr] at e'; cases e'
  rw [show Extern.MathFloor.toIntegral "math.RoundToEven" .even #[.float .f64 x] = Extern.MathFloor.toIntegral.match_1 (fun _ => Sem Value) (FloatKind.f64.decode x) (fun s t => _) (fun d => pure (.float .f64 (FloatKind.f64.encode (d.integral .even)))) from rfl]
  unfold rte
  generalize FloatKind.f64.decode x = d at hd
  cases d with
  | nan s t => exact absurd rfl (hd s t)
  | number s m e => rfl
  | infinity s => rfl
def low (x : Nat) : Bool := FloatKind.f64.format.order (rte x) 14114281232179134464 == some .lt
def high (x : Nat) : Bool := FloatKind.f64.format.order (rte x) 4890909195324358656 == some .gt || FloatKind.f64.format.order (rte x) 4890909195324358656 == some .eq
set_option maxHeartbeats 400000 in
set_option maxRecDepth 100000 in
theorem int_nan (x : Nat) (hx : x < 18446744073709551616) (h : kind x = 9) (w : World) : Calls Try.prog 34 #[.float .f64 x] w fun e w' => e = .returned (.tuple #[.int .i64 0, .int .i64 3]) ∧ w = w' := by
  have k : (kind x == 9) = true := by rw [beq_iff_eq]; exact h
  clear h
  go_enter Try.func34, Try.ntmps34
  go_wp2_with (go_at_call 44; refine (kind_any _ hx _).mono ?_; rintro e w' ⟨rfl, rfl⟩)
  go_ret2
  exact ⟨rfl, rfl⟩
theorem num_mag (x : Nat) (h : kind x ≠ 9) : ¬ 9218868437227405312 < mag x := fun k => h (kind_nan x k)
set_option maxHeartbeats 400000 in
set_option maxRecDepth 100000 in
theorem int_low (x : Nat) (hx : x < 18446744073709551616) (h : kind x ≠ 9) (hl : low x = true) (w : World) : Calls Try.prog 34 #[.float .f64 x] w fun e w' => e = .returned (.tuple #[.int .i64 0, .int .i64 4]) ∧ w = w' := by
  have k : (kind x == 9) = false := by rw [beq_eq_false_iff_ne]; exact h
  have r := run_rte x (num_mag x h)
  have l : (FloatKind.f64.format.order (rte x) 14114281232179134464 == some .lt) = true := hl
  clear h hl
  go_enter Try.func34, Try.ntmps34
  go_wp2_with (go_at_call 44; refine (kind_any _ hx _).mono ?_; rintro e w' ⟨rfl, rfl⟩)
  go_ret2
  exact ⟨rfl, rfl⟩
set_option maxHeartbeats 400000 in
set_option maxRecDepth 100000 in
theorem int_high (x : Nat) (hx : x < 18446744073709551616) (h : kind x ≠ 9) (hl : low x = false) (hh : high x = true) (w : World) : Calls Try.prog 34 #[.float .f64 x] w fun e w' => e = .returned (.tuple #[.int .i64 0, .int .i64 4]) ∧ w = w' := by
  have k : (kind x == 9) = false := by rw [beq_eq_false_iff_ne]; exact h
  have r := run_rte x (num_mag x h)
  have l : (FloatKind.f64.format.order (rte x) 14114281232179134464 == some .lt) = false := hl
  have l2 : (FloatKind.f64.format.order (rte x) 4890909195324358656 == some .gt || FloatKind.f64.format.order (rte x) 4890909195324358656 == some .eq) = true := hh
  clear h hl hh
  go_enter Try.func34, Try.ntmps34
  go_wp2_with (go_at_call 44; refine (kind_any _ hx _).mono ?_; rintro e w' ⟨rfl, rfl⟩)
  go_ret2
  exact ⟨rfl, rfl⟩
set_option maxHeartbeats 400000 in
set_option maxRecDepth 100000 in
theorem int_ok (x : Nat) (n : Int) (hx : x < 18446744073709551616) (h : kind x ≠ 9) (hl : low x = false) (hh : high x = false) (hn : floatToIntVal .f64 (rte x) .i64 = some n) (w : World) : Calls Try.prog 34 #[.float .f64 x] w fun e w' => e = .returned (.tuple #[.int .i64 n, .int .i64 0]) ∧ w = w' := by
  have k : (kind x == 9) = false := by rw [beq_eq_false_iff_ne]; exact h
  have r := run_rte x (num_mag x h)
  have l : (FloatKind.f64.format.order (rte x) 14114281232179134464 == some .lt) = false := hl
  have l2 : (FloatKind.f64.format.order (rte x) 4890909195324358656 == some .gt || FloatKind.f64.format.order (rte x) 4890909195324358656 == some .eq) = false := hh
  have cv : ∀ w, (convert 46 2 (.float .f64 (rte x))).run Try.prog w = .ok (.int .i64 n) w := fun w => run_convert_float_int w _ _ _ _ _ _ (by kernel_rfl) Try.underlying2 hn
  clear h hl hh hn
  go_enter Try.func34, Try.ntmps34
  go_wp2_with (go_at_call 44; refine (kind_any _ hx _).mono ?_; rintro e w' ⟨rfl, rfl⟩)
  go_ret2
  exact ⟨rfl, rfl⟩
set_option maxHeartbeats 400000 in
set_option maxRecDepth 100000 in
theorem times_ok (a b r : Nat) (hr : FloatKind.f64.format.mul a b = some r) (w : World) : Calls Try.prog 35 #[.float .f64 a, .float .f64 b] w fun e w' => e = .returned (.float .f64 (oneN r)) ∧ w = w' := by
  have m : ∀ w, (binOp .mul 46 (.float .f64 a) (.float .f64 b)).run Try.prog w = .ok (.float .f64 r) w := fun w => run_float_arith w _ _ _ _ _ _ hr
  have hb : r < 18446744073709551616 := FloatKind.f64.format.mul_lt hr
  clear hr
  go_enter Try.func35, Try.ntmps35
  go_wp2_with (go_at_call 46; refine (one_any _ hb _).mono ?_; rintro e w' ⟨rfl, rfl⟩)
  go_ret
  exact ⟨rfl, rfl⟩
/-- A NaN that the tape gives. -/
def drawnNaN (a b t : Nat) : Nat := Question.cut (.nanBits .f64 a b) t
theorem drawnNaN_nan (a b t : Nat) : 9218868437227405312 < mag (drawnNaN a b t) ∧ drawnNaN a b t < 18446744073709551616 := by
  unfold drawnNaN mag
  show 9218868437227405312 < ((t % 2) * 9223372036854775808 + 9218868437227405312 + 1 + (t / 2) % 4503599627370495) % 9223372036854775808 ∧ (t % 2) * 9223372036854775808 + 9218868437227405312 + 1 + (t / 2) % 4503599627370495 < 18446744073709551616
  have h1 : (t / 2) % 4503599627370495 < 4503599627370495 := Nat.mod_lt _ (by decide)
  have h2 : t % 2 < 2 := Nat.mod_lt _ (by decide)
  generalize (t / 2) % 4503599627370495 = m at *
  generalize t % 2 = s at *
  omega
theorem run_nan (op : BinOp) (t : TypeId) (a b : Nat) (h : (op = .add ∧ FloatKind.f64.format.add a b = none) ∨ (op = .mul ∧ FloatKind.f64.format.mul a b = none)) (w : World) :
    (binOp op t (.float .f64 a) (.float .f64 b)).run Try.prog w = .ok (.float .f64 (drawnNaN a b (w.tape w.drawn (.nanBits .f64 a b)))) w.drew := by
  rcases h with ⟨rfl, h⟩ | ⟨rfl, h⟩
  · simp [binOp, Op.floatArith, h]; rfl
  · simp [binOp, Op.floatArith, h]; rfl
set_option maxHeartbeats 400000 in
set_option maxRecDepth 100000 in
theorem times_nan (a b : Nat) (hr : FloatKind.f64.format.mul a b = none) (w : World) : Calls Try.prog 35 #[.float .f64 a, .float .f64 b] w fun e w' => e = .returned (.float .f64 9221120237041090561) ∧ w.drew = w' := by
  have m := run_nan .mul 46 a b (Or.inr ⟨rfl, hr⟩)
  have Hb := Lib.hid (drawnNaN_nan a b)
  clear hr
  go_enter Try.func35, Try.ntmps35
  go_wp2_with (go_at_call 46; refine (one_any _ (Hb.out _).2 _).mono ?_; rintro e w' ⟨rfl, rfl⟩; rw [one_nan _ (Hb.out _).1])
  go_ret
  exact ⟨rfl, rfl⟩
end Go.Proofs.Ytmpceabhnhipcaa.NumW

