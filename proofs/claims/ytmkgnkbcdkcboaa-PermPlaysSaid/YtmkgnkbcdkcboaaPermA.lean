/- Package perm's small functions: Due, New, Next, Len, Give; a hold in memory. -/
import Derived.Test.YtmkgnkbcdkcboaaPermP
import Derived.Test.YtmkgnkbcdkcboaaPqH
import Derived.Test.YtmkgnkbcdkcboaaClockAll
import Derived.Test.YtmkgnkbcdkcboaaFrameEq
import Derived.Test.YtmkgnkbcdkcboaaRow3
namespace Go.Proofs.Ytmkgnkbcdkcboaa.PermW
open Go.RowKit Shell
open QueueW hiding al cell_keep
open ClockW (CK CI tell tell_iff sh wh sh_range now_ok now_bad now_nil when_low when_none when_ok)
open FrameW (CV rightC control_ok control_bad)
def okD (d : Int) : Bool := decide (0 ≤ d) && decide (d ≤ 1048576)
theorem okD_iff {d : Int} : okD d = true ↔ 0 ≤ d ∧ d ≤ 1048576 := by unfold okD; simp
theorem isDelay_any (d : Int) (w : World) : Calls Try.prog 21 #[.int .i64 d] w fun e w' => e = .returned (.bool (okD d)) ∧ w = w' := by
  unfold okD
  by_cases h : 0 ≤ d
  · rw [decide_eq_true h, Bool.true_and]
    go_enter Try.func21, Try.ntmps21
    go_wp2
    go_ret
    exact ⟨rfl, rfl⟩
  · rw [decide_eq_false h, Bool.false_and]
    go_enter Try.func21, Try.ntmps21
    go_wp2
    go_ret
    exact ⟨rfl, rfl⟩
theorem isRight_any (k f y c l : Int) (hc : 0 ≤ c) (w : World) : Calls Try.prog 26 #[CV k f y c l] w fun e w' => e = .returned (.bool (decide (rightC k f y c l))) ∧ Below w.heap.size w w' := by
  by_cases h : rightC k f y c l
  · rw [decide_eq_true h]
    have C := Lib.hid (fun W => control_ok k f y c l W h)
    clear h
    go_enter Try.func26, Try.ntmps26
    go_wp2_with (go_at_call 42; refine (C.out _).mono ?_; rintro e w1 ⟨v, rfl, -, b1⟩; have B1 := Lib.hid b1; clear b1)
    go_ret
    exact ⟨rfl, (al (Below.refl _ _) _).trans (B1.out.mono (by simp))⟩
  · rw [decide_eq_false h]
    have C := Lib.hid (fun W => control_bad k f y c l W h hc)
    clear h
    go_enter Try.func26, Try.ntmps26
    go_wp2_with (go_at_call 42; refine (C.out _).mono ?_; rintro e w1 ⟨rfl, b1⟩; have B1 := Lib.hid b1; clear b1)
    go_ret
    exact ⟨rfl, (al (Below.refl _ _) _).trans (B1.out.mono (by simp))⟩
theorem due_bad (A : Option Addr) (t cl d : Int) (h : ¬ ((0 ≤ d ∧ d ≤ 1048576) ∧ 0 ≤ cl ∧ cl ≤ d)) (w : World) :
    Calls Try.prog 20 #[.pointer A, .int .i64 t, .int .i64 cl, .int .i64 d] w fun e w' => e = .returned (.tuple #[.int .i64 0, .int .i64 1]) ∧ w = w' := by
  cases hd : okD d with
  | false =>
    clear h
    go_enter Try.func20, Try.ntmps20
    go_wp2_with (go_at_call 21; refine (isDelay_any _ _).mono ?_; rintro e w' ⟨rfl, rfl⟩; rw [hd])
    go_ret2
    exact ⟨rfl, rfl⟩
  | true =>
    have hd' := okD_iff.1 hd
    by_cases h0 : cl < 0
    · clear h hd'
      go_enter Try.func20, Try.ntmps20
      go_wp2_with (go_at_call 21; refine (isDelay_any _ _).mono ?_; rintro e w' ⟨rfl, rfl⟩; rw [hd])
      go_ret2
      exact ⟨rfl, rfl⟩
    · have h1 : d < cl := by omega
      clear h hd'
      go_enter Try.func20, Try.ntmps20
      go_wp2_with (go_at_call 21; refine (isDelay_any _ _).mono ?_; rintro e w' ⟨rfl, rfl⟩; rw [hd])
      go_ret2
      exact ⟨rfl, rfl⟩
theorem due_now (k : Nat) (m b r t cl d : Int) (w : World) (h : CK w k m b r) (ht : tell m t = false) :
    Calls Try.prog 20 #[.pointer (some ⟨k, 0, none⟩), .int .i64 t, .int .i64 cl, .int .i64 d] w fun e w' => e = .returned (.tuple #[.int .i64 0, .int .i64 1]) ∧ w = w' := by
  by_cases g : (0 ≤ d ∧ d ≤ 1048576) ∧ 0 ≤ cl ∧ cl ≤ d
  · obtain ⟨hd, h0, h1⟩ := g
    have hd := okD_iff.2 hd
    go_enter Try.func20, Try.ntmps20
    go_wp2_with (first
      | (go_at_call 21; refine (isDelay_any _ _).mono ?_; rintro e w' ⟨rfl, rfl⟩; rw [hd])
      | (go_at_call 39; refine (now_bad k m b r t _ h ht).mono ?_; rintro e w' ⟨rfl, rfl⟩))
    go_ret2
    exact ⟨rfl, rfl⟩
  · exact due_bad _ t cl d g w
/-- What Due answers, as a tuple. -/
abbrev duT (a : Int × Int) : Value := .tuple #[.int .i64 a.1, .int .i64 a.2]
theorem due_any (k : Nat) (m b r t cl d : Int) (w : World) (h : CK w k m b r) (hi : CI m b r) :
    Calls Try.prog 20 #[.pointer (some ⟨k, 0, none⟩), .int .i64 t, .int .i64 cl, .int .i64 d] w fun e w' => e = .returned (duT (du m b r t cl d (tell m t))) ∧ Below w.heap.size w w' := by
  cases ht : tell m t with
  | false =>
    refine (due_now k m b r t cl d w h ht).mono ?_
    rintro e w' ⟨rfl, rfl⟩
    exact ⟨by unfold du; rw [if_neg (by simp)], Below.refl _ _⟩
  | true =>
    by_cases g : (0 ≤ d ∧ d ≤ 1048576) ∧ 0 ≤ cl ∧ cl ≤ d
    · obtain ⟨hd, h0, h1⟩ := g
      have HT := tell_iff.1 ht
      have hr := sh_range hi HT.2 HT.1.2
      have D : du m b r t cl d true = (if sh m b r 1125899906842624 < sh m b r t + d - cl then (0, 5) else (wh m b r (sh m b r t + d - cl), 0)) := if_pos ⟨hd, h0, h1, rfl⟩
      have N := now_ok k m b r t w h hi ht
      have d0 := hd.1
      have d1 := hd.2
      have hd := okD_iff.2 hd
      have e1 : IntKind.i64.wrap (sh m b r t + d) = sh m b r t + d := by rw [IntKind.wrap_i64]; omega
      have e2 : IntKind.i64.wrap (sh m b r t + d - cl) = sh m b r t + d - cl := by rw [IntKind.wrap_i64]; omega
      by_cases low : sh m b r t + d - cl ≤ b
      · have nl : ¬ sh m b r 1125899906842624 < sh m b r t + d - cl := by
          have := (ClockW.sh_bounds hi hi.m1).1
          omega
        rw [D, if_neg nl, ClockW.wh_low low]
        have W1 := fun W (hb : Below w.heap.size w W) => when_low k m b r (sh m b r t + d - cl) W (h.below hb) low
        have HN := Lib.hid N
        have HW := Lib.hid W1
        clear N W1 D nl low h hi HT
        generalize sh m b r t = z at *
        go_enter Try.func20, Try.ntmps20
        go_wp2_with (first
          | (go_at_call 21; refine (isDelay_any _ _).mono ?_; rintro e w' ⟨rfl, rfl⟩; rw [hd])
          | (go_at_call 39; refine HN.out.mono ?_; rintro e w1 ⟨rfl, b1⟩; have B1 := Lib.hid b1; clear b1)
          | (go_at_call 40; refine (HW.out _ B1.out).mono ?_; rintro e w2 ⟨rfl, rfl⟩))
        go_ret2
        exact ⟨rfl, B1.out⟩
      · by_cases no : sh m b r 1125899906842624 < sh m b r t + d - cl
        · rw [D, if_pos no]
          have W1 := fun W (hb : Below w.heap.size w W) => when_none k m b r (sh m b r t + d - cl) W (h.below hb) hi low no
          have HN := Lib.hid N
          have HW := Lib.hid W1
          clear N W1 D no low h hi HT
          generalize sh m b r t = z at *
          go_enter Try.func20, Try.ntmps20
          go_wp2_with (first
            | (go_at_call 21; refine (isDelay_any _ _).mono ?_; rintro e w' ⟨rfl, rfl⟩; rw [hd])
            | (go_at_call 39; refine HN.out.mono ?_; rintro e w1 ⟨rfl, b1⟩; have B1 := Lib.hid b1; clear b1)
            | (go_at_call 40; refine (HW.out _ B1.out).mono ?_; rintro e w2 ⟨rfl, b2⟩))
          go_ret2
          exact ⟨rfl, B1.out.trans (b2.mono B1.out.size)⟩
        · rw [D, if_neg no]
          have W1 := fun W (hb : Below w.heap.size w W) => when_ok k m b r (sh m b r t + d - cl) W (h.below hb) hi low no
          have HN := Lib.hid N
          have HW := Lib.hid W1
          clear N W1 D no low h hi HT
          generalize sh m b r t = z at *
          go_enter Try.func20, Try.ntmps20
          go_wp2_with (first
            | (go_at_call 21; refine (isDelay_any _ _).mono ?_; rintro e w' ⟨rfl, rfl⟩; rw [hd])
            | (go_at_call 39; refine HN.out.mono ?_; rintro e w1 ⟨rfl, b1⟩; have B1 := Lib.hid b1; clear b1)
            | (go_at_call 40; refine (HW.out _ B1.out).mono ?_; rintro e w2 ⟨rfl, b2⟩))
          go_ret2
          exact ⟨rfl, B1.out.trans (b2.mono B1.out.size)⟩
    · refine (due_bad _ t cl d g w).mono ?_
      rintro e w' ⟨rfl, rfl⟩
      exact ⟨by unfold du; rw [if_neg (fun h => g ⟨h.1, h.2.1, h.2.2.1⟩)], Below.refl _ _⟩
end Go.Proofs.Ytmkgnkbcdkcboaa.PermW
