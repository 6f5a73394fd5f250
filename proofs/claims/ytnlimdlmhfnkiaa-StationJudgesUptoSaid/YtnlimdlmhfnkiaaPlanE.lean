/- The document's own position in the schedule: Good, Entry, Wire, Send, Relay, Land. -/
import Derived.Test.YtnlimdlmhfnkiaaPlanB
import Derived.Test.YtnlimdlmhfnkiaaConfNJa
namespace Go.Proofs.Ytnlimdlmhfnkiaa.PlanW
open Go.RowKit Shell
open ConfW (Cfg R4 CM ML chk tim fwd ear lat at0 at1 refCheck_any times_any placed_iff)
set_option maxHeartbeats 2000000 in
theorem good_any (c : Cfg) (D E L : Option Addr) (nd cd ne ce nl cl : Nat) (t : Int) (w : World) (m : CM w c D E L nd cd ne ce nl cl) : Calls Try.prog 75 #[.agg #[.int .i64 c.hosts, .int .i64 c.cycle, .int .i64 c.delay, .int .i64 c.window, .int .i64 c.precision, .slice D nd cd, .slice E ne ce, .slice L nl cl, .int .i64 c.queue], .int .i64 t] w fun r w' => r = .returned (.bool (god c t)) ∧ Below w.heap.size w w' := by
  have S0 := Lib.hid ((Stay.start w).alloc (Obj.cells #[.int .i64 c.hosts, .int .i64 c.cycle, .int .i64 c.delay, .int .i64 c.window, .int .i64 c.precision, .slice D nd cd, .slice E ne ce, .slice L nl cl, .int .i64 c.queue] 26))
  have HM := Lib.hid (m.below S0.out.b)
  have K := Lib.hid (refCheck_any c D E L nd cd ne ce nl cl _ HM.out)
  obtain ⟨a0, a1, a2, a3, a4, a5, a6, a7, a8⟩ := cells9 (S0.out.at 0 rfl)
  unfold god
  generalize chk c = z at *
  clear m
  by_cases h1 : 0 ≤ t
  case neg =>
    rw [decide_eq_false h1, Bool.false_and]
    go_enter Try.func75, Try.ntmps75
    go_wp2
    go_ret
    exact ⟨by first | rfl | exact congrArg (fun z => Ending.returned (.bool z)) (decide_eq_false (by omega)) | exact congrArg (fun z => Ending.returned (.bool z)) (decide_eq_true (by omega)), S0.out.b⟩
  by_cases h2 : t ≤ 1125899906842624
  case neg =>
    rw [decide_eq_false h2, Bool.false_and, Bool.and_false]
    go_enter Try.func75, Try.ntmps75
    go_wp2
    go_ret
    exact ⟨by first | rfl | exact congrArg (fun z => Ending.returned (.bool z)) (decide_eq_false (by omega)) | exact congrArg (fun z => Ending.returned (.bool z)) (decide_eq_true (by omega)), S0.out.b⟩
  rw [decide_eq_true h1, decide_eq_true h2]
  by_cases h3 : z = 0
  · subst h3
    go_enter Try.func75, Try.ntmps75
    go_wp2_with (go_at_call 10; refine K.out.mono ?_; rintro r w5 ⟨rfl, b5⟩; have S := Lib.hid (S0.out.next b5); clear b5)
    go_ret
    exact ⟨rfl, S.out.b⟩
  · have e1 : (z == 0) = false := by rw [beq_eq_false_iff_ne]; exact h3
    have HZ := Lib.hid (decide_eq_false h3)
    clear h3
    go_enter Try.func75, Try.ntmps75
    go_wp2_with (go_at_call 10; refine K.out.mono ?_; rintro r w5 ⟨rfl, b5⟩; have S := Lib.hid (S0.out.next b5); clear b5)
    go_ret
    exact ⟨by rw [HZ.out]; rfl, S.out.b⟩
set_option maxHeartbeats 2000000 in
theorem entry_any (c : Cfg) (D E L : Option Addr) (nd cd ne ce nl cl : Nat) (k t : Int) (w : World) (m : CM w c D E L nd cd ne ce nl cl) : Calls Try.prog 58 #[.agg #[.int .i64 c.hosts, .int .i64 c.cycle, .int .i64 c.delay, .int .i64 c.window, .int .i64 c.precision, .slice D nd cd, .slice E ne ce, .slice L nl cl, .int .i64 c.queue], .int .i64 k, .int .i64 t] w fun r w' => r = .returned (.bool (got c k t)) ∧ Below w.heap.size w w' := by
  have S0 := Lib.hid ((Stay.start w).alloc (Obj.cells #[.int .i64 c.hosts, .int .i64 c.cycle, .int .i64 c.delay, .int .i64 c.window, .int .i64 c.precision, .slice D nd cd, .slice E ne ce, .slice L nl cl, .int .i64 c.queue] 26))
  have HM := Lib.hid (m.below S0.out.b)
  have K := Lib.hid (good_any c D E L nd cd ne ce nl cl t _ HM.out)
  obtain ⟨a0, a1, a2, a3, a4, a5, a6, a7, a8⟩ := cells9 (S0.out.at 0 rfl)
  unfold got
  rw [← m.nE]
  generalize god c t = z at *
  clear m
  cases z with
  | false =>
    rw [Bool.false_and]
    go_enter Try.func58, Try.ntmps58
    go_wp2_with (go_at_call 75; refine K.out.mono ?_; rintro r w5 ⟨rfl, b5⟩; have S := Lib.hid (S0.out.next b5); clear b5 a0 a1 a2 a3 a4 a5 a6 a7 a8; obtain ⟨a0, a1, a2, a3, a4, a5, a6, a7, a8⟩ := cells9 (S.out.at 0 rfl))
    go_ret
    exact ⟨by first | rfl | exact congrArg (fun z => Ending.returned (.bool z)) (decide_eq_false (by omega)) | exact congrArg (fun z => Ending.returned (.bool z)) (decide_eq_true (by omega)), S.out.b⟩
  | true =>
    rw [Bool.true_and]
    by_cases h1 : 0 ≤ k
    case neg =>
      rw [decide_eq_false h1, Bool.false_and]
      go_enter Try.func58, Try.ntmps58
      go_wp2_with (go_at_call 75; refine K.out.mono ?_; rintro r w5 ⟨rfl, b5⟩; have S := Lib.hid (S0.out.next b5); clear b5 a0 a1 a2 a3 a4 a5 a6 a7 a8; obtain ⟨a0, a1, a2, a3, a4, a5, a6, a7, a8⟩ := cells9 (S.out.at 0 rfl))
      go_ret
      exact ⟨by first | rfl | exact congrArg (fun z => Ending.returned (.bool z)) (decide_eq_false (by omega)) | exact congrArg (fun z => Ending.returned (.bool z)) (decide_eq_true (by omega)), S.out.b⟩
    by_cases h2 : k < (ne : Int)
    · rw [decide_eq_true h1, decide_eq_true h2]
      go_enter Try.func58, Try.ntmps58
      go_wp2_with (go_at_call 75; refine K.out.mono ?_; rintro r w5 ⟨rfl, b5⟩; have S := Lib.hid (S0.out.next b5); clear b5 a0 a1 a2 a3 a4 a5 a6 a7 a8; obtain ⟨a0, a1, a2, a3, a4, a5, a6, a7, a8⟩ := cells9 (S.out.at 0 rfl))
      go_ret
      exact ⟨by first | rfl | exact congrArg (fun z => Ending.returned (.bool z)) (decide_eq_false (by omega)) | exact congrArg (fun z => Ending.returned (.bool z)) (decide_eq_true (by omega)), S.out.b⟩
    · rw [decide_eq_true h1, decide_eq_false h2]
      go_enter Try.func58, Try.ntmps58
      go_wp2_with (go_at_call 75; refine K.out.mono ?_; rintro r w5 ⟨rfl, b5⟩; have S := Lib.hid (S0.out.next b5); clear b5 a0 a1 a2 a3 a4 a5 a6 a7 a8; obtain ⟨a0, a1, a2, a3, a4, a5, a6, a7, a8⟩ := cells9 (S.out.at 0 rfl))
      go_ret
      exact ⟨by first | rfl | exact congrArg (fun z => Ending.returned (.bool z)) (decide_eq_false (by omega)) | exact congrArg (fun z => Ending.returned (.bool z)) (decide_eq_true (by omega)), S.out.b⟩
/-- The document's five times of an entry that may be. -/
theorem times_ok (c : Cfg) (D E L : Option Addr) (nd cd ne ce nl cl : Nat) (e : R4) (w : World) (g : EntOk c e) : Calls Try.prog 16 #[.agg #[.int .i64 c.hosts, .int .i64 c.cycle, .int .i64 c.delay, .int .i64 c.window, .int .i64 c.precision, .slice D nd cd, .slice E ne ce, .slice L nl cl, .int .i64 c.queue], .agg #[.int .i64 e.a, .int .u32 e.b, .int .i64 e.c, .int .i64 e.d]] w fun r w' => r = .returned (.agg #[.int .i64 (at0 c e), .int .i64 (at1 c e), .int .i64 (fwd c e), .int .i64 (ear c e), .int .i64 (lat c e)]) ∧ Below w.heap.size w w' := by
  have hp := placed_iff.1 g.pl
  have h := times_any c D E L nd cd ne ce nl cl e w hp.1 hp.2.2
  have i := ent_in g
  rw [i.a0, i.a1, i.f, i.er, i.la]
  exact h
end Go.Proofs.Ytnlimdlmhfnkiaa.PlanW

