/- Package plan: Relay, Land. -/
import Derived.Test.YtnlimdlmhfnkiaaPlanQJa
namespace Go.Proofs.Ytnlimdlmhfnkiaa.PlanW
open Go.RowKit Shell
open ConfW (Cfg R4 CM ML chk tim fwd ear lat at0 at1 check_any forward_any early_any late_any)
theorem land_no {c : Cfg} {k t : Int} (h : got c k t = false) : landV c k t = (0, false) := by unfold landV; rw [h]; rfl
theorem land_yes {c : Cfg} {k t : Int} {e : R4} (h : got c k t = true) (he : entA c k = e) : landV c k t = if ear c e ≤ t % c.cycle ∧ t % c.cycle ≤ lat c e then (t / c.cycle, true) else (0, false) := by
  unfold landV
  rw [h, he, Bool.true_and]
  by_cases g : ear c e ≤ t % c.cycle ∧ t % c.cycle ≤ lat c e
  · rw [if_pos g, if_pos (by simp [g.1, g.2])]
  · rw [if_neg g, if_neg (by simp only [Bool.and_eq_true, decide_eq_true_eq]; exact g)]
set_option maxHeartbeats 2000000 in
theorem land_any (c : Cfg) (D E L : Option Addr) (nd cd ne ce nl cl : Nat) (k t : Int) (w : World) (h : CM w c D E L nd cd ne ce nl cl) : Calls Try.prog 73 #[.agg #[.int .i64 c.hosts, .int .i64 c.cycle, .int .i64 c.delay, .int .i64 c.window, .int .i64 c.precision, .slice D nd cd, .slice E ne ce, .slice L nl cl, .int .i64 c.queue], .int .i64 k, .int .i64 t] w fun r w' => r = .returned (.tuple #[.int .i64 (landV c k t).1, .bool (landV c k t).2]) ∧ Below w.heap.size w w' := by
  have S0 := Lib.hid ((Stay.start w).alloc (Obj.cells #[.int .i64 c.hosts, .int .i64 c.cycle, .int .i64 c.delay, .int .i64 c.window, .int .i64 c.precision, .slice D nd cd, .slice E ne ce, .slice L nl cl, .int .i64 c.queue] 26))
  have HM := Lib.hid (h.below S0.out.b)
  obtain ⟨a0, a1, a2, a3, a4, a5, a6, a7, a8⟩ := cells9 (S0.out.at 0 rfl)
  cases hg : got c k t with
  | false =>
    have KH := Lib.hid (find_no c D E L nd cd ne ce nl cl k t _ HM.out hg)
    rw [land_no hg]
    clear hg h
    go_enter Try.func73, Try.ntmps73
    go_wp2_with (go_at_call 84; refine KH.out.mono ?_; rintro r w5 ⟨rfl, b5⟩; have S := Lib.hid ((S0.out.next b5).alloc Z4); clear b5 a0 a1 a2 a3 a4 a5 a6 a7 a8)
    go_ret2
    exact ⟨rfl, S.out.b⟩
  | true =>
    obtain ⟨n, e, rfl, he, g, ok, hea⟩ := got_ent hg
    have KH := Lib.hid (find_ok c D E L nd cd ne ce nl cl n t e _ HM.out g he)
    have KA := Lib.hid (fun W => early_any c D E L nd cd ne ce nl cl e W ok.b)
    have KF := Lib.hid (fun W => late_any c D E L nd cd ne ce nl cl e W ok.b)
    rw [land_yes hg hea]
    generalize t / c.cycle = q at *
    generalize t % c.cycle = p at *
    generalize ear c e = x0 at *
    generalize lat c e = x1 at *
    clear hg h ok hea he g
    by_cases h0 : p < x0
    · rw [if_neg (by omega)]
      go_enter Try.func73, Try.ntmps73
      go_wp2_with (first
        | (go_at_call 84; refine KH.out.mono ?_; rintro r w5 ⟨rfl, b5⟩; have S := Lib.hid ((S0.out.next b5).alloc (eb e)); clear b5 a0 a1 a2 a3 a4 a5 a6 a7 a8; obtain ⟨a0, a1, a2, a3, a4, a5, a6, a7, a8⟩ := cells9 (S.out.at 1 rfl); obtain ⟨e0, e1, e2, e3⟩ := cells4 (S.out.at 0 rfl))
        | (go_at_call 85; refine (KA.out _).mono ?_; rintro r w6 ⟨rfl, b6⟩; have S6 := Lib.hid (S.out.next b6); clear b6))
      go_ret2
      exact ⟨rfl, S6.out.b⟩
    by_cases h1 : x1 < p
    · rw [if_neg (by omega)]
      go_enter Try.func73, Try.ntmps73
      go_wp2_with (first
        | (go_at_call 84; refine KH.out.mono ?_; rintro r w5 ⟨rfl, b5⟩; have S := Lib.hid ((S0.out.next b5).alloc (eb e)); clear b5 a0 a1 a2 a3 a4 a5 a6 a7 a8; obtain ⟨a0, a1, a2, a3, a4, a5, a6, a7, a8⟩ := cells9 (S.out.at 1 rfl); obtain ⟨e0, e1, e2, e3⟩ := cells4 (S.out.at 0 rfl))
        | (go_at_call 85; refine (KA.out _).mono ?_; rintro r w6 ⟨rfl, b6⟩; have S6 := Lib.hid (S.out.next b6); clear b6 a0 a1 a2 a3 a4 a5 a6 a7 a8 e0 e1 e2 e3; obtain ⟨a0, a1, a2, a3, a4, a5, a6, a7, a8⟩ := cells9 (S6.out.at 1 rfl); obtain ⟨e0, e1, e2, e3⟩ := cells4 (S6.out.at 0 rfl))
        | (go_at_call 61; refine (KF.out _).mono ?_; rintro r w7 ⟨rfl, b7⟩; have S7 := Lib.hid (S6.out.next b7); clear b7))
      go_ret2
      exact ⟨rfl, S7.out.b⟩
    · rw [if_pos (by omega)]
      go_enter Try.func73, Try.ntmps73
      go_wp2_with (first
        | (go_at_call 84; refine KH.out.mono ?_; rintro r w5 ⟨rfl, b5⟩; have S := Lib.hid ((S0.out.next b5).alloc (eb e)); clear b5 a0 a1 a2 a3 a4 a5 a6 a7 a8; obtain ⟨a0, a1, a2, a3, a4, a5, a6, a7, a8⟩ := cells9 (S.out.at 1 rfl); obtain ⟨e0, e1, e2, e3⟩ := cells4 (S.out.at 0 rfl))
        | (go_at_call 85; refine (KA.out _).mono ?_; rintro r w6 ⟨rfl, b6⟩; have S6 := Lib.hid (S.out.next b6); clear b6 a0 a1 a2 a3 a4 a5 a6 a7 a8 e0 e1 e2 e3; obtain ⟨a0, a1, a2, a3, a4, a5, a6, a7, a8⟩ := cells9 (S6.out.at 1 rfl); obtain ⟨e0, e1, e2, e3⟩ := cells4 (S6.out.at 0 rfl))
        | (go_at_call 61; refine (KF.out _).mono ?_; rintro r w7 ⟨rfl, b7⟩; have S7 := Lib.hid (S6.out.next b7); clear b7))
      go_ret2
      exact ⟨rfl, S7.out.b⟩
end Go.Proofs.Ytnlimdlmhfnkiaa.PlanW

