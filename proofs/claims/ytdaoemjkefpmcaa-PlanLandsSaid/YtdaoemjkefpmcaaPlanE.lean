/- The document's own position in the schedule: Good, Entry, Wire, Send, Relay, Land. -/
import Derived.Test.YtdaoemjkefpmcaaPlanB
import Derived.Test.YtdaoemjkefpmcaaConfR
namespace Go.Proofs.Ytdaoemjkefpmcaa.PlanW
open Go.RowKit Shell
open ConfW (Cfg R4 CM ML chk tim fwd ear lat at0 at1 refCheck_any times_any placed_iff)
set_option maxHeartbeats 2000000 in
theorem good_any (c : Cfg) (D E L : Option Addr) (nd cd ne ce nl cl : Nat) (t : Int) (w : World) (m : CM w c D E L nd cd ne ce nl cl) : Calls Try.prog 10 #[.agg #[.int .i64 c.hosts, .int .i64 c.cycle, .int .i64 c.delay, .int .i64 c.window, .int .i64 c.precision, .slice D nd cd, .slice E ne ce, .slice L nl cl, .int .i64 c.queue], .int .i64 t] w fun r w' => r = .returned (.bool (god c t)) ∧ Below w.heap.size w w' := by
  have S0 := Lib.hid ((Stay.start w).alloc (Obj.cells #[.int .i64 c.hosts, .int .i64 c.cycle, .int .i64 c.delay, .int .i64 c.window, .int .i64 c.precision, .slice D nd cd, .slice E ne ce, .slice L nl cl, .int .i64 c.queue] 26))
  have HM := Lib.hid (m.below S0.out.b)
  have K := Lib.hid (refCheck_any c D E L nd cd ne ce nl cl _ HM.out)
  obtain ⟨a0, a1, a2, a3, a4, a5, a6, a7, a8⟩ := cells9 (S0.out.at 0 rfl)
  unfold god
  generalize chk c = z at *
  clear m
  by_cases h1 : 0 ≤ t
  case neg =>
    rw [decide_eq_false h1, Bool.false_and]
    go_enter Try.func10, Try.ntmps10
    go_wp2
    go_ret
    exact ⟨by first | rfl | exact congrArg (fun z => Ending.returned (.bool z)) (decide_eq_false (by omega)) | exact congrArg (fun z => Ending.returned (.bool z)) (decide_eq_true (by omega)), S0.out.b⟩
  by_cases h2 : t ≤ 1125899906842624
  case neg =>
    rw [decide_eq_false h2, Bool.false_and, Bool.and_false]
    go_enter Try.func10, Try.ntmps10
    go_wp2
    go_ret
    exact ⟨by first | rfl | exact congrArg (fun z => Ending.returned (.bool z)) (decide_eq_false (by omega)) | exact congrArg (fun z => Ending.returned (.bool z)) (decide_eq_true (by omega)), S0.out.b⟩
  rw [decide_eq_true h1, decide_eq_true h2]
  by_cases h3 : z = 0
  · subst h3
    go_enter Try.func10, Try.ntmps10
    go_wp2_with (go_at_call 22; refine K.out.mono ?_; rintro r w5 ⟨rfl, b5⟩; have S := Lib.hid (S0.out.next b5); clear b5)
    go_ret
    exact ⟨rfl, S.out.b⟩
  · have e1 : (z == 0) = false := by rw [beq_eq_false_iff_ne]; exact h3
    have HZ := Lib.hid (decide_eq_false h3)
    clear h3
    go_enter Try.func10, Try.ntmps10
    go_wp2_with (go_at_call 22; refine K.out.mono ?_; rintro r w5 ⟨rfl, b5⟩; have S := Lib.hid (S0.out.next b5); clear b5)
    go_ret
    exact ⟨by rw [HZ.out]; rfl, S.out.b⟩
set_option maxHeartbeats 2000000 in
theorem entry_any (c : Cfg) (D E L : Option Addr) (nd cd ne ce nl cl : Nat) (k t : Int) (w : World) (m : CM w c D E L nd cd ne ce nl cl) : Calls Try.prog 33 #[.agg #[.int .i64 c.hosts, .int .i64 c.cycle, .int .i64 c.delay, .int .i64 c.window, .int .i64 c.precision, .slice D nd cd, .slice E ne ce, .slice L nl cl, .int .i64 c.queue], .int .i64 k, .int .i64 t] w fun r w' => r = .returned (.bool (got c k t)) ∧ Below w.heap.size w w' := by
  have S0 := Lib.hid ((Stay.start w).alloc (Obj.cells #[.int .i64 c.hosts, .int .i64 c.cycle, .int .i64 c.delay, .int .i64 c.window, .int .i64 c.precision, .slice D nd cd, .slice E ne ce, .slice L nl cl, .int .i64 c.queue] 26))
  have HM := Lib.hid (m.below S0.out.b)
  have K := Lib.hid (good_any c D E L nd cd ne ce nl cl t _ HM.out)
  obtain ⟨a0, a1, a2, a3, a4, a5, a6, a7, a8⟩ := cells9 (S0.out.at 0 rfl)
  unfold got
  rw [← m.nE]
  generalize god c t = z at *
  clear m
  cases z with
  | false =>
    rw [Bool.false_and]
    go_enter Try.func33, Try.ntmps33
    go_wp2_with (go_at_call 10; refine K.out.mono ?_; rintro r w5 ⟨rfl, b5⟩; have S := Lib.hid (S0.out.next b5); clear b5 a0 a1 a2 a3 a4 a5 a6 a7 a8; obtain ⟨a0, a1, a2, a3, a4, a5, a6, a7, a8⟩ := cells9 (S.out.at 0 rfl))
    go_ret
    exact ⟨by first | rfl | exact congrArg (fun z => Ending.returned (.bool z)) (decide_eq_false (by omega)) | exact congrArg (fun z => Ending.returned (.bool z)) (decide_eq_true (by omega)), S.out.b⟩
  | true =>
    rw [Bool.true_and]
    by_cases h1 : 0 ≤ k
    case neg =>
      rw [decide_eq_false h1, Bool.false_and]
      go_enter Try.func33, Try.ntmps33
      go_wp2_with (go_at_call 10; refine K.out.mono ?_; rintro r w5 ⟨rfl, b5⟩; have S := Lib.hid (S0.out.next b5); clear b5 a0 a1 a2 a3 a4 a5 a6 a7 a8; obtain ⟨a0, a1, a2, a3, a4, a5, a6, a7, a8⟩ := cells9 (S.out.at 0 rfl))
      go_ret
      exact ⟨by first | rfl | exact congrArg (fun z => Ending.returned (.bool z)) (decide_eq_false (by omega)) | exact congrArg (fun z => Ending.returned (.bool z)) (decide_eq_true (by omega)), S.out.b⟩
    by_cases h2 : k < (ne : Int)
    · rw [decide_eq_true h1, decide_eq_true h2]
      go_enter Try.func33, Try.ntmps33
      go_wp2_with (go_at_call 10; refine K.out.mono ?_; rintro r w5 ⟨rfl, b5⟩; have S := Lib.hid (S0.out.next b5); clear b5 a0 a1 a2 a3 a4 a5 a6 a7 a8; obtain ⟨a0, a1, a2, a3, a4, a5, a6, a7, a8⟩ := cells9 (S.out.at 0 rfl))
      go_ret
      exact ⟨by first | rfl | exact congrArg (fun z => Ending.returned (.bool z)) (decide_eq_false (by omega)) | exact congrArg (fun z => Ending.returned (.bool z)) (decide_eq_true (by omega)), S.out.b⟩
    · rw [decide_eq_true h1, decide_eq_false h2]
      go_enter Try.func33, Try.ntmps33
      go_wp2_with (go_at_call 10; refine K.out.mono ?_; rintro r w5 ⟨rfl, b5⟩; have S := Lib.hid (S0.out.next b5); clear b5 a0 a1 a2 a3 a4 a5 a6 a7 a8; obtain ⟨a0, a1, a2, a3, a4, a5, a6, a7, a8⟩ := cells9 (S.out.at 0 rfl))
      go_ret
      exact ⟨by first | rfl | exact congrArg (fun z => Ending.returned (.bool z)) (decide_eq_false (by omega)) | exact congrArg (fun z => Ending.returned (.bool z)) (decide_eq_true (by omega)), S.out.b⟩
set_option maxHeartbeats 2000000 in
theorem wire_any (c : Cfg) (D E L : Option Addr) (nd cd ne ce nl cl : Nat) (h t n : Int) (w : World) (m : CM w c D E L nd cd ne ce nl cl) : Calls Try.prog 37 #[.agg #[.int .i64 c.hosts, .int .i64 c.cycle, .int .i64 c.delay, .int .i64 c.window, .int .i64 c.precision, .slice D nd cd, .slice E ne ce, .slice L nl cl, .int .i64 c.queue], .int .i64 h, .int .i64 t, .int .i64 n] w fun r w' => r = .returned (.bool (ask c h t n)) ∧ Below w.heap.size w w' := by
  have S0 := Lib.hid ((Stay.start w).alloc (Obj.cells #[.int .i64 c.hosts, .int .i64 c.cycle, .int .i64 c.delay, .int .i64 c.window, .int .i64 c.precision, .slice D nd cd, .slice E ne ce, .slice L nl cl, .int .i64 c.queue] 26))
  have HM := Lib.hid (m.below S0.out.b)
  have K := Lib.hid (good_any c D E L nd cd ne ce nl cl t _ HM.out)
  obtain ⟨a0, a1, a2, a3, a4, a5, a6, a7, a8⟩ := cells9 (S0.out.at 0 rfl)
  unfold ask
  generalize god c t = z at *
  clear m
  cases z with
  | false =>
    rw [Bool.false_and]
    go_enter Try.func37, Try.ntmps37
    go_wp2_with (go_at_call 10; refine K.out.mono ?_; rintro r w5 ⟨rfl, b5⟩; have S := Lib.hid (S0.out.next b5); clear b5 a0 a1 a2 a3 a4 a5 a6 a7 a8; obtain ⟨a0, a1, a2, a3, a4, a5, a6, a7, a8⟩ := cells9 (S.out.at 0 rfl))
    go_ret
    exact ⟨by first | rfl | exact congrArg (fun z => Ending.returned (.bool z)) (decide_eq_false (by omega)) | exact congrArg (fun z => Ending.returned (.bool z)) (decide_eq_true (by omega)), S.out.b⟩
  | true =>
    rw [Bool.true_and]
    by_cases h1 : 0 ≤ h
    case neg =>
      rw [decide_eq_false h1, Bool.false_and, Bool.false_and]
      go_enter Try.func37, Try.ntmps37
      go_wp2_with (go_at_call 10; refine K.out.mono ?_; rintro r w5 ⟨rfl, b5⟩; have S := Lib.hid (S0.out.next b5); clear b5 a0 a1 a2 a3 a4 a5 a6 a7 a8; obtain ⟨a0, a1, a2, a3, a4, a5, a6, a7, a8⟩ := cells9 (S.out.at 0 rfl))
      go_ret
      exact ⟨by first | rfl | exact congrArg (fun z => Ending.returned (.bool z)) (decide_eq_false (by omega)) | exact congrArg (fun z => Ending.returned (.bool z)) (decide_eq_true (by omega)), S.out.b⟩
    by_cases h2 : h < c.hosts
    case neg =>
      rw [decide_eq_false h2, Bool.and_false, Bool.false_and]
      go_enter Try.func37, Try.ntmps37
      go_wp2_with (go_at_call 10; refine K.out.mono ?_; rintro r w5 ⟨rfl, b5⟩; have S := Lib.hid (S0.out.next b5); clear b5 a0 a1 a2 a3 a4 a5 a6 a7 a8; obtain ⟨a0, a1, a2, a3, a4, a5, a6, a7, a8⟩ := cells9 (S.out.at 0 rfl))
      go_ret
      exact ⟨by first | rfl | exact congrArg (fun z => Ending.returned (.bool z)) (decide_eq_false (by omega)) | exact congrArg (fun z => Ending.returned (.bool z)) (decide_eq_true (by omega)), S.out.b⟩
    by_cases h3 : 1 ≤ n
    case neg =>
      rw [decide_eq_false h3, Bool.false_and, Bool.and_false]
      go_enter Try.func37, Try.ntmps37
      go_wp2_with (go_at_call 10; refine K.out.mono ?_; rintro r w5 ⟨rfl, b5⟩; have S := Lib.hid (S0.out.next b5); clear b5 a0 a1 a2 a3 a4 a5 a6 a7 a8; obtain ⟨a0, a1, a2, a3, a4, a5, a6, a7, a8⟩ := cells9 (S.out.at 0 rfl))
      go_ret
      exact ⟨by first | rfl | exact congrArg (fun z => Ending.returned (.bool z)) (decide_eq_false (by omega)) | exact congrArg (fun z => Ending.returned (.bool z)) (decide_eq_true (by omega)), S.out.b⟩
    by_cases h4 : n ≤ c.cycle
    · rw [decide_eq_true h1, decide_eq_true h2, decide_eq_true h3, decide_eq_true h4]
      go_enter Try.func37, Try.ntmps37
      go_wp2_with (go_at_call 10; refine K.out.mono ?_; rintro r w5 ⟨rfl, b5⟩; have S := Lib.hid (S0.out.next b5); clear b5 a0 a1 a2 a3 a4 a5 a6 a7 a8; obtain ⟨a0, a1, a2, a3, a4, a5, a6, a7, a8⟩ := cells9 (S.out.at 0 rfl))
      go_ret
      exact ⟨by first | rfl | exact congrArg (fun z => Ending.returned (.bool z)) (decide_eq_false (by omega)) | exact congrArg (fun z => Ending.returned (.bool z)) (decide_eq_true (by omega)), S.out.b⟩
    · rw [decide_eq_false h4, Bool.and_false, Bool.and_false]
      go_enter Try.func37, Try.ntmps37
      go_wp2_with (go_at_call 10; refine K.out.mono ?_; rintro r w5 ⟨rfl, b5⟩; have S := Lib.hid (S0.out.next b5); clear b5 a0 a1 a2 a3 a4 a5 a6 a7 a8; obtain ⟨a0, a1, a2, a3, a4, a5, a6, a7, a8⟩ := cells9 (S.out.at 0 rfl))
      go_ret
      exact ⟨by first | rfl | exact congrArg (fun z => Ending.returned (.bool z)) (decide_eq_false (by omega)) | exact congrArg (fun z => Ending.returned (.bool z)) (decide_eq_true (by omega)), S.out.b⟩
/-- The document's five times of an entry that may be. -/
theorem times_ok (c : Cfg) (D E L : Option Addr) (nd cd ne ce nl cl : Nat) (e : R4) (w : World) (g : EntOk c e) : Calls Try.prog 25 #[.agg #[.int .i64 c.hosts, .int .i64 c.cycle, .int .i64 c.delay, .int .i64 c.window, .int .i64 c.precision, .slice D nd cd, .slice E ne ce, .slice L nl cl, .int .i64 c.queue], .agg #[.int .i64 e.a, .int .u32 e.b, .int .i64 e.c, .int .i64 e.d]] w fun r w' => r = .returned (.agg #[.int .i64 (at0 c e), .int .i64 (at1 c e), .int .i64 (fwd c e), .int .i64 (ear c e), .int .i64 (lat c e)]) ∧ Below w.heap.size w w' := by
  have hp := placed_iff.1 g.pl
  have h := times_any c D E L nd cd ne ce nl cl e w hp.1 hp.2.2
  have i := ent_in g
  rw [i.a0, i.a1, i.f, i.er, i.la]
  exact h
theorem send_yes {c : Cfg} {k t : Int} {e : R4} (h : got c k t = true) (he : entA c k = e) : sendV c k t = (snd c.cycle e.c t, true) := by unfold sendV; rw [h, he]; rfl
theorem send_no {c : Cfg} {k t : Int} (h : got c k t = false) : sendV c k t = (0, false) := by unfold sendV; rw [h]; rfl
set_option maxHeartbeats 2000000 in
theorem refSend_any (c : Cfg) (D E L : Option Addr) (nd cd ne ce nl cl : Nat) (k t : Int) (w : World) (m : CM w c D E L nd cd ne ce nl cl) : Calls Try.prog 14 #[.agg #[.int .i64 c.hosts, .int .i64 c.cycle, .int .i64 c.delay, .int .i64 c.window, .int .i64 c.precision, .slice D nd cd, .slice E ne ce, .slice L nl cl, .int .i64 c.queue], .int .i64 k, .int .i64 t] w fun r w' => r = .returned (.tuple #[.int .i64 (sendV c k t).1, .bool (sendV c k t).2]) ∧ Below w.heap.size w w' := by
  have S0 := Lib.hid ((Stay.start w).alloc (Obj.cells #[.int .i64 c.hosts, .int .i64 c.cycle, .int .i64 c.delay, .int .i64 c.window, .int .i64 c.precision, .slice D nd cd, .slice E ne ce, .slice L nl cl, .int .i64 c.queue] 26))
  have HM := Lib.hid (m.below S0.out.b)
  have K := Lib.hid (entry_any c D E L nd cd ne ce nl cl k t _ HM.out)
  obtain ⟨a0, a1, a2, a3, a4, a5, a6, a7, a8⟩ := cells9 (S0.out.at 0 rfl)
  cases hg : got c k t with
  | false =>
    rw [send_no hg]
    rw [hg] at K
    clear hg m
    go_enter Try.func14, Try.ntmps14
    go_wp2_with (go_at_call 33; refine K.out.mono ?_; rintro r w5 ⟨rfl, b5⟩; have S := Lib.hid (S0.out.next b5); clear b5)
    go_ret2
    exact ⟨rfl, S.out.b⟩
  | true =>
    obtain ⟨n, e, rfl, he, g, ok, hea⟩ := got_ent hg
    rw [send_yes hg hea]
    rw [hg] at K
    obtain ⟨⟨t0, t1⟩, hz⟩ := god_iff.1 g
    have sp := (chk_span hz).1
    have dv := div_ok t0 (show 0 < c.cycle by omega)
    have hsn : snd c.cycle e.c t = if t / c.cycle * c.cycle + e.c < t then t / c.cycle * c.cycle + e.c + c.cycle else t / c.cycle * c.cycle + e.c := rfl
    generalize snd c.cycle e.c t = sn at *
    generalize t / c.cycle = q at *
    generalize t % c.cycle = p at *
    obtain ⟨z, hzq⟩ : ∃ z, q * c.cycle = z := ⟨_, rfl⟩
    have l1 := ok.lo
    have l2 := ok.hi
    have l3 := ok.tp
    have l4 := chk_span hz
    have l5 := dv.bp
    have l6 := dv.es
    have l7 := dv.bq
    have dq2 := dv.eq2
    rw [hzq] at hsn l6
    have nz : ¬ c.cycle = 0 := by omega
    have w1 : IntKind.i64.wrap q = q := by rw [IntKind.wrap_i64]; omega
    have w2 : wrap64 q = q := by unfold wrap64; omega
    have w3 : IntKind.i64.wrap (q * c.cycle) = z := by rw [IntKind.wrap_i64]; omega
    have w4 : wrap64 (q * c.cycle) = z := by unfold wrap64; omega
    obtain ⟨d, hd⟩ : ∃ d, z + e.c = d := ⟨_, rfl⟩
    have w5 : IntKind.i64.wrap (z + e.c) = d := by rw [IntKind.wrap_i64]; omega
    have w6 : wrap64 (z + e.c) = d := by unfold wrap64; omega
    have w7 : IntKind.i64.wrap (d + c.cycle) = d + c.cycle := by rw [IntKind.wrap_i64]; omega
    have w8 : wrap64 (d + c.cycle) = d + c.cycle := by unfold wrap64; omega
    rw [hd] at hsn
    obtain ⟨b, off, rfl, -⟩ := HM.out.he n e he
    have h1 : (n : Int) < (ne : Int) := by
      have := (got_iff.1 hg).2.2
      rw [m.nE]; exact this
    have HN := Lib.hid m.mE
    have ME := Lib.hid (fun W (hW : CM W c D (some ⟨b, off, none⟩) L nd cd ne ce nl cl) => hW.he n e he)
    clear hg m l1 l2 l3 l4 l5 l6 l7 ok dv hz t0 t1 sp hea he g
    have HZQ := Lib.hid hzq
    clear hzq
    clear hd
    by_cases hlt : d < t
    · rw [hsn, if_pos hlt]
      clear hsn
      go_enter Try.func14, Try.ntmps14
      go_wp2_with (go_at_call 33; refine K.out.mono ?_; rintro r w5 ⟨rfl, b5⟩; have S := Lib.hid (S0.out.next b5); have HM2 := HM.out.below b5; obtain ⟨b', off', hb', ⟨x0, x1, x2, x3⟩, -⟩ := ME.out _ HM2; cases hb'; clear HM2 b5 a0 a1 a2 a3 a4 a5 a6 a7 a8; obtain ⟨a0, a1, a2, a3, a4, a5, a6, a7, a8⟩ := cells9 (S.out.at 0 rfl))
      go_region
      have S2 := Lib.hid S.out.drew
      obtain ⟨b0, b1, b2, b3, b4, b5, b6, b7, b8⟩ := cells9 (S2.out.at 0 rfl)
      go_wp2
      go_ret2
      exact ⟨rfl, S2.out.b⟩
    · rw [hsn, if_neg hlt]
      clear hsn
      go_enter Try.func14, Try.ntmps14
      go_wp2_with (go_at_call 33; refine K.out.mono ?_; rintro r w5 ⟨rfl, b5⟩; have S := Lib.hid (S0.out.next b5); have HM2 := HM.out.below b5; obtain ⟨b', off', hb', ⟨x0, x1, x2, x3⟩, -⟩ := ME.out _ HM2; cases hb'; clear HM2 b5 a0 a1 a2 a3 a4 a5 a6 a7 a8; obtain ⟨a0, a1, a2, a3, a4, a5, a6, a7, a8⟩ := cells9 (S.out.at 0 rfl))
      go_region
      have S2 := Lib.hid S.out.drew
      obtain ⟨b0, b1, b2, b3, b4, b5, b6, b7, b8⟩ := cells9 (S2.out.at 0 rfl)
      go_wp2
      go_ret2
      exact ⟨rfl, S2.out.b⟩
end Go.Proofs.Ytdaoemjkefpmcaa.PlanW
