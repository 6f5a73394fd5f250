/- The chapter's examples. -/
import Derived.Test.YtdaoemjkefpmcaaPlanD
import Derived.Test.YtdaoemjkefpmcaaConfFam
namespace Go.Proofs.Ytdaoemjkefpmcaa.PlanW
open Go.RowKit Shell
open ConfW (Cfg R4 CM chk famC refFamily_any)
theorem i64_wf {n : Int} (h : (Lit.int .i64 n).wf = true) : -9223372036854775808 ≤ n ∧ n ≤ 9223372036854775807 := by
  simp [Lit.wf] at h
  exact h
theorem i32_wf {n : Int} (h : (Lit.int .i32 n).wf = true) : -2147483648 ≤ n ∧ n ≤ 2147483647 := by
  simp [Lit.wf] at h
  exact h
theorem fam_any (w : World) : Calls Try.prog 26 #[.int .i64 4, .int .i64 3] w fun r w' =>
    ∃ c D E nd cd ne ce, r = .returned (.agg #[.int .i64 c.hosts, .int .i64 c.cycle, .int .i64 c.delay, .int .i64 c.window, .int .i64 c.precision, .slice D nd cd, .slice E ne ce, .slice none 0 0, .int .i64 c.queue]) ∧
      CM w' c D E none nd cd ne ce 0 0 ∧ c = famC 4 3 ∧ Below w.heap.size w w' := by
  refine (refFamily_any 4 3 w).mono ?_
  rintro r w' ⟨D, E, nd, cd, ne, ce, rfl, h, b⟩
  exact ⟨famC 4 3, D, E, nd, cd, ne, ce, rfl, h, rfl, b⟩
theorem f_where (c : Cfg) (D E L : Option Addr) (nd cd ne ce nl cl : Nat) (hc : c = famC 4 3) (w : World) (m : CM w c D E L nd cd ne ce nl cl) : Calls Try.prog 9 #[.agg #[.int .i64 c.hosts, .int .i64 c.cycle, .int .i64 c.delay, .int .i64 c.window, .int .i64 c.precision, .slice D nd cd, .slice E ne ce, .slice L nl cl, .int .i64 c.queue], .int .i64 4000123] w fun r w' => r = .returned (.tuple #[.int .i64 2, .int .i64 123, .bool true]) ∧ Below w.heap.size w w' := by
  have h := where_ok c D E L nd cd ne ce nl cl 4000123 w m (by rw [hc]; decide +kernel)
  rw [show (4000123 : Int) / c.cycle = 2 by rw [hc]; decide +kernel, show (4000123 : Int) % c.cycle = 123 by rw [hc]; decide +kernel] at h
  exact h
theorem f_send (c : Cfg) (D E L : Option Addr) (nd cd ne ce nl cl : Nat) (hc : c = famC 4 3) (w : World) (m : CM w c D E L nd cd ne ce nl cl) : Calls Try.prog 11 #[.agg #[.int .i64 c.hosts, .int .i64 c.cycle, .int .i64 c.delay, .int .i64 c.window, .int .i64 c.precision, .slice D nd cd, .slice E ne ce, .slice L nl cl, .int .i64 c.queue], .int .i64 0, .int .i64 10001] w fun r w' => r = .returned (.tuple #[.int .i64 2010000, .bool true]) ∧ Below w.heap.size w w' := by
  have h := send_any c D E L nd cd ne ce nl cl 0 10001 w m
  rw [show sendV c 0 10001 = (2010000, true) by rw [hc]; decide +kernel] at h
  exact h
theorem f_relay (c : Cfg) (D E L : Option Addr) (nd cd ne ce nl cl : Nat) (hc : c = famC 4 3) (w : World) (m : CM w c D E L nd cd ne ce nl cl) : Calls Try.prog 12 #[.agg #[.int .i64 c.hosts, .int .i64 c.cycle, .int .i64 c.delay, .int .i64 c.window, .int .i64 c.precision, .slice D nd cd, .slice E ne ce, .slice L nl cl, .int .i64 c.queue], .int .i64 0, .int .i64 2010500] w fun r w' => r = .returned (.tuple #[.int .i64 2013512, .bool true]) ∧ Below w.heap.size w w' := by
  have h := relay_any c D E L nd cd ne ce nl cl 0 2010500 w m
  rw [show relayV c 0 2010500 = (2013512, true) by rw [hc]; decide +kernel] at h
  exact h
theorem f_land (c : Cfg) (D E L : Option Addr) (nd cd ne ce nl cl : Nat) (hc : c = famC 4 3) (w : World) (m : CM w c D E L nd cd ne ce nl cl) : Calls Try.prog 13 #[.agg #[.int .i64 c.hosts, .int .i64 c.cycle, .int .i64 c.delay, .int .i64 c.window, .int .i64 c.precision, .slice D nd cd, .slice E ne ce, .slice L nl cl, .int .i64 c.queue], .int .i64 0, .int .i64 2014000] w fun r w' => r = .returned (.tuple #[.int .i64 1, .bool true]) ∧ Below w.heap.size w w' := by
  have h := land_any c D E L nd cd ne ce nl cl 0 2014000 w m
  rw [show landV c 0 2014000 = (1, true) by rw [hc]; decide +kernel] at h
  exact h
theorem f_free1 (c : Cfg) (D E L : Option Addr) (nd cd ne ce nl cl : Nat) (hc : c = famC 4 3) (w : World) (m : CM w c D E L nd cd ne ce nl cl) : Calls Try.prog 19 #[.agg #[.int .i64 c.hosts, .int .i64 c.cycle, .int .i64 c.delay, .int .i64 c.window, .int .i64 c.precision, .slice D nd cd, .slice E ne ce, .slice L nl cl, .int .i64 c.queue], .int .i64 0, .bool false, .int .i64 9000, .int .i64 1000] w fun r w' => r = .returned (.bool true) ∧ Below w.heap.size w w' := by
  have h := free_any c D E L nd cd ne ce nl cl 0 false 9000 1000 w m
  rw [show freeV c 0 false 9000 1000 = true by rw [hc]; decide +kernel] at h
  exact h
theorem f_free2 (c : Cfg) (D E L : Option Addr) (nd cd ne ce nl cl : Nat) (hc : c = famC 4 3) (w : World) (m : CM w c D E L nd cd ne ce nl cl) : Calls Try.prog 19 #[.agg #[.int .i64 c.hosts, .int .i64 c.cycle, .int .i64 c.delay, .int .i64 c.window, .int .i64 c.precision, .slice D nd cd, .slice E ne ce, .slice L nl cl, .int .i64 c.queue], .int .i64 0, .bool false, .int .i64 9000, .int .i64 1001] w fun r w' => r = .returned (.bool false) ∧ Below w.heap.size w w' := by
  have h := free_any c D E L nd cd ne ce nl cl 0 false 9000 1001 w m
  rw [show freeV c 0 false 9000 1001 = false by rw [hc]; decide +kernel] at h
  exact h
theorem fam_rs : rs (famC 4 3) 0 false (famC 4 3).entries = [(10000, 512)] := by decide +kernel
theorem fam_first : First (famC 4 3).cycle (rs (famC 4 3) 0 false (famC 4 3).entries) 1000 9500 (some 10512) := by
  have ho : Ok (famC 4 3).cycle [((10000 : Int), (512 : Int))] := by
    intro x hx
    rw [List.mem_singleton] at hx
    subst hx
    decide +kernel
  rw [fam_rs]
  refine ⟨by decide +kernel, fun hm => ?_, fun v h1 h2 => ⟨(10000, 512), List.mem_singleton.2 rfl, 0, ?_⟩⟩
  · have := (mtb_iff (C := (famC 4 3).cycle) (t := 10512) (n := 1000) (by decide +kernel) ho (by decide +kernel)).2 hm
    rw [show mtb (famC 4 3).cycle 10512 1000 [((10000 : Int), (512 : Int))] = false by decide +kernel] at this
    cases this
  · unfold hit
    rw [Int.zero_mul]
    dsimp only
    omega
theorem f_wait (c : Cfg) (D E L : Option Addr) (nd cd ne ce nl cl : Nat) (hc : c = famC 4 3) (w : World) (m : CM w c D E L nd cd ne ce nl cl) : Calls Try.prog 17 #[.agg #[.int .i64 c.hosts, .int .i64 c.cycle, .int .i64 c.delay, .int .i64 c.window, .int .i64 c.precision, .slice D nd cd, .slice E ne ce, .slice L nl cl, .int .i64 c.queue], .int .i64 0, .bool false, .int .i64 9500, .int .i64 1000] w fun r w' => r = .returned (.tuple #[.int .i64 10512, .bool true]) ∧ Below w.heap.size w w' := by
  refine (wait_any c D E L nd cd ne ce nl cl 0 false 9500 1000 w m).mono ?_
  rintro r w' ⟨⟨z, rfl, hz⟩, b⟩
  refine ⟨?_, b⟩
  unfold WaitT at hz
  rw [if_pos (by rw [hc]; decide +kernel)] at hz
  rw [hc] at hz
  rw [first_one hz fam_first]
  rfl
set_option maxHeartbeats 8000000 in
set_option maxRecDepth 100000 in
theorem fixed_any (w : World) : Calls Try.prog 8 #[] w fun e w' => e = .returned (.bool true) ∧ Below w.heap.size w w' := by
  go_enter Try.func8, Try.ntmps8
  go_wp2_with fail
  refine (fam_any _).mono ?_
  rintro r w1 ⟨c, D, E, nd, cd, ne, ce, rfl, hm, hc, b1⟩
  have HM := Lib.hid hm
  have HC := Lib.hid hc
  have S := Lib.hid (((Stay.start w1).alloc (.cells #[.int .i64 c.hosts, .int .i64 c.cycle, .int .i64 c.delay, .int .i64 c.window, .int .i64 c.precision, .slice D nd cd, .slice E ne ce, .slice none 0 0, .int .i64 c.queue] 26)))
  have B1 := Lib.hid b1
  clear hm hc b1
  obtain ⟨a0, a1, a2, a3, a4, a5, a6, a7, a8⟩ := cells9 (S.out.at 0 rfl)
  go_wp2_with fail
  refine (f_where c D E none nd cd ne ce 0 0 HC.out _ (HM.out.below S.out.b)).mono ?_
  rintro r v1 ⟨rfl, b⟩
  have S1 := Lib.hid (S.out.next b)
  clear b a0 a1 a2 a3 a4 a5 a6 a7 a8
  obtain ⟨a0, a1, a2, a3, a4, a5, a6, a7, a8⟩ := cells9 (S1.out.at 0 rfl)
  go_wp2_with fail
  refine (f_send c D E none nd cd ne ce 0 0 HC.out _ (HM.out.below S1.out.b)).mono ?_
  rintro r v2 ⟨rfl, b⟩
  have S2 := Lib.hid (S1.out.next b)
  clear b a0 a1 a2 a3 a4 a5 a6 a7 a8
  obtain ⟨a0, a1, a2, a3, a4, a5, a6, a7, a8⟩ := cells9 (S2.out.at 0 rfl)
  go_wp2_with fail
  refine (f_relay c D E none nd cd ne ce 0 0 HC.out _ (HM.out.below S2.out.b)).mono ?_
  rintro r v3 ⟨rfl, b⟩
  have S3 := Lib.hid (S2.out.next b)
  clear b a0 a1 a2 a3 a4 a5 a6 a7 a8
  obtain ⟨a0, a1, a2, a3, a4, a5, a6, a7, a8⟩ := cells9 (S3.out.at 0 rfl)
  go_wp2_with fail
  refine (f_land c D E none nd cd ne ce 0 0 HC.out _ (HM.out.below S3.out.b)).mono ?_
  rintro r v4 ⟨rfl, b⟩
  have S4 := Lib.hid (S3.out.next b)
  clear b a0 a1 a2 a3 a4 a5 a6 a7 a8
  obtain ⟨a0, a1, a2, a3, a4, a5, a6, a7, a8⟩ := cells9 (S4.out.at 0 rfl)
  go_wp2_with fail
  refine (f_wait c D E none nd cd ne ce 0 0 HC.out _ (HM.out.below S4.out.b)).mono ?_
  rintro r v5 ⟨rfl, b⟩
  have S5 := Lib.hid (S4.out.next b)
  clear b a0 a1 a2 a3 a4 a5 a6 a7 a8
  obtain ⟨a0, a1, a2, a3, a4, a5, a6, a7, a8⟩ := cells9 (S5.out.at 0 rfl)
  go_wp2_with fail
  refine (f_free1 c D E none nd cd ne ce 0 0 HC.out _ (HM.out.below S5.out.b)).mono ?_
  rintro r v6 ⟨rfl, b⟩
  have S6 := Lib.hid (S5.out.next b)
  clear b a0 a1 a2 a3 a4 a5 a6 a7 a8
  obtain ⟨a0, a1, a2, a3, a4, a5, a6, a7, a8⟩ := cells9 (S6.out.at 0 rfl)
  go_wp2_with fail
  refine (f_free2 c D E none nd cd ne ce 0 0 HC.out _ (HM.out.below S6.out.b)).mono ?_
  rintro r v7 ⟨rfl, b⟩
  have S7 := Lib.hid (S6.out.next b)
  clear b a0 a1 a2 a3 a4 a5 a6 a7 a8
  go_wp2
  go_ret
  exact ⟨rfl, B1.out.trans (S7.out.b.mono B1.out.size)⟩
end Go.Proofs.Ytdaoemjkefpmcaa.PlanW
