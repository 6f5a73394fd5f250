/- The law PlanWheres: cycle and place of any local time, when an entry is sent next, when it is forwarded and where it lands are as the document says: for every configuration, entry and local time. No condition. -/
import Derived.Test.YtdaoemjkefpmcaaPlanFixed
import Derived.Test.YtdaoemjkefpmcaaPlanF
namespace Go.Proofs.Ytdaoemjkefpmcaa.PlanW.PlanWheres
open Go.ChangeShapes Go.WideShapes Go.ChangeAt Go.RowKit PlanW Shell
open ConfW (Cfg R4 CM chk open_cfg  refCheck_any)
set_option maxHeartbeats 8000000 in
set_option maxRecDepth 100000 in
theorem walk (c : Cfg) (D E L : Option Addr) (nd cd ne ce nl cl : Nat) (k t : Int) (w : World) (m : CM w c D E L nd cd ne ce nl cl) : Calls Try.prog 3 #[.agg #[.int .i64 c.hosts, .int .i64 c.cycle, .int .i64 c.delay, .int .i64 c.window, .int .i64 c.precision, .slice D nd cd, .slice E ne ce, .slice L nl cl, .int .i64 c.queue], .int .i64 k, .int .i64 t] w fun r w' => r = .returned (.bool true) ∧ Below w.heap.size w w' := by
  have HS := Lib.hid (fun W (h : CM W c D E L nd cd ne ce nl cl) => send_any c D E L nd cd ne ce nl cl k t W h)
  have HR := Lib.hid (fun W (h : CM W c D E L nd cd ne ce nl cl) => relay_any c D E L nd cd ne ce nl cl k t W h)
  have HL := Lib.hid (fun W (h : CM W c D E L nd cd ne ce nl cl) => land_any c D E L nd cd ne ce nl cl k t W h)
  have HS2 := Lib.hid (fun W (h : CM W c D E L nd cd ne ce nl cl) => refSend_any c D E L nd cd ne ce nl cl k t W h)
  have HR2 := Lib.hid (fun W (h : CM W c D E L nd cd ne ce nl cl) => refRelay_any c D E L nd cd ne ce nl cl k t W h)
  have HL2 := Lib.hid (fun W (h : CM W c D E L nd cd ne ce nl cl) => refLand_any c D E L nd cd ne ce nl cl k t W h)
  generalize sendV c k t = v1 at *
  generalize relayV c k t = v2 at *
  generalize landV c k t = v3 at *
  obtain ⟨n1, z1⟩ := v1
  obtain ⟨n2, z2⟩ := v2
  obtain ⟨n3, z3⟩ := v3
  dsimp only at HS HR HL HS2 HR2 HL2
  cases hg : god c t with
  | true =>
    have HW := Lib.hid (fun W (h : CM W c D E L nd cd ne ce nl cl) => where_ok c D E L nd cd ne ce nl cl t W h hg)
    have HG := Lib.hid (fun W (h : CM W c D E L nd cd ne ce nl cl) => by have := good_any c D E L nd cd ne ce nl cl t W h; rw [hg] at this; exact this)
    obtain ⟨⟨t0, t1⟩, hz⟩ := god_iff.1 hg
    have sp := (chk_span hz).1
    have dv := div_ok t0 (show 0 < c.cycle by omega)
    generalize t / c.cycle = q at *
    generalize t % c.cycle = p at *
    obtain ⟨dq, dp, dq2, dp2, db, dr, ds⟩ := dv
    obtain ⟨y1, x1⟩ := wr_id (z := q) (by omega)
    obtain ⟨y2, x2⟩ := wr_id (z := p) (by omega)
    have nz : ¬ c.cycle = 0 := by omega
    clear hg t0 t1 hz sp dq dp db dr ds
    have S0 := Lib.hid ((Stay.start w).alloc (Obj.cells #[.int .i64 c.hosts, .int .i64 c.cycle, .int .i64 c.delay, .int .i64 c.window, .int .i64 c.precision, .slice D nd cd, .slice E ne ce, .slice L nl cl, .int .i64 c.queue] 26))
    have HM := Lib.hid m
    go_enter Try.func3, Try.ntmps3
    go_wp2_with fail
    refine (fixed_any _).mono ?_
    rintro r w1 ⟨rfl, b1⟩
    have S1 := Lib.hid (S0.out.next b1)
    clear b1 S0 m
    obtain ⟨a0, a1, a2, a3, a4, a5, a6, a7, a8⟩ := cells9 (S1.out.at 0 rfl)
    go_wp2_with fail
    refine (HW.out _ (HM.out.below S1.out.b)).mono ?_
    rintro r w2 ⟨rfl, b⟩
    have S2 := Lib.hid (S1.out.next b)
    clear b a0 a1 a2 a3 a4 a5 a6 a7 a8
    obtain ⟨a0, a1, a2, a3, a4, a5, a6, a7, a8⟩ := cells9 (S2.out.at 0 rfl)
    go_wp2_with fail
    refine (HG.out _ (HM.out.below S2.out.b)).mono ?_
    rintro r w3 ⟨rfl, b⟩
    have S3 := Lib.hid (S2.out.next b)
    clear b a0 a1 a2 a3 a4 a5 a6 a7 a8
    obtain ⟨a0, a1, a2, a3, a4, a5, a6, a7, a8⟩ := cells9 (S3.out.at 0 rfl)
    go_wp2_with fail
    refine (HS.out _ (HM.out.below S3.out.b)).mono ?_
    rintro r w4 ⟨rfl, b⟩
    have S4 := Lib.hid (S3.out.next b)
    clear b a0 a1 a2 a3 a4 a5 a6 a7 a8
    obtain ⟨a0, a1, a2, a3, a4, a5, a6, a7, a8⟩ := cells9 (S4.out.at 0 rfl)
    go_wp2_with fail
    refine (HR.out _ (HM.out.below S4.out.b)).mono ?_
    rintro r w5 ⟨rfl, b⟩
    have S5 := Lib.hid (S4.out.next b)
    clear b a0 a1 a2 a3 a4 a5 a6 a7 a8
    obtain ⟨a0, a1, a2, a3, a4, a5, a6, a7, a8⟩ := cells9 (S5.out.at 0 rfl)
    go_wp2_with fail
    refine (HL.out _ (HM.out.below S5.out.b)).mono ?_
    rintro r w6 ⟨rfl, b⟩
    have S6 := Lib.hid (S5.out.next b)
    clear b a0 a1 a2 a3 a4 a5 a6 a7 a8
    obtain ⟨a0, a1, a2, a3, a4, a5, a6, a7, a8⟩ := cells9 (S6.out.at 0 rfl)
    go_wp2_with fail
    refine (HS2.out _ (HM.out.below S6.out.b)).mono ?_
    rintro r w7 ⟨rfl, b⟩
    have S7 := Lib.hid (S6.out.next b)
    clear b a0 a1 a2 a3 a4 a5 a6 a7 a8
    obtain ⟨a0, a1, a2, a3, a4, a5, a6, a7, a8⟩ := cells9 (S7.out.at 0 rfl)
    go_wp2_with fail
    refine (HR2.out _ (HM.out.below S7.out.b)).mono ?_
    rintro r w8 ⟨rfl, b⟩
    have S8 := Lib.hid (S7.out.next b)
    clear b a0 a1 a2 a3 a4 a5 a6 a7 a8
    obtain ⟨a0, a1, a2, a3, a4, a5, a6, a7, a8⟩ := cells9 (S8.out.at 0 rfl)
    go_wp2_with fail
    refine (HL2.out _ (HM.out.below S8.out.b)).mono ?_
    rintro r w9 ⟨rfl, b⟩
    have S9 := Lib.hid (S8.out.next b)
    clear b a0 a1 a2 a3 a4 a5 a6 a7 a8
    go_wp2
    go_ret
    exact ⟨by first | rfl | (simp; done), S9.out.b⟩
  | false =>
    have HW := Lib.hid (fun W (h : CM W c D E L nd cd ne ce nl cl) => where_no c D E L nd cd ne ce nl cl t W h hg)
    have HG := Lib.hid (fun W (h : CM W c D E L nd cd ne ce nl cl) => by have := good_any c D E L nd cd ne ce nl cl t W h; rw [hg] at this; exact this)
    clear hg
    have S0 := Lib.hid ((Stay.start w).alloc (Obj.cells #[.int .i64 c.hosts, .int .i64 c.cycle, .int .i64 c.delay, .int .i64 c.window, .int .i64 c.precision, .slice D nd cd, .slice E ne ce, .slice L nl cl, .int .i64 c.queue] 26))
    have HM := Lib.hid m
    go_enter Try.func3, Try.ntmps3
    go_wp2_with fail
    refine (fixed_any _).mono ?_
    rintro r w1 ⟨rfl, b1⟩
    have S1 := Lib.hid (S0.out.next b1)
    clear b1 S0 m
    obtain ⟨a0, a1, a2, a3, a4, a5, a6, a7, a8⟩ := cells9 (S1.out.at 0 rfl)
    go_wp2_with fail
    refine (HW.out _ (HM.out.below S1.out.b)).mono ?_
    rintro r w2 ⟨rfl, b⟩
    have S2 := Lib.hid (S1.out.next b)
    clear b a0 a1 a2 a3 a4 a5 a6 a7 a8
    obtain ⟨a0, a1, a2, a3, a4, a5, a6, a7, a8⟩ := cells9 (S2.out.at 0 rfl)
    go_wp2_with fail
    refine (HG.out _ (HM.out.below S2.out.b)).mono ?_
    rintro r w3 ⟨rfl, b⟩
    have S3 := Lib.hid (S2.out.next b)
    clear b a0 a1 a2 a3 a4 a5 a6 a7 a8
    obtain ⟨a0, a1, a2, a3, a4, a5, a6, a7, a8⟩ := cells9 (S3.out.at 0 rfl)
    go_wp2_with fail
    refine (HS.out _ (HM.out.below S3.out.b)).mono ?_
    rintro r w4 ⟨rfl, b⟩
    have S4 := Lib.hid (S3.out.next b)
    clear b a0 a1 a2 a3 a4 a5 a6 a7 a8
    obtain ⟨a0, a1, a2, a3, a4, a5, a6, a7, a8⟩ := cells9 (S4.out.at 0 rfl)
    go_wp2_with fail
    refine (HR.out _ (HM.out.below S4.out.b)).mono ?_
    rintro r w5 ⟨rfl, b⟩
    have S5 := Lib.hid (S4.out.next b)
    clear b a0 a1 a2 a3 a4 a5 a6 a7 a8
    obtain ⟨a0, a1, a2, a3, a4, a5, a6, a7, a8⟩ := cells9 (S5.out.at 0 rfl)
    go_wp2_with fail
    refine (HL.out _ (HM.out.below S5.out.b)).mono ?_
    rintro r w6 ⟨rfl, b⟩
    have S6 := Lib.hid (S5.out.next b)
    clear b a0 a1 a2 a3 a4 a5 a6 a7 a8
    obtain ⟨a0, a1, a2, a3, a4, a5, a6, a7, a8⟩ := cells9 (S6.out.at 0 rfl)
    go_wp2_with fail
    refine (HS2.out _ (HM.out.below S6.out.b)).mono ?_
    rintro r w7 ⟨rfl, b⟩
    have S7 := Lib.hid (S6.out.next b)
    clear b a0 a1 a2 a3 a4 a5 a6 a7 a8
    obtain ⟨a0, a1, a2, a3, a4, a5, a6, a7, a8⟩ := cells9 (S7.out.at 0 rfl)
    go_wp2_with fail
    refine (HR2.out _ (HM.out.below S7.out.b)).mono ?_
    rintro r w8 ⟨rfl, b⟩
    have S8 := Lib.hid (S7.out.next b)
    clear b a0 a1 a2 a3 a4 a5 a6 a7 a8
    obtain ⟨a0, a1, a2, a3, a4, a5, a6, a7, a8⟩ := cells9 (S8.out.at 0 rfl)
    go_wp2_with fail
    refine (HL2.out _ (HM.out.below S8.out.b)).mono ?_
    rintro r w9 ⟨rfl, b⟩
    have S9 := Lib.hid (S8.out.next b)
    clear b a0 a1 a2 a3 a4 a5 a6 a7 a8
    go_wp2
    go_ret
    exact ⟨by first | rfl | (simp; done), S9.out.b⟩
set_option maxRecDepth 100000 in
/-- What the walk gives, for every argument and every world. -/
theorem contract (H : Type) (enc : TypeId × Value → H) (W : World) (base : Nat) (args : Array Value) (ds gs : List (DataW H)) (before : List MemPlace)
    (hval : ∀ (j : Nat) t v, Try.f3.params[j]? = some t → args[j]? = some v → Value.okWide Try.prog W .any base t v)
    (hW : DataW.Whole enc Try.prog Try.f3.params.toList Rows.planWheresSpec.vars false W args.toList ds gs before) : 
    Calls Try.prog 3 args W fun e W' => ∃ v, e = .returned v ∧ Rows.planWheresSpec.post enc Try.prog Try.f3 false true false false W args v W' := by
  have hW' := hW
  obtain ⟨p, q, hA0, hV, rfl, hfz, hnd⟩ := hW
  have hA : DataW.TrodAll enc Try.prog W 0 (fun _ => true) true Try.f3.params.toList args.toList ds p := hA0
  rw [Try.params3] at hA hval
  obtain ⟨v0, vs0, d0, ds0, p0, q0, hargs, rfl, rfl, h0, r0⟩ := trodAll_cons hA
  obtain ⟨v1, vs1, d1, ds1, p1, q1, rfl, rfl, rfl, h1, r1⟩ := trodAll_cons r0
  obtain ⟨v2, vs2, d2, ds2, p2, q2, rfl, rfl, rfl, h2, r2⟩ := trodAll_cons r1
  obtain ⟨rfl, rfl, rfl⟩ := trodAll_nil r2
  obtain rfl : args = #[v0, v1, v2] := by cases args; simp_all
  obtain ⟨rfl, rfl⟩ := trodVars_none hV
  obtain ⟨c0, D0, E0, L0, nd0, cd0, ne0, ce0, nl0, cl0, rfl, m0, s0⟩ := open_cfg (hval 0 26 v0 rfl rfl) h0
  obtain ⟨k, rfl, rfl, rfl, w1⟩ := open_int Try.underlying3 (hval 1 3 v1 rfl rfl) h1
  obtain ⟨t, rfl, rfl, rfl, w2⟩ := open_int Try.underlying2 (hval 2 2 v2 rfl rfl) h2
  refine (walk c0 D0 E0 L0 nd0 cd0 ne0 ce0 nl0 cl0 k t W m0).mono fun e W' ⟨he, hb⟩ => ?_
  exact ⟨_, he, Shell.post_law ConfW.laidOut (by kernel_rfl) rfl Try.underlying4 rfl hW' rfl hb⟩
theorem reads (os : Os) {H : Type} (enc : TypeId × Value → H) : ∃ places, DataW.whole enc Try.prog ((World.holding Try.prog os ⟨#[], #[], []⟩).forCall (fun _ _ => 0) ⟨#[], #[.agg #[.int .i64 0, .int .i64 0, .int .i64 0, .int .i64 0, .int .i64 0, .slice none 0 0, .slice none 0 0, .slice none 0 0, .int .i64 0], .int .i64 0, .int .i64 0], []⟩).memory Try.f3.params.toList Rows.planWheresSpec.vars false (#[Value.agg #[.int .i64 0, .int .i64 0, .int .i64 0, .int .i64 0, .int .i64 0, .slice none 0 0, .slice none 0 0, .slice none 0 0, .int .i64 0], Value.int .i64 0, Value.int .i64 0]).toList 8 = some ([.agg [.lit (.int .i64 0), .lit (.int .i64 0), .lit (.int .i64 0), .lit (.int .i64 0), .lit (.int .i64 0), .nil, .nil, .nil, .lit (.int .i64 0)], .lit (.int .i64 0), .lit (.int .i64 0)], [], places) :=
  ⟨[], by kernel_rfl⟩
set_option maxRecDepth 100000 in
theorem lifted (os : Os) (started : os.Started) (H : Type) (enc : TypeId × Value → H) (F : Stop.Interp) :
    ReturnsInHanded {} Try.checked os 3 .any ((OpenSpec.ofChange Rows.planWheresSpec).preRow enc Try.prog Try.f3 Rows.planWheresRow.domain false Rows.planWheresRow.laid) (((OpenSpec.ofChange Rows.planWheresSpec).at F).post enc Try.prog Try.f3 false true false false) := by
  obtain ⟨places, hx⟩ := reads os enc
  refine returnsInHanded_of_row (C := Try.checked) (s := OpenSpec.ofChange Rows.planWheresSpec) ConfW.own started (by kernel_rfl) Try.func3
    (witness_row_atRef (enc := enc) (C := Try.checked) false (World.holding Try.prog os ⟨#[], #[], []⟩) #[.agg #[.int .i64 0, .int .i64 0, .int .i64 0, .int .i64 0, .int .i64 0, .slice none 0 0, .slice none 0 0, .slice none 0 0, .int .i64 0], .int .i64 0, .int .i64 0] rfl (by kernel_rfl) (by kernel_rfl) (by kernel_rfl)
      (OpenSpec.preRow_of_cond 8 hx (by kernel_rfl) (fun k hk => by cases hk) (by kernel_rfl) (ConfW.laid_met os _))) ?_
  intro W base args ds gs before hval hW _ _ _ hL _ _
  exact contract H enc W base args ds gs before hval hW
theorem said : Rows.PlanWheresSaid :=
  OpenClaim.holds_of_cond 3 Try.f3 rfl rfl rfl rfl rfl rfl rfl ⟨rfl, rfl, rfl, rfl, rfl⟩ rfl rfl rfl rfl rfl (by kernel_rfl) Try.func3 (by kernel_rfl)
    (of_decide_eq_true (by kernel_rfl)) (by unfold Func.isWrapper; first | (rw [if_pos (by decide +kernel)]; kernel_rfl) | (rw [if_neg (by decide +kernel)]; exact ⟨rfl, rfl⟩))
    (fun os started H enc _ F => by rw [OpenClaim.pre_eq_preRow]; exact lifted os started H enc F)
end Go.Proofs.Ytdaoemjkefpmcaa.PlanW.PlanWheres
