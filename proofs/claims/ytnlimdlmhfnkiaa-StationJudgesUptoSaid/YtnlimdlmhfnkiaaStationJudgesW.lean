/- StationJudges, walked by what is asked of a station (scripts of no more than 2^20 acts: what was taken is held in a row). -/
import Derived.Test.YtnlimdlmhfnkiaaStationS
import Derived.Test.YtnlimdlmhfnkiaaStationTwo
namespace Go.Proofs.Ytnlimdlmhfnkiaa.StationW
open Go.RowKit Shell
open ConfW (Cfg R4 CM ML chk)
open FrameW (BL rdE rdV)
theorem ops_bl {w W : World} {A : Option Addr} {ops : List Op} (h : OPS w A ops) {i : Nat} {o : Op} (hi : ops[i]? = some o) (hW : Below w.heap.size w W) : BL W o.A o.l ∧ o.l.length ≤ 9223372036854775807 ∧ o.l.length ≤ o.cp := by
  obtain ⟨_, _, _, _, _, _, h4, h5⟩ := (h.below hW) i o hi
  exact ⟨h4, h5⟩
theorem one19 : OneG Try.prog 34 43 F19.n 64 := oneG_of Try.underlying34 (by kernel_rfl)
section
variable {SI : SIT} {w0 W W1 : World} {X X' : Nat → Prop} {g N Bt : Nat} {c : Cfg} {h : Int} {T L : List Tn} {a b : Int} {B : List (Nat × Obj)} {v v' tv : Value} {e : TypeId}
theorem SQ.step (S : Spec SI) (q : SQ SI w0 X g c h T a b N B W) (s : Step W v W1 v') (hX : ∀ j, v.ownBlock = some j → ¬ X j ∧ w0.heap.size ≤ j) (hB : ∀ x ∈ B, v.ownBlock ≠ some x.1) : SQ SI w0 X g c h T a b N B W1 :=
  ⟨S.frame q.p s.g.size (fun j hj => s.g.block j (S.foot q.p j hj).2 (fun e => (hX j e.symm).1 hj)), q.b.grown s.g q.b.size (fun k hk => (hX k hk).2), fun x hx => ⟨(s.g.block x.1 (lt_of_heap (q.bx x hx).1) (fun e => hB x hx e.symm)).trans (q.bx x hx).1, (q.bx x hx).2⟩⟩
/-- A row of the call's own beside a station that turns. -/
structure OT (Bt : Nat) (X : Nat → Prop) (tv : Value) (L : List Tn) (W : World) : Prop where
  o : OG F19 W Bt 43 tv L
  n : ∀ j, tv.ownBlock = some j → ¬ X j
theorem OT.turn (t : OT Bt X tv L W) (u : Turn X X' W W1) : OT Bt X' tv L W1 :=
  ⟨t.o.block (fun k hk => u.block k (t.o.lt k hk).2 (t.n k hk)), fun j hj hX => by
    rcases u.foot j hX with h1 | h1
    · exact t.n j hj h1
    · have := (t.o.lt j hj).2; omega⟩
theorem OT.next (t : OT Bt X tv L W) (k : Below W.heap.size W W1) : OT Bt X tv L W1 := ⟨t.o.below k, t.n⟩
end
theorem og_sg {W : World} {Bt n cv : Nat} {e : TypeId} {A : Option Addr} {L : List Tn} (o : OG F19 W Bt e (.slice A n cv) L) : SG F19 W A L := by
  obtain ⟨A', c', hv, hs, -⟩ := o.form
  injection hv with e1
  subst e1
  exact hs
theorem ot_step {SI : SIT} {w0 W W1 : World} {X : Nat → Prop} {g N Bt : Nat} {c : Cfg} {h : Int} {T L L' : List Tn} {a b : Int} {B : List (Nat × Obj)} {tv v' : Value} (S : Spec SI) (q : SQ SI w0 X g c h T a b N B W) (t : OT Bt X tv L W) (o : OG F19 W1 Bt 43 v' L') (s : Step W tv W1 v') : OT Bt X v' L' W1 :=
  ⟨o, fun j hj hX => by
    rcases s.m with h1 | ⟨k, h1, h2⟩
    · exact t.n j (h1.symm.trans hj) hX
    · rw [hj] at h1; cases h1; have := (S.foot q.p j hX).2; omega⟩
/-- What is held behind i acts. -/
def JS (SI : SIT) (w0 : World) (g : Nat) (c : Cfg) (D E L : Option Addr) (nd cd ne ce nl cl : Nat) (h : Int) (ops : List Op) (i : Nat) (tv : Value) (W : World) : Prop :=
  ∃ X N, N ≤ i ∧ SQ SI w0 X g c h (runT c h ops i) (runA c h ops i) (runZ c h ops i) N [(w0.heap.size, cbx c D E L nd cd ne ce nl cl)] W ∧ OT (w0.heap.size + 1) X tv (runT c h ops i) W
section
variable {SI : SIT}
set_option maxHeartbeats 16000000 in
set_option maxRecDepth 100000 in
theorem judges_walk (S : Spec SI) (hf : ∀ W, Calls Try.prog 8 #[] W fun r W' => r = .returned (.bool true) ∧ Below W.heap.size W W') (c : Cfg) (D E L : Option Addr) (nd cd ne ce nl cl : Nat) (h : Int) (A : Option Addr) (n cp : Nat) (ops : List Op) (w : World) (m : CM w c D E L nd cd ne ce nl cl) (ho : OPS w A ops) (hn : ops.length = n) (hz : n ≤ 1048576) :
    Calls Try.prog 3 #[.agg #[.int .i64 c.hosts, .int .i64 c.cycle, .int .i64 c.delay, .int .i64 c.window, .int .i64 c.precision, .slice D nd cd, .slice E ne ce, .slice L nl cl, .int .i64 c.queue], .int .i64 h, .slice A n cp] w fun r w' => r = .returned (.bool true) ∧ Below w.heap.size w w' := by
  have SH := Lib.hid S
  have HM := Lib.hid m
  have HO := Lib.hid ho
  have HN := Lib.hid hn
  have HZ := Lib.hid hz
  have S0 := Lib.hid ((Stay.start w).alloc (cbx c D E L nd cd ne ce nl cl))
  have HF := Lib.hid hf
  clear S m ho hn hz hf
  go_enter Try.func3, Try.ntmps3
  go_wp2_with fail
  refine (HF.out _).mono ?_
  rintro r w1 ⟨rfl, b1⟩
  have S1 := Lib.hid (S0.out.next b1)
  clear b1 S0 HF
  obtain ⟨a0, a1, a2, a3, a4, a5, a6, a7, a8⟩ := PlanW.cells9 (S1.out.at 0 rfl)
  go_wp2_with fail
  by_cases hz : may c h
  case neg =>
    refine (SH.out.bad c D E L nd cd ne ce nl cl h _ (HM.out.below S1.out.b) hz).mono ?_
    rintro r w2 ⟨rfl, b2⟩
    have S2 := Lib.hid (S1.out.next b2)
    clear b2 S1 a0 a1 a2 a3 a4 a5 a6 a7 a8
    obtain ⟨a0, a1, a2, a3, a4, a5, a6, a7, a8⟩ := PlanW.cells9 (S2.out.at 0 rfl)
    go_wp2_with fail
    refine (ConfW.refCheck_any c D E L nd cd ne ce nl cl _ (HM.out.below S2.out.b)).mono ?_
    rintro r w3 ⟨rfl, b3⟩
    have S3 := Lib.hid (S2.out.next b3)
    clear b3 S2 a0 a1 a2 a3 a4 a5 a6 a7 a8
    obtain ⟨a0, a1, a2, a3, a4, a5, a6, a7, a8⟩ := PlanW.cells9 (S3.out.at 0 rfl)
    unfold may at hz
    generalize chk c = z at *
    by_cases q1 : z = 0
    · subst q1
      by_cases q2 : h < 0
      · have q3 : decide (h < 0) = true := decide_eq_true q2
        go_wp2
        go_ret
        exact ⟨rfl, S3.out.b⟩
      · have q3 : decide (h < 0) = false := decide_eq_false q2
        have q4 : h ≥ c.hosts := by
          have : ¬ h < c.hosts := fun e => hz ⟨rfl, Int.not_lt.1 q2, e⟩
          omega
        have q5 : decide (c.hosts ≤ h) = true := decide_eq_true q4
        go_wp2
        go_ret
        exact ⟨rfl, S3.out.b⟩
    · have q2 : (z != 0) = true := by rw [bne_iff_ne]; exact q1
      go_wp2
      go_ret
      exact ⟨rfl, S3.out.b⟩
  case pos =>
    refine (SH.out.new c D E L nd cd ne ce nl cl h _ (HM.out.below S1.out.b) hz).mono ?_
    rintro r w2 ⟨g, X, rfl, F2, b2⟩
    have Q2 := Lib.hid (sq_new SH.out F2 b2 S1.out (fun x hx => by rw [List.mem_singleton] at hx; subst hx; exact Nat.le_refl _))
    clear F2 b2 S1 a0 a1 a2 a3 a4 a5 a6 a7 a8
    obtain ⟨a0, a1, a2, a3, a4, a5, a6, a7, a8⟩ := PlanW.cells9 (Q2.out.at 0 rfl)
    go_wp2_with fail
    refine (ConfW.refCheck_any c D E L nd cd ne ce nl cl _ (HM.out.below Q2.out.b)).mono ?_
    rintro r w3 ⟨rfl, b3⟩
    have Q3 := Lib.hid (Q2.out.next SH.out b3)
    rw [hz.1]
    have q3 : decide (h < 0) = false := decide_eq_false (Int.not_lt.2 hz.2.1)
    have q4 : ¬ h < 0 := Int.not_lt.2 hz.2.1
    have q5 : decide (c.hosts ≤ h) = false := decide_eq_false (Int.not_le.2 hz.2.2)
    have q6 : ¬ h ≥ c.hosts := Int.not_le.2 hz.2.2
    have MAY := Lib.hid hz
    clear b3 Q2 hz a0 a1 a2 a3 a4 a5 a6 a7 a8
    obtain ⟨a0, a1, a2, a3, a4, a5, a6, a7, a8⟩ := PlanW.cells9 (Q3.out.at 0 rfl)
    have J0 := Lib.hid (show JS SI w g c D E L nd cd ne ce nl cl h ops 0 (.slice none 0 0) w3 from ⟨X, 0, Nat.le_refl _, Q3.out, OG.nil _ _ _, fun j hj => by cases hj⟩)
    go_wp2
    clear a0 a1 a2 a3 a4 a5 a6 a7 a8 q3 q4 q5 q6 Q3
    go_loopw [9, 10, 11, 53] (fun tv ga gb iv wr => ∃ (i : Nat), i ≤ n ∧ iv = .int .i64 i ∧ ga = .int .i64 (runA c h ops i) ∧ gb = .int .i64 (runZ c h ops i) ∧ Hid (JS SI w g c D E L nd cd ne ce nl cl h ops i tv wr)) (fun _ _ _ iv _ => n - (intOf iv).toNat)
    case atStart => exact ⟨0, Nat.zero_le _, rfl, rfl, rfl, J0⟩
    case round =>
      clear J0
      obtain ⟨i, hi, rfl, rfl, rfl, HQ⟩ := hrel
      have hnn : n ≤ 9223372036854775807 := by have := HZ.out; omega
      obtain ⟨X, N, hNi, Q0, O0⟩ := HQ.out
      have Q1 := Lib.hid Q0
      have O1 := Lib.hid O0
      have HNI := Lib.hid hNi
      clear Q0 O0 HQ hNi
      by_cases hlt : i < n
      case neg =>
        obtain rfl : n = i := by omega
        go_wp2
        go_ret
        exact ⟨rfl, Q1.out.b⟩
      have hlt' : (i : Int) < (n : Int) := by omega
      obtain ⟨o, hoi⟩ : ∃ o, ops[i]? = some o := ⟨_, List.getElem?_eq_getElem (by rw [HN.out]; exact hlt)⟩
      obtain ⟨ot, oA, ol, oc, fo⟩ := o
      have HBL := Lib.hid (show ∀ W : World, Below w.heap.size w W → BL W oA ol ∧ ol.length ≤ 9223372036854775807 ∧ ol.length ≤ oc from fun (W : World) (hW : Below w.heap.size w W) => ops_bl HO.out hoi hW)
      obtain ⟨b, off, rfl, m0, m1, m2, -, -, -⟩ := (HO.out.below Q1.out.b) i _ hoi
      dsimp only at m0 m1 m2
      have HR := Lib.hid (run_in c h ops i)
      have Q2 := Lib.hid (Q1.out.box SH.out (obx ⟨ot, oA, ol, oc, fo⟩))
      have O2 := Lib.hid (O1.out.next (al (Below.refl _ _) (obx ⟨ot, oA, ol, oc, fo⟩)))
      obtain ⟨x0, x1, x2⟩ := cells3 (Q2.out.at 0 rfl)
      cases fo with
      | true =>
        obtain ⟨e1, e2, e3⟩ := run_forget c h hoi rfl
        have E1 := Lib.hid e1
        have E2 := Lib.hid e2
        have E3 := Lib.hid e3
        clear e1 e2 e3 hoi O1 O2
        go_wp2_with fail
        refine (SH.out.forget Q2.out.p).mono ?_
        rintro r w3 ⟨rfl, X3, F3, T3⟩
        have Q3 := Lib.hid ((Q2.out.turn SH.out F3 T3).drop)
        have J3 := Lib.hid (show JS SI w g c D E L nd cd ne ce nl cl h ops (i + 1) (.slice none 0 0) w3 from ⟨X3, N, Nat.le_succ_of_le HNI.out, by rw [E1.out, E2.out, E3.out]; exact Q3.out, by rw [E1.out]; exact ⟨OG.nil _ _ _, fun j hj => by cases hj⟩⟩)
        clear F3 T3 Q1 Q2 x0 x1 x2 m0 m1 m2
        go_wp2
        go_roundw
        case rel => exact ⟨i + 1, by omega, by go_num, by rw [E2.out], by rw [E3.out], J3⟩
        case measure => simp [intOf]; omega
      | false =>
        obtain ⟨e1, e2, e3⟩ := run_frame c h hoi rfl
        dsimp only at e1 e2 e3
        obtain ⟨d, hd⟩ : ∃ d, dt ol = d := ⟨_, rfl⟩
        obtain ⟨v, hv⟩ : ∃ v, gd c h (runT c h ops i) ot ol = v := ⟨_, rfl⟩
        have HNL := Lib.hid e1.symm
        unfold nL at e1
        rw [hv] at e1 e2 e3
        rw [hd] at e1
        have HD := Lib.hid hd
        have HV := Lib.hid hv
        have E1 := Lib.hid e1
        have E2 := Lib.hid e2
        have E3 := Lib.hid e3
        clear e1 e2 e3 hoi hd hv O1
        generalize hT1 : runT c h ops (i + 1) = T1 at *
        generalize hA1 : runA c h ops (i + 1) = A1 at *
        generalize hZ1 : runZ c h ops (i + 1) = Z1 at *
        have HT1 := Lib.hid hT1
        have HA1 := Lib.hid hA1
        have HZ1 := Lib.hid hZ1
        clear hT1 hA1 hZ1
        generalize runT c h ops i = T at *
        generalize runA c h ops i = ga at *
        generalize runZ c h ops i = gb at *
        obtain ⟨Av, cv, rfl, sg, -, -, -⟩ := O2.out.o.form
        go_wp2_with fail
        refine (SH.out.judge ot oA ol oc Q2.out.p (by have := HNI.out; have := HZ.out; omega) (HBL.out _ Q2.out.b).1 (HBL.out _ Q2.out.b).2.1 (HBL.out _ Q2.out.b).2.2).mono ?_
        rintro r w3 ⟨X3, rfl, F3, T3⟩
        rw [HD.out, HV.out]
        rw [HNL.out, HV.out, ← E2.out, ← E3.out] at F3
        have Q3 := Lib.hid (Q2.out.turn SH.out F3 T3)
        have O3 := Lib.hid (O2.out.turn T3)
        clear F3 T3 Q1 Q2 O2 sg x0 x1 x2 m0 m1 m2
        obtain ⟨vw, vk⟩ := v
        obtain ⟨dc, dl, dn, dp, ds⟩ := d
        have Q4 := Lib.hid (Q3.out.box SH.out (gbx ⟨vw, vk⟩ ⟨dc, dl, dn, dp, ds⟩ 41))
        have O4 := Lib.hid (O3.out.next (al (Below.refl _ _) (gbx ⟨vw, vk⟩ ⟨dc, dl, dn, dp, ds⟩ 41)))
        clear Q3 O3
        obtain ⟨x0, x1, x2⟩ := cells3 (Q4.out.at 1 rfl)
        obtain ⟨a0, a1, a2, a3, a4, a5, a6, a7, a8⟩ := PlanW.cells9 (Q4.out.at 2 rfl)
        go_wp2_with fail
        refine (refJ_any c D E L nd cd ne ce nl cl h ot Av T cv oA ol oc _ (HM.out.below Q4.out.b) (HBL.out _ Q4.out.b).1 (HBL.out _ Q4.out.b).2.1 (HBL.out _ Q4.out.b).2.2 (og_sg O4.out.o) (by have := HR.out.1; have := HZ.out; omega)).mono ?_
        rintro r w6 ⟨rfl, b6⟩
        rw [HD.out, HV.out]
        have Q7 := Lib.hid ((Q4.out.next SH.out b6).box SH.out (gbx ⟨vw, vk⟩ ⟨dc, dl, dn, dp, ds⟩ 43))
        have O7 := Lib.hid ((O4.out.next b6).next (al (Below.refl _ _) (gbx ⟨vw, vk⟩ ⟨dc, dl, dn, dp, ds⟩ 43)))
        clear Q4 O4 b6 x0 x1 x2 a0 a1 a2 a3 a4 a5 a6 a7 a8
        go_upto_region 18 with (fail)
        generalize w6.alloc (gbx ⟨vw, vk⟩ ⟨dc, dl, dn, dp, ds⟩ 43) = w7 at *
        generalize w6.heap.size = q7 at *
        have ND := FrameW.neq_dat dc dl dn dp ds
        obtain ⟨y0, y1, y2, y3, y4, y5, y6⟩ := cells7 (Q7.out.at 0 rfl)
        obtain ⟨z0, z1, z2, z3, z4, z5, z6⟩ := cells7 (Q7.out.at 1 rfl)
        by_cases hw : vw = 0
        · subst hw
          obtain rfl : A1 = ga + 1 := E2.out
          obtain rfl : Z1 = gb := E3.out
          obtain rfl : T1 = T ++ [⟨⟨dc, dl, dn, dp, ds⟩, vk⟩] := E1.out
          have e1 : IntKind.i64.wrap (ga + 1) = ga + 1 := by rw [IntKind.wrap_i64]; have := HR.out; have := HZ.out; omega
          have BA := Lib.hid (al (Below.refl _ w7) (.cells (F19.cs ⟨⟨dc, dl, dn, dp, ds⟩, vk⟩).toArray 43))
          go_wp2_with (at_builtin; refine wpList_append_one one19 _ rfl _ _ rfl (w.heap.size + 1) _ T rfl (O7.out.o.alloc _) ⟨⟨dc, dl, dn, dp, ds⟩, vk⟩ _ rfl (heap_at rfl _) ?c1 (by decide) ?c2 ?_)
          case c1 =>
            have := HR.out.1
            have := HZ.out
            omega
          case c2 =>
            have := lt_of_heap (Q7.out.at 3 rfl)
            first | omega | (rw [World.size_alloc]; omega)
          intro v9 w9 o9 s9
          have Q8 := Lib.hid ((Q7.out.next SH.out BA.out).sub (B' := [(w.heap.size, cbx c D E L nd cd ne ce nl cl)]) (by intro x hx; rw [List.mem_singleton] at hx; subst hx; simp))
          have O8 := Lib.hid (O7.out.next BA.out)
          have Q9 := Lib.hid (Q8.out.step SH.out s9 (fun j hj => ⟨O8.out.n j hj, by have := (O8.out.o.lt j hj).1; omega⟩) (fun x hx e => by rw [List.mem_singleton] at hx; subst hx; have := (O8.out.o.lt _ e).1; dsimp only at this; omega))
          have O9 := Lib.hid (ot_step SH.out Q8.out O8.out o9 s9)
          clear o9 s9 Q7 Q8 O7 O8 BA y0 y1 y2 y3 y4 y5 y6 z0 z1 z2 z3 z4 z5 z6 ND
          go_wp2_with fail
          refine (SH.out.count Q9.out.p).mono ?_
          rintro r w10 ⟨rfl, X10, F10, T10⟩
          have Q10 := Lib.hid (Q9.out.turn SH.out F10 T10)
          have O10 := Lib.hid (O9.out.turn T10)
          clear F10 T10 Q9 O9
          go_wp2
          go_roundw
          case rel => exact ⟨i + 1, by omega, by go_num, by rw [HA1.out], by rw [HZ1.out], Lib.hid ⟨X10, N + 1, Nat.succ_le_succ HNI.out, by rw [HT1.out, HA1.out, HZ1.out]; exact Q10.out, by rw [HT1.out]; exact O10.out⟩⟩
          case measure => simp [intOf]; omega
        · have q1 : (vw == 0) = false := by rw [beq_eq_false_iff_ne]; exact hw
          have q2 : (vw != 0) = true := by rw [bne_iff_ne]; exact hw
          obtain rfl : A1 = ga := by have := E2.out; unfold cA at this; rwa [if_neg hw] at this
          obtain rfl : Z1 = gb + 1 := by have := E3.out; unfold cB at this; rwa [if_neg hw] at this
          obtain rfl : T1 = T := by have := E1.out; rwa [if_neg hw] at this
          have e1 : IntKind.i64.wrap (gb + 1) = gb + 1 := by rw [IntKind.wrap_i64]; have := HR.out; have := HZ.out; omega
          have Q9 := Lib.hid (Q7.out.sub (B' := [(w.heap.size, cbx c D E L nd cd ne ce nl cl)]) (by intro x hx; rw [List.mem_singleton] at hx; subst hx; simp))
          have O9 := O7
          go_wp2_with fail
          refine (SH.out.count Q9.out.p).mono ?_
          rintro r w10 ⟨rfl, X10, F10, T10⟩
          have Q10 := Lib.hid (Q9.out.turn SH.out F10 T10)
          have O10 := Lib.hid (O9.out.turn T10)
          clear F10 T10 Q9 O9
          go_wp2
          go_roundw
          case rel => exact ⟨i + 1, by omega, by go_num, by rw [HA1.out], by rw [HZ1.out], Lib.hid ⟨X10, N + 1, Nat.succ_le_succ HNI.out, by rw [HT1.out, HA1.out, HZ1.out]; exact Q10.out, by rw [HT1.out]; exact O10.out⟩⟩
          case measure => simp [intOf]; omega
end
end Go.Proofs.Ytnlimdlmhfnkiaa.StationW
