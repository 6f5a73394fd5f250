/- The chapter's examples of a station. -/
import Derived.Test.YtnlimdlmhfnkiaaStationTwo
namespace Go.Proofs.Ytnlimdlmhfnkiaa.StationW
open Go.RowKit Shell
open ConfW (Cfg R4 CM ML chk famC)
open FrameW (BL OB rdE rdV dat rightD)
section
variable {SI : SIT}
set_option maxHeartbeats 16000000 in
set_option maxRecDepth 100000 in
theorem fixed_any (S : Spec SI) (w : World) : Calls Try.prog 8 #[] w fun r w' => r = .returned (.bool true) ∧ Below w.heap.size w w' := by
  have SH := Lib.hid S
  clear S
  have R1 : rightD 1 0 0 (FrameW.bs ⟨#[]⟩) 64 := by unfold rightD; simp [FrameW.bs]
  obtain ⟨ea, da⟩ := dt_dat R1
  have la : (dat 1 0 0 (FrameW.bs ⟨#[]⟩) 64).length ≤ 9223372036854775807 := by rw [FrameW.dat_len R1]; decide
  have lp : 0 < (dat 1 0 0 (FrameW.bs ⟨#[]⟩) 64).length := by rw [FrameW.dat_len R1]; decide
  have HD := Lib.hid (fun W => FrameW.refData_ok 1 0 0 ⟨#[]⟩ 64 W R1)
  have HF := Lib.hid (ConfW.refFamily_any 4 3 w)
  have G1 : ∀ l, rdE l = 0 → dt l = dF → gd (ConfW.famC 4 3) 1 [] 2014000 l = ⟨0, 1⟩ ∧ gd (ConfW.famC 4 3) 1 [⟨dF, 1⟩] 2014100 l = ⟨3, 1⟩ ∧ gd (ConfW.famC 4 3) 1 [⟨dF, 1⟩] 2017000 l = ⟨2, 0⟩ ∧ gd (ConfW.famC 4 3) 1 [⟨dF, 1⟩] 4014000 l = ⟨0, 2⟩ ∧ gd (ConfW.famC 4 3) 0 [] 2014000 l = ⟨1, 0⟩ := by
    intro l h1 h2
    unfold gd
    rw [h1, h2]
    exact ⟨fx1, fx2, fx3, fx4, fx5⟩
  have m1 : may (ConfW.famC 4 3) 1 := may1
  have m0 : may (ConfW.famC 4 3) 0 := may0
  have m4 : ¬ may (ConfW.famC 4 3) 4 := may4
  generalize ConfW.famC 4 3 = c at *
  have M1 := Lib.hid m1
  have M0 := Lib.hid m0
  have M4 := Lib.hid m4
  generalize dat 1 0 0 (FrameW.bs ⟨#[]⟩) 64 = l at *
  obtain ⟨j1, j2, j3, j4, j5⟩ := G1 l ea da
  have K1 := Lib.hid (show gd c 1 [] 2014000 l = ⟨0, 1⟩ ∧ nL c 1 [] 2014000 l = [⟨dF, 1⟩] from ⟨j1, by unfold nL; rw [j1, da]; rfl⟩)
  have K2 := Lib.hid (show gd c 1 [⟨dF, 1⟩] 2014100 l = ⟨3, 1⟩ ∧ nL c 1 [⟨dF, 1⟩] 2014100 l = [⟨dF, 1⟩] from ⟨j2, by unfold nL; rw [j2]; rfl⟩)
  have K3 := Lib.hid (show gd c 1 [⟨dF, 1⟩] 2017000 l = ⟨2, 0⟩ ∧ nL c 1 [⟨dF, 1⟩] 2017000 l = [⟨dF, 1⟩] from ⟨j3, by unfold nL; rw [j3]; rfl⟩)
  have K4 := Lib.hid j4
  have K5 := Lib.hid j5
  have DA := Lib.hid da
  have LA := Lib.hid la
  have LP := Lib.hid lp
  have hfw := field_why
  clear R1 ea da la lp G1 m1 m0 m4 j1 j2 j3 j4 j5
  go_enter Try.func8, Try.ntmps8
  go_wp2_with fail
  refine HF.out.mono ?_
  rintro r w1 ⟨D, E, nd, cd, ne, ce, rfl, q1, b1⟩
  have HM := Lib.hid (q1.below (al (Below.refl _ _) (cbx c D E none nd cd ne ce 0 0)))
  have ST := Lib.hid ((Stay.mk b1 (fun x hx => by cases hx) : Stay w [] w1).alloc (cbx c D E none nd cd ne ce 0 0))
  have HP := Lib.hid (show ∀ x ∈ [(w1.heap.size, (cbx c D E none nd cd ne ce 0 0 : Obj))], w.heap.size ≤ x.1 from fun x hx => by rw [List.mem_singleton] at hx; subst hx; exact b1.size)
  clear q1 b1 HF
  obtain ⟨a0, a1, a2, a3, a4, a5, a6, a7, a8⟩ := PlanW.cells9 (ST.out.at 0 rfl)
  go_wp2_with fail
  refine (SH.out.new c D E none nd cd ne ce 0 0 1 _ HM.out M1.out).mono ?_
  rintro r w3 ⟨g, X, rfl, s3, b3⟩
  have Q3 := Lib.hid (sq_new SH.out s3 b3 ST.out HP.out)
  have HM3 := Lib.hid (HM.out.below b3)
  generalize w1.heap.size = p at *
  clear a0 a1 a2 a3 a4 a5 a6 a7 a8 s3 b3 ST HM HP M1
  obtain ⟨a0, a1, a2, a3, a4, a5, a6, a7, a8⟩ := PlanW.cells9 (Q3.out.at 0 rfl)
  go_wp2_with fail
  refine (SH.out.new c D E none nd cd ne ce 0 0 0 _ HM3.out M0.out).mono ?_
  rintro r w4 ⟨k, Y, rfl, s4, b4⟩
  have Q4 := Lib.hid (Q3.out.two SH.out s4 b4)
  have HM4 := Lib.hid (HM3.out.below b4)
  clear a0 a1 a2 a3 a4 a5 a6 a7 a8 s4 b4 Q3 HM3 M0
  obtain ⟨a0, a1, a2, a3, a4, a5, a6, a7, a8⟩ := PlanW.cells9 (Q4.out.at 0 rfl)
  go_wp2_with fail
  refine (SH.out.bad c D E none nd cd ne ce 0 0 4 _ HM4.out M4.out).mono ?_
  rintro r w5 ⟨rfl, b5⟩
  have Q5 := Lib.hid (Q4.out.next SH.out b5)
  clear a0 a1 a2 a3 a4 a5 a6 a7 a8 b5 Q4 HM4 M4
  go_wp2_with fail
  refine (HD.out _).mono ?_
  rintro r w6 ⟨v6, rfl, o6, b6⟩
  obtain ⟨q, cp, oj, rfl, hb, hcp, hq, ho⟩ := ob_row o6 LP.out
  have Q6 := Lib.hid (((Q5.out.next SH.out b6).sub (B' := []) (fun x hx => by cases hx)).add ho (fun hX => by have := (SH.out.foot Q5.out.p _ hX).2; omega) (fun hX => by have := (SH.out.foot Q5.out.r _ hX).2; omega) (Nat.le_trans Q5.out.b.size hq))
  have HB := Lib.hid (fun (W : World) (b : W.heap[q]? = some oj) => bl_box hb ho b)
  have HC := Lib.hid hcp
  clear o6 b6 hb hcp hq ho HD Q5 LP
  go_wp2_with fail
  refine (SH.out.judge 2014000 _ l cp Q6.out.p (by decide) (HB.out _ (Q6.out.at 0 rfl)) LA.out HC.out).mono ?_
  rintro r w7 ⟨X7, rfl, s7, u7⟩
  have Q7 := Lib.hid (Q6.out.turnP SH.out s7 u7)
  rw [K1.out.1, K1.out.2] at Q7
  rw [K1.out.1, DA.out]
  clear s7 u7 Q6
  go_wp2_with fail
  refine (SH.out.judge 2014100 _ l cp Q7.out.p (by decide) (HB.out _ (Q7.out.at 0 rfl)) LA.out HC.out).mono ?_
  rintro r w8 ⟨X8, rfl, s8, u8⟩
  have Q8 := Lib.hid (Q7.out.turnP SH.out s8 u8)
  rw [K2.out.1, K2.out.2] at Q8
  rw [K2.out.1, DA.out]
  clear s8 u8 Q7
  go_wp2_with fail
  refine (SH.out.judge 2017000 _ l cp Q8.out.p (by decide) (HB.out _ (Q8.out.at 0 rfl)) LA.out HC.out).mono ?_
  rintro r w9 ⟨X9, rfl, s9, u9⟩
  have Q9 := Lib.hid (Q8.out.turnP SH.out s9 u9)
  rw [K3.out.1, K3.out.2] at Q9
  rw [K3.out.1, DA.out]
  clear s9 u9 Q8
  go_wp2_with fail
  refine (SH.out.judge 4014000 _ l cp Q9.out.p (by decide) (HB.out _ (Q9.out.at 0 rfl)) LA.out HC.out).mono ?_
  rintro r w10 ⟨X10, rfl, s10, u10⟩
  have Q10 := Lib.hid (Q9.out.turnP SH.out s10 u10)
  generalize hnl : nL c 1 [⟨dF, 1⟩] 4014000 l = T at *
  rw [K4.out] at Q10
  rw [K4.out, DA.out]
  clear s10 u10 Q9 hnl
  go_wp2_with fail
  have q14 := ((((Q10.out.box SH.out (gbx ⟨0, 1⟩ dF 41)).box SH.out (gbx ⟨3, 1⟩ dF 41)).box SH.out (gbx ⟨2, 0⟩ dF 41)).box SH.out (gbx ⟨0, 2⟩ dF 41))
  simp only [World.size_alloc] at q14
  have Q14 := Lib.hid q14
  clear q14 Q10
  refine (SH.out.count Q14.out.p).mono ?_
  rintro r w15 ⟨rfl, X15, s15, u15⟩
  have Q15 := Lib.hid (Q14.out.turnP SH.out s15 u15)
  clear s15 u15 Q14
  rw [show cA (cA (cA (cA 0 (0 : Int)) 3) 2) 0 = 2 from rfl, show cB (cB (cB (cB 0 (0 : Int)) 3) 2) 0 = 2 from rfl]
  generalize w10.heap.size = m at *
  obtain ⟨x0, x1, x2, x3, x4, x5, x6⟩ := cells7 (Q15.out.at 3 rfl)
  obtain ⟨y0, y1, y2, y3, y4, y5, y6⟩ := cells7 (Q15.out.at 2 rfl)
  obtain ⟨z0, z1, z2, z3, z4, z5, z6⟩ := cells7 (Q15.out.at 1 rfl)
  obtain ⟨t0, t1, t2, t3, t4, t5, t6⟩ := cells7 (Q15.out.at 0 rfl)
  go_wp2_with fail
  refine (SH.out.judge 2014000 _ l cp Q15.out.r (by decide) (HB.out _ (Q15.out.at 4 rfl)) LA.out HC.out).mono ?_
  rintro r w16 ⟨Y16, rfl, s16, u16⟩
  have B16 := Lib.hid (Q15.out.turnR SH.out s16 u16).b
  rw [K5.out, DA.out]
  clear s16 u16 Q15 x0 x1 x2 x3 x4 x5 x6 y0 y1 y2 y3 y4 y5 y6 z0 z1 z2 z3 z4 z5 z6 t0 t1 t2 t3 t4 t5 t6
  go_wp2
  go_ret
  exact ⟨rfl, B16.out⟩
end
end Go.Proofs.Ytnlimdlmhfnkiaa.StationW
