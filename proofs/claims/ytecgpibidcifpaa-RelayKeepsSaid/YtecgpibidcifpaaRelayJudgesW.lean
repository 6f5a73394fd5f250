/- RelayJudges, walked by what is asked of a relay. -/
import Derived.Test.YtecgpibidcifpaaRelayKJa
import Derived.Deep.OwnRows
namespace Go.Proofs.Ytecgpibidcifpaa.RelayW
open Go.RowKit Shell
open ConfW (Cfg R4 CM ML chk)
open BucketW (Bk pas tk b0 fit)
open FrameW (BL rdE rdV)
theorem made_q (q : IntKind) (n : Nat) : madeCells #[Value.int q 0] n = (nums q (List.replicate n 0)).toArray := by
  apply Array.ext_getElem?
  intro j
  unfold madeCells nums
  by_cases hj : j < n
  · simp [hj, Nat.mod_one]
  · simp [hj]
theorem make_nine (W : World) : (Instr.makeSlice 36 (.int .i64 9) (.int .i64 9)).run Try.prog W = .ok (.slice (some ⟨W.heap.size, 0, none⟩) 9 9) (W.alloc (nrow ds0)) := by
  have hr := run_make_row' (P := Try.prog) 36 3 (.int .i64 0) 8 Try.underlying36 (by kernel_rfl) rfl .i64 .i64 9 (by omega) (by omega) W
  have e : nrow ds0 = .cells (madeCells #[.int .i64 0] 9) 3 (0, 0) := by
    unfold nrow
    rw [made_q]
    rfl
  rw [e]
  exact hr
theorem row_get {w : World} {g : Nat} {q : IntKind} {e : TypeId} {l : List Int} (h : w.heap[g]? = some (.cells (nums q l).toArray e (0, 0))) {i : Nat} {a : Int} (hi : l[i]? = some a) : w.cell? ⟨g, i, none⟩ = some (.int q a) := by
  rw [cell_of_row w g _ _ _ _ h, List.getElem?_toArray]
  simp [nums, hi]
theorem row_set {w : World} {g : Nat} {q : IntKind} {e : TypeId} {l : List Int} (h : w.heap[g]? = some (.cells (nums q l).toArray e (0, 0))) (i : Nat) (a : Int) : (w.setCell ⟨g, i, none⟩ (.int q a)).heap[g]? = some (.cells (nums q (l.set i a)).toArray e (0, 0)) := by
  rw [heap_setCell_same _ g i _ _ (.int q a) h]
  simp [nums, List.map_set]
theorem ops_bl {w W : World} {A : Option Addr} {ops : List Op} (h : OPS w A ops) {i : Nat} {o : Op} (hi : ops[i]? = some o) (hW : Below w.heap.size w W) : BL W o.A o.l ∧ o.l.length ≤ 9223372036854775807 ∧ o.l.length ≤ o.cp := by
  obtain ⟨_, _, _, _, _, _, _, h4, h5⟩ := (h.below hW) i o hi
  exact ⟨h4, h5⟩
abbrev vbz : Obj := .cells #[.int .i64 0, .int .i64 0, .int .i64 0, .int .i64 0, .string ⟨#[]⟩, .int .i64 0, .int .u32 0, .int .i64 0] 46 (0, 0)
section
variable {RI : RIT}
/-- What is held behind i frames. -/
def JQ (RI : RIT) (w0 : World) (g : Nat) (c : Cfg) (D E L : Option Addr) (nd cd ne ce nl cl : Nat) (K p : Nat) (ops : List Op) (i : Nat) (vl : Value) (W : World) : Prop :=
  ∃ X XR es, RQ RI w0 X g c (runB c ops i) (runD c ops i) i XR (runB c ops i) es vl [(K, nrow (runD c ops i)), (p, cbx c D E L nd cd ne ce nl cl)] W
set_option maxHeartbeats 8000000 in
set_option maxRecDepth 100000 in
theorem judges_walk (S : Spec RI) (hf : ∀ W, Calls Try.prog 8 #[] W fun r W' => r = .returned (.bool true) ∧ Below W.heap.size W W') (c : Cfg) (D E L : Option Addr) (nd cd ne ce nl cl : Nat) (A : Option Addr) (n cp : Nat) (ops : List Op) (w : World) (h : CM w c D E L nd cd ne ce nl cl) (ho : OPS w A ops) (hn : ops.length = n) (hz : n ≤ 17592186044000) :
    Calls Try.prog 3 #[.agg #[.int .i64 c.hosts, .int .i64 c.cycle, .int .i64 c.delay, .int .i64 c.window, .int .i64 c.precision, .slice D nd cd, .slice E ne ce, .slice L nl cl, .int .i64 c.queue], .slice A n cp] w fun r w' => r = .returned (.bool true) ∧ Below w.heap.size w w' := by
  have SH := Lib.hid S
  have HM := Lib.hid h
  have HO := Lib.hid ho
  have HN := Lib.hid hn
  have HZ := Lib.hid hz
  have S0 := Lib.hid ((Stay.start w).alloc (cbx c D E L nd cd ne ce nl cl))
  have HF := Lib.hid hf
  clear S h ho hn hz hf
  go_enter Try.func3, Try.ntmps3
  go_wp2_with fail
  refine (HF.out _).mono ?_
  rintro r w1 ⟨rfl, b1⟩
  have S1 := Lib.hid (S0.out.next b1)
  clear b1 S0 HF
  obtain ⟨a0, a1, a2, a3, a4, a5, a6, a7, a8⟩ := PlanW.cells9 (S1.out.at 0 rfl)
  go_wp2_with fail
  by_cases hz : chk c = 0
  case neg =>
    refine (SH.out.bad c D E L nd cd ne ce nl cl _ (HM.out.below S1.out.b) hz).mono ?_
    rintro r w2 ⟨rfl, b2⟩
    have S2 := Lib.hid (S1.out.next b2)
    clear b2 S1 a0 a1 a2 a3 a4 a5 a6 a7 a8
    obtain ⟨a0, a1, a2, a3, a4, a5, a6, a7, a8⟩ := PlanW.cells9 (S2.out.at 0 rfl)
    go_wp2_with fail
    refine (ConfW.refCheck_any c D E L nd cd ne ce nl cl _ (HM.out.below S2.out.b)).mono ?_
    rintro r w3 ⟨rfl, b3⟩
    have q1 : (chk c != 0) = true := by rw [bne_iff_ne]; exact hz
    have B3 := Lib.hid (S2.out.next b3).b
    clear b3 S2 a0 a1 a2 a3 a4 a5 a6 a7 a8
    go_wp2
    go_ret
    exact ⟨rfl, B3.out⟩
  case pos =>
    refine (SH.out.new c D E L nd cd ne ce nl cl _ (HM.out.below S1.out.b) hz).mono ?_
    rintro r w2 ⟨g, X, rfl, F2, b2⟩
    have S2 := Lib.hid (S1.out.next b2)
    have P2 := Lib.hid (SH.out.lower F2 S1.out.b.size)
    have F2' := Lib.hid (SH.out.foot F2)
    have L1 := Lib.hid (lt_of_heap (S1.out.at 0 rfl))
    clear F2 b2 S1 a0 a1 a2 a3 a4 a5 a6 a7 a8
    obtain ⟨a0, a1, a2, a3, a4, a5, a6, a7, a8⟩ := PlanW.cells9 (S2.out.at 0 rfl)
    go_wp2_with fail
    refine (ConfW.refCheck_any c D E L nd cd ne ce nl cl _ (HM.out.below S2.out.b)).mono ?_
    rintro r w3 ⟨rfl, b3⟩
    have S3 := Lib.hid (S2.out.next b3)
    have P3 := Lib.hid (SH.out.frame P2.out b3.size (fun j hj => b3.block j (SH.out.foot P2.out j hj).2))
    rw [hz]
    clear b3 S2 P2 a0 a1 a2 a3 a4 a5 a6 a7 a8
    obtain ⟨a0, a1, a2, a3, a4, a5, a6, a7, a8⟩ := PlanW.cells9 (S3.out.at 0 rfl)
    go_wp2_with fail
    refine (refBuckets_any c D E L nd cd ne ce nl cl _ (HM.out.below S3.out.b) (by rw [HM.out.nL]; have := lnk_len hz; omega)).mono ?_
    rintro r w4 ⟨vl, rfl, G4, b4⟩
    have Q4 := Lib.hid (show ∃ XR, RQ RI w X g c (bs0 c) ds0 0 XR (bs0 c) (es0 c) vl [(w.heap.size, cbx c D E L nd cd ne ce nl cl)] w4 from
      ⟨_, SH.out.frame P3.out b4.size (fun j hj => b4.block j (SH.out.foot P3.out j hj).2), rb_new (G4.base S3.out.b.size), (S3.out.next b4).b, fun b hb => (by
        rw [List.mem_singleton] at hb
        subst hb
        refine ⟨(S3.out.next b4).at 0 rfl, ⟨fun hX => ?_, fun hX => ?_⟩, Nat.le_refl _⟩
        · have := (F2'.out _ hX).1; have := L1.out; omega
        · have := (G4.lt _ hX).1; have := lt_of_heap (S3.out.at 0 rfl); omega), fun j hj hx => (by
        have := (G4.lt _ hx).1
        have := (SH.out.foot P3.out j hj).2
        omega)⟩)
    clear b4 S3 P3 G4 F2' L1 a0 a1 a2 a3 a4 a5 a6 a7 a8
    have k1 := make_nine
    have Q5 := Lib.hid (show JQ RI w g c D E L nd cd ne ce nl cl w4.heap.size w.heap.size ops 0 vl (w4.alloc (nrow ds0)) from let ⟨XR, q⟩ := Q4.out; ⟨X, XR, es0 c, q.box SH.out (nrow ds0)⟩)
    have HK := Lib.hid (show w.heap.size ≠ w4.heap.size from let ⟨XR, q⟩ := Q4.out; Nat.ne_of_lt (lt_of_heap (q.at 0 rfl)))
    clear Q4
    go_wp2
    generalize w4.alloc (nrow ds0) = w5 at *
    generalize w4.heap.size = K at *
    clear k1
    go_loopw [7, 42] (fun lv iv wr => ∃ (i : Nat), i ≤ n ∧ iv = .int .i64 i ∧ Hid (JQ RI w g c D E L nd cd ne ce nl cl K w.heap.size ops i lv wr)) (fun _ iv _ => n - (intOf iv).toNat)
    case atStart => exact ⟨0, Nat.zero_le _, rfl, Q5⟩
    case round =>
      obtain ⟨i, hi, rfl, HQ⟩ := hrel
      have hnn : n ≤ 9223372036854775807 := by have := HZ.out; omega
      obtain ⟨X, XR, es, Q0⟩ := HQ.out
      have Q1 := Lib.hid Q0
      clear Q0 HQ
      obtain ⟨a0, a1, a2, a3, a4, a5, a6, a7, a8⟩ := PlanW.cells9 (Q1.out.at 1 rfl)
      by_cases hlt : i < n
      · have hlt' : (i : Int) < (n : Int) := by omega
        have hiz : i ≤ 17592186044000 := by have := HZ.out; omega
        obtain ⟨o, hoi⟩ : ∃ o, ops[i]? = some o := ⟨_, List.getElem?_eq_getElem (by rw [HN.out]; exact hlt)⟩
        have HI := Lib.hid hoi
        have HBL := Lib.hid (fun (W : World) (hW : Below w.heap.size w W) => ops_bl HO.out hoi hW)
        obtain ⟨b, off, rfl, m0, m1, m2, m3, -, -, -⟩ := (HO.out.below Q1.out.b) i o hoi
        obtain ⟨d, hd⟩ : ∃ d, dt o.l = d := ⟨_, rfl⟩
        obtain ⟨v, hv⟩ : ∃ v, jd c (runB c ops i) o.t o.lc o.fr o.l = v := ⟨_, rfl⟩
        have HD := Lib.hid hd
        have HV := Lib.hid hv
        have HW := Lib.hid (hv ▸ jd_why c (runB c ops i) o.t o.lc o.fr o.l)
        have E1 := Lib.hid (runB_at c hoi)
        have E2 := Lib.hid (hv ▸ runD_at c hoi)
        have Q2 := Lib.hid (Q1.out.box SH.out (obx o))
        have HIZ := Lib.hid hiz
        clear hoi hd hv hiz
        obtain ⟨x0, x1, x2, x3⟩ := PlanW.cells4 (Q2.out.at 0 rfl)
        go_wp2_with fail
        refine (SH.out.judge o.t o.lc o.fr o.A o.l o.cp Q2.out.p HIZ.out (HBL.out _ Q2.out.b).1 (HBL.out _ Q2.out.b).2.1 (HBL.out _ Q2.out.b).2.2).mono ?_
        rintro r w3 ⟨X3, rfl, F3, T3⟩
        rw [HD.out, HV.out]
        rw [HV.out, ← E1.out, ← E2.out] at F3
        have Q3 := Lib.hid (Q2.out.turnP SH.out F3 T3)
        have Q4 := Lib.hid (Q3.out.box SH.out (vby v d))
        have Q5 := Lib.hid (Q4.out.box SH.out vbz)
        have HN12 := Lib.hid (fun b hb => Nat.ne_of_lt (lt_of_heap (Q4.out.bx b hb).1))
        clear F3 T3 Q1 Q2 x0 x1 x2 x3 m0 m1 m2 m3 a0 a1 a2 a3 a4 a5 a6 a7 a8
        rw [World.size_alloc] at Q5 HN12
        obtain ⟨x0, x1, x2, x3⟩ := PlanW.cells4 (Q5.out.at 2 rfl)
        obtain ⟨a0, a1, a2, a3, a4, a5, a6, a7, a8⟩ := PlanW.cells9 (Q5.out.at 4 rfl)
        generalize wr.heap.size = kb at *
        go_wp2_with fail
        refine (refJudge_any c D E L nd cd ne ce nl cl o.t o.lc o.fr o.A o.l o.cp i w _ XR _ es _ HM.out hz Q5.out.b Q5.out.r (runB_gd hz ops i) HIZ.out (HBL.out _ Q5.out.b).1 (HBL.out _ Q5.out.b).2.1 (HBL.out _ Q5.out.b).2.2).mono ?_
        rintro r w6 ⟨vl', XR', es', rfl, R6, T6⟩
        rw [HD.out, HV.out]
        rw [← E1.out] at R6
        have Q6 := Lib.hid (Q5.out.turnR SH.out R6 T6)
        clear R6 T6 Q3 Q4 Q5 x0 x1 x2 x3 a0 a1 a2 a3 a4 a5 a6 a7 a8
        generalize w3.heap.size = q at *
        obtain ⟨wn, hwn, hw9⟩ : ∃ k : Nat, v.w = (k : Int) ∧ k < 9 := by
          rcases HW.out with hh | hh | hh | hh
          · exact ⟨0, hh, by decide⟩
          · exact ⟨1, hh, by decide⟩
          · exact ⟨2, hh, by decide⟩
          · exact ⟨4, hh, by decide⟩
        obtain ⟨vw, vu, va⟩ := v
        obtain rfl : vw = (wn : Int) := hwn
        obtain ⟨dc, dl, dn, dp, ds⟩ := d
        have hN := fun b hb => HN12.out b hb
        have Q7 := Lib.hid (Q6.out.put SH.out (kept8 w6 (q + 1) (.int .i64 (wn : Int)) (.int .i64 dc) (.int .i64 dl) (.int .i64 dn) (.string dp) (.int .i64 ds) (.int .u32 (vu : Int)) (.int .i64 va)) (ob' := vbx ⟨wn, vu, va⟩ ⟨dc, dl, dn, dp, ds⟩) (put8 (Q6.out.at 0 rfl) _ _ _ _ _ _ _ _) hN)
        obtain ⟨y0, y1, y2, y3, y4, y5, y6, y7⟩ := cells8 (Q6.out.at 0 rfl)
        obtain ⟨f0, f1, f2, f3, f4, f5, f6, f7⟩ := frozen8 (Q6.out.at 0 rfl)
        unfold set8 at Q7
        go_upto_region 16 with (fail)
        clear y0 y1 y2 y3 y4 y5 y6 y7 f0 f1 f2 f3 f4 f5 f6 f7 hN
        generalize World.setCell _ _ _ = w7 at *
        have Q8 := Lib.hid (Q7.out.sub (B' := [(K, nrow (runD c ops i)), (w.heap.size, cbx c D E L nd cd ne ce nl cl)]) (fun x hx => List.mem_cons_of_mem _ (List.mem_cons_of_mem _ (List.mem_cons_of_mem _ hx))))
        obtain ⟨hl9, hin9⟩ := runD_in c ops i
        obtain ⟨a, hak⟩ : ∃ a, (runD c ops i)[wn]? = some a := ⟨_, List.getElem?_eq_getElem (by rw [hl9]; exact hw9)⟩
        have ha9 := hin9 a (List.mem_of_getElem? hak)
        have e1 : IntKind.i64.wrap (a + 1) = a + 1 := by rw [IntKind.wrap_i64]; have := HIZ.out; omega
        have ck := row_get (Q8.out.at 0 rfl) hak
        have fk := frozen_of_row w7 K wn _ _ (Q8.out.at 0 rfl)
        have E3 := Lib.hid (show runD c ops (i + 1) = (runD c ops i).set wn (a + 1) by
          rw [E2.out]
          unfold tally
          rw [Int.toNat_natCast, hak]
          rfl)
        have HW9 := Lib.hid hw9
        have hw9' : (wn : Int) < 9 := by omega
        have ND := FrameW.neq_dat dc dl dn dp ds
        obtain ⟨y0, y1, y2, y3, y4, y5, y6, y7⟩ := cells8 (Q7.out.at 0 rfl)
        obtain ⟨z0, z1, z2, z3, z4, z5, z6, z7⟩ := cells8 (Q7.out.at 1 rfl)
        clear hl9 hin9 hak ha9 Q6 HW
        go_wp2
        have Q9 := Lib.hid (Q8.out.put SH.out (kept1 w7 K wn (.int .i64 (a + 1))) (ob' := nrow (runD c ops (i + 1))) (by rw [E3.out]; exact row_set (Q8.out.at 0 rfl) wn (a + 1)) (fun b hb => by
          rw [List.mem_singleton] at hb
          subst hb
          exact HK.out))
        go_roundw
        case rel => exact ⟨i + 1, by omega, by go_num, Lib.hid ⟨X3, XR', es', Q9.out⟩⟩
        case measure => simp [intOf]; omega
      · obtain rfl : n = i := by omega
        have Q2 := Lib.hid (show JQ RI w g c D E L nd cd ne ce nl cl K w.heap.size ops n u7 wr from ⟨X, XR, es, Q1.out⟩)
        have HR9 := Lib.hid (runD_in c ops n)
        clear Q1 a0 a1 a2 a3 a4 a5 a6 a7 a8 hlt hi hnn
        generalize hDS : runD c ops n = ds at *
        have HDS := Lib.hid hDS
        clear hDS
        go_wp2
        go_loopw [106] (fun iv wr => ∃ (j : Nat), j ≤ 9 ∧ iv = .int .i64 j ∧ Hid (JQ RI w g c D E L nd cd ne ce nl cl K w.heap.size ops n u7 wr)) (fun iv _ => 9 - (intOf iv).toNat)
        case atStart => exact ⟨0, Nat.zero_le _, rfl, Q2⟩
        case round =>
          obtain ⟨j, hj, rfl, HQ2⟩ := hrel
          obtain ⟨X, XR, es, Q0⟩ := HQ2.out
          rw [HDS.out] at Q0
          have Q3 := Lib.hid Q0
          clear Q0 HQ2
          by_cases hlt : j < 9
          · have hlt' : (j : Int) < 9 := by omega
            obtain ⟨a, hak⟩ : ∃ a, ds[j]? = some a := ⟨_, List.getElem?_eq_getElem (by rw [HR9.out.1]; exact hlt)⟩
            have ck := row_get (Q3.out.at 0 rfl) hak
            have HA := Lib.hid hak
            have KD := Lib.hid (SH.out.dropped (j : Int) Q3.out.p)
            clear hak
            by_cases h0 : j = 0
            · subst h0
              rw [show drp ds ((0 : Nat) : Int) = 0 from rfl] at KD
              go_wp2_with fail
              refine KD.out.mono ?_
              rintro r w9 ⟨rfl, X9, F9, T9⟩
              have Q9 := Lib.hid (show JQ RI w g c D E L nd cd ne ce nl cl K w.heap.size ops n u7 w9 from ⟨X9, XR, es, by rw [HDS.out]; exact Q3.out.turnP SH.out F9 T9⟩)
              clear F9 T9 ck
              go_wp2
              go_roundw
              case rel => exact ⟨1, by omega, by go_num, Q9⟩
              case measure => simp [intOf]
            · have h1 : ((j : Int) == 0) = false := by rw [beq_eq_false_iff_ne]; omega
              rw [show drp ds (j : Int) = a by unfold drp; rw [if_pos (by omega), Int.toNat_natCast, HA.out]; rfl] at KD
              go_wp2_with fail
              refine KD.out.mono ?_
              rintro r w9 ⟨rfl, X9, F9, T9⟩
              have Q9 := Lib.hid (show JQ RI w g c D E L nd cd ne ce nl cl K w.heap.size ops n u7 w9 from ⟨X9, XR, es, by rw [HDS.out]; exact Q3.out.turnP SH.out F9 T9⟩)
              clear F9 T9 ck
              go_wp2
              go_roundw
              case rel => exact ⟨j + 1, by omega, by go_num, Q9⟩
              case measure => simp [intOf]; omega
          · obtain rfl : j = 9 := by omega
            have KD := Lib.hid (SH.out.dropped (-1) Q3.out.p)
            rw [show drp ds (-1) = 0 from rfl] at KD
            go_wp2_with fail
            refine KD.out.mono ?_
            rintro r w9 ⟨rfl, X9, F9, T9⟩
            have B9 := Lib.hid (Q3.out.turnP SH.out F9 T9).b
            clear F9 T9
            go_wp2
            go_ret
            exact ⟨rfl, B9.out⟩
end
end Go.Proofs.Ytecgpibidcifpaa.RelayW
