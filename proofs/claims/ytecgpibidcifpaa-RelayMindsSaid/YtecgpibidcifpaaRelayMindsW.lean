/- RelayMinds, walked by what is asked of a relay. -/
import Derived.Test.YtecgpibidcifpaaRelayFixed
import Derived.Test.YtecgpibidcifpaaRelayMindsP
import Derived.Laws.Shifts
namespace Go.Proofs.Ytecgpibidcifpaa.RelayW
open Go.RowKit Shell
open ConfW (Cfg R4 CM ML chk)
open BucketW (Bk pas tk b0 fit)
open FrameW (BL rdE rdV)
theorem shr32 (n k : Nat) (y : Int) (h : n < 4294967296) (hy : y = (k : Int)) (w : World) : (Op.shift .shr .u32 (n : Int) .u64 y).run Try.prog w = .ok (.int .u32 ((n / 2 ^ k : Nat) : Int)) w := by
  rw [shift_shr_any .u32 .u64 _ _ (by omega), Sem.run_pure]
  congr 2
  show (n : Int) / 2 ^ min y.toNat 32 = _
  by_cases hj : k ≤ 32
  · rw [show min y.toNat 32 = k by omega, Int.natCast_ediv, Int.natCast_pow]
    rfl
  · rw [show min y.toNat 32 = 32 by omega]
    have h2 : n / 2 ^ k = 0 := Nat.div_eq_of_lt (Nat.lt_of_lt_of_le h (Nat.le_trans (show 4294967296 ≤ 2 ^ 32 by decide) (Nat.pow_le_pow_right (by decide) (by omega))))
    rw [h2]
    have : (n : Int) / 2 ^ 32 = 0 := by omega
    simpa using this
section
variable {RI : RIT}
set_option maxHeartbeats 8000000 in
set_option maxRecDepth 100000 in
theorem minds_walk (S : Spec RI) (c : Cfg) (D E L : Option Addr) (nd cd ne ce nl cl : Nat) (o : Op) (w : World) (h : CM w c D E L nd cd ne ce nl cl) (hb : BL w o.A o.l) (hl1 : o.l.length ≤ 9223372036854775807) (hl2 : o.l.length ≤ o.cp) :
    Calls Try.prog 7 #[.agg #[.int .i64 c.hosts, .int .i64 c.cycle, .int .i64 c.delay, .int .i64 c.window, .int .i64 c.precision, .slice D nd cd, .slice E ne ce, .slice L nl cl, .int .i64 c.queue], .agg #[.int .i64 o.t, .int .i64 o.lc, .int .i64 o.fr, .slice o.A o.l.length o.cp]] w fun r w' => r = .returned (.bool true) ∧ Below w.heap.size w w' := by
  have SH := Lib.hid S
  have HM := Lib.hid h
  have HB := Lib.hid (fun (W : World) (hW : Below w.heap.size w W) => hb.below hW)
  have H1 := Lib.hid hl1
  have H2 := Lib.hid hl2
  have S0 := ((Stay.start w).alloc (cbx c D E L nd cd ne ce nl cl)).alloc (obx o)
  rw [World.size_alloc] at S0
  have HS0 := Lib.hid S0
  have HF := Lib.hid (fun W => fixed_any S W)
  clear S h hb hl1 hl2 S0
  go_enter Try.func7, Try.ntmps7
  go_wp2_with fail
  refine (HF.out _).mono ?_
  rintro r w1 ⟨rfl, b1⟩
  have S1 := Lib.hid (HS0.out.next b1)
  clear b1 HS0 HF
  obtain ⟨a0, a1, a2, a3, a4, a5, a6, a7, a8⟩ := PlanW.cells9 (S1.out.at 1 rfl)
  go_wp2_with fail
  by_cases hz : chk c = 0
  case neg =>
    refine (SH.out.bad c D E L nd cd ne ce nl cl _ (HM.out.below S1.out.b) hz).mono ?_
    rintro r w2 ⟨rfl, b2⟩
    have S2 := Lib.hid (S1.out.next b2)
    clear b2 S1 a0 a1 a2 a3 a4 a5 a6 a7 a8
    obtain ⟨a0, a1, a2, a3, a4, a5, a6, a7, a8⟩ := PlanW.cells9 (S2.out.at 1 rfl)
    go_wp2_with fail
    refine (ConfW.refCheck_any c D E L nd cd ne ce nl cl _ (HM.out.below S2.out.b)).mono ?_
    rintro r w3 ⟨rfl, b3⟩
    have q1 : (chk c != 0) = true := by rw [bne_iff_ne]; exact hz
    have B3 := Lib.hid (S2.out.next b3).b
    clear b3 S2 a0 a1 a2 a3 a4 a5 a6 a7 a8
    go_wp2
    go_ret
    exact ⟨rfl, B3.out⟩
  case pos =>
    refine (SH.out.new c D E L nd cd ne ce nl cl _ (HM.out.below S1.out.b) hz).mono ?_
    rintro r w2 ⟨g, X, rfl, F2, b2⟩
    have Q2 := Lib.hid (ra_new SH.out F2 b2 S1.out (fun x hx => by
      simp only [List.mem_cons, List.not_mem_nil, or_false] at hx
      rcases hx with rfl | rfl
      · exact Nat.le_succ _
      · exact Nat.le_refl _))
    clear F2 b2 S1 a0 a1 a2 a3 a4 a5 a6 a7 a8
    obtain ⟨x0, x1, x2, x3⟩ := PlanW.cells4 (Q2.out.at 0 rfl)
    obtain ⟨d, hd⟩ : ∃ d, dt o.l = d := ⟨_, rfl⟩
    obtain ⟨v, hv⟩ : ∃ v, jd c (bs0 c) o.t o.lc o.fr o.l = v := ⟨_, rfl⟩
    obtain ⟨e, he⟩ : ∃ e, rdE o.l = e := ⟨_, rfl⟩
    have HD := Lib.hid hd
    have HV := Lib.hid hv
    have HE := Lib.hid he
    have hjv : jv c (bs0 c) o.t o.lc o.fr e d = v := by rw [← hv]; unfold jd; rw [he, hd]
    have HJ := Lib.hid hjv
    have HOK := Lib.hid (fun (h0 : e = 0) => (show DOk d from hd ▸ dt_ok (he.trans h0)))
    clear hd hv he hjv
    go_wp2_with fail
    refine (SH.out.judge o.t o.lc o.fr o.A o.l o.cp Q2.out.p (by decide) (HB.out _ Q2.out.b) H1.out H2.out).mono ?_
    rintro r w3 ⟨X3, rfl, F3, T3⟩
    rw [HD.out, HV.out]
    have Q3 := Lib.hid ((Q2.out.turnP SH.out F3 T3).box SH.out (vby v d))
    clear F3 T3 Q2 x0 x1 x2 x3
    obtain ⟨x0, x1, x2, x3⟩ := PlanW.cells4 (Q3.out.at 1 rfl)
    go_wp2_with fail
    have HR := FrameW.refReadData_any o.A o.cp o.l _ (HB.out _ Q3.out.b) H1.out H2.out
    rw [rdV_dt, HD.out, HE.out] at HR
    refine HR.mono ?_
    rintro r w4 ⟨rfl, b4⟩
    have Q4 := Lib.hid ((Q3.out.next SH.out b4).box SH.out (dbx d))
    clear b4 Q3 x0 x1 x2 x3 HR
    obtain ⟨y0, y1, y2, y3, y4, y5, y6, y7⟩ := cells8 (Q4.out.at 1 rfl)
    obtain ⟨z0, z1, z2, z3, z4⟩ := cells5 (Q4.out.at 0 rfl)
    obtain ⟨x0, x1, x2, x3⟩ := PlanW.cells4 (Q4.out.at 2 rfl)
    obtain ⟨a0, a1, a2, a3, a4, a5, a6, a7, a8⟩ := PlanW.cells9 (Q4.out.at 3 rfl)
    have B4 := Lib.hid Q4.out.b
    clear Q4
    by_cases h0 : e = 0
    case neg =>
      have q1 : (e != 0) = true := by rw [bne_iff_ne]; exact h0
      obtain rfl : v = ⟨1, 0, 0⟩ := by rw [← HJ.out]; unfold jv; rw [if_neg h0]
      dsimp only at y0 y6
      go_wp2
      go_ret
      exact ⟨rfl, B4.out⟩
    case pos =>
      subst h0
      have ok := HOK.out rfl
      by_cases hw : v.w = 0
      case neg =>
        have q1 : (v.w != 0) = true := by rw [bne_iff_ne]; exact hw
        have hn := jv_no (c := c) (bs := bs0 c) (t := o.t) (lo := o.lc) (fr := o.fr) (e := 0) (d := d) (by rw [HJ.out]; exact hw)
        rw [HJ.out] at hn
        obtain ⟨vw, vu, va⟩ := v
        obtain ⟨hu, ha⟩ := hn
        dsimp only at hu ha y0 y6 y7 q1
        subst hu; subst ha
        have ED := FrameW.eql_dat d.c d.l d.n d.p d.s
        clear hw
        go_wp2
        go_ret
        exact ⟨rfl, B4.out⟩
      case pos =>
        have hy := jv_yes (bs := bs0 c) (t := o.t) (lo := o.lc) (fr := o.fr) hz ok (by rw [HJ.out]; exact hw)
        rw [HJ.out] at hy
        have hh := ConfW.btw_iff.1 (ConfW.chk_ok hz).1
        obtain ⟨vw, vu, va⟩ := v
        have hw0 : vw = 0 := hw
        subst hw0
        dsimp only at y0 y6 y7
        have u1 : ((vu : Int) != 0) = true := by rw [bne_iff_ne]; have := hy.some; dsimp only at this; omega
        have u2 : (vu == 0) = false := by rw [beq_eq_false_iff_ne]; exact hy.some
        have hfew : vu < 2 ^ c.hosts.toNat := hy.few
        have hvu : vu < 4294967296 := Nat.lt_of_lt_of_le hfew (Nat.le_trans (Nat.pow_le_pow_right (by decide) (show c.hosts.toNat ≤ 32 by omega)) (by decide))
        have hwh : IntKind.u64.wrap c.hosts = c.hosts := by rw [IntKind.wrap_u64]; omega
        have SH1 := shr32 vu c.hosts.toNat c.hosts hvu (by omega)
        rw [Nat.div_eq_of_lt hfew] at SH1
        have HY := Lib.hid hy
        have HVU := Lib.hid hvu
        clear hh hw hfew hvu HV HJ HOK hy
        by_cases f0 : o.fr < 0
        · have hy := HY.out
          have g0 : decide (o.fr < 0) = true := decide_eq_true f0
          by_cases hc : d.c = 1
          · obtain ⟨ha0, hal⟩ := hy.timed hc
            have c1 : (d.c == 1) = true := by rw [beq_iff_eq]; exact hc
            have c2 : (d.c != 1) = false := by rw [bne_eq_false_iff_eq]; exact hc
            have c3 : (va != 0) = true := by rw [bne_iff_ne]; exact ha0
            have c4 : va ≥ o.lc := hal
            have c5 : decide (o.lc ≤ va) = true := decide_eq_true hal
            clear hy hc ha0 hal
            go_wp2
            go_ret
            exact ⟨rfl, B4.out⟩
          · have ha0 : va = 0 := hy.other hc
            subst ha0
            have c1 : (d.c == 1) = false := by rw [beq_eq_false_iff_ne]; exact hc
            have c2 : (d.c != 1) = true := by rw [bne_iff_ne]; exact hc
            clear hy hc
            go_wp2
            go_ret
            exact ⟨rfl, B4.out⟩
        · by_cases f1 : 31 < o.fr
          · have hy := HY.out
            have g0 : decide (o.fr < 0) = false := decide_eq_false f0
            have g1 : decide (31 < o.fr) = true := decide_eq_true f1
            by_cases hc : d.c = 1
            · obtain ⟨ha0, hal⟩ := hy.timed hc
              have c1 : (d.c == 1) = true := by rw [beq_iff_eq]; exact hc
              have c2 : (d.c != 1) = false := by rw [bne_eq_false_iff_eq]; exact hc
              have c3 : (va != 0) = true := by rw [bne_iff_ne]; exact ha0
              have c4 : va ≥ o.lc := hal
              have c5 : decide (o.lc ≤ va) = true := decide_eq_true hal
              clear hy hc ha0 hal
              go_wp2
              go_ret
              exact ⟨rfl, B4.out⟩
            · have ha0 : va = 0 := hy.other hc
              subst ha0
              have c1 : (d.c == 1) = false := by rw [beq_eq_false_iff_ne]; exact hc
              have c2 : (d.c != 1) = true := by rw [bne_iff_ne]; exact hc
              clear hy hc
              go_wp2
              go_ret
              exact ⟨rfl, B4.out⟩
          · have hy := HY.out
            have hbk : vu / 2 ^ o.fr.toNat % 2 = 0 := hy.back (by omega) (by omega)
            have hwf : IntKind.u64.wrap o.fr = o.fr := by rw [IntKind.wrap_u64]; omega
            have SH2 := shr32 vu o.fr.toNat o.fr HVU.out (by omega)
            have hlt : vu / 2 ^ o.fr.toNat < 4294967296 := Nat.lt_of_le_of_lt (Nat.div_le_self _ _) HVU.out
            have AND1 : bits .and .u32 ((vu : Int) / 2 ^ o.fr.toNat) 1 = 0 := by
              have e9 : (vu : Int) / 2 ^ o.fr.toNat = ((vu / 2 ^ o.fr.toNat : Nat) : Int) := by
                rw [Int.natCast_ediv, Int.natCast_pow]
                rfl
              have h9 := u32_and_nat (vu / 2 ^ o.fr.toNat) 1 hlt (by decide)
              rw [Nat.and_one_is_mod, hbk] at h9
              rw [e9]
              exact h9
            clear SH2
            have g0 : decide (o.fr < 0) = false := decide_eq_false f0
            have g1 : decide (31 < o.fr) = false := decide_eq_false f1
            clear hlt hbk
            by_cases hc : d.c = 1
            · obtain ⟨ha0, hal⟩ := hy.timed hc
              have c1 : (d.c == 1) = true := by rw [beq_iff_eq]; exact hc
              have c2 : (d.c != 1) = false := by rw [bne_eq_false_iff_eq]; exact hc
              have c3 : (va != 0) = true := by rw [bne_iff_ne]; exact ha0
              have c4 : va ≥ o.lc := hal
              have c5 : decide (o.lc ≤ va) = true := decide_eq_true hal
              clear hy hc ha0 hal
              go_wp2
              go_ret
              exact ⟨rfl, B4.out⟩
            · have ha0 : va = 0 := hy.other hc
              subst ha0
              have c1 : (d.c == 1) = false := by rw [beq_eq_false_iff_ne]; exact hc
              have c2 : (d.c != 1) = true := by rw [bne_iff_ne]; exact hc
              clear hy hc
              go_wp2
              go_ret
              exact ⟨rfl, B4.out⟩
end
end Go.Proofs.Ytecgpibidcifpaa.RelayW
