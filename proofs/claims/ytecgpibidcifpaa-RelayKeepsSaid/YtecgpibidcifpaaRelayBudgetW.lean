/- RelayBudget, walked by what is asked of a relay. -/
import Derived.Test.YtecgpibidcifpaaTake
import Derived.Test.YtecgpibidcifpaaRelayFixed
import Derived.Test.YtecgpibidcifpaaRelayBudgetP
namespace Go.Proofs.Ytecgpibidcifpaa.RelayW
open Shell (takeR skipR aput lset)
open Go.RowKit Shell
open ConfW (Cfg R4 CM ML chk)
open BucketW (Bk pas tk b0 fit)
open FrameW (BL rdE rdV)
abbrev lbx (e : R4) : Obj := .cells #[.int .i64 e.a, .int .u32 (e.b : Int), .int .i64 e.c, .int .i64 e.d] 52 (0, 0)
theorem OPS.take {w : World} {A : Option Addr} {ops : List Op} (h : OPS w A ops) (n : Nat) : OPS w A (ops.take n) := by
  intro k o hk
  rw [List.getElem?_take] at hk
  split at hk
  · exact h k o hk
  · cases hk
theorem ops_bl' {w W : World} {A : Option Addr} {ops : List Op} (h : OPS w A ops) {i : Nat} {o : Op} (hi : ops[i]? = some o) (hW : Below w.heap.size w W) : BL W o.A o.l ∧ o.l.length ≤ 9223372036854775807 ∧ o.l.length ≤ o.cp := by
  obtain ⟨_, _, _, _, _, _, _, h4, h5⟩ := (h.below hW) i o hi
  exact ⟨h4, h5⟩
section
variable {RI : RIT}
theorem RQ.step {w0 W W1 : World} {X XR : Nat → Prop} {g N : Nat} {c : Cfg} {bs br : List Bk} {ds : List Int} {es : List TB} {vl v v' : Value} {B : List (Nat × Obj)} (S : Spec RI) (h : RQ RI w0 X g c bs ds N XR br es vl B W) (s : Step W v W1 v') (hX : ∀ b, v.ownBlock = some b → (¬ X b ∧ ¬ XR b) ∧ w0.heap.size ≤ b) (hB : ∀ x ∈ B, v.ownBlock ≠ some x.1) : RQ RI w0 X g c bs ds N XR br es vl B W1 :=
  ⟨S.frame h.p s.g.size (fun j hj => s.g.block j (S.foot h.p j hj).2 (fun e => (hX j e.symm).1.1 hj)), h.r.frame s.g.size (fun j hj => s.g.block j (h.r.bx j hj).2 (fun e => (hX j e.symm).1.2 hj)), h.b.grown s.g h.b.size (fun k hk => (hX k hk).2), fun x hx => ⟨(s.g.block x.1 (lt_of_heap (h.bx x hx).1) (fun e => hB x hx e.symm)).trans (h.bx x hx).1, (h.bx x hx).2⟩, h.dj⟩
/-- What is held behind i frames: a relay, boxes, the times of those that went on. -/
structure TQ (RI : RIT) (w0 : World) (g : Nat) (c : Cfg) (ops : List Op) (k i Bt : Nat) (B : List (Nat × Obj)) (tv : Value) (W : World) : Prop where
  q : ∃ X, RA RI w0 X g c (runB c ops i) (runD c ops i) i B W ∧ ∀ b, tv.ownBlock = some b → ¬ X b
  o : OR W Bt 2 .i64 tv (tms c ops k i)
  lt : ∀ x ∈ B, x.1 < Bt
  ge : w0.heap.size ≤ Bt ∧ Bt ≤ W.heap.size
theorem tq_no {w0 W : World} {X : Nat → Prop} {g : Nat} {c : Cfg} {ops : List Op} {k i Bt : Nat} {B B' : List (Nat × Obj)} {tv : Value} (Q : RA RI w0 X g c (runB c ops (i + 1)) (runD c ops (i + 1)) (i + 1) B' W) (hB : ∀ x ∈ B, x ∈ B') (O : OR W Bt 2 .i64 tv (tms c ops k i)) (hE : tms c ops k (i + 1) = tms c ops k i) (dj : ∀ b, tv.ownBlock = some b → ¬ X b) (lt : ∀ x ∈ B, x.1 < Bt) (ge : w0.heap.size ≤ Bt ∧ Bt ≤ W.heap.size) : TQ RI w0 g c ops k (i + 1) Bt B tv W :=
  ⟨⟨X, Q.sub hB, dj⟩, by rw [hE]; exact O, lt, ge⟩
theorem tq_yes {w0 W W1 : World} {X : Nat → Prop} {g : Nat} {c : Cfg} {ops : List Op} {k i Bt : Nat} {B B' : List (Nat × Obj)} {tv tv' : Value} {t : Int} {ob : Obj} (S : Spec RI) (Q : RA RI w0 X g c (runB c ops (i + 1)) (runD c ops (i + 1)) (i + 1) B' W) (hB : ∀ x ∈ B, x ∈ B') (O : OR W Bt 2 .i64 tv (tms c ops k i)) (O1 : OR W1 Bt 2 .i64 tv' (tms c ops k i ++ [t])) (s : Step (W.alloc ob) tv W1 tv') (hE : tms c ops k (i + 1) = tms c ops k i ++ [t]) (dj : ∀ b, tv.ownBlock = some b → ¬ X b) (lt : ∀ x ∈ B, x.1 < Bt) (ge : w0.heap.size ≤ Bt ∧ Bt ≤ W.heap.size) : TQ RI w0 g c ops k (i + 1) Bt B tv' W1 := by
  have Q1 := (Q.sub hB).next S (al (Below.refl _ _) ob)
  refine ⟨⟨X, Q1.step S s (fun b hb => ⟨⟨dj b hb, fun h => h⟩, Nat.le_trans ge.1 (O.lt b hb).1⟩) (fun x hx e => by have := (O.lt _ e).1; have := lt x hx; omega), fun b hb hX => ?_⟩, by rw [hE]; exact O1, lt, ge.1, Nat.le_trans ge.2 (Nat.le_trans (by rw [World.size_alloc]; omega) s.g.size)⟩
  rcases s.m with h1 | ⟨j, h1, h2⟩
  · exact dj b (h1.symm.trans hb) hX
  · rw [hb] at h1
    cases h1
    have := (S.foot Q1.p _ hX).2
    omega
set_option maxHeartbeats 16000000 in
set_option maxRecDepth 100000 in
theorem budget_walk (S : Spec RI) (c : Cfg) (D E L : Option Addr) (nd cd ne ce nl cl : Nat) (A : Option Addr) (n cp : Nat) (ops : List Op) (w : World) (h : CM w c D E L nd cd ne ce nl cl) (ho : OPS w A ops) (hn : ops.length = n) (hcp : n ≤ cp) :
    Calls Try.prog 4 #[.agg #[.int .i64 c.hosts, .int .i64 c.cycle, .int .i64 c.delay, .int .i64 c.window, .int .i64 c.precision, .slice D nd cd, .slice E ne ce, .slice L nl cl, .int .i64 c.queue], .slice A n cp] w fun r w' => r = .returned (.bool true) ∧ Below w.heap.size w w' := by
  obtain ⟨N, hN⟩ : ∃ N, min n 300 = N := ⟨_, rfl⟩
  have e1 : min (n : Int) 300 = (N : Int) := by omega
  have e2 : (if (300 : Int) < (n : Int) then (300 : Int) else (n : Int)) = (N : Int) := by split <;> omega
  have e3 : N ≤ cp := by omega
  have e4 : (N : Int) ≤ (cp : Int) := by omega
  obtain ⟨os, hos⟩ : ∃ os, ops.take N = os := ⟨_, rfl⟩
  have HO := Lib.hid (hos ▸ ho.take N)
  have HN := Lib.hid (show os.length = N by rw [← hos, List.length_take]; omega)
  have H3 := Lib.hid (show N ≤ 300 by omega)
  have SH := Lib.hid S
  have HM := Lib.hid h
  have S0 := Lib.hid ((Stay.start w).alloc (cbx c D E L nd cd ne ce nl cl))
  have HF := Lib.hid (fun W => fixed_any S W)
  clear S h ho hn hcp hN hos
  go_enter Try.func4, Try.ntmps4
  go_wp2_with fail
  refine (HF.out _).mono ?_
  rintro r w1 ⟨rfl, b1⟩
  have S1 := Lib.hid (S0.out.next b1)
  clear b1 S0 HF
  obtain ⟨a0, a1, a2, a3, a4, a5, a6, a7, a8⟩ := PlanW.cells9 (S1.out.at 0 rfl)
  go_wp2_with fail
  by_cases hz : chk c = 0
  case neg =>
    refine (SH.out.bad c D E L nd cd ne ce nl cl _ (HM.out.below S1.out.b) hz).mono ?_
    rintro r w2 ⟨rfl, b2⟩
    have B2 := Lib.hid (S1.out.next b2).b
    clear b2 S1 a0 a1 a2 a3 a4 a5 a6 a7 a8
    go_wp2
    go_ret
    exact ⟨rfl, B2.out⟩
  case pos =>
    refine (SH.out.new c D E L nd cd ne ce nl cl _ (HM.out.below S1.out.b) hz).mono ?_
    rintro r w2 ⟨g0, X0, rfl, -, b2⟩
    have S2 := Lib.hid (S1.out.next b2)
    clear b2 S1 a0 a1 a2 a3 a4 a5 a6 a7 a8
    obtain ⟨a0, a1, a2, a3, a4, a5, a6, a7, a8⟩ := PlanW.cells9 (S2.out.at 0 rfl)
    have hnl : nl ≤ 9223372036854775807 := by have := HM.out.mL; unfold maxLen at this; omega
    go_upto_region 7 with (fail)
    clear e1 e2 e3 e4
    go_upto_region 8 with (fail)
    clear a0 a1 a2 a3 a4 a5 a6 a7 a8
    go_loopw [36] (fun kv wr => ∃ (k : Nat), k ≤ nl ∧ kv = .int .i64 k ∧ Hid (Stay w [(w.heap.size, cbx c D E L nd cd ne ce nl cl)] wr)) (fun kv _ => nl - (intOf kv).toNat)
    case atStart => exact ⟨0, Nat.zero_le _, rfl, S2⟩
    case round =>
      clear S2
      obtain ⟨k, hk0, rfl, HS⟩ := hrel
      obtain ⟨W0, hW0⟩ : ∃ W0, W0 = wr := ⟨_, rfl⟩
      subst hW0
      obtain ⟨a0, a1, a2, a3, a4, a5, a6, a7, a8⟩ := PlanW.cells9 (HS.out.at 0 rfl)
      by_cases hkl : k < nl
      · have hkl' : (k : Int) < (nl : Int) := by omega
        obtain ⟨e, he⟩ : ∃ e, c.links[k]? = some e := ⟨_, List.getElem?_eq_getElem (by rw [← HM.out.nL]; exact hkl)⟩
        obtain ⟨b, off, rfl, l0, l1, l2, l3⟩ := ml_at (HM.out.hl.below HS.out.b) he
        have HE := Lib.hid he
        have HKL := Lib.hid hkl
        have S3 := Lib.hid (HS.out.alloc (lbx e))
        clear he hkl
        obtain ⟨a0, a1, a2, a3, a4, a5, a6, a7, a8⟩ := PlanW.cells9 (S3.out.at 1 rfl)
        go_wp2_with fail
        refine (SH.out.new c D E (some ⟨b, off, none⟩) nd cd ne ce nl cl _ (HM.out.below S3.out.b) hz).mono ?_
        rintro r w3 ⟨g, X, rfl, F3, b3⟩
        have Q3 := Lib.hid (ra_new SH.out F3 b3 S3.out (fun x hx => by
          simp only [List.mem_cons, List.not_mem_nil, or_false] at hx
          rcases hx with rfl | rfl
          · exact HS.out.b.size
          · exact Nat.le_refl _))
        clear F3 b3 S3 HS l0 l1 l2 l3 a0 a1 a2 a3 a4 a5 a6 a7 a8
        generalize W0.heap.size = kb at *
        have T3 := Lib.hid (show TQ RI w g c os k 0 w3.heap.size [(kb, lbx e), (w.heap.size, cbx c D E (some ⟨b, off, none⟩) nd cd ne ce nl cl)] (.slice none 0 0) w3 from
          ⟨⟨X, Q3.out, fun b hb => by exact absurd hb (by simp [Value.ownBlock])⟩, OR.nil _ _ _ _, fun x hx => lt_of_heap (Q3.out.bx x hx).1, Q3.out.b.size, Nat.le_refl _⟩)
        clear Q3
        go_upto_region 13 with (fail)
        generalize w3.heap.size = Bt at *
        go_loopw [11, 48] (fun tv iv wr => ∃ (i : Nat), i ≤ N ∧ iv = .int .i64 i ∧ Hid (TQ RI w g c os k i Bt [(kb, lbx e), (w.heap.size, cbx c D E (some ⟨b, off, none⟩) nd cd ne ce nl cl)] tv wr)) (fun _ iv _ => N - (intOf iv).toNat)
        case atStart => exact ⟨0, Nat.zero_le _, rfl, T3⟩
        case round =>
          clear T3
          obtain ⟨i, hi, rfl, HT⟩ := hrel
          obtain ⟨X, hQ, hdj⟩ := HT.out.q
          have Q1 := Lib.hid hQ
          have DJ := Lib.hid hdj
          have HNN := H3.out
          clear hQ hdj
          by_cases hlt : i < N
          · have hlt' : (i : Int) < (N : Int) := by omega
            obtain ⟨o, hoi⟩ : ∃ o, os[i]? = some o := ⟨_, List.getElem?_eq_getElem (by rw [HN.out]; exact hlt)⟩
            have HI := Lib.hid hoi
            have HBL := Lib.hid (fun (W : World) (hW : Below w.heap.size w W) => ops_bl' HO.out hoi hW)
            obtain ⟨b2, off2, rfl, m0, m1, m2, m3, -, -, -⟩ := (HO.out.below Q1.out.b) i o hoi
            obtain ⟨d, hd⟩ : ∃ d, dt o.l = d := ⟨_, rfl⟩
            obtain ⟨v, hv⟩ : ∃ v, jd c (runB c os i) o.t o.lc o.fr o.l = v := ⟨_, rfl⟩
            have HD := Lib.hid hd
            have HV := Lib.hid hv
            have E1 := Lib.hid (runB_at c hoi)
            have E2 := Lib.hid (hv ▸ runD_at c hoi)
            have E3 := Lib.hid (tms_at c k hoi)
            have Q2 := Lib.hid (Q1.out.box SH.out (obx o))
            have HLT := Lib.hid hlt
            clear hoi hd hv hlt
            obtain ⟨x0, x1, x2, x3⟩ := PlanW.cells4 (Q2.out.at 0 rfl)
            go_wp2_with fail
            refine (SH.out.judge o.t o.lc o.fr o.A o.l o.cp Q2.out.p (by have := H3.out; have := HLT.out; omega) (HBL.out _ Q2.out.b).1 (HBL.out _ Q2.out.b).2.1 (HBL.out _ Q2.out.b).2.2).mono ?_
            rintro r w4 ⟨X3, rfl, F3, T3⟩
            rw [HD.out, HV.out]
            rw [HV.out, ← E1.out, ← E2.out] at F3
            have Q3 := Q2.out.turnP SH.out F3 T3
            have O3 : OR w4 Bt 2 .i64 u11 (tms c os k i) := or_block (HT.out.o.alloc (obx o)) (fun j hj => T3.block j (by have := (HT.out.o.lt j hj).2; rw [World.size_alloc]; omega) (DJ.out j hj))
            have D3 := Lib.hid (fun (j : Nat) (hj : u11.ownBlock = some j) (hX : X3 j) => (T3.foot j hX).elim (DJ.out j hj) (fun hh => by have := (HT.out.o.lt j hj).2; rw [World.size_alloc] at hh; omega))
            have Q4 := Lib.hid (Q3.box SH.out (vby v d))
            have O4 := Lib.hid (O3.alloc (vby v d))
            have G4 := Lib.hid (show w.heap.size ≤ Bt ∧ Bt ≤ (w4.alloc (vby v d)).heap.size from ⟨HT.out.ge.1, by have := HT.out.ge.2; have := T3.size; rw [World.size_alloc] at this; rw [World.size_alloc]; omega⟩)
            have LT := Lib.hid HT.out.lt
            clear Q3 O3 F3 T3 Q1 Q2 DJ HT x0 x1 x2 x3 m0 m1 m2 m3
            obtain ⟨y0, y1, y2, y3, y4, y5, y6, y7⟩ := cells8 (Q4.out.at 0 rfl)
            obtain ⟨x0, x1, x2, x3⟩ := PlanW.cells4 (Q4.out.at 1 rfl)
            obtain ⟨l0, l1, l2, l3⟩ := PlanW.cells4 (Q4.out.at 2 rfl)
            go_upto_region 16 with (fail)
            generalize w4.alloc (vby v d) = w5 at *
            generalize w4.heap.size = kv at *
            cases hh : hits c (runB c os i) k o with
            | true =>
              obtain ⟨p1, p2, p3⟩ := hits_iff.1 hh
              obtain ⟨q1, q2, q3⟩ := hits_pas HE.out hh
              rw [HV.out] at p1 q3
              rw [HD.out] at p2 p3 q2
              have tb := (BucketW.okB_iff.1 q2).1
              have E4 := Lib.hid (show tms c os k (i + 1) = tms c os k i ++ [o.t] by rw [E3.out, hh, if_pos rfl])
              have TL := Lib.hid (tms_len c os k i)
              obtain ⟨vw, vu, va⟩ := v
              obtain ⟨dc, dl, dn, dp, ds⟩ := d
              dsimp only at p1 p2 p3 q3 y0 y1 y2 y6
              subst p1; subst p2; subst p3; subst q3
              clear hh q1 q2 HD HV
              go_wp2_with (at_builtin; refine wpList_append_or BucketW.i64_one _ rfl _ _ rfl Bt _ (tms c os k i) rfl (O4.out.alloc _) (some ⟨w5.heap.size, 0, none⟩) 1 1 [o.t] rfl rfl ?c1 (fun h => by cases h) ?c2 (by decide) ?c3 ?_)
              case c1 => exact BucketW.cl_one w5 o.t (by omega) (by omega) _
              case c2 => have := TL.out; have := HLT.out; have := H3.out; omega
              case c3 => have := G4.out.2; omega
              intro v6 w6 o6 s6
              have T6 := Lib.hid (tq_yes SH.out Q4.out (fun x hx => List.mem_cons_of_mem _ (List.mem_cons_of_mem _ hx)) O4.out o6 s6 E4.out D3.out LT.out G4.out)
              clear o6 s6
              go_wp2
              go_roundw
              case rel => exact ⟨i + 1, by have := HLT.out; omega, by go_num, T6⟩
              case measure => have := HLT.out; simp [intOf]; omega
            | false =>
              have E4 := Lib.hid (show tms c os k (i + 1) = tms c os k i by rw [E3.out, hh, if_neg (by decide)])
              have T6 := Lib.hid (tq_no Q4.out (B := [(kb, lbx e), (w.heap.size, cbx c D E (some ⟨b, off, none⟩) nd cd ne ce nl cl)]) (fun x hx => List.mem_cons_of_mem _ (List.mem_cons_of_mem _ hx)) O4.out E4.out D3.out LT.out G4.out)
              have hno : ¬ (v.w = 0 ∧ d.c = 2 ∧ d.l = (k : Int)) := by
                intro hx
                have h9 : hits c (runB c os i) k o = true := hits_iff.2 (by rw [HV.out, HD.out]; exact hx)
                rw [hh] at h9
                cases h9
              by_cases p1 : v.w = 0
              · have g1 : (v.w == 0) = true := by rw [beq_iff_eq]; exact p1
                by_cases p2 : d.c = 2
                · have g2 : (d.c == 2) = true := by rw [beq_iff_eq]; exact p2
                  have g3 : (d.l == (k : Int)) = false := by rw [beq_eq_false_iff_ne]; exact fun h => hno ⟨p1, p2, h⟩
                  clear hno p1 p2 hh
                  go_wp2
                  go_roundw
                  case rel => exact ⟨i + 1, by have := HLT.out; omega, by go_num, T6⟩
                  case measure => have := HLT.out; simp [intOf]; omega
                · have g2 : (d.c == 2) = false := by rw [beq_eq_false_iff_ne]; exact p2
                  clear hno p1 p2 hh
                  go_wp2
                  go_roundw
                  case rel => exact ⟨i + 1, by have := HLT.out; omega, by go_num, T6⟩
                  case measure => have := HLT.out; simp [intOf]; omega
              · have g1 : (v.w == 0) = false := by rw [beq_eq_false_iff_ne]; exact p1
                clear hno p1 hh
                go_wp2
                go_roundw
                case rel => exact ⟨i + 1, by have := HLT.out; omega, by go_num, T6⟩
                case measure => have := HLT.out; simp [intOf]; omega
          · obtain rfl : N = i := by omega
            obtain ⟨A', c', hform, cl, -⟩ := HT.out.o.form
            subst hform
            have CC := Lib.hid cl
            have HL9 := Lib.hid (Q1.out.at 0 rfl)
            have HC9 := Lib.hid (Q1.out.at 1 rfl)
            have BW := Lib.hid Q1.out.b
            have HQ := Lib.hid (fun i j p q a b c => bud_in hz os HE.out N (i := i) (j := j) (p := p) (q := q) a b c)
            have HF := Lib.hid (show ∀ p ∈ tms c os k N, -1125899906842624 ≤ p ∧ p ≤ 1125899906842624 from fun p hp => by
              obtain ⟨s, -, hb⟩ := bud_run hz os HE.out N
              exact BucketW.far_iff.1 (hb.f p hp))
            obtain ⟨n1, hn1⟩ : ∃ n1, (tms c os k N).length = n1 := ⟨_, rfl⟩
            rw [hn1]
            have LN := Lib.hid hn1
            have NB := Lib.hid (show n1 ≤ 300 by have := tms_len c os k N; have := H3.out; omega)
            obtain ⟨W9, hW9⟩ : ∃ W9, W9 = wr := ⟨_, rfl⟩
            subst hW9
            clear HT DJ Q1 cl hn1 hlt hi HNN
            generalize tms c os k N = ps at *
            go_upto_region 22 with (fail)
            go_loopw [91] (fun iv wr => ∃ (i : Nat), iv = .int .i64 i ∧ i ≤ n1 ∧ Hid (Below W9.heap.size W9 wr)) (fun iv _ => n1 - (intOf iv).toNat)
            case atStart => exact ⟨0, rfl, Nat.zero_le _, Lib.hid (Below.refl _ _)⟩
            case round =>
              obtain ⟨i1, rfl, hi, HB⟩ := hrel
              obtain ⟨V, hV⟩ : ∃ V, V = wr := ⟨_, rfl⟩
              subst hV
              by_cases hil : i1 < n1
              · have HI := Lib.hid hil
                have iw : IntKind.i64.wrap ((i1 : Int) + 1) = (i1 : Int) + 1 := by have := NB.out; rw [IntKind.wrap_i64]; omega
                have IW := Lib.hid iw
                clear iw
                go_upto_region 25 with (fail)
                go_loopw [16] (fun kv wr => ∃ (m : Nat), kv = .int .i64 m ∧ i1 ≤ m ∧ m ≤ n1 ∧ Hid (Below W9.heap.size W9 wr)) (fun kv _ => n1 - (intOf kv).toNat)
                case atStart => exact ⟨i1, rfl, Nat.le_refl _, hi, HB⟩
                case round =>
                  clear HB
                  obtain ⟨m, rfl, him, hm, HB⟩ := hrel
                  by_cases hml : m < n1
                  · obtain ⟨q, hq⟩ : ∃ q, ps[m]? = some q := ⟨_, List.getElem?_eq_getElem (by have := LN.out; omega)⟩
                    obtain ⟨p, hp⟩ : ∃ p, ps[i1]? = some p := ⟨_, List.getElem?_eq_getElem (by have := LN.out; have := HI.out; omega)⟩
                    have h1 := HQ.out i1 m p q him hp hq
                    have h2 := HF.out q (List.mem_of_getElem? hq)
                    have h3 := HF.out p (List.mem_of_getElem? hp)
                    have HMI := Lib.hid him
                    have HML := Lib.hid hml
                    obtain ⟨a, rfl, -⟩ := CC.out m q hq
                    have YQ := Lib.hid hq
                    have YP := Lib.hid hp
                    obtain ⟨d, hd⟩ : ∃ d, q - p = d := ⟨_, rfl⟩
                    obtain ⟨E1, hE⟩ : ∃ E1, (m : Int) - (i1 : Int) + 1 = E1 := ⟨_, rfl⟩
                    rw [hd, hE] at h1
                    have nb := NB.out
                    have z1 : IntKind.i64.wrap ((m : Int) - (i1 : Int)) = (m : Int) - (i1 : Int) := by rw [IntKind.wrap_i64]; omega
                    have z2 : IntKind.i64.wrap ((m : Int) - (i1 : Int) + 1) = E1 := by rw [hE, IntKind.wrap_i64]; omega
                    have z3 : IntKind.i64.wrap (q - p) = d := by rw [hd, IntKind.wrap_i64]; omega
                    have z4 : (i1 : Int) < (n1 : Int) := by have := HI.out; omega
                    have z5 : (m : Int) < (n1 : Int) := by omega
                    have z6 : i1 < n1 := HI.out
                    have z7 : IntKind.i64.wrap ((m : Int) + 1) = (m : Int) + 1 := by rw [IntKind.wrap_i64]; omega
                    have HD := Lib.hid (fun W => BucketW.budget_any e.c c.delay d W)
                    generalize BucketW.bud e.c c.delay d = Q at *
                    have z8 : ¬ Q < E1 := by omega
                    clear hd hE h1 h2 h3 hq hp him nb
                    go_upto_region 27 with (fail)
                    apply wp_some (S := fun V' => Below W9.heap.size W9 V')
                    case h =>
                      refine wp_region_noPanic ?_
                      refine wp_region_held_drew (S := fun V' : World => Below W9.heap.size W9 V') (by kernel_rfl) (HB.out.drew) (fun hHeld => ?_)
                      refine takeR 0 (some 101) ?_ ?_ ?_; rotate_left; (focus (intros; go_simp; (try with_reducible rfl)))
                      simp only [aput, lset]
                      refine takeR 1 (some 102) ?_ ?_ ?_; rotate_left; (focus (intros; go_simp; (try with_reducible rfl)))
                      simp only [aput, lset]
                      refine takeR 2 (some 103) ?_ ?_ ?_; rotate_left; (focus (intros; go_simp; (try with_reducible rfl)))
                      simp only [aput, lset]
                      refine takeR 3 (some 104) ?_ ?_ ?_; rotate_left; (focus (intros; go_simp; (try with_reducible rfl)))
                      simp only [aput, lset]
                      refine takeR 4 (some 105) ?_ ?_ ?_; rotate_left; (focus (intros; go_simp; (try with_reducible rfl)))
                      simp only [aput, lset]
                      refine takeR 5 (some 106) ?_ ?_ ?_; rotate_left; (focus (intro w hSw; (try dsimp only at hSw); obtain ⟨l0, l1, l2, l3⟩ := PlanW.cells4 (row_below hSw HL9.out); obtain ⟨a0, a1, a2, a3, a4, a5, a6, a7, a8⟩ := PlanW.cells9 (row_below hSw HC9.out); obtain ⟨_, ha1, hc1, _⟩ := (CC.out.below hSw) m q YQ.out; cases ha1; obtain ⟨_, ha2, hc2, _⟩ := (CC.out.below hSw) i1 p YP.out; cases ha2; go_simp; (try with_reducible rfl)))
                      simp only [aput, lset]
                      refine takeR 6 (some 107) ?_ ?_ ?_; rotate_left; (focus (intros; go_simp; (try with_reducible rfl)))
                      simp only [aput, lset]
                      refine takeR 7 (some 108) ?_ ?_ ?_; rotate_left; (focus (intro w hSw; (try dsimp only at hSw); obtain ⟨l0, l1, l2, l3⟩ := PlanW.cells4 (row_below hSw HL9.out); obtain ⟨a0, a1, a2, a3, a4, a5, a6, a7, a8⟩ := PlanW.cells9 (row_below hSw HC9.out); obtain ⟨_, ha1, hc1, _⟩ := (CC.out.below hSw) m q YQ.out; cases ha1; obtain ⟨_, ha2, hc2, _⟩ := (CC.out.below hSw) i1 p YP.out; cases ha2; go_simp; (try with_reducible rfl)))
                      simp only [aput, lset]
                      refine takeR 8 (some 109) ?_ ?_ ?_; rotate_left; (focus (intros; go_simp; (try with_reducible rfl)))
                      simp only [aput, lset]
                      refine takeR 9 (some 110) ?_ ?_ ?_; rotate_left; (focus (intros; go_simp; (try with_reducible rfl)))
                      simp only [aput, lset]
                      refine takeR 10 (some 111) ?_ ?_ ?_; rotate_left; (focus (intros; go_simp; (try with_reducible rfl)))
                      simp only [aput, lset]
                      refine takeR 11 (some 112) ?_ ?_ ?_; rotate_left; (focus (intro w hSw; (try dsimp only at hSw); obtain ⟨l0, l1, l2, l3⟩ := PlanW.cells4 (row_below hSw HL9.out); obtain ⟨a0, a1, a2, a3, a4, a5, a6, a7, a8⟩ := PlanW.cells9 (row_below hSw HC9.out); obtain ⟨_, ha1, hc1, _⟩ := (CC.out.below hSw) m q YQ.out; cases ha1; obtain ⟨_, ha2, hc2, _⟩ := (CC.out.below hSw) i1 p YP.out; cases ha2; go_simp; (try with_reducible rfl)))
                      simp only [aput, lset]
                      refine takeR 12 (some 113) ?_ ?_ ?_; rotate_left; (focus (intros; go_simp; (try with_reducible rfl)))
                      simp only [aput, lset]
                      refine takeR 13 (some 114) ?_ ?_ ?_; rotate_left; (focus (intros; go_simp; (try with_reducible rfl)))
                      simp only [aput, lset]
                      refine takeR 14 (some 115) ?_ ?_ ?_; rotate_left; (focus (intros; go_simp; (try with_reducible rfl)))
                      simp only [aput, lset]
                      refine takeR 15 (some 116) ?_ ?_ ?_; rotate_left; (focus (intro w hSw; (try dsimp only at hSw); obtain ⟨l0, l1, l2, l3⟩ := PlanW.cells4 (row_below hSw HL9.out); obtain ⟨a0, a1, a2, a3, a4, a5, a6, a7, a8⟩ := PlanW.cells9 (row_below hSw HC9.out); obtain ⟨_, ha1, hc1, _⟩ := (CC.out.below hSw) m q YQ.out; cases ha1; obtain ⟨_, ha2, hc2, _⟩ := (CC.out.below hSw) i1 p YP.out; cases ha2; go_simp; (try with_reducible rfl)))
                      simp only [aput, lset]
                      refine takeR 16 (some 117) ?_ ?_ ?_; rotate_left; (focus (intros; go_simp; (try with_reducible rfl)))
                      simp only [aput, lset]
                      refine wpAnyH_ready (rs := [17]) (by kernel_rfl) (by simp) ?_
                      refine AllReadyH.cons (o := ⟨some 118, _, _, _, _, _⟩) rfl (fun K hK => ?_) AllReadyH.nil
                      rw [if_pos (by kernel_rfl)]
                      go_simp
                      refine (HD.out _).mono ?_
                      rintro e w' ⟨rfl, rfl⟩
                      go_simp
                      refine hK.out _ _ (by assumption) (fun hHeld => ?_)
                      clear hK K
                      refine takeR 18 (some 119) ?_ ?_ ?_; rotate_left; (focus (intros; go_simp; (try with_reducible rfl)))
                      simp only [aput, lset]
                      refine wpAnyH_done (by kernel_rfl) ?_ _
                      exact NoPanic.normal ⟨rfl, rfl, by assumption⟩
                    case hm =>
                      intro w9 b9
                      have B9 := Lib.hid b9
                      clear b9 HB z1 z2 z3 z4 z5 z6 z8
                      go_wp2
                      go_roundw
                      case rel => exact ⟨m + 1, by simp, by have := HMI.out; omega, by have := HML.out; omega, B9⟩
                      case measure => have := HML.out; simp only [intOf]; clear z7; omega
                  · have iw := IW.out
                    go_wp2
                    go_roundw
                    case rel => exact ⟨i1 + 1, by simp, by have := HI.out; omega, HB⟩
                    case measure => have := HI.out; simp only [intOf]; clear iw; omega
              · have SE := Lib.hid (show Stay w [(w.heap.size, cbx c D E (some ⟨b, off, none⟩) nd cd ne ce nl cl)] V from ⟨BW.out.trans (HB.out.mono BW.out.size), fun x hx => by
                  rw [List.mem_singleton] at hx
                  subst hx
                  exact row_below HB.out HC9.out⟩)
                go_wp2
                go_roundw
                case rel => exact ⟨k + 1, by have := HKL.out; omega, by go_num, SE⟩
                case measure => have := HKL.out; simp [intOf]; omega
      · have B9 := Lib.hid HS.out.b
        go_wp2
        go_ret
        exact ⟨rfl, B9.out⟩
end
end Go.Proofs.Ytecgpibidcifpaa.RelayW
