/- StationTimed, walked by what is asked of a station. -/
import Derived.Test.YtnlimdlmhfnkiaaTake
import Derived.Test.YtnlimdlmhfnkiaaStationFixed
import Derived.Test.YtnlimdlmhfnkiaaFrameO
namespace Go.Proofs.Ytnlimdlmhfnkiaa.StationW
open Shell (takeR skipR aput lset)
open Go.RowKit Shell
open ConfW (Cfg R4 CM ML chk)
open FrameW (BL rdE rdV)
def isT (x : Tn) : Bool := decide (x.d.c = 1)
theorem gd_timed {c : Cfg} {h t : Int} {l : List Int} {T U : List Tn} (h1 : (dt l).c = 1) (hf : T.filter isT = U.filter isT) : gd c h T t l = gd c h U t l := by
  have hf' : (T.filter fun x => decide (x.d.c = 1)) = (U.filter fun x => decide (x.d.c = 1)) := hf
  unfold gd gj
  rw [tw_timed h1 T, tw_timed h1 U, hf']
theorem nL_timed {c : Cfg} {h t : Int} {l : List Int} {T U : List Tn} (h1 : (dt l).c = 1) (hf : T.filter isT = U.filter isT) : (nL c h T t l).filter isT = (nL c h U t l).filter isT := by
  unfold nL
  rw [gd_timed h1 hf]
  split
  · rw [List.filter_append, List.filter_append, hf]
  · exact hf
theorem nL_other {c : Cfg} {h t : Int} {l : List Int} {T : List Tn} (h1 : rdE l ≠ 0 ∨ (dt l).c ≠ 1) : (nL c h T t l).filter isT = T.filter isT := by
  by_cases he : rdE l = 0
  · have h2 : (dt l).c ≠ 1 := by rcases h1 with h | h; · exact absurd he h
                                 · exact h
    unfold nL
    split
    · rw [List.filter_append, List.filter_cons_of_neg (by simpa [isT] using h2)]
      simp
    · rfl
  · have e1 : (gd c h T t l).w = 1 := by
      unfold gd gj pj
      rw [if_neg he, if_neg (fun hh => absurd hh.1 (by decide))]
    unfold nL
    rw [e1, if_neg (by decide)]
set_option maxRecDepth 100000 in
theorem eql_g (a c l n : Int) (p : ByteArray) (s x : Int) (w : World) : (binOp .eql 41 (.agg #[.int .i64 a, .int .i64 c, .int .i64 l, .int .i64 n, .string p, .int .i64 s, .int .i64 x]) (.agg #[.int .i64 a, .int .i64 c, .int .i64 l, .int .i64 n, .string p, .int .i64 s, .int .i64 x])).run Try.prog w = .ok (.bool true) w := by
  have u3 := Try.underlying3
  have u4 := Try.underlying9
  have u6 := Try.underlying2
  have a3 := Try.isAgg3
  have z3 := Try.sizeOf3
  have a4 := Try.isAgg9
  have z4 := Try.sizeOf9
  have a6 := Try.isAgg2
  have z6 := Try.sizeOf2
  have hS : Try.prog.underlying 41 = some (.struct (Try.prog.fieldsOf 41)) := by kernel_rfl
  have hp : Try.prog.stoodInHeld 41 = false := by kernel_rfl
  have hS2 : Try.prog.underlying 39 = some (.struct (Try.prog.fieldsOf 39)) := by kernel_rfl
  have hp2 : Try.prog.stoodInHeld 39 = false := by kernel_rfl
  have a7 := Try.isAgg39
  have z7 := Try.sizeOf39
  have hd : ∀ w, (Op.equalIn (9998 + 1) 39 (.agg #[.int .i64 c, .int .i64 l, .int .i64 n, .string p, .int .i64 s]) (.agg #[.int .i64 c, .int .i64 l, .int .i64 n, .string p, .int .i64 s])).run Try.prog w = .ok true w := by
    intro w
    rw [run_equalIn_agg w 9998 39 _ _ hS2 hp2]
    simp only [Program.fieldsOf, Try.underlying39]
    go_simp
  rw [run_eql_struct, show (10000 : Nat) = (9998 + 1) + 1 from rfl, run_equalIn_agg w (9998 + 1) 41 _ _ hS hp]
  simp only [Program.fieldsOf, Try.underlying41]
  clear hS2 hp2
  generalize 9998 = d9 at *
  go_simp
theorem neq_g (a c l n : Int) (p : ByteArray) (s x : Int) (w : World) : (binOp .neq 41 (.agg #[.int .i64 a, .int .i64 c, .int .i64 l, .int .i64 n, .string p, .int .i64 s, .int .i64 x]) (.agg #[.int .i64 a, .int .i64 c, .int .i64 l, .int .i64 n, .string p, .int .i64 s, .int .i64 x])).run Try.prog w = .ok (.bool false) w := FrameW.neq_of_eql (eql_g a c l n p s x w)
theorem ops_bl' {w W : World} {A : Option Addr} {ops : List Op} (h : OPS w A ops) {i : Nat} {o : Op} (hi : ops[i]? = some o) (hW : Below w.heap.size w W) : BL W o.A o.l ∧ o.l.length ≤ 9223372036854775807 ∧ o.l.length ≤ o.cp := by
  obtain ⟨_, _, _, _, _, _, h4, h5⟩ := (h.below hW) i o hi
  exact ⟨h4, h5⟩
/-- What is held behind i acts. -/
def TmQ (SI : SIT) (w0 : World) (g k : Nat) (c : Cfg) (h : Int) (i : Nat) (B : List (Nat × Obj)) (W : World) : Prop :=
  ∃ X Y T U a b N a' b' N', (N ≤ i ∧ N' ≤ i) ∧ T.filter isT = U.filter isT ∧ S2 SI w0 X g c h T a b N Y k h U a' b' N' B W
section
variable {SI : SIT}
set_option maxHeartbeats 16000000 in
set_option maxRecDepth 100000 in
theorem timed_walk (S : Spec SI) (c : Cfg) (D E L : Option Addr) (nd cd ne ce nl cl : Nat) (h : Int) (A : Option Addr) (n cp : Nat) (ops : List Op) (w : World) (m : CM w c D E L nd cd ne ce nl cl) (ho : OPS w A ops) (hn : ops.length = n) (hz : n ≤ 17592186044000) :
    Calls Try.prog 5 #[.agg #[.int .i64 c.hosts, .int .i64 c.cycle, .int .i64 c.delay, .int .i64 c.window, .int .i64 c.precision, .slice D nd cd, .slice E ne ce, .slice L nl cl, .int .i64 c.queue], .int .i64 h, .slice A n cp] w fun r w' => r = .returned (.bool true) ∧ Below w.heap.size w w' := by
  have SH := Lib.hid S
  have HM := Lib.hid m
  have HO := Lib.hid ho
  have HN := Lib.hid hn
  have HZ := Lib.hid hz
  have S0 := Lib.hid ((Stay.start w).alloc (cbx c D E L nd cd ne ce nl cl))
  have HF := Lib.hid (fun W => fixed_any S W)
  clear S m ho hn hz
  go_enter Try.func5, Try.ntmps5
  go_wp2_with fail
  refine (HF.out _).mono ?_
  rintro r w1 ⟨rfl, b1⟩
  have S1 := Lib.hid (S0.out.next b1)
  clear b1 S0 HF
  obtain ⟨a0, a1, a2, a3, a4, a5, a6, a7, a8⟩ := PlanW.cells9 (S1.out.at 0 rfl)
  go_wp2_with fail
  by_cases hz : may c h
  case neg =>
    refine (SH.out.bad c D E L nd cd ne ce nl cl h _ (HM.out.below S1.out.b) hz).mono ?_
    rintro r w2 ⟨rfl, b2⟩
    have S2' := Lib.hid (S1.out.next b2)
    clear b2 S1 a0 a1 a2 a3 a4 a5 a6 a7 a8
    obtain ⟨a0, a1, a2, a3, a4, a5, a6, a7, a8⟩ := PlanW.cells9 (S2'.out.at 0 rfl)
    go_wp2_with fail
    refine (SH.out.bad c D E L nd cd ne ce nl cl h _ (HM.out.below S2'.out.b) hz).mono ?_
    rintro r w3 ⟨rfl, b3⟩
    have B3 := Lib.hid (S2'.out.next b3).b
    clear b3 S2' a0 a1 a2 a3 a4 a5 a6 a7 a8
    go_wp2
    go_ret
    exact ⟨rfl, B3.out⟩
  case pos =>
    refine (SH.out.new c D E L nd cd ne ce nl cl h _ (HM.out.below S1.out.b) hz).mono ?_
    rintro r w2 ⟨g, X, rfl, F2, b2⟩
    have Q2 := Lib.hid (sq_new SH.out F2 b2 S1.out (fun x hx => by rw [List.mem_singleton] at hx; subst hx; exact Nat.le_refl _))
    clear F2 b2 S1 a0 a1 a2 a3 a4 a5 a6 a7 a8
    obtain ⟨a0, a1, a2, a3, a4, a5, a6, a7, a8⟩ := PlanW.cells9 (Q2.out.at 0 rfl)
    go_wp2_with fail
    refine (SH.out.new c D E L nd cd ne ce nl cl h _ (HM.out.below Q2.out.b) hz).mono ?_
    rintro r w3 ⟨k, Y, rfl, F3, b3⟩
    have J0 := Lib.hid (show TmQ SI w g k c h 0 [(w.heap.size, cbx c D E L nd cd ne ce nl cl)] w3 from ⟨X, Y, [], [], 0, 0, 0, 0, 0, 0, ⟨Nat.le_refl _, Nat.le_refl _⟩, rfl, Q2.out.two SH.out F3 b3⟩)
    clear F3 b3 Q2 hz a0 a1 a2 a3 a4 a5 a6 a7 a8
    go_wp2
    go_loopw [36] (fun iv wr => ∃ (i : Nat), i ≤ n ∧ iv = .int .i64 i ∧ Hid (TmQ SI w g k c h i [(w.heap.size, cbx c D E L nd cd ne ce nl cl)] wr)) (fun iv _ => n - (intOf iv).toNat)
    case atStart => exact ⟨0, Nat.zero_le _, rfl, J0⟩
    case round =>
      clear J0
      obtain ⟨i, hi, rfl, HQ⟩ := hrel
      have hnn : n ≤ 9223372036854775807 := by have := HZ.out; omega
      obtain ⟨X, Y, T, U, a, b, N, a', b', N', hN, hTU, Q0⟩ := HQ.out
      have Q1 := Lib.hid Q0
      have HNI := Lib.hid hN
      have HTU := Lib.hid hTU
      clear Q0 HQ hN hTU
      by_cases hlt : i < n
      case neg =>
        obtain rfl : n = i := by omega
        go_wp2
        go_ret
        exact ⟨rfl, Q1.out.b⟩
      have hlt' : (i : Int) < (n : Int) := by omega
      obtain ⟨o, hoi⟩ : ∃ o, ops[i]? = some o := ⟨_, List.getElem?_eq_getElem (by rw [HN.out]; exact hlt)⟩
      obtain ⟨ot, oA, ol, oc, fo⟩ := o
      have HBL := Lib.hid (show ∀ W : World, Below w.heap.size w W → BL W oA ol ∧ ol.length ≤ 9223372036854775807 ∧ ol.length ≤ oc from fun (W : World) (hW : Below w.heap.size w W) => ops_bl' HO.out hoi hW)
      obtain ⟨b9, off, rfl, m0, m1, m2, -, -, -⟩ := (HO.out.below Q1.out.b) i _ hoi
      dsimp only at m0 m1 m2
      have Q2 := Lib.hid (Q1.out.box SH.out (obx ⟨ot, oA, ol, oc, fo⟩))
      obtain ⟨x0, x1, x2⟩ := cells3 (Q2.out.at 0 rfl)
      have HG := Lib.hid (fun h1 => gd_timed (c := c) (h := h) (t := ot) (l := ol) h1 HTU.out)
      have HL1 := Lib.hid (fun h1 => nL_timed (c := c) (h := h) (t := ot) (l := ol) h1 HTU.out)
      have HL2 := Lib.hid (fun h1 => (nL_other (c := c) (h := h) (t := ot) (l := ol) (T := T) h1).trans HTU.out)
      clear hoi Q1
      go_wp2_with fail
      refine (SH.out.judge ot oA ol oc Q2.out.p (by have := HNI.out.1; have := HZ.out; omega) (HBL.out _ Q2.out.b).1 (HBL.out _ Q2.out.b).2.1 (HBL.out _ Q2.out.b).2.2).mono ?_
      rintro r w3 ⟨X3, rfl, F3, T3⟩
      have Q3 := Lib.hid (Q2.out.turnP SH.out F3 T3)
      have HRD := Lib.hid (fun W hW => FrameW.refReadData_any oA oc ol W (HBL.out W hW).1 (HBL.out W hW).2.1 (HBL.out W hW).2.2)
      simp only [rdV_dt] at HRD
      generalize nL c h T ot ol = T1 at *
      generalize hv : gd c h T ot ol = v at *
      have HOK := Lib.hid (fun he => dt_ok (l := ol) he)
      generalize hd : dt ol = d at *
      generalize hee : rdE ol = ee at *
      have HD := Lib.hid hd
      have HE := Lib.hid hee
      clear F3 T3 Q2 x0 x1 x2 m0 m1 m2 hd hee
      obtain ⟨vw, vk⟩ := v
      obtain ⟨dc, dl, dn, dp, ds⟩ := d
      have Q4 := Lib.hid (Q3.out.box SH.out (gbx ⟨vw, vk⟩ ⟨dc, dl, dn, dp, ds⟩ 41))
      have HV := Lib.hid hv
      clear Q3 hv
      obtain ⟨x0, x1, x2⟩ := cells3 (Q4.out.at 1 rfl)
      go_wp2_with fail
      refine (HRD.out _ Q4.out.b).mono ?_
      rintro r w6 ⟨rfl, b6⟩
      have Q7 := Lib.hid ((Q4.out.next SH.out b6).box SH.out (dbx ⟨dc, dl, dn, dp, ds⟩))
      clear Q4 b6 x0 x1 x2 HRD
      go_upto_region 12 with (fail)
      generalize w6.alloc (dbx ⟨dc, dl, dn, dp, ds⟩) = w7 at *
      generalize w6.heap.size = q7 at *
      generalize w3.heap.size = q3 at *
      generalize wr.heap.size = q1 at *
      have ND := neq_g vw dc dl dn dp ds vk
      by_cases he : ee = 0
      case neg =>
        have g1 : (ee == 0) = false := by rw [beq_eq_false_iff_ne]; exact he
        have HX := Lib.hid (HL2.out (Or.inl he))
        clear HG HL1 HL2 HV HOK
        apply wp_one
        case h =>
          refine wp_region_noPanic ?_
          refine wp_region_held_drew (S := fun Z : World => Z.heap[q7]? = some (dbx ⟨dc, dl, dn, dp, ds⟩) ∧ Z.heap[q3]? = some (gbx ⟨vw, vk⟩ ⟨dc, dl, dn, dp, ds⟩ 41) ∧ Z.heap[q1]? = some (obx ⟨ot, oA, ol, oc, fo⟩)) (by kernel_rfl) (⟨Q7.out.at 0 rfl, Q7.out.at 1 rfl, Q7.out.at 2 rfl⟩) (fun hHeld => ?_)
          refine takeR 0 (some 52) ?_ ?_ ?_; rotate_left; (focus (intros; go_simp; (try with_reducible rfl)))
          simp only [aput, lset]
          refine takeR 1 (some 53) ?_ ?_ ?_; rotate_left; (focus (intros; go_simp; (try with_reducible rfl)))
          simp only [aput, lset]
          refine takeR 2 (some 54) ?_ ?_ ?_; rotate_left; (focus (intros; go_simp; (try with_reducible rfl)))
          simp only [aput, lset]
          refine skipR 3 (some 55) ?_
          simp only [aput, lset]
          refine skipR 4 (some 56) ?_
          simp only [aput, lset]
          refine skipR 5 (some 57) ?_
          simp only [aput, lset]
          refine takeR 6 (some 58) ?_ ?_ ?_; rotate_left; (focus (intros; go_simp; (try with_reducible rfl)))
          simp only [aput, lset]
          refine takeR 7 (some 59) ?_ ?_ ?_; rotate_left; (focus (intros; go_simp; (try with_reducible rfl)))
          simp only [aput, lset]
          refine skipR 8 (some 60) ?_
          simp only [aput, lset]
          refine skipR 9 (some 61) ?_
          simp only [aput, lset]
          refine skipR 10 (some 62) ?_
          simp only [aput, lset]
          refine skipR 11 (some 63) ?_
          simp only [aput, lset]
          refine skipR 12 (some 64) ?_
          simp only [aput, lset]
          refine skipR 13 (some 65) ?_
          simp only [aput, lset]
          refine skipR 14 (some 66) ?_
          simp only [aput, lset]
          refine skipR 15 (some 67) ?_
          simp only [aput, lset]
          refine takeR 16 (some 68) ?_ ?_ ?_; rotate_left; (focus (intros; go_simp; (try with_reducible rfl)))
          simp only [aput, lset]
          refine wpAnyH_done (by kernel_rfl) ?_ _
          exact NoPanic.normal ⟨rfl, rfl, rfl⟩
        case hm =>
          have Q9 := Lib.hid ((Q7.out.next SH.out (Below.refl _ _).drew).sub (B' := [(w.heap.size, cbx c D E L nd cd ne ce nl cl)]) (by intro x hx; rw [List.mem_singleton] at hx; subst hx; simp))
          go_wp2
          go_roundw
          case rel => exact ⟨i + 1, by omega, by go_num, Lib.hid ⟨X3, Y, T1, U, _, _, N + 1, _, _, N', ⟨by have := HNI.out; omega, by have := HNI.out; omega⟩, HX.out, Q9.out⟩⟩
          case measure => simp [intOf]; omega
      subst he
      by_cases h1 : dc = 1
      case neg =>
        have g1 : (dc == 1) = false := by rw [beq_eq_false_iff_ne]; exact h1
        have HX := Lib.hid (HL2.out (Or.inr h1))
        clear HG HL1 HL2 HV HOK
        apply wp_one
        case h =>
          refine wp_region_noPanic ?_
          refine wp_region_held_drew (S := fun Z : World => Z.heap[q7]? = some (dbx ⟨dc, dl, dn, dp, ds⟩) ∧ Z.heap[q3]? = some (gbx ⟨vw, vk⟩ ⟨dc, dl, dn, dp, ds⟩ 41) ∧ Z.heap[q1]? = some (obx ⟨ot, oA, ol, oc, fo⟩)) (by kernel_rfl) (⟨Q7.out.at 0 rfl, Q7.out.at 1 rfl, Q7.out.at 2 rfl⟩) (fun hHeld => ?_)
          refine takeR 0 (some 52) ?_ ?_ ?_; rotate_left; (focus (intros; go_simp; (try with_reducible rfl)))
          simp only [aput, lset]
          refine takeR 1 (some 53) ?_ ?_ ?_; rotate_left; (focus (intros; go_simp; (try with_reducible rfl)))
          simp only [aput, lset]
          refine takeR 2 (some 54) ?_ ?_ ?_; rotate_left; (focus (intros; go_simp; (try with_reducible rfl)))
          simp only [aput, lset]
          refine takeR 3 (some 55) ?_ ?_ ?_; rotate_left; (focus (intros; go_simp; (try with_reducible rfl)))
          simp only [aput, lset]
          refine takeR 4 (some 56) ?_ ?_ ?_; rotate_left; (focus (intro w hSw; (try dsimp only at hSw); obtain ⟨z0, z1, z2, z3, z4⟩ := cells5 hSw.1; obtain ⟨y0, y1, y2, y3, y4, y5, y6⟩ := cells7 hSw.2.1; obtain ⟨x0, x1, x2⟩ := cells3 hSw.2.2; go_simp; (try with_reducible rfl)))
          simp only [aput, lset]
          refine takeR 5 (some 57) ?_ ?_ ?_; rotate_left; (focus (intros; go_simp; (try with_reducible rfl)))
          simp only [aput, lset]
          refine takeR 6 (some 58) ?_ ?_ ?_; rotate_left; (focus (intros; go_simp; (try with_reducible rfl)))
          simp only [aput, lset]
          refine takeR 7 (some 59) ?_ ?_ ?_; rotate_left; (focus (intros; go_simp; (try with_reducible rfl)))
          simp only [aput, lset]
          refine skipR 8 (some 60) ?_
          simp only [aput, lset]
          refine skipR 9 (some 61) ?_
          simp only [aput, lset]
          refine skipR 10 (some 62) ?_
          simp only [aput, lset]
          refine skipR 11 (some 63) ?_
          simp only [aput, lset]
          refine skipR 12 (some 64) ?_
          simp only [aput, lset]
          refine skipR 13 (some 65) ?_
          simp only [aput, lset]
          refine skipR 14 (some 66) ?_
          simp only [aput, lset]
          refine skipR 15 (some 67) ?_
          simp only [aput, lset]
          refine takeR 16 (some 68) ?_ ?_ ?_; rotate_left; (focus (intros; go_simp; (try with_reducible rfl)))
          simp only [aput, lset]
          refine wpAnyH_done (by kernel_rfl) ?_ _
          exact NoPanic.normal ⟨rfl, rfl, rfl⟩
        case hm =>
          have Q9 := Lib.hid ((Q7.out.next SH.out (Below.refl _ _).drew).sub (B' := [(w.heap.size, cbx c D E L nd cd ne ce nl cl)]) (by intro x hx; rw [List.mem_singleton] at hx; subst hx; simp))
          go_wp2
          go_roundw
          case rel => exact ⟨i + 1, by omega, by go_num, Lib.hid ⟨X3, Y, T1, U, _, _, N + 1, _, _, N', ⟨by have := HNI.out; omega, by have := HNI.out; omega⟩, HX.out, Q9.out⟩⟩
          case measure => simp [intOf]; omega
      subst h1
      have HX := Lib.hid (HL1.out rfl)
      have HVU := Lib.hid (HG.out rfl).symm
      clear HG HL1 HL2 HV HOK
      apply wp_some (S := fun Z : World => ∃ Y9 a9 b9, S2 SI w X3 g c h T1 (cA a vw) (cB b vw) (N + 1) Y9 k h (nL c h U ot ol) a9 b9 (N' + 1) [(q7, dbx ⟨1, dl, dn, dp, ds⟩), (q3, gbx ⟨vw, vk⟩ ⟨1, dl, dn, dp, ds⟩ 41), (q1, obx ⟨ot, oA, ol, oc, fo⟩), (w.heap.size, cbx c D E L nd cd ne ce nl cl)] Z)
      case h =>
        refine wp_region_noPanic ?_
        refine wp_region_held_drew (S := fun Z : World => Z.heap[q7]? = some (dbx ⟨1, dl, dn, dp, ds⟩) ∧ Z.heap[q3]? = some (gbx ⟨vw, vk⟩ ⟨1, dl, dn, dp, ds⟩ 41) ∧ Z.heap[q1]? = some (obx ⟨ot, oA, ol, oc, fo⟩)) (by kernel_rfl) (⟨Q7.out.at 0 rfl, Q7.out.at 1 rfl, Q7.out.at 2 rfl⟩) (fun hHeld => ?_)
        refine takeR 0 (some 52) ?_ ?_ ?_; rotate_left; (focus (intros; go_simp; (try with_reducible rfl)))
        simp only [aput, lset]
        refine takeR 1 (some 53) ?_ ?_ ?_; rotate_left; (focus (intros; go_simp; (try with_reducible rfl)))
        simp only [aput, lset]
        refine takeR 2 (some 54) ?_ ?_ ?_; rotate_left; (focus (intros; go_simp; (try with_reducible rfl)))
        simp only [aput, lset]
        refine takeR 3 (some 55) ?_ ?_ ?_; rotate_left; (focus (intros; go_simp; (try with_reducible rfl)))
        simp only [aput, lset]
        refine takeR 4 (some 56) ?_ ?_ ?_; rotate_left; (focus (intro w hSw; (try dsimp only at hSw); obtain ⟨z0, z1, z2, z3, z4⟩ := cells5 hSw.1; obtain ⟨y0, y1, y2, y3, y4, y5, y6⟩ := cells7 hSw.2.1; obtain ⟨x0, x1, x2⟩ := cells3 hSw.2.2; go_simp; (try with_reducible rfl)))
        simp only [aput, lset]
        refine takeR 5 (some 57) ?_ ?_ ?_; rotate_left; (focus (intros; go_simp; (try with_reducible rfl)))
        simp only [aput, lset]
        refine takeR 6 (some 58) ?_ ?_ ?_; rotate_left; (focus (intros; go_simp; (try with_reducible rfl)))
        simp only [aput, lset]
        refine takeR 7 (some 59) ?_ ?_ ?_; rotate_left; (focus (intros; go_simp; (try with_reducible rfl)))
        simp only [aput, lset]
        refine takeR 8 (some 60) ?_ ?_ ?_; rotate_left; (focus (intro w hSw; (try dsimp only at hSw); obtain ⟨z0, z1, z2, z3, z4⟩ := cells5 hSw.1; obtain ⟨y0, y1, y2, y3, y4, y5, y6⟩ := cells7 hSw.2.1; obtain ⟨x0, x1, x2⟩ := cells3 hSw.2.2; go_simp; (try with_reducible rfl)))
        simp only [aput, lset]
        refine takeR 9 (some 61) ?_ ?_ ?_; rotate_left; (focus (intros; go_simp; (try with_reducible rfl)))
        simp only [aput, lset]
        refine takeR 10 (some 62) ?_ ?_ ?_; rotate_left; (focus (intros; go_simp; (try with_reducible rfl)))
        simp only [aput, lset]
        refine takeR 11 (some 63) ?_ ?_ ?_; rotate_left; (focus (intro w hSw; (try dsimp only at hSw); obtain ⟨z0, z1, z2, z3, z4⟩ := cells5 hSw.1; obtain ⟨y0, y1, y2, y3, y4, y5, y6⟩ := cells7 hSw.2.1; obtain ⟨x0, x1, x2⟩ := cells3 hSw.2.2; go_simp; (try with_reducible rfl)))
        simp only [aput, lset]
        refine takeR 12 (some 64) ?_ ?_ ?_; rotate_left; (focus (intros; go_simp; (try with_reducible rfl)))
        simp only [aput, lset]
        refine takeR 13 (some 65) ?_ ?_ ?_; rotate_left; (focus (intro w hSw; (try dsimp only at hSw); obtain ⟨z0, z1, z2, z3, z4⟩ := cells5 hSw.1; obtain ⟨y0, y1, y2, y3, y4, y5, y6⟩ := cells7 hSw.2.1; obtain ⟨x0, x1, x2⟩ := cells3 hSw.2.2; go_simp; (try with_reducible rfl)))
        simp only [aput, lset]
        refine wpAnyH_ready (rs := [14]) (by kernel_rfl) (by simp) ?_
        refine AllReadyH.cons (o := ⟨some 66, _, _, _, _, _⟩) rfl (fun K hK => ?_) AllReadyH.nil
        rw [if_pos (by kernel_rfl)]
        go_simp
        have Q8 := Q7.out.next SH.out (Below.refl _ _).drew
        refine (SH.out.judge ot oA ol oc Q8.r (by have := HNI.out.2; have := HZ.out; omega) (HBL.out _ Q8.b).1 (HBL.out _ Q8.b).2.1 (HBL.out _ Q8.b).2.2).mono ?_
        rintro r w9 ⟨Y9, rfl, F9, T9⟩
        have hQ9 := Q8.turnR SH.out F9 T9
        rw [HVU.out, HD.out]
        have hS9 := And.intro (hQ9.at 0 rfl) (And.intro (hQ9.at 1 rfl) (hQ9.at 2 rfl))
        clear F9 T9 Q8
        go_simp
        refine hK.out _ _ (by assumption) (fun hHeld => ?_)
        clear hK K
        refine takeR 15 (some 67) ?_ ?_ ?_; rotate_left; (focus (intros; go_simp; (try with_reducible rfl)))
        simp only [aput, lset]
        refine takeR 16 (some 68) ?_ ?_ ?_; rotate_left; (focus (intros; go_simp; (try with_reducible rfl)))
        simp only [aput, lset]
        refine wpAnyH_done (by kernel_rfl) ?_ _
        exact NoPanic.normal ⟨rfl, rfl, ⟨_, _, _, hQ9⟩⟩
      case hm =>
        rintro w9 ⟨Y9, a9, b9', Q9'⟩
        have Q9 := Lib.hid (Q9'.sub (B' := [(w.heap.size, cbx c D E L nd cd ne ce nl cl)]) (by intro x hx; rw [List.mem_singleton] at hx; subst hx; simp))
        clear Q9'
        go_wp2
        go_roundw
        case rel => exact ⟨i + 1, by omega, by go_num, Lib.hid ⟨X3, Y9, T1, nL c h U ot ol, _, _, N + 1, a9, b9', N' + 1, ⟨by have := HNI.out; omega, by have := HNI.out; omega⟩, HX.out, Q9.out⟩⟩
        case measure => simp [intOf]; omega
end
end Go.Proofs.Ytnlimdlmhfnkiaa.StationW
