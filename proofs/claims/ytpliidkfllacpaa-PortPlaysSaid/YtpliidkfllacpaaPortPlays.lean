/- tocsinlaw16.PortPlays answers true at every input: every answer of every script of a port is as the document says. No condition. -/
import Derived.Test.YtpliidkfllacpaaPortLay
import Derived.Test.YtpliidkfllacpaaPortM
namespace Go.Proofs.Ytpliidkfllacpaa.PortW.PortPlays
open Go.ChangeShapes Go.WideShapes Go.ChangeAt Go.RowKit PortW Shell
abbrev obx (k : Int) (x : Da) : Obj := .cells #[.int .i64 k, .int .i64 x.c, .int .i64 x.l, .int .i64 x.n, .string x.p, .int .i64 x.s] 32 (0, 0)
theorem cells6 {w : World} {j : Nat} {x0 x1 x2 x3 x4 x5 : Value} {t : TypeId} {fr : Nat × Nat} (h : w.heap[j]? = some (.cells #[x0, x1, x2, x3, x4, x5] t fr)) : w.cell? ⟨j, 0, none⟩ = some x0 ∧ w.cell? ⟨j, 1, none⟩ = some x1 ∧ w.cell? ⟨j, 2, none⟩ = some x2 ∧ w.cell? ⟨j, 3, none⟩ = some x3 ∧ w.cell? ⟨j, 4, none⟩ = some x4 ∧ w.cell? ⟨j, 5, none⟩ = some x5 :=
  ⟨cell_of_row w j 0 _ _ _ h, cell_of_row w j 1 _ _ _ h, cell_of_row w j 2 _ _ _ h, cell_of_row w j 3 _ _ _ h, cell_of_row w j 4 _ _ _ h, cell_of_row w j 5 _ _ _ h⟩
section
variable {PI : Nat → (Nat → Prop) → Nat → Nat → List Da → List Da → Nat → World → Prop}
theorem _root_.Go.Proofs.Ytpliidkfllacpaa.PortW.ST.sg {w0 W : World} {X : Nat → Prop} {g m l : Nat} {r e T : List Da} {v : Value} {BB : List (Nat × Obj)} {A : Option Addr} {n c : Nat} (h : ST PI w0 X g m r e l v T BB W) (hv : v = .slice A n c) : SG FD W A T := by
  obtain ⟨A', c', hv', sg, -⟩ := h.o.form
  rw [hv] at hv'
  cases hv'
  exact sg
theorem cells_at {w0 W : World} {X : Nat → Prop} {g m l : Nat} {r e T : List Da} {BB : List (Nat × Obj)} {b off n c i : Nat} {y : Da} (h : ST PI w0 X g m r e l (.slice (some ⟨b, off, none⟩) n c) T BB W) (hy : T[i]? = some y) : W.cell? ⟨b, off + i * 5, none⟩ = some (.int .i64 y.c) ∧ W.cell? ⟨b, off + i * 5 + 1, none⟩ = some (.int .i64 y.l) ∧ W.cell? ⟨b, off + i * 5 + 2, none⟩ = some (.int .i64 y.n) ∧ W.cell? ⟨b, off + i * 5 + 3, none⟩ = some (.string y.p) ∧ W.cell? ⟨b, off + i * 5 + 4, none⟩ = some (.int .i64 y.s) := by
  obtain ⟨b', off', hA, h2⟩ := sg5 (h.sg rfl) hy
  cases hA
  exact h2
set_option maxHeartbeats 64000000 in
set_option maxRecDepth 100000 in
theorem walkS (S : Spec PI) (most : Int) (A : Option Addr) (os : List Op) (n cp : Nat) (w : World) (h : OPS w A os) (hl : os.length = n) (hz : n * 56 ≤ 140737488351232) :
    Calls Try.prog 3 #[.int .i64 most, .slice A n cp] w fun r w' => r = .returned (.bool true) ∧ Below w.heap.size w w' := by
  have SH := Lib.hid S
  have HA := Lib.hid h
  have HL := Lib.hid hl
  have HNB := Lib.hid (show n ≤ 4503599627370496 by omega)
  clear S h hl hz
  by_cases hm : 1 ≤ most ∧ most ≤ 64
  case neg =>
    by_cases h1 : most < 1
    · go_enter Try.func3, Try.ntmps3
      go_wp2_with fail
      refine (fixed_any SH.out _).mono ?_
      rintro v w1 ⟨rfl, b1⟩
      have B1 := Lib.hid b1
      clear b1
      go_wp2_with fail
      refine (SH.out.new_no most _ hm).mono ?_
      rintro v w2 ⟨rfl, b2⟩
      have B2 := Lib.hid (B1.out.trans (b2.mono B1.out.size))
      clear b2 B1 hm
      go_wp2
      go_ret
      exact ⟨rfl, B2.out⟩
    · have h2 : 64 < most := by omega
      go_enter Try.func3, Try.ntmps3
      go_wp2_with fail
      refine (fixed_any SH.out _).mono ?_
      rintro v w1 ⟨rfl, b1⟩
      have B1 := Lib.hid b1
      clear b1
      go_wp2_with fail
      refine (SH.out.new_no most _ hm).mono ?_
      rintro v w2 ⟨rfl, b2⟩
      have B2 := Lib.hid (B1.out.trans (b2.mono B1.out.size))
      clear b2 B1 hm
      go_wp2
      go_ret
      exact ⟨rfl, B2.out⟩
  obtain ⟨m, rfl⟩ : ∃ m : Nat, most = (m : Int) := ⟨most.toNat, by omega⟩
  have m1 : ¬ (m : Int) < 1 := by omega
  have m2 : ¬ (64 : Int) < (m : Int) := by omega
  have HMB := Lib.hid (show 1 ≤ m ∧ m ≤ 64 by omega)
  clear hm
  go_enter Try.func3, Try.ntmps3
  go_wp2_with fail
  refine (fixed_any SH.out _).mono ?_
  rintro v w1 ⟨rfl, b1⟩
  have B1 := Lib.hid b1
  clear b1
  go_wp2_with fail
  refine (SH.out.new_ok m _ HMB.out.1 HMB.out.2).mono ?_
  rintro v w2 ⟨g, X0, rfl, p1, b2⟩
  have P1 := Lib.hid (show ST PI w X0 g m (R []) (E []) 0 (.slice none 0 0) [] [] w2 from ⟨⟨SH.out.lower p1 B1.out.size, B1.out.trans (b2.mono B1.out.size)⟩, OG.nil _ _ _, (fun k hk => by cases hk), (fun b hb => by cases hb)⟩)
  clear p1 b2 B1
  go_wp2
  clear m1 m2
  go_loopw [7, 8, 43] (fun lv sv iv wr => ∃ (k l : Nat) (X : Nat → Prop) (L : List Da), k ≤ n ∧ iv = .int .i64 k ∧ sv = .int .i64 l ∧ l ≤ k ∧ Hid (ST PI w X g m (R L) (E L) l lv L [] wr) ∧ Hid (L.length ≤ m)) (fun _ _ iv _ => n - (intOf iv).toNat)
  case atStart => exact ⟨0, 0, X0, [], Nat.zero_le _, rfl, rfl, Nat.le_refl _, P1, Lib.hid (Nat.zero_le _)⟩
  case round =>
    clear P1
    obtain ⟨k, l, X, L, hk, rfl, rfl, hlk, HS, HLM⟩ := hrel
    by_cases hlt : (k : Int) < (n : Int)
    case neg =>
      go_wp2
      go_ret
      exact ⟨rfl, HS.out.p.b⟩
    obtain ⟨o, ho⟩ : ∃ o, os[k]? = some o := ⟨_, List.getElem?_eq_getElem (by rw [HL.out]; omega)⟩
    obtain ⟨z, off0, rfl, -, hxp, c0, c1, c2, c3, c4, c5⟩ := (HA.out.below HS.out.p.b) k o ho
    obtain ⟨kd, x⟩ := o
    have HXP := Lib.hid (show x.p.size ≤ maxLen from hxp)
    simp only at c0 c1 c2 c3 c4 c5
    obtain ⟨B, c, rfl, sg, -, -, -⟩ := HS.out.o.form
    obtain ⟨q, hq⟩ : ∃ q, L.length = q := ⟨_, rfl⟩
    rw [hq] at HS
    rw [hq]
    have HQ := Lib.hid hq
    have HLQ := Lib.hid (show (R L).length + (E L).length = q by rw [len_re, hq])
    have HLT := Lib.hid hlt
    have HLK := Lib.hid hlk
    obtain ⟨kk, hkk⟩ : ∃ kk, k + 1 = kk := ⟨_, rfl⟩
    have HKK := Lib.hid hkk
    obtain ⟨u1, u2⟩ := wr_of (x := (k : Int) + 1) (z := (kk : Int)) (by omega) (by have := HNB.out; omega)
    have S1 := Lib.hid (HS.out.box SH.out (obx kd x))
    have SG1 := Lib.hid (sg.below (al (Below.refl wr.heap.size wr) (obx kd x)))
    obtain ⟨nI, hnI⟩ : ∃ nI, nxI L = nI := ⟨_, rfl⟩
    have HNI := Lib.hid hnI
    have KN := Lib.hid (fun W hs => hnI ▸ next_any B L q c W hs hq (by have := HLM.out; have := HMB.out; omega))
    clear hq hkk hxp ho hlk sg hnI
    go_wp2_with fail
    clear c0 c1 c2 c3 c4 c5 HS
    generalize wr.heap.size = p at *
    generalize wr.alloc _ = w1 at *
    refine (KN.out _ SG1.out).mono ?_
    rintro v w2 ⟨rfl, b2⟩
    have S2 := Lib.hid (S1.out.next SH.out b2)
    have HSG := Lib.hid (SG1.out.below b2)
    clear b2 S1 SG1
    obtain ⟨a0, a1, a2, a3, a4, a5⟩ := cells6 (S2.out.at 0 rfl)
    by_cases k1 : kd = 1
    · subst k1
      have KR := fun Z => FrameW.refRightData_any x.c x.l x.n x.p x.s Z (by have := HXP.out; unfold maxLen at this; omega)
      by_cases hr : FrameW.rightD x.c x.l x.n (FrameW.bs x.p) x.s
      · by_cases h1 : x.c = 1
        · have KO := Lib.hid (fun Z X (hz : PI w.heap.size X g m (R L) (E L) l Z) => SH.out.offer_arg x hz HXP.out (fun ok => ok.2 h1))
          rw [decide_eq_true hr] at KR
          have KR2 := Lib.hid KR
          have q1 : (x.c == 1) = true := by rw [beq_iff_eq]; exact h1
          clear hr KR h1
          go_wp2_with fail
          refine (KR2.out _).mono ?_
          rintro v w3 ⟨rfl, b3⟩
          have S3 := Lib.hid (S2.out.next SH.out b3)
          clear b3 S2
          obtain ⟨a0, a1, a2, a3, a4, a5⟩ := cells6 (S3.out.at 0 rfl)
          go_wp2_with fail
          refine (KO.out _ _ S3.out.p.p).mono ?_
          rintro v w4 ⟨rfl, X4, p4, t4⟩
          have S4 := Lib.hid (S3.out.turn SH.out p4 t4)
          clear p4 t4 S3 a0 a1 a2 a3 a4 a5
          go_wp2_with fail
          refine (SH.out.len S4.out.p.p).mono ?_
          rintro v t1 ⟨hv, Y1, y1, z1⟩
          obtain rfl : v = .returned (.int .i64 ((q : Nat) : Int)) := by rw [hv, HLQ.out]
          have U1 := Lib.hid (S4.out.turn SH.out y1 z1)
          clear hv y1 z1 S4
          go_wp2_with fail
          refine (SH.out.lost U1.out.p.p).mono ?_
          rintro v t2 ⟨rfl, Y2, y2, z2⟩
          have U2 := Lib.hid ((U1.out.turn SH.out y2 z2).sub (B' := []) (fun b hb => by cases hb))
          clear y2 z2 U1
          go_wp2
          go_roundw
          case rel => exact ⟨kk, l, Y2, L, by have := HKK.out; have := HLT.out; omega, by go_num, rfl, by have := HLK.out; have := HKK.out; omega, U2, HLM⟩
          case measure => have h1 := HKK.out; have h2 := HLT.out; simp [intOf]; omega
        · by_cases hf : L.length = m
          · have KO := Lib.hid (fun Z X (hz : PI w.heap.size X g m (R L) (E L) l Z) => SH.out.offer_full x hz HXP.out ⟨hr, h1⟩ (by rw [len_re]; exact hf) (by have := HLK.out; have := HLT.out; have := HNB.out; omega))
            rw [decide_eq_true hr] at KR
            have KR2 := Lib.hid KR
            have q1 : (x.c == 1) = false := by rw [beq_eq_false_iff_ne]; exact h1
            obtain rfl : q = m := by rw [← HQ.out]; exact hf
            obtain ⟨l2, hl2⟩ : ∃ l2 : Int, (l : Int) + 1 = l2 := ⟨_, rfl⟩
            have e1 : IntKind.i64.wrap ((l : Int) + 1) = l2 := by have := HLK.out; have := HLT.out; have := HNB.out; rw [IntKind.wrap_i64]; omega
            have e2 : wrap64 ((l : Int) + 1) = l2 := by have := HLK.out; have := HLT.out; have := HNB.out; unfold wrap64; omega
            have HL2 := Lib.hid (show ((l + 1 : Nat) : Int) = l2 by omega)
            clear hr KR h1 hf hl2
            go_wp2_with fail
            refine (KR2.out _).mono ?_
            rintro v w3 ⟨rfl, b3⟩
            have S3 := Lib.hid (S2.out.next SH.out b3)
            clear b3 S2
            obtain ⟨a0, a1, a2, a3, a4, a5⟩ := cells6 (S3.out.at 0 rfl)
            go_wp2_with fail
            refine (KO.out _ _ S3.out.p.p).mono ?_
            rintro v w4 ⟨rfl, X4, p4, t4⟩
            have S4 := Lib.hid (S3.out.turn SH.out p4 t4)
            clear p4 t4 S3 a0 a1 a2 a3 a4 a5
            have KLO := Lib.hid (fun Z X (hz : PI w.heap.size X g q (R L) (E L) (l + 1) Z) => HL2.out ▸ SH.out.lost hz)
            go_wp2_with fail
            refine (SH.out.len S4.out.p.p).mono ?_
            rintro v t1 ⟨hv, Y1, y1, z1⟩
            obtain rfl : v = .returned (.int .i64 ((q : Nat) : Int)) := by rw [hv, HLQ.out]
            have U1 := Lib.hid (S4.out.turn SH.out y1 z1)
            clear hv y1 z1 S4
            go_wp2_with fail
            refine (KLO.out _ _ U1.out.p.p).mono ?_
            rintro v t2 ⟨rfl, Y2, y2, z2⟩
            have U2 := Lib.hid ((U1.out.turn SH.out y2 z2).sub (B' := []) (fun b hb => by cases hb))
            clear y2 z2 U1
            go_wp2
            go_roundw
            case rel => exact ⟨kk, l + 1, Y2, L, by have := HKK.out; have := HLT.out; omega, by go_num, congrArg (Value.int .i64) HL2.out.symm, by have := HLK.out; have := HKK.out; omega, U2, HLM⟩
            case measure => have h1 := HKK.out; have h2 := HLT.out; simp [intOf]; omega
          · have KO := Lib.hid (fun Z X (hz : PI w.heap.size X g m (R L) (E L) l Z) => SH.out.offer_ok x hz HXP.out ⟨hr, h1⟩ (by rw [len_re]; have := HLM.out; omega))
            rw [← R_snoc, ← E_snoc] at KO
            rw [decide_eq_true hr] at KR
            have KR2 := Lib.hid KR
            have q1 : (x.c == 1) = false := by rw [beq_eq_false_iff_ne]; exact h1
            have q2 : ((q : Int) == (m : Int)) = false := by rw [beq_eq_false_iff_ne]; have := HQ.out; omega
            have HLM2 := Lib.hid (show (L ++ [x]).length ≤ m by rw [List.length_append]; have := HLM.out; simp; omega)
            have HLN := Lib.hid (show (L ++ [x]).length = q + 1 by rw [List.length_append, HQ.out]; rfl)
            have HLQ2 := Lib.hid (show (R (L ++ [x])).length + (E (L ++ [x])).length = q + 1 by rw [len_re, HLN.out])
            clear hr KR h1 hf
            go_wp2_with fail
            refine (KR2.out _).mono ?_
            rintro v w3 ⟨rfl, b3⟩
            have S3 := Lib.hid (S2.out.next SH.out b3)
            clear b3 S2
            obtain ⟨a0, a1, a2, a3, a4, a5⟩ := cells6 (S3.out.at 0 rfl)
            go_wp2_with (at_builtin; refine wpList_append_one oneD _ rfl _ _ rfl w.heap.size _ L rfl (S3.out.o.alloc _) x _ rfl (heap_at rfl _) ?c1 (by decide) ?c2 ?_)
            case c1 => have := HLM.out; have := HMB.out; omega
            case c2 => rw [World.size_alloc]; have := S3.out.p.b.size; omega
            intro v5 w5 o5 s5
            have S5 := Lib.hid (S3.out.grow SH.out o5 ((Step.alloc _ _ _).trans s5))
            obtain ⟨B5, c5, hv5, -⟩ := o5.form
            rw [HLN.out] at hv5
            subst hv5
            clear o5 s5 S3 a0 a1 a2 a3 a4 a5
            obtain ⟨a0, a1, a2, a3, a4, a5⟩ := cells6 (S5.out.at 0 rfl)
            go_wp2_with fail
            refine (KO.out _ _ S5.out.p.p).mono ?_
            rintro v w4 ⟨rfl, X4, p4, t4⟩
            have S4 := Lib.hid (S5.out.turn SH.out p4 t4)
            clear p4 t4 S5 a0 a1 a2 a3 a4 a5
            go_wp2_with fail
            refine (SH.out.len S4.out.p.p).mono ?_
            rintro v t1 ⟨hv, Y1, y1, z1⟩
            obtain rfl : v = .returned (.int .i64 (((q + 1) : Nat) : Int)) := by rw [hv, HLQ2.out]
            have U1 := Lib.hid (S4.out.turn SH.out y1 z1)
            clear hv y1 z1 S4
            go_wp2_with fail
            refine (SH.out.lost U1.out.p.p).mono ?_
            rintro v t2 ⟨rfl, Y2, y2, z2⟩
            have U2 := Lib.hid ((U1.out.turn SH.out y2 z2).sub (B' := []) (fun b hb => by cases hb))
            clear y2 z2 U1
            go_wp2
            go_roundw
            case rel => exact ⟨kk, l, Y2, (L ++ [x]), by have := HKK.out; have := HLT.out; omega, by go_num, rfl, by have := HLK.out; have := HKK.out; omega, U2, HLM2⟩
            case measure => have h1 := HKK.out; have h2 := HLT.out; simp [intOf]; omega
      · have KO := Lib.hid (fun Z X (hz : PI w.heap.size X g m (R L) (E L) l Z) => SH.out.offer_arg x hz HXP.out (fun ok => hr ok.1))
        rw [decide_eq_false hr] at KR
        have KR2 := Lib.hid KR
        clear hr KR
        go_wp2_with fail
        refine (KR2.out _).mono ?_
        rintro v w3 ⟨rfl, b3⟩
        have S3 := Lib.hid (S2.out.next SH.out b3)
        clear b3 S2
        obtain ⟨a0, a1, a2, a3, a4, a5⟩ := cells6 (S3.out.at 0 rfl)
        go_wp2_with fail
        refine (KO.out _ _ S3.out.p.p).mono ?_
        rintro v w4 ⟨rfl, X4, p4, t4⟩
        have S4 := Lib.hid (S3.out.turn SH.out p4 t4)
        clear p4 t4 S3 a0 a1 a2 a3 a4 a5
        go_wp2_with fail
        refine (SH.out.len S4.out.p.p).mono ?_
        rintro v t1 ⟨hv, Y1, y1, z1⟩
        obtain rfl : v = .returned (.int .i64 ((q : Nat) : Int)) := by rw [hv, HLQ.out]
        have U1 := Lib.hid (S4.out.turn SH.out y1 z1)
        clear hv y1 z1 S4
        go_wp2_with fail
        refine (SH.out.lost U1.out.p.p).mono ?_
        rintro v t2 ⟨rfl, Y2, y2, z2⟩
        have U2 := Lib.hid ((U1.out.turn SH.out y2 z2).sub (B' := []) (fun b hb => by cases hb))
        clear y2 z2 U1
        go_wp2
        go_roundw
        case rel => exact ⟨kk, l, Y2, L, by have := HKK.out; have := HLT.out; omega, by go_num, rfl, by have := HLK.out; have := HKK.out; omega, U2, HLM⟩
        case measure => have h1 := HKK.out; have h2 := HLT.out; simp [intOf]; omega
    by_cases k2 : kd = 2
    · subst k2
      clear k1
      rcases hre : R L ++ E L with _ | ⟨y, t⟩
      · obtain rfl := re_nil hre
        have NV : nxV (R []) (E []) = .tuple #[dv zD, .bool false] := rfl
        have KP := Lib.hid (fun Z X (hz : PI w.heap.size X g m (R []) (E []) l Z) => SH.out.peek hz)
        rw [NV] at KP
        obtain rfl : nI = -1 := by rw [← HNI.out]; rfl
        have NQ : ∀ Z : World, (binOp .neq 30 (dv zD) (dv zD)).run Try.prog Z = .ok (.bool false) Z := fun Z => by
          have := neq_any zD zD Z
          rwa [deq_iff.2 rfl] at this
        clear hre NV
        go_wp2_with fail
        refine (KP.out _ _ S2.out.p.p).mono ?_
        rintro v w3 ⟨rfl, X3, p3, t3⟩
        have S3 := Lib.hid ((S2.out.turn SH.out p3 t3).box SH.out (dbx zD))
        have P2B := Lib.hid (show w.heap.size ≤ w3.heap.size from (S2.out.turn SH.out p3 t3).p.b.size)
        have PPN := Lib.hid (show p ≠ w3.heap.size by have := lt_of_heap ((S2.out.turn SH.out p3 t3).at 0 rfl); omega)
        clear p3 t3 S2 KP a0 a1 a2 a3 a4 a5
        obtain ⟨d0, d1, d2, d3, d4⟩ := cells5 (S3.out.at 0 rfl)
        obtain ⟨a0, a1, a2, a3, a4, a5⟩ := cells6 (S3.out.at 1 rfl)
        go_wp2_with fail
        generalize w3.heap.size = p2 at *
        generalize w3.alloc _ = w4 at *
        clear d0 d1 d2 d3 d4 a0 a1 a2 a3 a4 a5
        refine wp_region_held_drew (S := fun W : World => ST PI w X3 g m (R []) (E []) l (.slice B q c) [] [(p2, dbx zD), (p, obx 2 x)] W) (by kernel_rfl) (S3.out.next SH.out (Below.refl _ _).drew) (fun hHeld => ?_)
        refine wpAnyH_take (i := 0) (oi := ⟨some 98, _, _, _, _, _⟩) (v := ?_) rfl (by kernel_rfl) (by kernel_rfl) (by kernel_rfl) (fun _ _ _ h => h) (Or.inl ⟨by kernel_rfl, ?_⟩) (by assumption) ?_; rotate_left; (focus (intro w hSw; (try dsimp only at hSw); go_simp; (try with_reducible rfl)))
        simp only [Act.put, List.setIfInBounds_toArray, List.set_cons_zero, List.set_cons_succ]
        refine wpAnyH_take (i := 1) (oi := ⟨some 99, _, _, _, _, _⟩) (v := ?_) rfl (by kernel_rfl) (by kernel_rfl) (by kernel_rfl) (fun _ _ _ h => h) (Or.inl ⟨by kernel_rfl, ?_⟩) (by assumption) ?_; rotate_left; (focus (intro w hSw; (try dsimp only at hSw); go_simp; (try with_reducible rfl)))
        simp only [Act.put, List.setIfInBounds_toArray, List.set_cons_zero, List.set_cons_succ]
        refine wpAnyH_take (i := 2) (oi := ⟨some 100, _, _, _, _, _⟩) (v := ?_) rfl (by kernel_rfl) (by kernel_rfl) (by kernel_rfl) (fun _ _ _ h => h) (Or.inl ⟨by kernel_rfl, ?_⟩) (by assumption) ?_; rotate_left; (focus (intro w hSw; (try dsimp only at hSw); go_simp; (try with_reducible rfl)))
        simp only [Act.put, List.setIfInBounds_toArray, List.set_cons_zero, List.set_cons_succ]
        refine wpAnyH_take (i := 3) (oi := ⟨some 101, _, _, _, _, _⟩) (v := ?_) rfl (by kernel_rfl) (by kernel_rfl) (by kernel_rfl) (fun _ _ _ h => h) (Or.inl ⟨by kernel_rfl, ?_⟩) (by assumption) ?_; rotate_left; (focus (intro w hSw; (try dsimp only at hSw); go_simp; (try with_reducible rfl)))
        simp only [Act.put, List.setIfInBounds_toArray, List.set_cons_zero, List.set_cons_succ]
        refine wpAnyH_take (i := 4) (oi := ⟨some 102, _, _, _, _, _⟩) (v := ?_) rfl (by kernel_rfl) (by kernel_rfl) (by kernel_rfl) (fun _ _ _ h => h) (Or.inl ⟨by kernel_rfl, ?_⟩) (by assumption) ?_; rotate_left; (focus (intro w hSw; (try dsimp only at hSw); go_simp; (try with_reducible rfl)))
        simp only [Act.put, List.setIfInBounds_toArray, List.set_cons_zero, List.set_cons_succ]
        refine wpAnyH_take (i := 5) (oi := ⟨some 103, _, _, _, _, _⟩) (v := ?_) rfl (by kernel_rfl) (by kernel_rfl) (by kernel_rfl) (fun _ _ _ h => h) (Or.inl ⟨by kernel_rfl, ?_⟩) (by assumption) ?_; rotate_left; (focus (intro w hSw; (try dsimp only at hSw); go_simp; (try with_reducible rfl)))
        simp only [Act.put, List.setIfInBounds_toArray, List.set_cons_zero, List.set_cons_succ]
        refine wpAnyH_take (i := 6) (oi := ⟨some 104, _, _, _, _, _⟩) (v := ?_) rfl (by kernel_rfl) (by kernel_rfl) (by kernel_rfl) (fun _ _ _ h => h) (Or.inl ⟨by kernel_rfl, ?_⟩) (by assumption) ?_; rotate_left; (focus (intro w hSw; (try dsimp only at hSw); go_simp; (try with_reducible rfl)))
        simp only [Act.put, List.setIfInBounds_toArray, List.set_cons_zero, List.set_cons_succ]
        refine wpAnyH_take (i := 7) (oi := ⟨some 105, _, _, _, _, _⟩) (v := undef) rfl (by kernel_rfl) (by kernel_rfl) (by kernel_rfl) (fun _ _ _ h => h) (Or.inr ⟨by kernel_rfl, rfl⟩) (by assumption) ?_
        simp only [Act.put, List.setIfInBounds_toArray, List.set_cons_zero, List.set_cons_succ]
        refine wpAnyH_take (i := 8) (oi := ⟨some 106, _, _, _, _, _⟩) (v := undef) rfl (by kernel_rfl) (by kernel_rfl) (by kernel_rfl) (fun _ _ _ h => h) (Or.inr ⟨by kernel_rfl, rfl⟩) (by assumption) ?_
        simp only [Act.put, List.setIfInBounds_toArray, List.set_cons_zero, List.set_cons_succ]
        refine wpAnyH_take (i := 9) (oi := ⟨some 107, _, _, _, _, _⟩) (v := undef) rfl (by kernel_rfl) (by kernel_rfl) (by kernel_rfl) (fun _ _ _ h => h) (Or.inr ⟨by kernel_rfl, rfl⟩) (by assumption) ?_
        simp only [Act.put, List.setIfInBounds_toArray, List.set_cons_zero, List.set_cons_succ]
        refine wpAnyH_take (i := 10) (oi := ⟨some 108, _, _, _, _, _⟩) (v := undef) rfl (by kernel_rfl) (by kernel_rfl) (by kernel_rfl) (fun _ _ _ h => h) (Or.inr ⟨by kernel_rfl, rfl⟩) (by assumption) ?_
        simp only [Act.put, List.setIfInBounds_toArray, List.set_cons_zero, List.set_cons_succ]
        refine wpAnyH_take (i := 11) (oi := ⟨some 109, _, _, _, _, _⟩) (v := undef) rfl (by kernel_rfl) (by kernel_rfl) (by kernel_rfl) (fun _ _ _ h => h) (Or.inr ⟨by kernel_rfl, rfl⟩) (by assumption) ?_
        simp only [Act.put, List.setIfInBounds_toArray, List.set_cons_zero, List.set_cons_succ]
        refine wpAnyH_take (i := 12) (oi := ⟨some 110, _, _, _, _, _⟩) (v := undef) rfl (by kernel_rfl) (by kernel_rfl) (by kernel_rfl) (fun _ _ _ h => h) (Or.inr ⟨by kernel_rfl, rfl⟩) (by assumption) ?_
        simp only [Act.put, List.setIfInBounds_toArray, List.set_cons_zero, List.set_cons_succ]
        refine wpAnyH_take (i := 13) (oi := ⟨some 111, _, _, _, _, _⟩) (v := ?_) rfl (by kernel_rfl) (by kernel_rfl) (by kernel_rfl) (fun _ _ _ h => h) (Or.inl ⟨by kernel_rfl, ?_⟩) (by assumption) ?_; rotate_left; (focus (intro w hSw; (try dsimp only at hSw); go_simp; (try with_reducible rfl)))
        simp only [Act.put, List.setIfInBounds_toArray, List.set_cons_zero, List.set_cons_succ]
        refine wpAnyH_take (i := 14) (oi := ⟨some 112, _, _, _, _, _⟩) (v := ?_) rfl (by kernel_rfl) (by kernel_rfl) (by kernel_rfl) (fun _ _ _ h => h) (Or.inl ⟨by kernel_rfl, ?_⟩) (by assumption) ?_; rotate_left; (focus (intro w hSw; (try dsimp only at hSw); go_simp; (try with_reducible rfl)))
        simp only [Act.put, List.setIfInBounds_toArray, List.set_cons_zero, List.set_cons_succ]
        refine wpAnyH_take (i := 15) (oi := ⟨some 113, _, _, _, _, _⟩) (v := ?_) rfl (by kernel_rfl) (by kernel_rfl) (by kernel_rfl) (fun _ _ _ h => h) (Or.inl ⟨by kernel_rfl, ?_⟩) (by assumption) ?_; rotate_left; (focus (intro w hSw; (try dsimp only at hSw); go_simp; (try with_reducible rfl)))
        simp only [Act.put, List.setIfInBounds_toArray, List.set_cons_zero, List.set_cons_succ]
        refine wpAnyH_take (i := 16) (oi := ⟨some 114, _, _, _, _, _⟩) (v := ?_) rfl (by kernel_rfl) (by kernel_rfl) (by kernel_rfl) (fun _ _ _ h => h) (Or.inl ⟨by kernel_rfl, ?_⟩) (by assumption) ?_; rotate_left; (focus (intro w hSw; (try dsimp only at hSw); go_simp; (try with_reducible rfl)))
        simp only [Act.put, List.setIfInBounds_toArray, List.set_cons_zero, List.set_cons_succ]
        refine wpAnyH_take (i := 17) (oi := ⟨some 115, _, _, _, _, _⟩) (v := ?_) rfl (by kernel_rfl) (by kernel_rfl) (by kernel_rfl) (fun _ _ _ h => h) (Or.inl ⟨by kernel_rfl, ?_⟩) (by assumption) ?_; rotate_left; (focus (intro w hSw; (try dsimp only at hSw); go_simp; (try with_reducible rfl)))
        simp only [Act.put, List.setIfInBounds_toArray, List.set_cons_zero, List.set_cons_succ]
        refine wpAnyH_take (i := 18) (oi := ⟨some 116, _, _, _, _, _⟩) (v := ?_) rfl (by kernel_rfl) (by kernel_rfl) (by kernel_rfl) (fun _ _ _ h => h) (Or.inl ⟨by kernel_rfl, ?_⟩) (by assumption) ?_; rotate_left; (focus (intro w hSw; (try dsimp only at hSw); go_simp; (try with_reducible rfl)))
        simp only [Act.put, List.setIfInBounds_toArray, List.set_cons_zero, List.set_cons_succ]
        refine wpAnyH_take (i := 19) (oi := ⟨some 117, _, _, _, _, _⟩) (v := ?_) rfl (by kernel_rfl) (by kernel_rfl) (by kernel_rfl) (fun _ _ _ h => h) (Or.inl ⟨by kernel_rfl, ?_⟩) (by assumption) ?_; rotate_left; (focus (intro w hSw; (try dsimp only at hSw); obtain ⟨y0, y1, y2, y3, y4⟩ := cells5 (ST.at hSw 0 rfl); have g0 : zD.c = 0 := rfl; have g1 : zD.l = 0 := rfl; have g2 : zD.n = 0 := rfl; have g3 : zD.p.toList = [] := (by decide +kernel); have g4 : zD.s = 0 := rfl; go_simp; (try with_reducible rfl)))
        simp only [Act.put, List.setIfInBounds_toArray, List.set_cons_zero, List.set_cons_succ]
        refine wpAnyH_take (i := 20) (oi := ⟨some 118, _, _, _, _, _⟩) (v := ?_) rfl (by kernel_rfl) (by kernel_rfl) (by kernel_rfl) (fun _ _ _ h => h) (Or.inl ⟨by kernel_rfl, ?_⟩) (by assumption) ?_; rotate_left; (focus (intro w hSw; (try dsimp only at hSw); go_simp; (try with_reducible rfl)))
        simp only [Act.put, List.setIfInBounds_toArray, List.set_cons_zero, List.set_cons_succ]
        refine wpAnyH_take (i := 21) (oi := ⟨some 119, _, _, _, _, _⟩) (v := ?_) rfl (by kernel_rfl) (by kernel_rfl) (by kernel_rfl) (fun _ _ _ h => h) (Or.inl ⟨by kernel_rfl, ?_⟩) (by assumption) ?_; rotate_left; (focus (intro w hSw; (try dsimp only at hSw); obtain ⟨y0, y1, y2, y3, y4⟩ := cells5 (ST.at hSw 0 rfl); have g0 : zD.c = 0 := rfl; have g1 : zD.l = 0 := rfl; have g2 : zD.n = 0 := rfl; have g3 : zD.p.toList = [] := (by decide +kernel); have g4 : zD.s = 0 := rfl; go_simp; (try with_reducible rfl)))
        simp only [Act.put, List.setIfInBounds_toArray, List.set_cons_zero, List.set_cons_succ]
        refine wpAnyH_take (i := 22) (oi := ⟨some 120, _, _, _, _, _⟩) (v := ?_) rfl (by kernel_rfl) (by kernel_rfl) (by kernel_rfl) (fun _ _ _ h => h) (Or.inl ⟨by kernel_rfl, ?_⟩) (by assumption) ?_; rotate_left; (focus (intro w hSw; (try dsimp only at hSw); go_simp; (try with_reducible rfl)))
        simp only [Act.put, List.setIfInBounds_toArray, List.set_cons_zero, List.set_cons_succ]
        refine wpAnyH_take (i := 23) (oi := ⟨some 121, _, _, _, _, _⟩) (v := ?_) rfl (by kernel_rfl) (by kernel_rfl) (by kernel_rfl) (fun _ _ _ h => h) (Or.inl ⟨by kernel_rfl, ?_⟩) (by assumption) ?_; rotate_left; (focus (intro w hSw; (try dsimp only at hSw); go_simp; (try with_reducible rfl)))
        simp only [Act.put, List.setIfInBounds_toArray, List.set_cons_zero, List.set_cons_succ]
        refine wpAnyH_done (by kernel_rfl) ?_ _
        have S7 := Lib.hid hHeld
        clear S3 hHeld
        obtain ⟨a0, a1, a2, a3, a4, a5⟩ := cells6 (S7.out.at 1 rfl)
        go_wp2_with fail
        refine (SH.out.len S7.out.p.p).mono ?_
        rintro v t1 ⟨hv, Y1, y1, z1⟩
        obtain rfl : v = .returned (.int .i64 ((q : Nat) : Int)) := by rw [hv, HLQ.out]
        have U1 := Lib.hid (S7.out.turn SH.out y1 z1)
        clear hv y1 z1 S7
        go_wp2_with fail
        refine (SH.out.lost U1.out.p.p).mono ?_
        rintro v t2 ⟨rfl, Y2, y2, z2⟩
        have U2 := Lib.hid ((U1.out.turn SH.out y2 z2).sub (B' := []) (fun b hb => by cases hb))
        clear y2 z2 U1
        go_wp2
        go_roundw
        case rel => exact ⟨kk, l, Y2, [], by have := HKK.out; have := HLT.out; omega, by go_num, rfl, by have := HLK.out; have := HKK.out; omega, U2, HLM⟩
        case measure => have h1 := HKK.out; have h2 := HLT.out; simp [intOf]; omega
      · obtain ⟨i, hi, hx, hR, hE, hil⟩ := nxt_re hre
        have NV : nxV (R L) (E L) = .tuple #[dv y, .bool true] := by unfold nxV; rw [hre]
        have KP := Lib.hid (fun Z X (hz : PI w.heap.size X g m (R L) (E L) l Z) => SH.out.peek hz)
        rw [NV] at KP
        have HXI := Lib.hid hx
        obtain rfl : nI = (i : Int) := by rw [← HNI.out]; exact nxI_of hi
        have i1 : (0 : Int) ≤ (i : Int) := by omega
        have i2 : (i : Int) < (q : Int) := by have := HQ.out; omega
        have i3 : i < q := by have := HQ.out; omega
        obtain ⟨b, off, rfl, -⟩ := sg5 HSG.out hx
        have NQ : ∀ Z : World, (binOp .neq 30 (dv y) (dv y)).run Try.prog Z = .ok (.bool false) Z := fun Z => by
          have := neq_any y y Z
          rwa [deq_iff.2 rfl] at this
        clear hi hx hR hE hil hre NV HSG
        go_wp2_with fail
        refine (KP.out _ _ S2.out.p.p).mono ?_
        rintro v w3 ⟨rfl, X3, p3, t3⟩
        have S3 := Lib.hid ((S2.out.turn SH.out p3 t3).box SH.out (dbx y))
        have P2B := Lib.hid (show w.heap.size ≤ w3.heap.size from (S2.out.turn SH.out p3 t3).p.b.size)
        have PPN := Lib.hid (show p ≠ w3.heap.size by have := lt_of_heap ((S2.out.turn SH.out p3 t3).at 0 rfl); omega)
        clear p3 t3 S2 KP a0 a1 a2 a3 a4 a5
        obtain ⟨d0, d1, d2, d3, d4⟩ := cells5 (S3.out.at 0 rfl)
        obtain ⟨a0, a1, a2, a3, a4, a5⟩ := cells6 (S3.out.at 1 rfl)
        go_wp2_with fail
        generalize w3.heap.size = p2 at *
        generalize w3.alloc _ = w4 at *
        clear d0 d1 d2 d3 d4 a0 a1 a2 a3 a4 a5
        refine wp_region_held_drew (S := fun W : World => ST PI w X3 g m (R L) (E L) l (.slice (some ⟨b, off, none⟩) q c) L [(p2, dbx y), (p, obx 2 x)] W) (by kernel_rfl) (S3.out.next SH.out (Below.refl _ _).drew) (fun hHeld => ?_)
        refine wpAnyH_take (i := 0) (oi := ⟨some 98, _, _, _, _, _⟩) (v := ?_) rfl (by kernel_rfl) (by kernel_rfl) (by kernel_rfl) (fun _ _ _ h => h) (Or.inl ⟨by kernel_rfl, ?_⟩) (by assumption) ?_; rotate_left; (focus (intro w hSw; (try dsimp only at hSw); go_simp; (try with_reducible rfl)))
        simp only [Act.put, List.setIfInBounds_toArray, List.set_cons_zero, List.set_cons_succ]
        refine wpAnyH_take (i := 1) (oi := ⟨some 99, _, _, _, _, _⟩) (v := ?_) rfl (by kernel_rfl) (by kernel_rfl) (by kernel_rfl) (fun _ _ _ h => h) (Or.inl ⟨by kernel_rfl, ?_⟩) (by assumption) ?_; rotate_left; (focus (intro w hSw; (try dsimp only at hSw); go_simp; (try with_reducible rfl)))
        simp only [Act.put, List.setIfInBounds_toArray, List.set_cons_zero, List.set_cons_succ]
        refine wpAnyH_take (i := 2) (oi := ⟨some 100, _, _, _, _, _⟩) (v := ?_) rfl (by kernel_rfl) (by kernel_rfl) (by kernel_rfl) (fun _ _ _ h => h) (Or.inl ⟨by kernel_rfl, ?_⟩) (by assumption) ?_; rotate_left; (focus (intro w hSw; (try dsimp only at hSw); go_simp; (try with_reducible rfl)))
        simp only [Act.put, List.setIfInBounds_toArray, List.set_cons_zero, List.set_cons_succ]
        refine wpAnyH_take (i := 3) (oi := ⟨some 101, _, _, _, _, _⟩) (v := ?_) rfl (by kernel_rfl) (by kernel_rfl) (by kernel_rfl) (fun _ _ _ h => h) (Or.inl ⟨by kernel_rfl, ?_⟩) (by assumption) ?_; rotate_left; (focus (intro w hSw; (try dsimp only at hSw); go_simp; (try with_reducible rfl)))
        simp only [Act.put, List.setIfInBounds_toArray, List.set_cons_zero, List.set_cons_succ]
        refine wpAnyH_take (i := 4) (oi := ⟨some 102, _, _, _, _, _⟩) (v := ?_) rfl (by kernel_rfl) (by kernel_rfl) (by kernel_rfl) (fun _ _ _ h => h) (Or.inl ⟨by kernel_rfl, ?_⟩) (by assumption) ?_; rotate_left; (focus (intro w hSw; (try dsimp only at hSw); go_simp; (try with_reducible rfl)))
        simp only [Act.put, List.setIfInBounds_toArray, List.set_cons_zero, List.set_cons_succ]
        refine wpAnyH_take (i := 5) (oi := ⟨some 103, _, _, _, _, _⟩) (v := ?_) rfl (by kernel_rfl) (by kernel_rfl) (by kernel_rfl) (fun _ _ _ h => h) (Or.inl ⟨by kernel_rfl, ?_⟩) (by assumption) ?_; rotate_left; (focus (intro w hSw; (try dsimp only at hSw); go_simp; (try with_reducible rfl)))
        simp only [Act.put, List.setIfInBounds_toArray, List.set_cons_zero, List.set_cons_succ]
        refine wpAnyH_take (i := 6) (oi := ⟨some 104, _, _, _, _, _⟩) (v := ?_) rfl (by kernel_rfl) (by kernel_rfl) (by kernel_rfl) (fun _ _ _ h => h) (Or.inl ⟨by kernel_rfl, ?_⟩) (by assumption) ?_; rotate_left; (focus (intro w hSw; (try dsimp only at hSw); go_simp; (try with_reducible rfl)))
        simp only [Act.put, List.setIfInBounds_toArray, List.set_cons_zero, List.set_cons_succ]
        refine wpAnyH_take (i := 7) (oi := ⟨some 105, _, _, _, _, _⟩) (v := ?_) rfl (by kernel_rfl) (by kernel_rfl) (by kernel_rfl) (fun _ _ _ h => h) (Or.inl ⟨by kernel_rfl, ?_⟩) (by assumption) ?_; rotate_left; (focus (intro w hSw; (try dsimp only at hSw); obtain ⟨y0, y1, y2, y3, y4⟩ := cells5 (ST.at hSw 0 rfl); obtain ⟨z0, z1, z2, z3, z4⟩ := cells_at hSw HXI.out; go_simp; (try with_reducible rfl)))
        simp only [Act.put, List.setIfInBounds_toArray, List.set_cons_zero, List.set_cons_succ]
        refine wpAnyH_take (i := 8) (oi := ⟨some 106, _, _, _, _, _⟩) (v := ?_) rfl (by kernel_rfl) (by kernel_rfl) (by kernel_rfl) (fun _ _ _ h => h) (Or.inl ⟨by kernel_rfl, ?_⟩) (by assumption) ?_; rotate_left; (focus (intro w hSw; (try dsimp only at hSw); go_simp; (try with_reducible rfl)))
        simp only [Act.put, List.setIfInBounds_toArray, List.set_cons_zero, List.set_cons_succ]
        refine wpAnyH_take (i := 9) (oi := ⟨some 107, _, _, _, _, _⟩) (v := ?_) rfl (by kernel_rfl) (by kernel_rfl) (by kernel_rfl) (fun _ _ _ h => h) (Or.inl ⟨by kernel_rfl, ?_⟩) (by assumption) ?_; rotate_left; (focus (intro w hSw; (try dsimp only at hSw); go_simp; (try with_reducible rfl)))
        simp only [Act.put, List.setIfInBounds_toArray, List.set_cons_zero, List.set_cons_succ]
        refine wpAnyH_take (i := 10) (oi := ⟨some 108, _, _, _, _, _⟩) (v := ?_) rfl (by kernel_rfl) (by kernel_rfl) (by kernel_rfl) (fun _ _ _ h => h) (Or.inl ⟨by kernel_rfl, ?_⟩) (by assumption) ?_; rotate_left; (focus (intro w hSw; (try dsimp only at hSw); go_simp; (try with_reducible rfl)))
        simp only [Act.put, List.setIfInBounds_toArray, List.set_cons_zero, List.set_cons_succ]
        refine wpAnyH_take (i := 11) (oi := ⟨some 109, _, _, _, _, _⟩) (v := ?_) rfl (by kernel_rfl) (by kernel_rfl) (by kernel_rfl) (fun _ _ _ h => h) (Or.inl ⟨by kernel_rfl, ?_⟩) (by assumption) ?_; rotate_left; (focus (intro w hSw; (try dsimp only at hSw); obtain ⟨y0, y1, y2, y3, y4⟩ := cells5 (ST.at hSw 0 rfl); obtain ⟨z0, z1, z2, z3, z4⟩ := cells_at hSw HXI.out; go_simp; (try with_reducible rfl)))
        simp only [Act.put, List.setIfInBounds_toArray, List.set_cons_zero, List.set_cons_succ]
        refine wpAnyH_take (i := 12) (oi := ⟨some 110, _, _, _, _, _⟩) (v := ?_) rfl (by kernel_rfl) (by kernel_rfl) (by kernel_rfl) (fun _ _ _ h => h) (Or.inl ⟨by kernel_rfl, ?_⟩) (by assumption) ?_; rotate_left; (focus (intro w hSw; (try dsimp only at hSw); go_simp; (try with_reducible rfl)))
        simp only [Act.put, List.setIfInBounds_toArray, List.set_cons_zero, List.set_cons_succ]
        refine wpAnyH_take (i := 13) (oi := ⟨some 111, _, _, _, _, _⟩) (v := ?_) rfl (by kernel_rfl) (by kernel_rfl) (by kernel_rfl) (fun _ _ _ h => h) (Or.inl ⟨by kernel_rfl, ?_⟩) (by assumption) ?_; rotate_left; (focus (intro w hSw; (try dsimp only at hSw); go_simp; (try with_reducible rfl)))
        simp only [Act.put, List.setIfInBounds_toArray, List.set_cons_zero, List.set_cons_succ]
        refine wpAnyH_take (i := 14) (oi := ⟨some 112, _, _, _, _, _⟩) (v := ?_) rfl (by kernel_rfl) (by kernel_rfl) (by kernel_rfl) (fun _ _ _ h => h) (Or.inl ⟨by kernel_rfl, ?_⟩) (by assumption) ?_; rotate_left; (focus (intro w hSw; (try dsimp only at hSw); go_simp; (try with_reducible rfl)))
        simp only [Act.put, List.setIfInBounds_toArray, List.set_cons_zero, List.set_cons_succ]
        refine wpAnyH_take (i := 15) (oi := ⟨some 113, _, _, _, _, _⟩) (v := ?_) rfl (by kernel_rfl) (by kernel_rfl) (by kernel_rfl) (fun _ _ _ h => h) (Or.inl ⟨by kernel_rfl, ?_⟩) (by assumption) ?_; rotate_left; (focus (intro w hSw; (try dsimp only at hSw); go_simp; (try with_reducible rfl)))
        simp only [Act.put, List.setIfInBounds_toArray, List.set_cons_zero, List.set_cons_succ]
        refine wpAnyH_take (i := 16) (oi := ⟨some 114, _, _, _, _, _⟩) (v := ?_) rfl (by kernel_rfl) (by kernel_rfl) (by kernel_rfl) (fun _ _ _ h => h) (Or.inl ⟨by kernel_rfl, ?_⟩) (by assumption) ?_; rotate_left; (focus (intro w hSw; (try dsimp only at hSw); go_simp; (try with_reducible rfl)))
        simp only [Act.put, List.setIfInBounds_toArray, List.set_cons_zero, List.set_cons_succ]
        refine wpAnyH_take (i := 17) (oi := ⟨some 115, _, _, _, _, _⟩) (v := ?_) rfl (by kernel_rfl) (by kernel_rfl) (by kernel_rfl) (fun _ _ _ h => h) (Or.inl ⟨by kernel_rfl, ?_⟩) (by assumption) ?_; rotate_left; (focus (intro w hSw; (try dsimp only at hSw); go_simp; (try with_reducible rfl)))
        simp only [Act.put, List.setIfInBounds_toArray, List.set_cons_zero, List.set_cons_succ]
        refine wpAnyH_take (i := 18) (oi := ⟨some 116, _, _, _, _, _⟩) (v := ?_) rfl (by kernel_rfl) (by kernel_rfl) (by kernel_rfl) (fun _ _ _ h => h) (Or.inl ⟨by kernel_rfl, ?_⟩) (by assumption) ?_; rotate_left; (focus (intro w hSw; (try dsimp only at hSw); go_simp; (try with_reducible rfl)))
        simp only [Act.put, List.setIfInBounds_toArray, List.set_cons_zero, List.set_cons_succ]
        refine wpAnyH_take (i := 19) (oi := ⟨some 117, _, _, _, _, _⟩) (v := undef) rfl (by kernel_rfl) (by kernel_rfl) (by kernel_rfl) (fun _ _ _ h => h) (Or.inr ⟨by kernel_rfl, rfl⟩) (by assumption) ?_
        simp only [Act.put, List.setIfInBounds_toArray, List.set_cons_zero, List.set_cons_succ]
        refine wpAnyH_take (i := 20) (oi := ⟨some 118, _, _, _, _, _⟩) (v := undef) rfl (by kernel_rfl) (by kernel_rfl) (by kernel_rfl) (fun _ _ _ h => h) (Or.inr ⟨by kernel_rfl, rfl⟩) (by assumption) ?_
        simp only [Act.put, List.setIfInBounds_toArray, List.set_cons_zero, List.set_cons_succ]
        refine wpAnyH_take (i := 21) (oi := ⟨some 119, _, _, _, _, _⟩) (v := undef) rfl (by kernel_rfl) (by kernel_rfl) (by kernel_rfl) (fun _ _ _ h => h) (Or.inr ⟨by kernel_rfl, rfl⟩) (by assumption) ?_
        simp only [Act.put, List.setIfInBounds_toArray, List.set_cons_zero, List.set_cons_succ]
        refine wpAnyH_take (i := 22) (oi := ⟨some 120, _, _, _, _, _⟩) (v := ?_) rfl (by kernel_rfl) (by kernel_rfl) (by kernel_rfl) (fun _ _ _ h => h) (Or.inl ⟨by kernel_rfl, ?_⟩) (by assumption) ?_; rotate_left; (focus (intro w hSw; (try dsimp only at hSw); go_simp; (try with_reducible rfl)))
        simp only [Act.put, List.setIfInBounds_toArray, List.set_cons_zero, List.set_cons_succ]
        refine wpAnyH_take (i := 23) (oi := ⟨some 121, _, _, _, _, _⟩) (v := ?_) rfl (by kernel_rfl) (by kernel_rfl) (by kernel_rfl) (fun _ _ _ h => h) (Or.inl ⟨by kernel_rfl, ?_⟩) (by assumption) ?_; rotate_left; (focus (intro w hSw; (try dsimp only at hSw); go_simp; (try with_reducible rfl)))
        simp only [Act.put, List.setIfInBounds_toArray, List.set_cons_zero, List.set_cons_succ]
        refine wpAnyH_done (by kernel_rfl) ?_ _
        have S7 := Lib.hid hHeld
        clear S3 hHeld
        obtain ⟨a0, a1, a2, a3, a4, a5⟩ := cells6 (S7.out.at 1 rfl)
        go_wp2_with fail
        refine (SH.out.len S7.out.p.p).mono ?_
        rintro v t1 ⟨hv, Y1, y1, z1⟩
        obtain rfl : v = .returned (.int .i64 ((q : Nat) : Int)) := by rw [hv, HLQ.out]
        have U1 := Lib.hid (S7.out.turn SH.out y1 z1)
        clear hv y1 z1 S7
        go_wp2_with fail
        refine (SH.out.lost U1.out.p.p).mono ?_
        rintro v t2 ⟨rfl, Y2, y2, z2⟩
        have U2 := Lib.hid ((U1.out.turn SH.out y2 z2).sub (B' := []) (fun b hb => by cases hb))
        clear y2 z2 U1
        go_wp2
        go_roundw
        case rel => exact ⟨kk, l, Y2, L, by have := HKK.out; have := HLT.out; omega, by go_num, rfl, by have := HLK.out; have := HKK.out; omega, U2, HLM⟩
        case measure => have h1 := HKK.out; have h2 := HLT.out; simp [intOf]; omega
    by_cases k3 : kd = 3
    · subst k3
      clear k1 k2
      rcases hre : R L ++ E L with _ | ⟨y, t⟩
      · obtain rfl := re_nil hre
        have NV : nxV (R []) (E []) = .tuple #[dv zD, .bool false] := rfl
        have KP := Lib.hid (fun Z X (hz : PI w.heap.size X g m (R []) (E []) l Z) => SH.out.peek hz)
        rw [NV] at KP
        have KT := Lib.hid (fun Z X (hz : PI w.heap.size X g m (R []) (E []) l Z) => SH.out.take hz)
        rw [NV] at KT
        obtain rfl : nI = -1 := by rw [← HNI.out]; rfl
        have NQ : ∀ Z : World, (binOp .neq 30 (dv zD) (dv zD)).run Try.prog Z = .ok (.bool false) Z := fun Z => by
          have := neq_any zD zD Z
          rwa [deq_iff.2 rfl] at this
        have HDL := Lib.hid (show del [] (-1) = [] from rfl)
        have HLN := HQ
        have HLQ2 := HLQ
        have HLM2 := HLM
        clear hre NV
        go_wp2_with fail
        refine (KP.out _ _ S2.out.p.p).mono ?_
        rintro v w3 ⟨rfl, X3, p3, t3⟩
        have S3 := Lib.hid ((S2.out.turn SH.out p3 t3).box SH.out (dbx zD))
        have P2B := Lib.hid (show w.heap.size ≤ w3.heap.size from (S2.out.turn SH.out p3 t3).p.b.size)
        have PPN := Lib.hid (show p ≠ w3.heap.size by have := lt_of_heap ((S2.out.turn SH.out p3 t3).at 0 rfl); omega)
        clear p3 t3 S2 KP a0 a1 a2 a3 a4 a5
        obtain ⟨d0, d1, d2, d3, d4⟩ := cells5 (S3.out.at 0 rfl)
        obtain ⟨a0, a1, a2, a3, a4, a5⟩ := cells6 (S3.out.at 1 rfl)
        go_wp2_with fail
        generalize w3.heap.size = p2 at *
        generalize w3.alloc _ = w4 at *
        refine (KT.out _ _ S3.out.p.p).mono ?_
        rintro v w5 ⟨rfl, X5, p5, t5⟩
        have S4 : Hid (ST PI w X5 g m (R []) (E []) l (.slice B q c) [] [(p2, dbx zD), (p, obx 3 x)] w5) := Lib.hid (S3.out.turn SH.out p5 t5)
        have S5 := Lib.hid (ST.put SH.out (x := zD) S4.out P2B.out (fun b hb => by rw [List.mem_singleton.1 hb]; exact PPN.out))
        clear p5 t5 S3 KT d0 d1 d2 d3 d4 a0 a1 a2 a3 a4 a5
        obtain ⟨d0, d1, d2, d3, d4⟩ := cells5 (S4.out.at 0 rfl)
        obtain ⟨h0, h1, h2, h3, h4⟩ := frozen5 (S4.out.at 0 rfl)
        go_wp2_with fail
        clear d0 d1 d2 d3 d4 h0 h1 h2 h3 h4 S4
        unfold st5 at S5
        generalize World.setCell _ _ _ = w6 at *
        refine wp_region_held_drew (S := fun W : World => ST PI w X5 g m (R []) (E []) l (.slice B q c) [] [(p2, dbx zD), (p, obx 3 x)] W) (by kernel_rfl) (S5.out.next SH.out (Below.refl _ _).drew) (fun hHeld => ?_)
        refine wpAnyH_take (i := 0) (oi := ⟨some 98, _, _, _, _, _⟩) (v := ?_) rfl (by kernel_rfl) (by kernel_rfl) (by kernel_rfl) (fun _ _ _ h => h) (Or.inl ⟨by kernel_rfl, ?_⟩) (by assumption) ?_; rotate_left; (focus (intro w hSw; (try dsimp only at hSw); go_simp; (try with_reducible rfl)))
        simp only [Act.put, List.setIfInBounds_toArray, List.set_cons_zero, List.set_cons_succ]
        refine wpAnyH_take (i := 1) (oi := ⟨some 99, _, _, _, _, _⟩) (v := ?_) rfl (by kernel_rfl) (by kernel_rfl) (by kernel_rfl) (fun _ _ _ h => h) (Or.inl ⟨by kernel_rfl, ?_⟩) (by assumption) ?_; rotate_left; (focus (intro w hSw; (try dsimp only at hSw); go_simp; (try with_reducible rfl)))
        simp only [Act.put, List.setIfInBounds_toArray, List.set_cons_zero, List.set_cons_succ]
        refine wpAnyH_take (i := 2) (oi := ⟨some 100, _, _, _, _, _⟩) (v := ?_) rfl (by kernel_rfl) (by kernel_rfl) (by kernel_rfl) (fun _ _ _ h => h) (Or.inl ⟨by kernel_rfl, ?_⟩) (by assumption) ?_; rotate_left; (focus (intro w hSw; (try dsimp only at hSw); go_simp; (try with_reducible rfl)))
        simp only [Act.put, List.setIfInBounds_toArray, List.set_cons_zero, List.set_cons_succ]
        refine wpAnyH_take (i := 3) (oi := ⟨some 101, _, _, _, _, _⟩) (v := ?_) rfl (by kernel_rfl) (by kernel_rfl) (by kernel_rfl) (fun _ _ _ h => h) (Or.inl ⟨by kernel_rfl, ?_⟩) (by assumption) ?_; rotate_left; (focus (intro w hSw; (try dsimp only at hSw); go_simp; (try with_reducible rfl)))
        simp only [Act.put, List.setIfInBounds_toArray, List.set_cons_zero, List.set_cons_succ]
        refine wpAnyH_take (i := 4) (oi := ⟨some 102, _, _, _, _, _⟩) (v := ?_) rfl (by kernel_rfl) (by kernel_rfl) (by kernel_rfl) (fun _ _ _ h => h) (Or.inl ⟨by kernel_rfl, ?_⟩) (by assumption) ?_; rotate_left; (focus (intro w hSw; (try dsimp only at hSw); go_simp; (try with_reducible rfl)))
        simp only [Act.put, List.setIfInBounds_toArray, List.set_cons_zero, List.set_cons_succ]
        refine wpAnyH_take (i := 5) (oi := ⟨some 103, _, _, _, _, _⟩) (v := ?_) rfl (by kernel_rfl) (by kernel_rfl) (by kernel_rfl) (fun _ _ _ h => h) (Or.inl ⟨by kernel_rfl, ?_⟩) (by assumption) ?_; rotate_left; (focus (intro w hSw; (try dsimp only at hSw); go_simp; (try with_reducible rfl)))
        simp only [Act.put, List.setIfInBounds_toArray, List.set_cons_zero, List.set_cons_succ]
        refine wpAnyH_take (i := 6) (oi := ⟨some 104, _, _, _, _, _⟩) (v := ?_) rfl (by kernel_rfl) (by kernel_rfl) (by kernel_rfl) (fun _ _ _ h => h) (Or.inl ⟨by kernel_rfl, ?_⟩) (by assumption) ?_; rotate_left; (focus (intro w hSw; (try dsimp only at hSw); go_simp; (try with_reducible rfl)))
        simp only [Act.put, List.setIfInBounds_toArray, List.set_cons_zero, List.set_cons_succ]
        refine wpAnyH_take (i := 7) (oi := ⟨some 105, _, _, _, _, _⟩) (v := undef) rfl (by kernel_rfl) (by kernel_rfl) (by kernel_rfl) (fun _ _ _ h => h) (Or.inr ⟨by kernel_rfl, rfl⟩) (by assumption) ?_
        simp only [Act.put, List.setIfInBounds_toArray, List.set_cons_zero, List.set_cons_succ]
        refine wpAnyH_take (i := 8) (oi := ⟨some 106, _, _, _, _, _⟩) (v := undef) rfl (by kernel_rfl) (by kernel_rfl) (by kernel_rfl) (fun _ _ _ h => h) (Or.inr ⟨by kernel_rfl, rfl⟩) (by assumption) ?_
        simp only [Act.put, List.setIfInBounds_toArray, List.set_cons_zero, List.set_cons_succ]
        refine wpAnyH_take (i := 9) (oi := ⟨some 107, _, _, _, _, _⟩) (v := undef) rfl (by kernel_rfl) (by kernel_rfl) (by kernel_rfl) (fun _ _ _ h => h) (Or.inr ⟨by kernel_rfl, rfl⟩) (by assumption) ?_
        simp only [Act.put, List.setIfInBounds_toArray, List.set_cons_zero, List.set_cons_succ]
        refine wpAnyH_take (i := 10) (oi := ⟨some 108, _, _, _, _, _⟩) (v := undef) rfl (by kernel_rfl) (by kernel_rfl) (by kernel_rfl) (fun _ _ _ h => h) (Or.inr ⟨by kernel_rfl, rfl⟩) (by assumption) ?_
        simp only [Act.put, List.setIfInBounds_toArray, List.set_cons_zero, List.set_cons_succ]
        refine wpAnyH_take (i := 11) (oi := ⟨some 109, _, _, _, _, _⟩) (v := undef) rfl (by kernel_rfl) (by kernel_rfl) (by kernel_rfl) (fun _ _ _ h => h) (Or.inr ⟨by kernel_rfl, rfl⟩) (by assumption) ?_
        simp only [Act.put, List.setIfInBounds_toArray, List.set_cons_zero, List.set_cons_succ]
        refine wpAnyH_take (i := 12) (oi := ⟨some 110, _, _, _, _, _⟩) (v := undef) rfl (by kernel_rfl) (by kernel_rfl) (by kernel_rfl) (fun _ _ _ h => h) (Or.inr ⟨by kernel_rfl, rfl⟩) (by assumption) ?_
        simp only [Act.put, List.setIfInBounds_toArray, List.set_cons_zero, List.set_cons_succ]
        refine wpAnyH_take (i := 13) (oi := ⟨some 111, _, _, _, _, _⟩) (v := ?_) rfl (by kernel_rfl) (by kernel_rfl) (by kernel_rfl) (fun _ _ _ h => h) (Or.inl ⟨by kernel_rfl, ?_⟩) (by assumption) ?_; rotate_left; (focus (intro w hSw; (try dsimp only at hSw); go_simp; (try with_reducible rfl)))
        simp only [Act.put, List.setIfInBounds_toArray, List.set_cons_zero, List.set_cons_succ]
        refine wpAnyH_take (i := 14) (oi := ⟨some 112, _, _, _, _, _⟩) (v := ?_) rfl (by kernel_rfl) (by kernel_rfl) (by kernel_rfl) (fun _ _ _ h => h) (Or.inl ⟨by kernel_rfl, ?_⟩) (by assumption) ?_; rotate_left; (focus (intro w hSw; (try dsimp only at hSw); go_simp; (try with_reducible rfl)))
        simp only [Act.put, List.setIfInBounds_toArray, List.set_cons_zero, List.set_cons_succ]
        refine wpAnyH_take (i := 15) (oi := ⟨some 113, _, _, _, _, _⟩) (v := ?_) rfl (by kernel_rfl) (by kernel_rfl) (by kernel_rfl) (fun _ _ _ h => h) (Or.inl ⟨by kernel_rfl, ?_⟩) (by assumption) ?_; rotate_left; (focus (intro w hSw; (try dsimp only at hSw); go_simp; (try with_reducible rfl)))
        simp only [Act.put, List.setIfInBounds_toArray, List.set_cons_zero, List.set_cons_succ]
        refine wpAnyH_take (i := 16) (oi := ⟨some 114, _, _, _, _, _⟩) (v := ?_) rfl (by kernel_rfl) (by kernel_rfl) (by kernel_rfl) (fun _ _ _ h => h) (Or.inl ⟨by kernel_rfl, ?_⟩) (by assumption) ?_; rotate_left; (focus (intro w hSw; (try dsimp only at hSw); go_simp; (try with_reducible rfl)))
        simp only [Act.put, List.setIfInBounds_toArray, List.set_cons_zero, List.set_cons_succ]
        refine wpAnyH_take (i := 17) (oi := ⟨some 115, _, _, _, _, _⟩) (v := ?_) rfl (by kernel_rfl) (by kernel_rfl) (by kernel_rfl) (fun _ _ _ h => h) (Or.inl ⟨by kernel_rfl, ?_⟩) (by assumption) ?_; rotate_left; (focus (intro w hSw; (try dsimp only at hSw); go_simp; (try with_reducible rfl)))
        simp only [Act.put, List.setIfInBounds_toArray, List.set_cons_zero, List.set_cons_succ]
        refine wpAnyH_take (i := 18) (oi := ⟨some 116, _, _, _, _, _⟩) (v := ?_) rfl (by kernel_rfl) (by kernel_rfl) (by kernel_rfl) (fun _ _ _ h => h) (Or.inl ⟨by kernel_rfl, ?_⟩) (by assumption) ?_; rotate_left; (focus (intro w hSw; (try dsimp only at hSw); go_simp; (try with_reducible rfl)))
        simp only [Act.put, List.setIfInBounds_toArray, List.set_cons_zero, List.set_cons_succ]
        refine wpAnyH_take (i := 19) (oi := ⟨some 117, _, _, _, _, _⟩) (v := ?_) rfl (by kernel_rfl) (by kernel_rfl) (by kernel_rfl) (fun _ _ _ h => h) (Or.inl ⟨by kernel_rfl, ?_⟩) (by assumption) ?_; rotate_left; (focus (intro w hSw; (try dsimp only at hSw); obtain ⟨y0, y1, y2, y3, y4⟩ := cells5 (ST.at hSw 0 rfl); have g0 : zD.c = 0 := rfl; have g1 : zD.l = 0 := rfl; have g2 : zD.n = 0 := rfl; have g3 : zD.p.toList = [] := (by decide +kernel); have g4 : zD.s = 0 := rfl; go_simp; (try with_reducible rfl)))
        simp only [Act.put, List.setIfInBounds_toArray, List.set_cons_zero, List.set_cons_succ]
        refine wpAnyH_take (i := 20) (oi := ⟨some 118, _, _, _, _, _⟩) (v := ?_) rfl (by kernel_rfl) (by kernel_rfl) (by kernel_rfl) (fun _ _ _ h => h) (Or.inl ⟨by kernel_rfl, ?_⟩) (by assumption) ?_; rotate_left; (focus (intro w hSw; (try dsimp only at hSw); go_simp; (try with_reducible rfl)))
        simp only [Act.put, List.setIfInBounds_toArray, List.set_cons_zero, List.set_cons_succ]
        refine wpAnyH_take (i := 21) (oi := ⟨some 119, _, _, _, _, _⟩) (v := ?_) rfl (by kernel_rfl) (by kernel_rfl) (by kernel_rfl) (fun _ _ _ h => h) (Or.inl ⟨by kernel_rfl, ?_⟩) (by assumption) ?_; rotate_left; (focus (intro w hSw; (try dsimp only at hSw); obtain ⟨y0, y1, y2, y3, y4⟩ := cells5 (ST.at hSw 0 rfl); have g0 : zD.c = 0 := rfl; have g1 : zD.l = 0 := rfl; have g2 : zD.n = 0 := rfl; have g3 : zD.p.toList = [] := (by decide +kernel); have g4 : zD.s = 0 := rfl; go_simp; (try with_reducible rfl)))
        simp only [Act.put, List.setIfInBounds_toArray, List.set_cons_zero, List.set_cons_succ]
        refine wpAnyH_take (i := 22) (oi := ⟨some 120, _, _, _, _, _⟩) (v := ?_) rfl (by kernel_rfl) (by kernel_rfl) (by kernel_rfl) (fun _ _ _ h => h) (Or.inl ⟨by kernel_rfl, ?_⟩) (by assumption) ?_; rotate_left; (focus (intro w hSw; (try dsimp only at hSw); go_simp; (try with_reducible rfl)))
        simp only [Act.put, List.setIfInBounds_toArray, List.set_cons_zero, List.set_cons_succ]
        refine wpAnyH_take (i := 23) (oi := ⟨some 121, _, _, _, _, _⟩) (v := ?_) rfl (by kernel_rfl) (by kernel_rfl) (by kernel_rfl) (fun _ _ _ h => h) (Or.inl ⟨by kernel_rfl, ?_⟩) (by assumption) ?_; rotate_left; (focus (intro w hSw; (try dsimp only at hSw); go_simp; (try with_reducible rfl)))
        simp only [Act.put, List.setIfInBounds_toArray, List.set_cons_zero, List.set_cons_succ]
        refine wpAnyH_done (by kernel_rfl) ?_ _
        have S7 := Lib.hid hHeld
        clear S5 hHeld
        obtain ⟨a0, a1, a2, a3, a4, a5⟩ := cells6 (S7.out.at 1 rfl)
        go_wp2_with fail
        refine (without_any B [] q c (-1) _ (S7.out.sg rfl) HQ.out (by have := HLM.out; have := HMB.out; have := HQ.out; omega)).mono ?_
        rintro v w8 ⟨v8, rfl, o8, b8⟩
        rw [HDL.out] at o8
        have S8 := Lib.hid (S7.out.swap SH.out b8 o8)
        obtain ⟨B8, c8, hv8, -⟩ := o8.form
        rw [HLN.out] at hv8
        subst hv8
        clear o8 b8 S7 a0 a1 a2 a3 a4 a5
        go_wp2_with fail
        refine (SH.out.len S8.out.p.p).mono ?_
        rintro v t1 ⟨hv, Y1, y1, z1⟩
        obtain rfl : v = .returned (.int .i64 ((q : Nat) : Int)) := by rw [hv, HLQ2.out]
        have U1 := Lib.hid (S8.out.turn SH.out y1 z1)
        clear hv y1 z1 S8
        go_wp2_with fail
        refine (SH.out.lost U1.out.p.p).mono ?_
        rintro v t2 ⟨rfl, Y2, y2, z2⟩
        have U2 := Lib.hid ((U1.out.turn SH.out y2 z2).sub (B' := []) (fun b hb => by cases hb))
        clear y2 z2 U1
        go_wp2
        go_roundw
        case rel => exact ⟨kk, l, Y2, [], by have := HKK.out; have := HLT.out; omega, by go_num, rfl, by have := HLK.out; have := HKK.out; omega, U2, HLM2⟩
        case measure => have h1 := HKK.out; have h2 := HLT.out; simp [intOf]; omega
      · obtain ⟨i, hi, hx, hR, hE, hil⟩ := nxt_re hre
        have NV : nxV (R L) (E L) = .tuple #[dv y, .bool true] := by unfold nxV; rw [hre]
        have KP := Lib.hid (fun Z X (hz : PI w.heap.size X g m (R L) (E L) l Z) => SH.out.peek hz)
        rw [NV] at KP
        have KT := Lib.hid (fun Z X (hz : PI w.heap.size X g m (R L) (E L) l Z) => SH.out.take hz)
        rw [NV] at KT
        have HXI := Lib.hid hx
        obtain rfl : nI = (i : Int) := by rw [← HNI.out]; exact nxI_of hi
        have i1 : (0 : Int) ≤ (i : Int) := by omega
        have i2 : (i : Int) < (q : Int) := by have := HQ.out; omega
        have i3 : i < q := by have := HQ.out; omega
        obtain ⟨b, off, rfl, -⟩ := sg5 HSG.out hx
        have NQ : ∀ Z : World, (binOp .neq 30 (dv y) (dv y)).run Try.prog Z = .ok (.bool false) Z := fun Z => by
          have := neq_any y y Z
          rwa [deq_iff.2 rfl] at this
        rw [← hR, ← hE] at KT
        have HDL := Lib.hid (show del L (i : Int) = L.eraseIdx i by unfold del; rw [if_pos i1, Int.toNat_natCast])
        obtain ⟨M, hM⟩ : ∃ M, L.eraseIdx i = M := ⟨_, rfl⟩
        rw [hM] at KT HDL
        obtain ⟨q9, hq9⟩ : ∃ q9, M.length = q9 := ⟨_, rfl⟩
        have HLN := Lib.hid hq9
        have HLQ2 := Lib.hid (show (R M).length + (E M).length = q9 by rw [len_re, hq9])
        have HLM2 := Lib.hid (show M.length ≤ m by rw [← hM]; exact Nat.le_trans (List.length_eraseIdx_le _ _) HLM.out)
        clear hq9 hM
        clear hi hx hR hE hil hre NV HSG
        go_wp2_with fail
        refine (KP.out _ _ S2.out.p.p).mono ?_
        rintro v w3 ⟨rfl, X3, p3, t3⟩
        have S3 := Lib.hid ((S2.out.turn SH.out p3 t3).box SH.out (dbx y))
        have P2B := Lib.hid (show w.heap.size ≤ w3.heap.size from (S2.out.turn SH.out p3 t3).p.b.size)
        have PPN := Lib.hid (show p ≠ w3.heap.size by have := lt_of_heap ((S2.out.turn SH.out p3 t3).at 0 rfl); omega)
        clear p3 t3 S2 KP a0 a1 a2 a3 a4 a5
        obtain ⟨d0, d1, d2, d3, d4⟩ := cells5 (S3.out.at 0 rfl)
        obtain ⟨a0, a1, a2, a3, a4, a5⟩ := cells6 (S3.out.at 1 rfl)
        go_wp2_with fail
        generalize w3.heap.size = p2 at *
        generalize w3.alloc _ = w4 at *
        refine (KT.out _ _ S3.out.p.p).mono ?_
        rintro v w5 ⟨rfl, X5, p5, t5⟩
        have S4 : Hid (ST PI w X5 g m (R M) (E M) l (.slice (some ⟨b, off, none⟩) q c) L [(p2, dbx y), (p, obx 3 x)] w5) := Lib.hid (S3.out.turn SH.out p5 t5)
        have S5 := Lib.hid (ST.put SH.out (x := y) S4.out P2B.out (fun b hb => by rw [List.mem_singleton.1 hb]; exact PPN.out))
        clear p5 t5 S3 KT d0 d1 d2 d3 d4 a0 a1 a2 a3 a4 a5
        obtain ⟨d0, d1, d2, d3, d4⟩ := cells5 (S4.out.at 0 rfl)
        obtain ⟨h0, h1, h2, h3, h4⟩ := frozen5 (S4.out.at 0 rfl)
        go_wp2_with fail
        clear d0 d1 d2 d3 d4 h0 h1 h2 h3 h4 S4
        unfold st5 at S5
        generalize World.setCell _ _ _ = w6 at *
        refine wp_region_held_drew (S := fun W : World => ST PI w X5 g m (R M) (E M) l (.slice (some ⟨b, off, none⟩) q c) L [(p2, dbx y), (p, obx 3 x)] W) (by kernel_rfl) (S5.out.next SH.out (Below.refl _ _).drew) (fun hHeld => ?_)
        refine wpAnyH_take (i := 0) (oi := ⟨some 98, _, _, _, _, _⟩) (v := ?_) rfl (by kernel_rfl) (by kernel_rfl) (by kernel_rfl) (fun _ _ _ h => h) (Or.inl ⟨by kernel_rfl, ?_⟩) (by assumption) ?_; rotate_left; (focus (intro w hSw; (try dsimp only at hSw); go_simp; (try with_reducible rfl)))
        simp only [Act.put, List.setIfInBounds_toArray, List.set_cons_zero, List.set_cons_succ]
        refine wpAnyH_take (i := 1) (oi := ⟨some 99, _, _, _, _, _⟩) (v := ?_) rfl (by kernel_rfl) (by kernel_rfl) (by kernel_rfl) (fun _ _ _ h => h) (Or.inl ⟨by kernel_rfl, ?_⟩) (by assumption) ?_; rotate_left; (focus (intro w hSw; (try dsimp only at hSw); go_simp; (try with_reducible rfl)))
        simp only [Act.put, List.setIfInBounds_toArray, List.set_cons_zero, List.set_cons_succ]
        refine wpAnyH_take (i := 2) (oi := ⟨some 100, _, _, _, _, _⟩) (v := ?_) rfl (by kernel_rfl) (by kernel_rfl) (by kernel_rfl) (fun _ _ _ h => h) (Or.inl ⟨by kernel_rfl, ?_⟩) (by assumption) ?_; rotate_left; (focus (intro w hSw; (try dsimp only at hSw); go_simp; (try with_reducible rfl)))
        simp only [Act.put, List.setIfInBounds_toArray, List.set_cons_zero, List.set_cons_succ]
        refine wpAnyH_take (i := 3) (oi := ⟨some 101, _, _, _, _, _⟩) (v := ?_) rfl (by kernel_rfl) (by kernel_rfl) (by kernel_rfl) (fun _ _ _ h => h) (Or.inl ⟨by kernel_rfl, ?_⟩) (by assumption) ?_; rotate_left; (focus (intro w hSw; (try dsimp only at hSw); go_simp; (try with_reducible rfl)))
        simp only [Act.put, List.setIfInBounds_toArray, List.set_cons_zero, List.set_cons_succ]
        refine wpAnyH_take (i := 4) (oi := ⟨some 102, _, _, _, _, _⟩) (v := ?_) rfl (by kernel_rfl) (by kernel_rfl) (by kernel_rfl) (fun _ _ _ h => h) (Or.inl ⟨by kernel_rfl, ?_⟩) (by assumption) ?_; rotate_left; (focus (intro w hSw; (try dsimp only at hSw); go_simp; (try with_reducible rfl)))
        simp only [Act.put, List.setIfInBounds_toArray, List.set_cons_zero, List.set_cons_succ]
        refine wpAnyH_take (i := 5) (oi := ⟨some 103, _, _, _, _, _⟩) (v := ?_) rfl (by kernel_rfl) (by kernel_rfl) (by kernel_rfl) (fun _ _ _ h => h) (Or.inl ⟨by kernel_rfl, ?_⟩) (by assumption) ?_; rotate_left; (focus (intro w hSw; (try dsimp only at hSw); go_simp; (try with_reducible rfl)))
        simp only [Act.put, List.setIfInBounds_toArray, List.set_cons_zero, List.set_cons_succ]
        refine wpAnyH_take (i := 6) (oi := ⟨some 104, _, _, _, _, _⟩) (v := ?_) rfl (by kernel_rfl) (by kernel_rfl) (by kernel_rfl) (fun _ _ _ h => h) (Or.inl ⟨by kernel_rfl, ?_⟩) (by assumption) ?_; rotate_left; (focus (intro w hSw; (try dsimp only at hSw); go_simp; (try with_reducible rfl)))
        simp only [Act.put, List.setIfInBounds_toArray, List.set_cons_zero, List.set_cons_succ]
        refine wpAnyH_take (i := 7) (oi := ⟨some 105, _, _, _, _, _⟩) (v := ?_) rfl (by kernel_rfl) (by kernel_rfl) (by kernel_rfl) (fun _ _ _ h => h) (Or.inl ⟨by kernel_rfl, ?_⟩) (by assumption) ?_; rotate_left; (focus (intro w hSw; (try dsimp only at hSw); obtain ⟨y0, y1, y2, y3, y4⟩ := cells5 (ST.at hSw 0 rfl); obtain ⟨z0, z1, z2, z3, z4⟩ := cells_at hSw HXI.out; go_simp; (try with_reducible rfl)))
        simp only [Act.put, List.setIfInBounds_toArray, List.set_cons_zero, List.set_cons_succ]
        refine wpAnyH_take (i := 8) (oi := ⟨some 106, _, _, _, _, _⟩) (v := ?_) rfl (by kernel_rfl) (by kernel_rfl) (by kernel_rfl) (fun _ _ _ h => h) (Or.inl ⟨by kernel_rfl, ?_⟩) (by assumption) ?_; rotate_left; (focus (intro w hSw; (try dsimp only at hSw); go_simp; (try with_reducible rfl)))
        simp only [Act.put, List.setIfInBounds_toArray, List.set_cons_zero, List.set_cons_succ]
        refine wpAnyH_take (i := 9) (oi := ⟨some 107, _, _, _, _, _⟩) (v := ?_) rfl (by kernel_rfl) (by kernel_rfl) (by kernel_rfl) (fun _ _ _ h => h) (Or.inl ⟨by kernel_rfl, ?_⟩) (by assumption) ?_; rotate_left; (focus (intro w hSw; (try dsimp only at hSw); go_simp; (try with_reducible rfl)))
        simp only [Act.put, List.setIfInBounds_toArray, List.set_cons_zero, List.set_cons_succ]
        refine wpAnyH_take (i := 10) (oi := ⟨some 108, _, _, _, _, _⟩) (v := ?_) rfl (by kernel_rfl) (by kernel_rfl) (by kernel_rfl) (fun _ _ _ h => h) (Or.inl ⟨by kernel_rfl, ?_⟩) (by assumption) ?_; rotate_left; (focus (intro w hSw; (try dsimp only at hSw); go_simp; (try with_reducible rfl)))
        simp only [Act.put, List.setIfInBounds_toArray, List.set_cons_zero, List.set_cons_succ]
        refine wpAnyH_take (i := 11) (oi := ⟨some 109, _, _, _, _, _⟩) (v := ?_) rfl (by kernel_rfl) (by kernel_rfl) (by kernel_rfl) (fun _ _ _ h => h) (Or.inl ⟨by kernel_rfl, ?_⟩) (by assumption) ?_; rotate_left; (focus (intro w hSw; (try dsimp only at hSw); obtain ⟨y0, y1, y2, y3, y4⟩ := cells5 (ST.at hSw 0 rfl); obtain ⟨z0, z1, z2, z3, z4⟩ := cells_at hSw HXI.out; go_simp; (try with_reducible rfl)))
        simp only [Act.put, List.setIfInBounds_toArray, List.set_cons_zero, List.set_cons_succ]
        refine wpAnyH_take (i := 12) (oi := ⟨some 110, _, _, _, _, _⟩) (v := ?_) rfl (by kernel_rfl) (by kernel_rfl) (by kernel_rfl) (fun _ _ _ h => h) (Or.inl ⟨by kernel_rfl, ?_⟩) (by assumption) ?_; rotate_left; (focus (intro w hSw; (try dsimp only at hSw); go_simp; (try with_reducible rfl)))
        simp only [Act.put, List.setIfInBounds_toArray, List.set_cons_zero, List.set_cons_succ]
        refine wpAnyH_take (i := 13) (oi := ⟨some 111, _, _, _, _, _⟩) (v := ?_) rfl (by kernel_rfl) (by kernel_rfl) (by kernel_rfl) (fun _ _ _ h => h) (Or.inl ⟨by kernel_rfl, ?_⟩) (by assumption) ?_; rotate_left; (focus (intro w hSw; (try dsimp only at hSw); go_simp; (try with_reducible rfl)))
        simp only [Act.put, List.setIfInBounds_toArray, List.set_cons_zero, List.set_cons_succ]
        refine wpAnyH_take (i := 14) (oi := ⟨some 112, _, _, _, _, _⟩) (v := ?_) rfl (by kernel_rfl) (by kernel_rfl) (by kernel_rfl) (fun _ _ _ h => h) (Or.inl ⟨by kernel_rfl, ?_⟩) (by assumption) ?_; rotate_left; (focus (intro w hSw; (try dsimp only at hSw); go_simp; (try with_reducible rfl)))
        simp only [Act.put, List.setIfInBounds_toArray, List.set_cons_zero, List.set_cons_succ]
        refine wpAnyH_take (i := 15) (oi := ⟨some 113, _, _, _, _, _⟩) (v := ?_) rfl (by kernel_rfl) (by kernel_rfl) (by kernel_rfl) (fun _ _ _ h => h) (Or.inl ⟨by kernel_rfl, ?_⟩) (by assumption) ?_; rotate_left; (focus (intro w hSw; (try dsimp only at hSw); go_simp; (try with_reducible rfl)))
        simp only [Act.put, List.setIfInBounds_toArray, List.set_cons_zero, List.set_cons_succ]
        refine wpAnyH_take (i := 16) (oi := ⟨some 114, _, _, _, _, _⟩) (v := ?_) rfl (by kernel_rfl) (by kernel_rfl) (by kernel_rfl) (fun _ _ _ h => h) (Or.inl ⟨by kernel_rfl, ?_⟩) (by assumption) ?_; rotate_left; (focus (intro w hSw; (try dsimp only at hSw); go_simp; (try with_reducible rfl)))
        simp only [Act.put, List.setIfInBounds_toArray, List.set_cons_zero, List.set_cons_succ]
        refine wpAnyH_take (i := 17) (oi := ⟨some 115, _, _, _, _, _⟩) (v := ?_) rfl (by kernel_rfl) (by kernel_rfl) (by kernel_rfl) (fun _ _ _ h => h) (Or.inl ⟨by kernel_rfl, ?_⟩) (by assumption) ?_; rotate_left; (focus (intro w hSw; (try dsimp only at hSw); go_simp; (try with_reducible rfl)))
        simp only [Act.put, List.setIfInBounds_toArray, List.set_cons_zero, List.set_cons_succ]
        refine wpAnyH_take (i := 18) (oi := ⟨some 116, _, _, _, _, _⟩) (v := ?_) rfl (by kernel_rfl) (by kernel_rfl) (by kernel_rfl) (fun _ _ _ h => h) (Or.inl ⟨by kernel_rfl, ?_⟩) (by assumption) ?_; rotate_left; (focus (intro w hSw; (try dsimp only at hSw); go_simp; (try with_reducible rfl)))
        simp only [Act.put, List.setIfInBounds_toArray, List.set_cons_zero, List.set_cons_succ]
        refine wpAnyH_take (i := 19) (oi := ⟨some 117, _, _, _, _, _⟩) (v := undef) rfl (by kernel_rfl) (by kernel_rfl) (by kernel_rfl) (fun _ _ _ h => h) (Or.inr ⟨by kernel_rfl, rfl⟩) (by assumption) ?_
        simp only [Act.put, List.setIfInBounds_toArray, List.set_cons_zero, List.set_cons_succ]
        refine wpAnyH_take (i := 20) (oi := ⟨some 118, _, _, _, _, _⟩) (v := undef) rfl (by kernel_rfl) (by kernel_rfl) (by kernel_rfl) (fun _ _ _ h => h) (Or.inr ⟨by kernel_rfl, rfl⟩) (by assumption) ?_
        simp only [Act.put, List.setIfInBounds_toArray, List.set_cons_zero, List.set_cons_succ]
        refine wpAnyH_take (i := 21) (oi := ⟨some 119, _, _, _, _, _⟩) (v := undef) rfl (by kernel_rfl) (by kernel_rfl) (by kernel_rfl) (fun _ _ _ h => h) (Or.inr ⟨by kernel_rfl, rfl⟩) (by assumption) ?_
        simp only [Act.put, List.setIfInBounds_toArray, List.set_cons_zero, List.set_cons_succ]
        refine wpAnyH_take (i := 22) (oi := ⟨some 120, _, _, _, _, _⟩) (v := ?_) rfl (by kernel_rfl) (by kernel_rfl) (by kernel_rfl) (fun _ _ _ h => h) (Or.inl ⟨by kernel_rfl, ?_⟩) (by assumption) ?_; rotate_left; (focus (intro w hSw; (try dsimp only at hSw); go_simp; (try with_reducible rfl)))
        simp only [Act.put, List.setIfInBounds_toArray, List.set_cons_zero, List.set_cons_succ]
        refine wpAnyH_take (i := 23) (oi := ⟨some 121, _, _, _, _, _⟩) (v := ?_) rfl (by kernel_rfl) (by kernel_rfl) (by kernel_rfl) (fun _ _ _ h => h) (Or.inl ⟨by kernel_rfl, ?_⟩) (by assumption) ?_; rotate_left; (focus (intro w hSw; (try dsimp only at hSw); go_simp; (try with_reducible rfl)))
        simp only [Act.put, List.setIfInBounds_toArray, List.set_cons_zero, List.set_cons_succ]
        refine wpAnyH_done (by kernel_rfl) ?_ _
        have S7 := Lib.hid hHeld
        clear S5 hHeld
        obtain ⟨a0, a1, a2, a3, a4, a5⟩ := cells6 (S7.out.at 1 rfl)
        go_wp2_with fail
        refine (without_any (some ⟨b, off, none⟩) L q c (i : Int) _ (S7.out.sg rfl) HQ.out (by have := HLM.out; have := HMB.out; have := HQ.out; omega)).mono ?_
        rintro v w8 ⟨v8, rfl, o8, b8⟩
        rw [HDL.out] at o8
        have S8 := Lib.hid (S7.out.swap SH.out b8 o8)
        obtain ⟨B8, c8, hv8, -⟩ := o8.form
        rw [HLN.out] at hv8
        subst hv8
        clear o8 b8 S7 a0 a1 a2 a3 a4 a5
        go_wp2_with fail
        refine (SH.out.len S8.out.p.p).mono ?_
        rintro v t1 ⟨hv, Y1, y1, z1⟩
        obtain rfl : v = .returned (.int .i64 ((q9 : Nat) : Int)) := by rw [hv, HLQ2.out]
        have U1 := Lib.hid (S8.out.turn SH.out y1 z1)
        clear hv y1 z1 S8
        go_wp2_with fail
        refine (SH.out.lost U1.out.p.p).mono ?_
        rintro v t2 ⟨rfl, Y2, y2, z2⟩
        have U2 := Lib.hid ((U1.out.turn SH.out y2 z2).sub (B' := []) (fun b hb => by cases hb))
        clear y2 z2 U1
        go_wp2
        go_roundw
        case rel => exact ⟨kk, l, Y2, M, by have := HKK.out; have := HLT.out; omega, by go_num, rfl, by have := HLK.out; have := HKK.out; omega, U2, HLM2⟩
        case measure => have h1 := HKK.out; have h2 := HLT.out; simp [intOf]; omega
    by_cases k4 : kd = 4
    · subst k4
      clear k1 k2 k3
      have HS2 := Lib.hid (ST2.start S2.out)
      clear S2 KN HSG a1 a2 a3 a4 a5
      go_wp2
      clear a0
      go_loopw [7, 11, 15] (fun lv av uv ws => ∃ (M T : List Da) (nJ : Int), av = .int .i64 nJ ∧ Hid (nxI M = nJ) ∧ Hid (ST2 PI w X g m (R L) (E L) l lv M uv T [(p, obx 4 x)] ws) ∧ Hid (T ++ ord M = ord L) ∧ Hid (M.length ≤ m)) (fun lv _ _ _ => slen lv)
      case atStart => exact ⟨L, [], nI, rfl, HNI, HS2, Lib.hid rfl, HLM⟩
      case round =>
        clear HS2
        obtain ⟨M, T, nJ, rfl, HNJ, H2, HO, HMM⟩ := hrel
        obtain ⟨B1, c1, rfl, sgM, -, -, -⟩ := H2.out.s.o.form
        obtain ⟨D1, d1, rfl, sgT, hTc, -, -⟩ := H2.out.o.form
        obtain ⟨a, ha⟩ : ∃ a, M.length = a := ⟨_, rfl⟩
        obtain ⟨t, ht⟩ : ∃ t, T.length = t := ⟨_, rfl⟩
        rw [ha, ht] at H2
        rw [ha, ht]
        have HAL := Lib.hid ha
        have HTL := Lib.hid ht
        have HTB := Lib.hid (show T.length ≤ 64 by
          have h1 := congrArg List.length HO.out
          rw [List.length_append, len_ord, len_ord] at h1
          have := HLM.out; have := HMB.out; omega)
        clear ha ht hTc
        rcases hM : ord M with _ | ⟨y, tt⟩
        · obtain rfl := ord_nil.1 hM
          obtain rfl : nJ = -1 := by rw [← HNJ.out]; rfl
          obtain rfl : a = 0 := by rw [← HAL.out]; rfl
          have HTE := Lib.hid (show T = R L ++ E L by have := HO.out; rwa [hM, List.append_nil] at this)
          clear hM sgM sgT
          go_wp2_with fail
          refine (SH.out.clear H2.out.s.p.p).mono ?_
          rintro v w5 ⟨A5, n5, c5, rfl, ⟨hn5, -, -, sg5⟩, X5, p5, t5, -⟩
          have H5 := Lib.hid (H2.out.turn SH.out p5 t5)
          obtain ⟨A6, c6, hv6, sg6, -, -, -⟩ := H5.out.o.form
          rw [HTL.out] at hv6
          cases hv6
          have KS := Lib.hid (same_any A5 D1 (R L ++ E L) T n5 t c5 d1 w5 sg5 sg6 (by rw [List.length_append, hn5]) HTL.out (by have := HLM.out; have := HMB.out; have := len_re L; omega) (by have := HTB.out; have := HTL.out; omega))
          rw [HTE.out, same_iff.2 rfl] at KS
          clear hn5 sg5 sg6 p5 t5 H2
          go_wp2_with fail
          refine KS.out.mono ?_
          rintro v w6 ⟨rfl, b6⟩
          have S6 : Hid (ST PI w X5 g m (R []) (E []) l (.slice B1 0 c1) [] [(p, obx 4 x)] w6) := Lib.hid (H5.out.s.next SH.out b6)
          have HL0 := Lib.hid (show ([] : List Da).length ≤ m from Nat.zero_le _)
          have HQ0 := Lib.hid (show (R []).length + (E []).length = 0 from rfl)
          clear b6 H5 KS
          go_wp2_with fail
          refine (SH.out.len S6.out.p.p).mono ?_
          rintro v t1 ⟨hv, Y1, y1, z1⟩
          obtain rfl : v = .returned (.int .i64 ((0 : Nat) : Int)) := by rw [hv, HQ0.out]
          have U1 := Lib.hid (S6.out.turn SH.out y1 z1)
          clear hv y1 z1 S6
          go_wp2_with fail
          refine (SH.out.lost U1.out.p.p).mono ?_
          rintro v t2 ⟨rfl, Y2, y2, z2⟩
          have U2 := Lib.hid ((U1.out.turn SH.out y2 z2).sub (B' := []) (fun b hb => by cases hb))
          clear y2 z2 U1
          go_wp2
          go_roundw
          case rel => exact ⟨kk, l, Y2, [], by have := HKK.out; have := HLT.out; omega, by go_num, rfl, by have := HLK.out; have := HKK.out; omega, U2, HL0⟩
          case measure => have h1 := HKK.out; have h2 := HLT.out; simp [intOf]; omega
        · obtain ⟨i, hi, hx, hod, hil⟩ := nxt_ord hM
          have HXI := Lib.hid hx
          obtain rfl : nJ = (i : Int) := by rw [← HNJ.out]; exact nxI_of hi
          have i1 : (0 : Int) ≤ (i : Int) := by omega
          have i2 : (i : Int) < (a : Int) := by have := HAL.out; omega
          have i3 : i < a := by have := HAL.out; omega
          obtain ⟨b, off, rfl, -⟩ := sg5 sgM hx
          have HDL := Lib.hid (show del M (i : Int) = M.eraseIdx i by unfold del; rw [if_pos i1, Int.toNat_natCast])
          have HO2 := Lib.hid (show (T ++ [y]) ++ ord (M.eraseIdx i) = ord L by rw [hod, ← HO.out, hM]; simp)
          have HDN := Lib.hid (show (M.eraseIdx i).length + 1 = a by rw [List.length_eraseIdx_of_lt hil, ← HAL.out]; omega)
          have HTN := Lib.hid (show (T ++ [y]).length = t + 1 by rw [List.length_append, HTL.out]; rfl)
          obtain ⟨z0, z1, z2, z3, z4⟩ := cells_at H2.out.s HXI.out
          generalize M.eraseIdx i = M2 at *
          clear hi hx hod hil hM sgM sgT
          go_wp2_with (at_builtin; refine wpList_append_one oneD _ rfl _ _ rfl w.heap.size _ T rfl (H2.out.o.alloc _) y _ rfl (heap_at rfl _) ?c1 (by decide) ?c2 ?_)
          case c1 => have := HTB.out; omega
          case c2 => rw [World.size_alloc]; have := H2.out.s.p.b.size; omega
          intro v5 w5 o5 s5
          have H5 := Lib.hid (H2.out.growU SH.out o5 ((Step.alloc _ _ _).trans s5))
          obtain ⟨D5, d5, hv5, -⟩ := o5.form
          rw [HTN.out] at hv5
          subst hv5
          clear o5 s5 H2 z0 z1 z2 z3 z4
          go_wp2_with fail
          refine (without_any (some ⟨b, off, none⟩) M a c1 (i : Int) _ (H5.out.s.sg rfl) HAL.out (by have := HMM.out; have := HMB.out; have := HAL.out; omega)).mono ?_
          rintro v w6 ⟨v6, rfl, o6, b6⟩
          rw [HDL.out] at o6
          have H6 := Lib.hid (H5.out.swap SH.out b6 o6)
          obtain ⟨B6, c6, hv6, -⟩ := o6.form
          subst hv6
          generalize ha2 : M2.length = a2 at *
          have HA2 := Lib.hid ha2
          clear o6 b6 H5 ha2
          go_wp2_with fail
          refine (next_any B6 M2 a2 c6 _ (H6.out.s.sg rfl) HA2.out (by have := HDN.out; have := HMM.out; have := HMB.out; have := HAL.out; omega)).mono ?_
          rintro v w7 ⟨rfl, b7⟩
          have H7 := Lib.hid (H6.out.next SH.out b7)
          clear b7 H6
          go_wp2
          go_roundw
          case rel => exact ⟨M2, _, _, rfl, Lib.hid rfl, H7, HO2, Lib.hid (by have := HDN.out; have := HMM.out; have := HAL.out; have := HA2.out; omega)⟩
          case measure => have := HDN.out; have := HA2.out; simp [slen]; omega
    · have q1 : (kd == 1) = false := by rw [beq_eq_false_iff_ne]; exact k1
      have q2 : (kd == 2) = false := by rw [beq_eq_false_iff_ne]; exact k2
      have q3 : (kd == 3) = false := by rw [beq_eq_false_iff_ne]; exact k3
      have q4 : (kd == 4) = false := by rw [beq_eq_false_iff_ne]; exact k4
      clear k1 k2 k3 k4
      go_wp2_with fail
      refine (SH.out.len S2.out.p.p).mono ?_
      rintro v t1 ⟨hv, Y1, y1, z1⟩
      obtain rfl : v = .returned (.int .i64 ((q : Nat) : Int)) := by rw [hv, HLQ.out]
      have U1 := Lib.hid (S2.out.turn SH.out y1 z1)
      clear hv y1 z1 S2
      go_wp2_with fail
      refine (SH.out.lost U1.out.p.p).mono ?_
      rintro v t2 ⟨rfl, Y2, y2, z2⟩
      have U2 := Lib.hid ((U1.out.turn SH.out y2 z2).sub (B' := []) (fun b hb => by cases hb))
      clear y2 z2 U1
      go_wp2
      go_roundw
      case rel => exact ⟨kk, l, Y2, L, by have := HKK.out; have := HLT.out; omega, by go_num, rfl, by have := HLK.out; have := HKK.out; omega, U2, HLM⟩
      case measure => have h1 := HKK.out; have h2 := HLT.out; simp [intOf]; omega
end
set_option maxRecDepth 100000 in
/-- What the walk gives, for every argument and every world. -/
theorem contract (H : Type) (enc : TypeId × Value → H) (W : World) (base : Nat) (args : Array Value) (ds gs : List (DataW H)) (before : List MemPlace)
    (hval : ∀ (j : Nat) t v, Try.f3.params[j]? = some t → args[j]? = some v → Value.okWide Try.prog W .any base t v)
    (hW : DataW.Whole enc Try.prog Try.f3.params.toList Rows.portPlaysSpec.vars false W args.toList ds gs before) (hz : (DataW.weightsEach Try.prog (Try.f3.params.toList ++ (OpenSpec.ofChange Rows.portPlaysSpec).bare.plain.varTypes Try.prog) (ds ++ gs)).all (· ≤ reachBytes) = true) : 
    Calls Try.prog 3 args W fun e W' => ∃ v, e = .returned v ∧ Rows.portPlaysSpec.post enc Try.prog Try.f3 false true false false W args v W' := by
  have hW' := hW
  obtain ⟨p, q, hA0, hV, rfl, hfz, hnd⟩ := hW
  have hA : DataW.TrodAll enc Try.prog W 0 (fun _ => true) true Try.f3.params.toList args.toList ds p := hA0
  rw [Try.params3] at hA hval
  obtain ⟨v0, vs0, d0, ds0, p0, q0, hargs, rfl, rfl, h0, r0⟩ := trodAll_cons hA
  obtain ⟨v1, vs1, d1, ds1, p1, q1, rfl, rfl, rfl, h1, r1⟩ := trodAll_cons r0
  obtain ⟨rfl, rfl, rfl⟩ := trodAll_nil r1
  obtain rfl : args = #[v0, v1] := by cases args; simp_all
  obtain ⟨rfl, rfl⟩ := trodVars_none hV
  obtain ⟨most, rfl, rfl, rfl, w0⟩ := open_int Try.underlying3 (hval 0 3 v0 rfl rfl) h0
  obtain ⟨A1, xs, c1, rfl, f1, l1, lc1, sz1, nl1⟩ := open_ops (hval 1 22 v1 rfl rfl) h1
  have z1 : xs.length * 56 ≤ 140737488351232 := by
    rcases sz1 with h | ⟨es, sp, hd, hl⟩
    · rw [h]; decide
    · have := sized_slice hz (j := 1) (t := 22) (e := 32) (elems := es) (spare := sp) (by rw [Try.params3]; rfl) (by rw [hd]; rfl) Try.underlying22
      rw [show Try.prog.bytesOf 32 = 56 by kernel_rfl, show reachBytes = 140737488351232 from rfl] at this
      omega
  refine (walkS landed most A1 xs xs.length c1 W f1 rfl z1).mono fun e W' ⟨he, hb⟩ => ?_
  exact ⟨_, he, Shell.post_law laidOut (by kernel_rfl) rfl Try.underlying4 rfl hW' rfl hb⟩
theorem reads (os : Os) {H : Type} (enc : TypeId × Value → H) : ∃ places, DataW.whole enc Try.prog ((World.holding Try.prog os ⟨#[], #[], []⟩).forCall (fun _ _ => 0) ⟨#[], #[.int .i64 0, .slice none 0 0], []⟩).memory Try.f3.params.toList Rows.portPlaysSpec.vars false (#[Value.int .i64 0, Value.slice none 0 0]).toList 8 = some ([.lit (.int .i64 0), .nil], [], places) :=
  ⟨[], by kernel_rfl⟩
set_option maxRecDepth 100000 in
theorem lifted (os : Os) (started : os.Started) (H : Type) (enc : TypeId × Value → H) (F : Stop.Interp) :
    ReturnsInHanded {} Try.checked os 3 .any ((OpenSpec.ofChange Rows.portPlaysSpec).preRow enc Try.prog Try.f3 Rows.portPlaysRow.domain false Rows.portPlaysRow.laid) (((OpenSpec.ofChange Rows.portPlaysSpec).at F).post enc Try.prog Try.f3 false true false false) := by
  obtain ⟨places, hx⟩ := reads os enc
  refine returnsInHanded_of_row (C := Try.checked) (s := OpenSpec.ofChange Rows.portPlaysSpec) own started (by kernel_rfl) Try.func3
    (witness_row_atRef (enc := enc) (C := Try.checked) false (World.holding Try.prog os ⟨#[], #[], []⟩) #[.int .i64 0, .slice none 0 0] rfl (by kernel_rfl) (by kernel_rfl) (by kernel_rfl)
      (OpenSpec.preRow_of_cond 8 hx (by kernel_rfl) (fun k hk => by cases hk) (by kernel_rfl) (laid_met os _))) ?_
  intro W base args ds gs before hval hW _ _ hz hL _ _
  exact contract H enc W base args ds gs before hval hW hz
theorem said : Rows.PortPlaysSaid :=
  OpenClaim.holds_of_cond 3 Try.f3 rfl rfl rfl rfl rfl rfl rfl ⟨rfl, rfl, rfl, rfl, rfl⟩ rfl rfl rfl rfl rfl (by kernel_rfl) Try.func3 (by kernel_rfl)
    (of_decide_eq_true (by kernel_rfl)) (by unfold Func.isWrapper; first | (rw [if_pos (by decide +kernel)]; kernel_rfl) | (rw [if_neg (by decide +kernel)]; exact ⟨rfl, rfl⟩))
    (fun os started H enc _ F => by rw [OpenClaim.pre_eq_preRow]; exact lifted os started H enc F)
end Go.Proofs.Ytpliidkfllacpaa.PortW.PortPlays
