/- The law AlignTogether: two hosts at which one frame is permanent at one time, and which hear it as their best one, show the same behind their settings: for every configuration, any two distances and every crew. No condition. -/
import Derived.Test.YtpdcdnklmoaokaaAlignFixed
import Derived.Test.YtpdcdnklmoaokaaConfLay
namespace Go.Proofs.Ytpdcdnklmoaokaa.AlignW.AlignTogether
open Go.ChangeShapes Go.WideShapes Go.ChangeAt Go.RowKit AlignW Shell
open ConfW (Cfg CM CX chk open_cfg)
open FrameW (CV rightC)
abbrev CB (c : Cfg) (D E L : Option Addr) (nd cd ne ce nl cl : Nat) : Obj := Obj.cells #[.int .i64 c.hosts, .int .i64 c.cycle, .int .i64 c.delay, .int .i64 c.window, .int .i64 c.precision, .slice D nd cd, .slice E ne ce, .slice L nl cl, .int .i64 c.queue] 26
abbrev OB2 (o p : Int) : Obj := .cells #[.int .i32 o, .int .i32 p] 42 (0, 0)
abbrev fbx (k f y : Int) (c : Nat) (l : Int) : Obj := .cells #[.int .i64 k, .int .i64 f, .int .i64 y, .int .u32 (c : Int), .int .i64 l] 38 (0, 0)
/-- Two Aligns of one configuration, side by side. -/
structure PT (w0 : World) (L : List (Nat × Obj)) (g h : Nat) (y e a : Int) (B1 : Nat → Int) (C1 : Nat → Nat) (B2 : Nat → Int) (C2 : Nat → Nat) (w : World) : Prop where
  p : PA w0 ((h, abx y e a B2 C2) :: L) g y e a B1 C1 w
  low : ∀ i, C2 i < 64
  nul : C2 0 = 0 → B2 0 = 0
  h0 : w0.heap.size ≤ h
  hL : ∀ x ∈ L, x.1 ≠ h
section
variable {w0 : World} {L : List (Nat × Obj)} {g h : Nat} {y e a : Int} {B1 B2 : Nat → Int} {C1 C2 : Nat → Nat} {w w1 : World}
theorem PT.flip (T : PT w0 L g h y e a B1 C1 B2 C2 w) : PT w0 L h g y e a B2 C2 B1 C1 w :=
  ⟨T.p.swap T.low T.nul T.h0 T.hL, T.p.low, T.p.nul, T.p.g0, fun x hx => T.p.gl x (List.mem_cons_of_mem _ hx)⟩
theorem PT.with (T : PT w0 L g h y e a B1 C1 B2 C2 w) {B : Nat → Int} {C : Nat → Nat} (p : PA w0 ((h, abx y e a B2 C2) :: L) g y e a B C w1) : PT w0 L g h y e a B C B2 C2 w1 := ⟨p, T.low, T.nul, T.h0, T.hL⟩
theorem PT.withF (T : PT w0 L g h y e a B1 C1 B2 C2 w) {B : Nat → Int} {C : Nat → Nat} (p : PA w0 ((g, abx y e a B1 C1) :: L) h y e a B C w1) : PT w0 L g h y e a B1 C1 B C w1 := (T.flip.with p).flip
theorem PT.next (T : PT w0 L g h y e a B1 C1 B2 C2 w) (b : Below w.heap.size w w1) : PT w0 L g h y e a B1 C1 B2 C2 w1 := T.with (T.p.next b)
theorem PT.drew (T : PT w0 L g h y e a B1 C1 B2 C2 w) : PT w0 L g h y e a B1 C1 B2 C2 w.drew := T.next (Below.refl _ _).drew
theorem PT.alloc (T : PT w0 L g h y e a B1 C1 B2 C2 w) (o : Obj) : PT w0 ((w.heap.size, o) :: L) g h y e a B1 C1 B2 C2 (w.alloc o) := by
  have P := T.p.alloc o
  have lt := lt_of_heap (T.p.st.at 0 rfl)
  refine ⟨⟨⟨P.st.b, fun x hx => P.st.h x ?_⟩, P.box, P.fit, P.low, P.nul, P.g0, fun x hx => P.gl x ?_⟩, T.low, T.nul, T.h0, fun x hx => ?_⟩
  · rcases List.mem_cons.1 hx with rfl | hx
    · exact List.mem_cons_of_mem _ List.mem_cons_self
    · rcases List.mem_cons.1 hx with rfl | hx
      · exact List.mem_cons_self
      · exact List.mem_cons_of_mem _ (List.mem_cons_of_mem _ hx)
  · rcases List.mem_cons.1 hx with rfl | hx
    · exact List.mem_cons_of_mem _ List.mem_cons_self
    · rcases List.mem_cons.1 hx with rfl | hx
      · exact List.mem_cons_self
      · exact List.mem_cons_of_mem _ (List.mem_cons_of_mem _ hx)
  · rcases List.mem_cons.1 hx with rfl | hx
    · show w.heap.size ≠ h; omega
    · exact T.hL x hx
theorem pt_new (P : PA w0 L g y e a B1 C1 w) (h2 : w1.heap[h]? = some (abx y e a zB zC)) (hh : w.heap.size ≤ h) (b : Below w.heap.size w w1) : PT w0 L g h y e a B1 C1 zB zC w1 :=
  ⟨⟨(P.st.next b).add h2, row_below b P.box, P.fit, P.low, P.nul, P.g0, fun x hx => by
      rcases List.mem_cons.1 hx with rfl | hx
      · have := lt_of_heap P.box; show h ≠ g; omega
      · exact P.gl x hx⟩, zC_low, fun _ => rfl, Nat.le_trans P.st.b.size hh, fun x hx => by have := lt_of_heap (P.st.h x hx); omega⟩
end
/-- What becomes of a frame of the second switch, where nothing was heard. -/
theorem heard {y e a : Int} (n t : Int) (m : Nat) (T1 : okT n = true) (T2 : okT t = true) (F : okF 2 7 n (m : Int) 0 = true) : ∃ (ga : Int) (B : Nat → Int) (C : Nat → Nat), (ga = 0 → bsB B C = e - (t - n * y)) ∧
    ∀ (w0 : World) (L : List (Nat × Obj)) (g : Nat) (W : World), PA w0 L g y e a zB zC W → Calls Try.prog 12 #[.pointer (some ⟨g, 0, none⟩), .int .i64 n, .int .i64 t, CV 2 7 n (m : Int) 0] W fun r w' => r = .returned (.int .i64 ga) ∧ PA w0 L g y e a B C w' := by
  have hF := okF_iff.1 F
  have hr := hF.1
  unfold rightC at hr
  have hm : m < 64 := by omega
  have h0 : m ≠ 0 := fun h => hF.2.2.2 (by rw [h]; rfl)
  by_cases hin : inT y e a n t
  · refine ⟨0, upd zB 1 (e - (t - n * y)), upd zC 1 m, fun _ => ?_, fun w0 L g W P => ?_⟩
    · have hb : bet (upd zC 1 m) = true := decide_eq_true (by
        show (CrewW.mem 0).length < (CrewW.mem m).length
        rw [mem_zero]
        exact (mem_pos m hm).2 h0)
      unfold bsB
      rw [hb]
      rfl
    · refine (P.hear n t 2 7 n m 0 1 (by decide) rfl T1 T2 F rfl hin rfl m rfl _ rfl).mono ?_
      rintro r w' ⟨rfl, p, -⟩
      exact ⟨rfl, p⟩
  · refine ⟨4, zB, zC, fun h => absurd h (by decide), fun w0 L g W P => ?_⟩
    refine (P.range n t 2 7 n m 0 1 (by decide) rfl T1 T2 F rfl (Or.inr hin)).mono ?_
    rintro r w' ⟨rfl, p, -⟩
    exact ⟨rfl, p⟩
set_option maxHeartbeats 4000000 in
set_option maxRecDepth 100000 in
theorem walk2 (c : Cfg) (D E L : Option Addr) (nd cd ne ce nl cl : Nat) (o1 o2 cr : Int) (w : World) (h : CM w c D E L nd cd ne ce nl cl) (hw1 : -2147483648 ≤ o1 ∧ o1 ≤ 2147483647) (hw2 : -2147483648 ≤ o2 ∧ o2 ≤ 2147483647) (hcr : 0 ≤ cr ∧ cr ≤ 4294967295) :
    Calls Try.prog 4 #[.agg #[.int .i64 c.hosts, .int .i64 c.cycle, .int .i64 c.delay, .int .i64 c.window, .int .i64 c.precision, .slice D nd cd, .slice E ne ce, .slice L nl cl, .int .i64 c.queue], .agg #[.int .i32 o1, .int .i32 o2], .int .u32 cr] w fun r w' => r = .returned (.bool true) ∧ Below w.heap.size w w' := by
  obtain ⟨n, rfl⟩ := Int.eq_ofNat_of_zero_le hcr.1
  obtain ⟨m, hm⟩ : ∃ m, n % 63 + 1 = m := ⟨_, rfl⟩
  have mb : 1 ≤ m ∧ m ≤ 63 := by omega
  have MB := Lib.hid mb
  have m1 : (n : Int) % 63 = (m : Int) - 1 := by omega
  have m2 : Int.tmod (n : Int) 63 = (m : Int) - 1 := by rw [Int.tmod_eq_emod_of_nonneg (by omega)]; exact m1
  have m3 : IntKind.u32.wrap ((m : Int) - 1 + 1) = (m : Int) := by rw [IntKind.wrap_u32]; omega
  have m4 : (m : Int) - 1 + 1 = (m : Int) := by omega
  have HW1 := Lib.hid hw1
  have HW2 := Lib.hid hw2
  have HM := Lib.hid h
  have S0 := Lib.hid (((Stay.start w).alloc (CB c D E L nd cd ne ce nl cl)).alloc (OB2 o1 o2))
  have bx := CX.start (w0 := w) (c := c) (D := D) (E := E) (L := L) (nd := nd) (cd := cd) (ne := ne) (ce := ce) (nl := nl) (cl := cl)
  have CXH := Lib.hid (bx.next (al (Below.refl _ _) (OB2 o1 o2)))
  clear bx hm hcr mb h hw1 hw2
  have q1 : (w.alloc (CB c D E L nd cd ne ce nl cl)).heap.size = w.heap.size + 1 := by simp
  rw [q1] at S0
  clear q1
  go_enter Try.func4, Try.ntmps4
  go_wp2_with fail
  refine (fixed_any _).mono ?_
  rintro r w1 ⟨rfl, b1⟩
  have S := Lib.hid (S0.out.next b1)
  have X := Lib.hid (CXH.out.next b1)
  clear b1 S0 CXH
  obtain ⟨-, a0, a1, a2, a3, a4, a5, a6, a7, a8⟩ := X.out.s
  by_cases hz : chk c = 0
  case neg =>
    have NB := Lib.hid (fun W (hX : CX w c D E L nd cd ne ce nl cl W) => new_bad c D E L nd cd ne ce nl cl W (hX.mem HM.out) hz)
    clear hz
    go_wp2_with fail
    refine (NB.out _ X.out).mono ?_
    rintro r w2 ⟨rfl, b2⟩
    have S2 := Lib.hid (S.out.next b2)
    have X2 := Lib.hid (X.out.next b2)
    clear b2 S X a0 a1 a2 a3 a4 a5 a6 a7 a8
    obtain ⟨-, a0, a1, a2, a3, a4, a5, a6, a7, a8⟩ := X2.out.s
    go_wp2_with fail
    refine (NB.out _ X2.out).mono ?_
    rintro r w3 ⟨rfl, b3⟩
    have S3 := Lib.hid (S2.out.next b3)
    clear b3 S2 X2 a0 a1 a2 a3 a4 a5 a6 a7 a8
    go_wp2
    go_ret
    exact ⟨rfl, S3.out.b⟩
  have HZ := Lib.hid hz
  clear hz
  go_wp2_with fail
  refine (new_ok c D E L nd cd ne ce nl cl _ (X.out.mem HM.out) HZ.out).mono ?_
  rintro r w2 ⟨g, rfl, h2, hg, b2⟩
  have P := Lib.hid (pa_new S.out HZ.out h2 hg b2)
  have X2 := Lib.hid (X.out.next b2)
  clear h2 hg b2 S X a0 a1 a2 a3 a4 a5 a6 a7 a8
  obtain ⟨-, a0, a1, a2, a3, a4, a5, a6, a7, a8⟩ := X2.out.s
  go_wp2_with fail
  refine (new_ok c D E L nd cd ne ce nl cl _ (X2.out.mem HM.out) HZ.out).mono ?_
  rintro r w3 ⟨h, rfl, h3, hh, b3⟩
  have T := Lib.hid (pt_new P.out h3 hh b3)
  clear h3 hh b3 P X2 a0 a1 a2 a3 a4 a5 a6 a7 a8 HM
  go_upto_region 8 with (fail)
  have T4 := Lib.hid (T.out.alloc (fbx 2 7 5 m 0))
  generalize w3.alloc (fbx 2 7 5 m 0) = w4 at *
  generalize w3.heap.size = q at *
  clear T m1 m2 m3 m4
  obtain ⟨V, hV⟩ : ∃ V, 5 * c.cycle + exC c = V := ⟨_, rfl⟩
  have sp := spans_ok HZ.out
  have eb : 0 ≤ exC c ∧ exC c ≤ 3145728 := (fit_of HZ.out).2.1
  have hv : expV c.cycle (exC c) 5 = V := by unfold expV; rw [if_pos (by omega)]; exact hV
  have EA := Lib.hid (fun W (t : PT w [(q, fbx 2 7 5 m 0), (w.heap.size + 1, OB2 o1 o2), (w.heap.size, CB c D E L nd cd ne ce nl cl)] g h c.cycle (exC c) (acC c) zB zC zB zC W) => t.p.exp 5 (by decide) V hv)
  have EB := Lib.hid (fun W (t : PT w [(q, fbx 2 7 5 m 0), (w.heap.size + 1, OB2 o1 o2), (w.heap.size, CB c D E L nd cd ne ce nl cl)] g h c.cycle (exC c) (acC c) zB zC zB zC W) => t.flip.p.exp 5 (by decide) V hv)
  have hw1 := HW1.out
  have hw2 := HW2.out
  have vb : 0 ≤ V ∧ V ≤ 5372000000 := by omega
  obtain ⟨A, hA⟩ : ∃ A, V + o1 = A := ⟨_, rfl⟩
  obtain ⟨Bb, hB⟩ : ∃ Bb, V + o2 = Bb := ⟨_, rfl⟩
  have g1 : IntKind.i64.wrap (V + o1) = A := by rw [IntKind.wrap_i64]; omega
  have g2 : IntKind.i64.wrap (V + o2) = Bb := by rw [IntKind.wrap_i64]; omega
  have g3 : IntKind.i64.wrap o1 = o1 := by rw [IntKind.wrap_i64]; omega
  have g4 : IntKind.i64.wrap o2 = o2 := by rw [IntKind.wrap_i64]; omega
  have HA := Lib.hid (show A ≤ 8000000000 by omega)
  have HB := Lib.hid (show Bb ≤ 8000000000 by omega)
  have HV := Lib.hid hV
  clear hv eb sp hw1 hw2 vb hA hB hV
  obtain ⟨d0, d1⟩ := cells2 (T4.out.p.st.at 2 rfl)
  go_upto_region 8 with (fail)
  apply wp_some (S := fun w' => PT w [(q, fbx 2 7 5 m 0), (w.heap.size + 1, OB2 o1 o2), (w.heap.size, CB c D E L nd cd ne ce nl cl)] g h c.cycle (exC c) (acC c) zB zC zB zC w')
  case h =>
    refine wp_region_noPanic ?_
    go_region_law (first
      | (go_at_call 9; (with_reducible refine (EA.out _ T4.out.drew).mono ?_); rintro r w5 ⟨rfl, p5, b5⟩; have T5 := Lib.hid (T4.out.drew.with p5); clear p5 b5; obtain ⟨x0, x1⟩ := cells2 (T5.out.p.st.at 2 rfl))
      | (go_simp; go_at_call 9; (with_reducible refine (EA.out _ T4.out.drew).mono ?_); rintro r w5 ⟨rfl, p5, b5⟩; have T5 := Lib.hid (T4.out.drew.with p5); clear p5 b5; obtain ⟨x0, x1⟩ := cells2 (T5.out.p.st.at 2 rfl))
      | (go_at_call 9; (with_reducible refine (EB.out _ T5.out).mono ?_); rintro r w6 ⟨rfl, p6, b6⟩; have T6 := Lib.hid (T5.out.withF p6); clear p6 b6; obtain ⟨y0, y1⟩ := cells2 (T6.out.p.st.at 2 rfl))
      | (go_simp; go_at_call 9; (with_reducible refine (EB.out _ T5.out).mono ?_); rintro r w6 ⟨rfl, p6, b6⟩; have T6 := Lib.hid (T5.out.withF p6); clear p6 b6; obtain ⟨y0, y1⟩ := cells2 (T6.out.p.st.at 2 rfl)))
    all_goals exact NoPanic.normal ⟨rfl, rfl, T6.out⟩
  case hm =>
  intro w7 h7
  have T7 := Lib.hid h7
  clear h7 d0 d1 T4 EB g1 g2 g3 g4
  by_cases nA : A < 0
  · clear HA HB HV MB
    go_wp2
    go_ret
    exact ⟨rfl, T7.out.p.st.b⟩
  by_cases nB : Bb < 0
  · clear HA HB HV MB
    go_wp2
    go_ret
    exact ⟨rfl, T7.out.p.st.b⟩
  have OA : okT A = true := okT_iff.2 (by have := HA.out; omega)
  have OB : okT Bb = true := okT_iff.2 (by have := HB.out; omega)
  have OF : okF 2 7 5 (m : Int) 0 = true := okF_iff.2 ⟨by have := MB.out; unfold rightC; omega, rfl, by decide, by have := MB.out; omega⟩
  obtain ⟨ga, B1, C1, ha, HA1⟩ := heard (y := c.cycle) (e := exC c) (a := acC c) 5 A m (by decide) OA OF
  obtain ⟨gb, B2, C2, hb, HB1⟩ := heard (y := c.cycle) (e := exC c) (a := acC c) 5 Bb m (by decide) OB OF
  have HHA := Lib.hid (fun W (t : PT w [(q, fbx 2 7 5 m 0), (w.heap.size + 1, OB2 o1 o2), (w.heap.size, CB c D E L nd cd ne ce nl cl)] g h c.cycle (exC c) (acC c) zB zC zB zC W) => HA1 _ _ _ W t.p)
  have HHB := Lib.hid (fun W (t : PT w [(q, fbx 2 7 5 m 0), (w.heap.size + 1, OB2 o1 o2), (w.heap.size, CB c D E L nd cd ne ce nl cl)] g h c.cycle (exC c) (acC c) B1 C1 zB zC W) => HB1 _ _ _ W t.flip.p)
  have ZA := Lib.hid ha
  have ZB := Lib.hid hb
  have NA := Lib.hid nA
  have NB := Lib.hid nB
  clear HA1 HB1 ha hb OA OB OF
  obtain ⟨d0, d1, d2, d3, d4⟩ := FrameW.cells5 (T7.out.p.st.at 1 rfl)
  go_upto_region 11 with (fail)
  clear nA nB
  apply wp_some (S := fun w' => PT w [(q, fbx 2 7 5 m 0), (w.heap.size + 1, OB2 o1 o2), (w.heap.size, CB c D E L nd cd ne ce nl cl)] g h c.cycle (exC c) (acC c) B1 C1 B2 C2 w')
  case h =>
    refine wp_region_noPanic ?_
    go_region_law (first
      | (go_at_call 12; (with_reducible refine (HHA.out _ T7.out.drew).mono ?_); rintro r w8 ⟨rfl, p8⟩; have T8 := Lib.hid (T7.out.drew.with p8); clear p8; obtain ⟨x0, x1, x2, x3, x4⟩ := FrameW.cells5 (T8.out.p.st.at 1 rfl))
      | (go_simp; go_at_call 12; (with_reducible refine (HHA.out _ T7.out.drew).mono ?_); rintro r w8 ⟨rfl, p8⟩; have T8 := Lib.hid (T7.out.drew.with p8); clear p8; obtain ⟨x0, x1, x2, x3, x4⟩ := FrameW.cells5 (T8.out.p.st.at 1 rfl))
      | (go_at_call 12; (with_reducible refine (HHB.out _ T8.out).mono ?_); rintro r w9 ⟨rfl, p9⟩; have T9 := Lib.hid (T8.out.withF p9); clear p9)
      | (go_simp; go_at_call 12; (with_reducible refine (HHB.out _ T8.out).mono ?_); rintro r w9 ⟨rfl, p9⟩; have T9 := Lib.hid (T8.out.withF p9); clear p9))
    all_goals exact NoPanic.normal ⟨rfl, rfl, T9.out⟩
  case hm =>
  intro w10 h10
  have T10 := Lib.hid h10
  clear h10 d0 d1 d2 d3 d4 T7 HHA HHB
  by_cases z1 : ga = 0
  case neg =>
    have e1 : (ga != 0) = true := by rw [bne_iff_ne]; exact z1
    clear z1 HA HB HV MB ZA ZB
    go_wp2
    go_ret
    exact ⟨rfl, T10.out.p.st.b⟩
  by_cases z2 : gb = 0
  case neg =>
    have e1 : (ga != 0) = false := by rw [z1]; rfl
    have e2 : (gb != 0) = true := by rw [bne_iff_ne]; exact z2
    clear z1 z2 HA HB HV MB ZA ZB
    go_wp2
    go_ret
    exact ⟨rfl, T10.out.p.st.b⟩
  have v1 := ZA.out z1
  have v2 := ZB.out z2
  subst z1
  subst z2
  clear ZA ZB
  obtain ⟨pA, hpA⟩ : ∃ pA, exC c - (A - 5 * c.cycle) = pA := ⟨_, rfl⟩
  obtain ⟨pB, hpB⟩ : ∃ pB, exC c - (Bb - 5 * c.cycle) = pB := ⟨_, rfl⟩
  rw [hpA] at v1
  rw [hpB] at v2
  obtain ⟨cA, hcA⟩ : ∃ cA, bsC C1 = cA := ⟨_, rfl⟩
  obtain ⟨cB, hcB⟩ : ∃ cB, bsC C2 = cB := ⟨_, rfl⟩
  obtain ⟨jA, hjA⟩ : ∃ jA, hrd C1 = jA := ⟨_, rfl⟩
  obtain ⟨jB, hjB⟩ : ∃ jB, hrd C2 = jB := ⟨_, rfl⟩
  have hV := HV.out
  have sp := (spans_ok HZ.out).1
  have eb : 0 ≤ exC c ∧ exC c ≤ 3145728 := (fit_of HZ.out).2.1
  have sA : A + pA = V := by omega
  have sB : Bb + pB = V := by omega
  have u1 : wrap64 (A + pA) = V := by rw [sA]; unfold wrap64; omega
  have u2 : wrap64 (Bb + pB) = V := by rw [sB]; unfold wrap64; omega
  have u3 : IntKind.i64.wrap (A + pA) = V := by rw [sA, IntKind.wrap_i64]; omega
  have u4 : IntKind.i64.wrap (Bb + pB) = V := by rw [sB, IntKind.wrap_i64]; omega
  have hv : expV c.cycle (exC c) 5 = V := by unfold expV; rw [if_pos (by omega)]; exact hV
  have KA := Lib.hid (T10.out.p.close pA cA jA v1 hcA hjA)
  have V2 := Lib.hid v2
  have C2H := Lib.hid hcB
  have J2H := Lib.hid hjB
  have HVV := Lib.hid hv
  clear v1 hcA hjA v2 hcB hjB hv hV sp eb sA sB hpA hpB EA
  go_wp2_with fail
  refine KA.out.mono ?_
  rintro r w11 ⟨rfl, p11, -⟩
  have T11 := Lib.hid (T10.out.with p11)
  clear p11 T10 KA
  have KB := Lib.hid (T11.out.flip.p.close pB cB jB V2.out C2H.out J2H.out)
  go_wp2_with fail
  refine KB.out.mono ?_
  rintro r w12 ⟨rfl, p12, -⟩
  have T12 := Lib.hid (T11.out.withF p12)
  clear p12 T11 KB V2 C2H J2H
  have KE := Lib.hid (T12.out.p.exp 5 (by decide) V HVV.out)
  go_wp2_with (go_at_call 9; refine KE.out.mono ?_; rintro r w13 ⟨rfl, p13, -⟩; have P13 := Lib.hid p13; clear p13)
  go_ret
  exact ⟨rfl, P13.out.st.b⟩
theorem walk (c : Cfg) (D E L : Option Addr) (nd cd ne ce nl cl : Nat) (xs : List Int) (cr : Int) (w : World) (h : CM w c D E L nd cd ne ce nl cl) (hl : xs.length = 2) (hw : ∀ x ∈ xs, (Lit.int .i32 x).wf = true) (hcr : 0 ≤ cr ∧ cr ≤ 4294967295) :
    Calls Try.prog 4 #[.agg #[.int .i64 c.hosts, .int .i64 c.cycle, .int .i64 c.delay, .int .i64 c.window, .int .i64 c.precision, .slice D nd cd, .slice E ne ce, .slice L nl cl, .int .i64 c.queue], .agg (xs.map (Value.int .i32)).toArray, .int .u32 cr] w fun r w' => r = .returned (.bool true) ∧ Below w.heap.size w w' := by
  obtain ⟨o1, o2, rfl⟩ := len2 hl
  exact walk2 c D E L nd cd ne ce nl cl o1 o2 cr w h (i32_wf (hw o1 (by simp))) (i32_wf (hw o2 (by simp))) hcr
set_option maxRecDepth 100000 in
/-- What the walk gives, for every argument and every world. -/
theorem contract (H : Type) (enc : TypeId × Value → H) (W : World) (base : Nat) (args : Array Value) (ds gs : List (DataW H)) (before : List MemPlace)
    (hval : ∀ (j : Nat) t v, Try.f4.params[j]? = some t → args[j]? = some v → Value.okWide Try.prog W .any base t v)
    (hW : DataW.Whole enc Try.prog Try.f4.params.toList Rows.alignTogetherSpec.vars false W args.toList ds gs before) : 
    Calls Try.prog 4 args W fun e W' => ∃ v, e = .returned v ∧ Rows.alignTogetherSpec.post enc Try.prog Try.f4 false true false false W args v W' := by
  have hW' := hW
  obtain ⟨p, q, hA0, hV, rfl, hfz, hnd⟩ := hW
  have hA : DataW.TrodAll enc Try.prog W 0 (fun _ => true) true Try.f4.params.toList args.toList ds p := hA0
  rw [Try.params4] at hA hval
  obtain ⟨v0, vs0, d0, ds0, p0, q0, hargs, rfl, rfl, h0, r0⟩ := trodAll_cons hA
  obtain ⟨v1, vs1, d1, ds1, p1, q1, rfl, rfl, rfl, h1, r1⟩ := trodAll_cons r0
  obtain ⟨v2, vs2, d2, ds2, p2, q2, rfl, rfl, rfl, h2, r2⟩ := trodAll_cons r1
  obtain ⟨rfl, rfl, rfl⟩ := trodAll_nil r2
  obtain rfl : args = #[v0, v1, v2] := by cases args; simp_all
  obtain ⟨rfl, rfl⟩ := trodVars_none hV
  obtain ⟨c0, D0, E0, L0, nd0, cd0, ne0, ce0, nl0, cl0, rfl, m0, s0⟩ := open_cfg (hval 0 26 v0 rfl rfl) h0
  obtain ⟨xs1, rfl, l1, w1⟩ := open_array Try.underlying42 Try.underlying21 (by kernel_rfl) (by kernel_rfl) (hval 1 42 v1 rfl rfl) h1
  obtain ⟨crew, rfl, rfl, rfl, w2⟩ := open_int Try.underlying27 (hval 2 27 v2 rfl rfl) h2
  refine (walk c0 D0 E0 L0 nd0 cd0 ne0 ce0 nl0 cl0 xs1 crew W m0 l1 w1 (u32_wf w2)).mono fun e W' ⟨he, hb⟩ => ?_
  exact ⟨_, he, Shell.post_law laidOut (by kernel_rfl) rfl Try.underlying4 rfl hW' rfl hb⟩
theorem reads (os : Os) {H : Type} (enc : TypeId × Value → H) : ∃ places, DataW.whole enc Try.prog ((World.holding Try.prog os ⟨#[], #[], []⟩).forCall (fun _ _ => 0) ⟨#[], #[.agg #[.int .i64 0, .int .i64 0, .int .i64 0, .int .i64 0, .int .i64 0, .slice none 0 0, .slice none 0 0, .slice none 0 0, .int .i64 0], .agg #[.int .i32 0, .int .i32 0], .int .u32 0], []⟩).memory Try.f4.params.toList Rows.alignTogetherSpec.vars false (#[Value.agg #[.int .i64 0, .int .i64 0, .int .i64 0, .int .i64 0, .int .i64 0, .slice none 0 0, .slice none 0 0, .slice none 0 0, .int .i64 0], Value.agg #[.int .i32 0, .int .i32 0], Value.int .u32 0]).toList 8 = some ([.agg [.lit (.int .i64 0), .lit (.int .i64 0), .lit (.int .i64 0), .lit (.int .i64 0), .lit (.int .i64 0), .nil, .nil, .nil, .lit (.int .i64 0)], .agg [.lit (.int .i32 0), .lit (.int .i32 0)], .lit (.int .u32 0)], [], places) :=
  ⟨[], by kernel_rfl⟩
set_option maxRecDepth 100000 in
theorem lifted (os : Os) (started : os.Started) (H : Type) (enc : TypeId × Value → H) (F : Stop.Interp) :
    ReturnsInHanded {} Try.checked os 4 .any ((OpenSpec.ofChange Rows.alignTogetherSpec).preRow enc Try.prog Try.f4 Rows.alignTogetherRow.domain false Rows.alignTogetherRow.laid) (((OpenSpec.ofChange Rows.alignTogetherSpec).at F).post enc Try.prog Try.f4 false true false false) := by
  obtain ⟨places, hx⟩ := reads os enc
  refine returnsInHanded_of_row (C := Try.checked) (s := OpenSpec.ofChange Rows.alignTogetherSpec) own started (by kernel_rfl) Try.func4
    (witness_row_atRef (enc := enc) (C := Try.checked) false (World.holding Try.prog os ⟨#[], #[], []⟩) #[.agg #[.int .i64 0, .int .i64 0, .int .i64 0, .int .i64 0, .int .i64 0, .slice none 0 0, .slice none 0 0, .slice none 0 0, .int .i64 0], .agg #[.int .i32 0, .int .i32 0], .int .u32 0] rfl (by kernel_rfl) (by kernel_rfl) (by kernel_rfl)
      (OpenSpec.preRow_of_cond 8 hx (by kernel_rfl) (fun k hk => by cases hk) (by kernel_rfl) (laid_met os _))) ?_
  intro W base args ds gs before hval hW _ _ _ hL _ _
  exact contract H enc W base args ds gs before hval hW
theorem said : Rows.AlignTogetherSaid :=
  OpenClaim.holds_of_cond 4 Try.f4 rfl rfl rfl rfl rfl rfl rfl ⟨rfl, rfl, rfl, rfl, rfl⟩ rfl rfl rfl rfl rfl (by kernel_rfl) Try.func4 (by kernel_rfl)
    (of_decide_eq_true (by kernel_rfl)) (by unfold Func.isWrapper; first | (rw [if_pos (by decide +kernel)]; kernel_rfl) | (rw [if_neg (by decide +kernel)]; exact ⟨rfl, rfl⟩))
    (fun os started H enc _ F => by rw [OpenClaim.pre_eq_preRow]; exact lifted os started H enc F)
end Go.Proofs.Ytpdcdnklmoaokaa.AlignW.AlignTogether
