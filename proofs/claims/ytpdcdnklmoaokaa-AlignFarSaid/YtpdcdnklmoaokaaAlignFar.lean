/- The law AlignFar: a frame of another cycle, or of no host, is not heard, and a second one of the same switch neither; what was heard stays: for all cycles and crews. No condition. -/
import Derived.Test.YtpdcdnklmoaokaaAlignFixed
namespace Go.Proofs.Ytpdcdnklmoaokaa.AlignW.AlignFar
open Go.ChangeShapes Go.WideShapes Go.ChangeAt Go.RowKit AlignW Shell
open FrameW (CV rightC)
abbrev fbx (k f y : Int) (c : Nat) (l : Int) : Obj := .cells #[.int .i64 k, .int .i64 f, .int .i64 y, .int .u32 (c : Int), .int .i64 l] 38 (0, 0)
abbrev fbz (ot : Int) : Obj := .cells #[.int .i64 2, .int .i64 7, .int .i64 ot, .int .u32 0, .int .i64 0] 38 (0, 0)
theorem frozen5 {w : World} {j : Nat} {v0 v1 v2 v3 v4 : Value} {t : TypeId} (h : w.heap[j]? = some (.cells #[v0, v1, v2, v3, v4] t (0, 0))) : w.frozen? ⟨j, 1, none⟩ = false ∧ w.frozen? ⟨j, 2, none⟩ = false ∧ w.frozen? ⟨j, 3, none⟩ = false :=
  ⟨frozen_of_row w j 1 _ _ h, frozen_of_row w j 2 _ _ h, frozen_of_row w j 3 _ _ h⟩
/-- A box beside the Align has turned. -/
theorem turnL {w0 w w1 : World} {L : List (Nat × Obj)} {g q : Nat} {o o' : Obj} {y e a : Int} {B : Nat → Int} {C : Nat → Nat} (P : PA w0 ((q, o) :: L) g y e a B C w) (k : Kept q w w1) (h : w1.heap[q]? = some o') (hq : w0.heap.size ≤ q) (hL : ∀ x ∈ L, x.1 ≠ q) : PA w0 ((q, o') :: L) g y e a B C w1 :=
  ⟨P.st.turn k h hq hL, (k.block g (fun e => P.gl _ List.mem_cons_self e.symm) (lt_of_heap P.box)).trans P.box, P.fit, P.low, P.nul, P.g0, fun x hx => by
    rcases List.mem_cons.1 hx with rfl | hx
    · exact (P.gl (q, o) List.mem_cons_self : q ≠ g)
    · exact P.gl x (List.mem_cons_of_mem _ hx)⟩
set_option maxHeartbeats 4000000 in
set_option maxRecDepth 100000 in
theorem walk (cy ot cr : Int) (w : World) (hcy : 0 ≤ cy ∧ cy ≤ 255) (hot : 0 ≤ ot ∧ ot ≤ 255) (hcr : 0 ≤ cr ∧ cr ≤ 4294967295) :
    Calls Try.prog 6 #[.int .u8 cy, .int .u8 ot, .int .u32 cr] w fun r w' => r = .returned (.bool true) ∧ Below w.heap.size w w' := by
  obtain ⟨n, rfl⟩ := Int.eq_ofNat_of_zero_le hcr.1
  obtain ⟨m, hm⟩ : ∃ m, n % 63 + 1 = m := ⟨_, rfl⟩
  have mb : 1 ≤ m ∧ m ≤ 63 := by omega
  have MB := Lib.hid mb
  have m1 : (n : Int) % 63 = (m : Int) - 1 := by omega
  have m2 : Int.tmod (n : Int) 63 = (m : Int) - 1 := by rw [Int.tmod_eq_emod_of_nonneg (by omega)]; exact m1
  have m3 : IntKind.u32.wrap ((m : Int) - 1 + 1) = (m : Int) := by rw [IntKind.wrap_u32]; omega
  have m4 : (m : Int) - 1 + 1 = (m : Int) := by omega
  have y1 : IntKind.i64.wrap cy = cy := by rw [IntKind.wrap_i64]; omega
  have y2 : wrap64 cy = cy := by unfold wrap64; omega
  have z1 : IntKind.i64.wrap ot = ot := by rw [IntKind.wrap_i64]; omega
  have z2 : wrap64 ot = ot := by unfold wrap64; omega
  obtain ⟨V, hV⟩ : ∃ V, cy * 2000000 + 5000 = V := ⟨_, rfl⟩
  have hv : expV 2000000 5000 cy = V := by unfold expV; rw [if_pos (by omega)]; exact hV
  have s1 : IntKind.i64.wrap (V - 7) = V - 7 := by rw [IntKind.wrap_i64]; omega
  have OK : okT cy = true := okT_iff.2 (by omega)
  have OV : okT V = true := okT_iff.2 (by omega)
  have OV7 : okT (V - 7) = true := okT_iff.2 (by omega)
  have OF : okF 2 6 cy (m : Int) 0 = true := okF_iff.2 ⟨by unfold rightC; omega, rfl, by decide, by omega⟩
  have OG : okF 2 7 ot (m : Int) 0 = true := okF_iff.2 ⟨by unfold rightC; omega, rfl, by decide, by omega⟩
  have OZ : okF 2 7 ot 0 0 = false := by unfold okF; simp
  have I7 : inT 2000000 5000 2000 cy (V - 7) := by unfold inT; omega
  have IV : inT 2000000 5000 2000 cy V := by unfold inT; omega
  have W7 : (5000 : Int) - (V - 7 - cy * 2000000) = 7 := by omega
  have WV : (5000 : Int) - (V - cy * 2000000) = 0 := by omega
  have EX := Lib.hid (fun w0 L g B C W (P : PA w0 L g 2000000 5000 2000 B C W) => P.exp cy (by omega) V hv)
  have H1 := Lib.hid (fun w0 L g W (P : PA w0 L g 2000000 5000 2000 zB zC W) => P.hear cy (V - 7) 2 6 cy m 0 0 (by decide) rfl OK OV7 OF rfl I7 rfl m rfl 7 W7)
  have H2 := Lib.hid (fun w0 L g W (P : PA w0 L g 2000000 5000 2000 (upd zB 0 7) (upd zC 0 m) W) => P.there cy V 2 6 cy m 0 0 (by decide) rfl OK OV OF (by show m ≠ 0; omega))
  have H3 := Lib.hid (fun (he : ot = cy) w0 L g W (P : PA w0 L g 2000000 5000 2000 (upd zB 0 7) (upd zC 0 m) W) => P.hear cy V 2 7 ot m 0 1 (by decide) rfl OK OV OG rfl IV he m rfl 0 WV)
  have H4 := Lib.hid (fun (he : ot ≠ cy) w0 L g W (P : PA w0 L g 2000000 5000 2000 (upd zB 0 7) (upd zC 0 m) W) => P.range cy V 2 7 ot m 0 1 (by decide) rfl OK OV OG rfl (Or.inl he))
  have H5 := Lib.hid (fun w0 L g W (P : PA w0 L g 2000000 5000 2000 (upd zB 0 7) (upd zC 0 m) W) => P.arg cy V 2 7 ot 0 0 (by decide) (Or.inr (Or.inr OZ)))
  clear hv OK OV OV7 OF OG OZ I7 IV W7 WV hV hm mb hcr hcy hot
  go_enter Try.func6, Try.ntmps6
  go_wp2_with fail
  refine (fixed_any _).mono ?_
  rintro r w1 ⟨rfl, b1⟩
  have S := Lib.hid ((Stay.start w).next b1)
  clear b1
  go_wp2_with fail
  refine (fam_any 3 0 _).mono ?_
  rintro r w2 ⟨c, D, E, nd, cd, ne, ce, rfl, hm, hc, b2⟩
  have HM := Lib.hid hm
  have HC := Lib.hid hc
  have S2 := Lib.hid (S.out.next b2)
  clear hm hc b2 S
  go_wp2_with fail
  refine (new_ok c D E none nd cd ne ce 0 0 _ HM.out HC.out.1).mono ?_
  rintro r w3 ⟨g, rfl, h3, hg, b3⟩
  have P := Lib.hid (fam_new HC.out S2.out h3 hg b3)
  clear h3 hg b3 HM HC S2
  go_upto_region 6 with (fail)
  have P4 := Lib.hid (P.out.alloc (fbx 2 6 cy m 0))
  have Q0 := Lib.hid (P.out.st.b.size)
  generalize w3.alloc (fbx 2 6 cy m 0) = w4 at *
  generalize w3.heap.size = q at *
  clear P m1 m2 m3 m4
  obtain ⟨d0, d1, d2, d3, d4⟩ := FrameW.cells5 (P4.out.st.at 0 rfl)
  go_upto_region 6 with (fail)
  apply wp_some (S := fun w' => PA w [(q, fbx 2 6 cy m 0)] g 2000000 5000 2000 (upd zB 0 7) (upd zC 0 m) w')
  case h =>
    refine wp_region_noPanic ?_
    go_region_law (first
      | (go_at_call 9; (with_reducible refine (EX.out _ _ _ _ _ _ P4.out.drew).mono ?_); rintro r w5 ⟨rfl, p5, -⟩; have P5 := Lib.hid p5; clear p5; obtain ⟨x0, x1, x2, x3, x4⟩ := FrameW.cells5 (P5.out.st.at 0 rfl))
      | (go_simp; go_at_call 9; (with_reducible refine (EX.out _ _ _ _ _ _ P4.out.drew).mono ?_); rintro r w5 ⟨rfl, p5, -⟩; have P5 := Lib.hid p5; clear p5; obtain ⟨x0, x1, x2, x3, x4⟩ := FrameW.cells5 (P5.out.st.at 0 rfl))
      | (go_at_call 12; (with_reducible refine (H1.out _ _ _ _ P5.out).mono ?_); rintro r w6 ⟨rfl, p6, -⟩; have P6 := Lib.hid p6; clear p6; obtain ⟨y0, y1, y2, y3, y4⟩ := FrameW.cells5 (P6.out.st.at 0 rfl))
      | (go_simp; go_at_call 12; (with_reducible refine (H1.out _ _ _ _ P5.out).mono ?_); rintro r w6 ⟨rfl, p6, -⟩; have P6 := Lib.hid p6; clear p6; obtain ⟨y0, y1, y2, y3, y4⟩ := FrameW.cells5 (P6.out.st.at 0 rfl))
      | (go_at_call 9; (with_reducible refine (EX.out _ _ _ _ _ _ P6.out).mono ?_); rintro r w7 ⟨rfl, p7, -⟩; have P7 := Lib.hid p7; clear p7; obtain ⟨u0, u1, u2, u3, u4⟩ := FrameW.cells5 (P7.out.st.at 0 rfl))
      | (go_simp; go_at_call 9; (with_reducible refine (EX.out _ _ _ _ _ _ P6.out).mono ?_); rintro r w7 ⟨rfl, p7, -⟩; have P7 := Lib.hid p7; clear p7; obtain ⟨u0, u1, u2, u3, u4⟩ := FrameW.cells5 (P7.out.st.at 0 rfl))
      | (go_at_call 12; (with_reducible refine (H2.out _ _ _ _ P7.out).mono ?_); rintro r w8 ⟨rfl, p8, -⟩; have P8 := Lib.hid p8; clear p8)
      | (go_simp; go_at_call 12; (with_reducible refine (H2.out _ _ _ _ P7.out).mono ?_); rintro r w8 ⟨rfl, p8, -⟩; have P8 := Lib.hid p8; clear p8))
    all_goals exact NoPanic.normal ⟨rfl, rfl, P8.out⟩
  case hm =>
  intro w9 h9
  have P9 := Lib.hid h9
  clear h9 d0 d1 d2 d3 d4 P4 H1 H2 s1
  obtain ⟨d0, d1, d2, d3, d4⟩ := FrameW.cells5 (P9.out.st.at 0 rfl)
  have QS := Lib.hid P9.out.st.b.size
  go_upto_region 9 with (fail)
  have P10 := Lib.hid ((P9.out.alloc (fbx 2 6 cy m 0)).sub (M := [(w9.heap.size, fbx 2 6 cy m 0)]) (fun x hx => by
    rcases List.mem_cons.1 hx with rfl | hx
    · exact List.mem_cons_self
    · cases hx))
  generalize w9.alloc (fbx 2 6 cy m 0) = w10 at *
  generalize w9.heap.size = u at *
  clear P9 d0 d1 d2 d3 d4
  obtain ⟨d0, d1, d2, d3, d4⟩ := FrameW.cells5 (P10.out.st.at 0 rfl)
  obtain ⟨f1, f2, f3⟩ := frozen5 (P10.out.st.at 0 rfl)
  go_upto_region 10 with (fail)
  have K10 := kept2 w10 u 1 2 (.int .i64 7) (.int .i64 ot)
  have B10 : ((w10.setCell ⟨u, 1, none⟩ (.int .i64 7)).setCell ⟨u, 2, none⟩ (.int .i64 ot)).heap[u]? = some (fbx 2 7 ot m 0) := heap_setCell_same _ u 2 _ _ _ (heap_setCell_same w10 u 1 _ _ _ (P10.out.st.at 0 rfl))
  have US := Lib.hid (QS.out)
  have P11 := Lib.hid (turnL P10.out K10 B10 US.out (fun x hx => by cases hx))
  clear K10 B10 QS
  generalize (w10.setCell ⟨u, 1, none⟩ (.int .i64 7)).setCell ⟨u, 2, none⟩ (.int .i64 ot) = w11 at *
  clear P10 d0 d1 d2 d3 d4 f1 f2 f3
  obtain ⟨d0, d1, d2, d3, d4⟩ := FrameW.cells5 (P11.out.st.at 0 rfl)
  by_cases he : ot = cy
  · have e1 : (ot == cy) = true := by rw [he]; exact beq_self_eq_true cy
    have e2 : (ot != cy) = false := by rw [he]; exact bne_self_eq_false cy
    have HH := Lib.hid (H3.out he)
    clear he H3 H4
    apply wp_some (S := fun w' => PA w [(u, fbx 2 7 ot m 0)] g 2000000 5000 2000 (upd (upd zB 0 7) 1 0) (upd (upd zC 0 m) 1 m) w')
    case h =>
      refine wp_region_noPanic ?_
      go_region_law (first
        | (go_at_call 9; (with_reducible refine (EX.out _ _ _ _ _ _ P11.out.drew).mono ?_); rintro r w12 ⟨rfl, p12, -⟩; have P12 := Lib.hid p12; clear p12; obtain ⟨x0, x1, x2, x3, x4⟩ := FrameW.cells5 (P12.out.st.at 0 rfl))
        | (go_simp; go_at_call 9; (with_reducible refine (EX.out _ _ _ _ _ _ P11.out.drew).mono ?_); rintro r w12 ⟨rfl, p12, -⟩; have P12 := Lib.hid p12; clear p12; obtain ⟨x0, x1, x2, x3, x4⟩ := FrameW.cells5 (P12.out.st.at 0 rfl))
        | (go_at_call 12; (with_reducible refine (HH.out _ _ _ _ P12.out).mono ?_); rintro r w13 ⟨rfl, p13, -⟩; have P13 := Lib.hid p13; clear p13)
        | (go_simp; go_at_call 12; (with_reducible refine (HH.out _ _ _ _ P12.out).mono ?_); rintro r w13 ⟨rfl, p13, -⟩; have P13 := Lib.hid p13; clear p13))
      all_goals exact NoPanic.normal ⟨rfl, rfl, P13.out⟩
    case hm =>
    intro w14 h14
    have P14 := Lib.hid h14
    clear h14 d0 d1 d2 d3 d4 P11 HH
    obtain ⟨d0, d1, d2, d3, d4⟩ := FrameW.cells5 (P14.out.st.at 0 rfl)
    obtain ⟨f1, f2, f3⟩ := frozen5 (P14.out.st.at 0 rfl)
    go_upto_region 14 with (fail)
    have K14 := kept1 w14 u 3 (.int .u32 0)
    have B14 : (w14.setCell ⟨u, 3, none⟩ (.int .u32 0)).heap[u]? = some (fbz ot) := heap_setCell_same w14 u 3 _ _ _ (P14.out.st.at 0 rfl)
    have P15 := Lib.hid (turnL P14.out K14 B14 US.out (fun x hx => by cases hx))
    clear K14 B14
    generalize w14.setCell ⟨u, 3, none⟩ (.int .u32 0) = w15 at *
    clear P14 d0 d1 d2 d3 d4 f1 f2 f3
    obtain ⟨d0, d1, d2, d3, d4⟩ := FrameW.cells5 (P15.out.st.at 0 rfl)
    go_region
    have P18 := Lib.hid P15.out.drew
    clear d0 d1 d2 d3 d4 P15
    have BT : bet (upd (upd zC 0 m) 1 m) = false := decide_eq_false (Nat.lt_irrefl _)
    have M0 : m ≠ 0 := by have := MB.out; omega
    have C1 := Lib.hid (P18.out.close 7 m 2 (by unfold bsB; rw [BT]; rfl) (by unfold bsC; rw [BT]; rfl) (by show (if m = 0 then 0 else 1) + _ = _; rw [if_neg M0]; show 1 + (if m = 0 then 0 else 1) = _; rw [if_neg M0]))
    clear BT M0
    go_wp2_with fail
    refine C1.out.mono ?_
    rintro r w19 ⟨rfl, p19, -⟩
    have P19 := Lib.hid p19
    clear p19 C1 P18
    have C2 := Lib.hid (P19.out.close 0 0 0 (by decide +kernel) (by decide +kernel) (by decide +kernel))
    go_wp2_with fail
    refine C2.out.mono ?_
    rintro r w20 ⟨rfl, p20, -⟩
    have P20 := Lib.hid p20
    clear p20 C2 P19
    go_wp2
    go_ret
    exact ⟨rfl, P20.out.st.b⟩
  · have e1 : (ot == cy) = false := by rw [beq_eq_false_iff_ne]; exact he
    have e2 : (ot != cy) = true := by rw [bne_iff_ne]; exact he
    have HH := Lib.hid (H4.out he)
    clear he H3 H4
    apply wp_some (S := fun w' => PA w [(u, fbx 2 7 ot m 0)] g 2000000 5000 2000 (upd zB 0 7) (upd zC 0 m) w')
    case h =>
      refine wp_region_noPanic ?_
      go_region_law (first
        | (go_at_call 9; (with_reducible refine (EX.out _ _ _ _ _ _ P11.out.drew).mono ?_); rintro r w12 ⟨rfl, p12, -⟩; have P12 := Lib.hid p12; clear p12; obtain ⟨x0, x1, x2, x3, x4⟩ := FrameW.cells5 (P12.out.st.at 0 rfl))
        | (go_simp; go_at_call 9; (with_reducible refine (EX.out _ _ _ _ _ _ P11.out.drew).mono ?_); rintro r w12 ⟨rfl, p12, -⟩; have P12 := Lib.hid p12; clear p12; obtain ⟨x0, x1, x2, x3, x4⟩ := FrameW.cells5 (P12.out.st.at 0 rfl))
        | (go_at_call 12; (with_reducible refine (HH.out _ _ _ _ P12.out).mono ?_); rintro r w13 ⟨rfl, p13, -⟩; have P13 := Lib.hid p13; clear p13)
        | (go_simp; go_at_call 12; (with_reducible refine (HH.out _ _ _ _ P12.out).mono ?_); rintro r w13 ⟨rfl, p13, -⟩; have P13 := Lib.hid p13; clear p13))
      all_goals exact NoPanic.normal ⟨rfl, rfl, P13.out⟩
    case hm =>
    intro w14 h14
    have P14 := Lib.hid h14
    clear h14 d0 d1 d2 d3 d4 P11 HH
    obtain ⟨d0, d1, d2, d3, d4⟩ := FrameW.cells5 (P14.out.st.at 0 rfl)
    obtain ⟨f1, f2, f3⟩ := frozen5 (P14.out.st.at 0 rfl)
    go_upto_region 14 with (fail)
    have K14 := kept1 w14 u 3 (.int .u32 0)
    have B14 : (w14.setCell ⟨u, 3, none⟩ (.int .u32 0)).heap[u]? = some (fbz ot) := heap_setCell_same w14 u 3 _ _ _ (P14.out.st.at 0 rfl)
    have P15 := Lib.hid (turnL P14.out K14 B14 US.out (fun x hx => by cases hx))
    clear K14 B14
    generalize w14.setCell ⟨u, 3, none⟩ (.int .u32 0) = w15 at *
    clear P14 d0 d1 d2 d3 d4 f1 f2 f3
    obtain ⟨d0, d1, d2, d3, d4⟩ := FrameW.cells5 (P15.out.st.at 0 rfl)
    apply wp_some (S := fun w' => PA w [(u, fbz ot)] g 2000000 5000 2000 (upd zB 0 7) (upd zC 0 m) w')
    case h =>
      refine wp_region_noPanic ?_
      refine wp_region_held_drew (S := fun W : World => PA w [(u, fbz ot)] g 2000000 5000 2000 (upd zB 0 7) (upd zC 0 m) W) (by kernel_rfl) (P15.out.drew) (fun hHeld => ?_)
      refine wpAnyH_take (i := 0) (oi := ⟨(some 80), _, _, _, _, _⟩) (v := ?_) rfl (by kernel_rfl) (by kernel_rfl) (by kernel_rfl) (fun _ _ _ h => h) (Or.inl ⟨by kernel_rfl, ?_⟩) (by assumption) ?_; rotate_left; (focus (intro w hSw; (try dsimp only at hSw); go_simp; (try with_reducible rfl)))
      simp only [Act.put, List.setIfInBounds_toArray, List.set_cons_zero, List.set_cons_succ]
      refine wpAnyH_take (i := 1) (oi := ⟨(some 81), _, _, _, _, _⟩) (v := ?_) rfl (by kernel_rfl) (by kernel_rfl) (by kernel_rfl) (fun _ _ _ h => h) (Or.inl ⟨by kernel_rfl, ?_⟩) (by assumption) ?_; rotate_left; (focus (intro w hSw; (try dsimp only at hSw); go_simp; (try with_reducible rfl)))
      simp only [Act.put, List.setIfInBounds_toArray, List.set_cons_zero, List.set_cons_succ]
      refine wpAnyH_take (i := 2) (oi := ⟨(some 82), _, _, _, _, _⟩) (v := ?_) rfl (by kernel_rfl) (by kernel_rfl) (by kernel_rfl) (fun _ _ _ h => h) (Or.inl ⟨by kernel_rfl, ?_⟩) (by assumption) ?_; rotate_left; (focus (intro w hSw; (try dsimp only at hSw); go_simp; (try with_reducible rfl)))
      simp only [Act.put, List.setIfInBounds_toArray, List.set_cons_zero, List.set_cons_succ]
      refine wpAnyH_take (i := 3) (oi := ⟨(some 83), _, _, _, _, _⟩) (v := ?_) rfl (by kernel_rfl) (by kernel_rfl) (by kernel_rfl) (fun _ _ _ h => h) (Or.inl ⟨by kernel_rfl, ?_⟩) (by assumption) ?_; rotate_left; (focus (intro w hSw; (try dsimp only at hSw); go_simp; (try with_reducible rfl)))
      simp only [Act.put, List.setIfInBounds_toArray, List.set_cons_zero, List.set_cons_succ]
      refine wpAnyH_take (i := 4) (oi := ⟨(some 84), _, _, _, _, _⟩) (v := ?_) rfl (by kernel_rfl) (by kernel_rfl) (by kernel_rfl) (fun _ _ _ h => h) (Or.inl ⟨by kernel_rfl, ?_⟩) (by assumption) ?_; rotate_left; (focus (intro w hSw; (try dsimp only at hSw); go_simp; (try with_reducible rfl)))
      simp only [Act.put, List.setIfInBounds_toArray, List.set_cons_zero, List.set_cons_succ]
      refine wpAnyH_take (i := 5) (oi := ⟨(some 85), _, _, _, _, _⟩) (v := ?_) rfl (by kernel_rfl) (by kernel_rfl) (by kernel_rfl) (fun _ _ _ h => h) (Or.inl ⟨by kernel_rfl, ?_⟩) (by assumption) ?_; rotate_left; (focus (intro w hSw; (try dsimp only at hSw); go_simp; (try with_reducible rfl)))
      simp only [Act.put, List.setIfInBounds_toArray, List.set_cons_zero, List.set_cons_succ]
      refine wpAnyH_take (i := 6) (oi := ⟨(some 86), _, _, _, _, _⟩) (v := ?_) rfl (by kernel_rfl) (by kernel_rfl) (by kernel_rfl) (fun _ _ _ h => h) (Or.inl ⟨by kernel_rfl, ?_⟩) (by assumption) ?_; rotate_left; (focus (intro w hSw; (try dsimp only at hSw); go_simp; (try with_reducible rfl)))
      simp only [Act.put, List.setIfInBounds_toArray, List.set_cons_zero, List.set_cons_succ]
      refine wpAnyH_take (i := 7) (oi := ⟨(some 87), _, _, _, _, _⟩) (v := ?_) rfl (by kernel_rfl) (by kernel_rfl) (by kernel_rfl) (fun _ _ _ h => h) (Or.inl ⟨by kernel_rfl, ?_⟩) (by assumption) ?_; rotate_left; (focus (intro w hSw; (try dsimp only at hSw); go_simp; (try with_reducible rfl)))
      simp only [Act.put, List.setIfInBounds_toArray, List.set_cons_zero, List.set_cons_succ]
      refine wpAnyH_take (i := 9) (oi := ⟨(some 89), _, _, _, _, _⟩) (v := ?_) rfl (by kernel_rfl) (by kernel_rfl) (by kernel_rfl) (fun _ _ _ h => h) (Or.inl ⟨by kernel_rfl, ?_⟩) (by assumption) ?_; rotate_left; (focus (intro w hSw; (try dsimp only at hSw); obtain ⟨x0, x1, x2, x3, x4⟩ := FrameW.cells5 (Stay.at (PA.st hSw) 0 rfl); go_simp; (try with_reducible rfl)))
      simp only [Act.put, List.setIfInBounds_toArray, List.set_cons_zero, List.set_cons_succ]
      refine wpAnyH_ready (rs := [8]) (by kernel_rfl) (by simp) ?_
      refine AllReadyH.cons (o := ⟨(some 88), _, _, _, _, _⟩) rfl (fun K hK => ?_) AllReadyH.nil
      rw [if_pos (by kernel_rfl)]
      go_simp
      go_at_call 9; refine (EX.out _ _ _ _ _ _ hHeld).mono ?_; rintro r w16 ⟨rfl, p16, -⟩
      go_simp
      refine hK.out _ _ (by assumption) (fun hHeld => ?_)
      clear hK K
      refine wpAnyH_ready (rs := [10]) (by kernel_rfl) (by simp) ?_
      refine AllReadyH.cons (o := ⟨(some 90), _, _, _, _, _⟩) rfl (fun K hK => ?_) AllReadyH.nil
      rw [if_pos (by kernel_rfl)]
      go_simp
      go_at_call 12; refine (H5.out _ _ _ _ hHeld).mono ?_; rintro r w17 ⟨rfl, p17, -⟩
      go_simp
      refine hK.out _ _ (by assumption) (fun hHeld => ?_)
      clear hK K
      refine wpAnyH_take (i := 11) (oi := ⟨(some 91), _, _, _, _, _⟩) (v := ?_) rfl (by kernel_rfl) (by kernel_rfl) (by kernel_rfl) (fun _ _ _ h => h) (Or.inl ⟨by kernel_rfl, ?_⟩) (by assumption) ?_; rotate_left; (focus (intro w hSw; (try dsimp only at hSw); go_simp; (try with_reducible rfl)))
      simp only [Act.put, List.setIfInBounds_toArray, List.set_cons_zero, List.set_cons_succ]
      refine wpAnyH_take (i := 12) (oi := ⟨(some 92), _, _, _, _, _⟩) (v := ?_) rfl (by kernel_rfl) (by kernel_rfl) (by kernel_rfl) (fun _ _ _ h => h) (Or.inl ⟨by kernel_rfl, ?_⟩) (by assumption) ?_; rotate_left; (focus (intro w hSw; (try dsimp only at hSw); go_simp; (try with_reducible rfl)))
      simp only [Act.put, List.setIfInBounds_toArray, List.set_cons_zero, List.set_cons_succ]
      refine wpAnyH_done (by kernel_rfl) ?_ _
      exact NoPanic.normal ⟨rfl, rfl, hHeld⟩
    case hm =>
    intro w18 h18
    have P18 := Lib.hid h18
    clear h18
    clear d0 d1 d2 d3 d4 P15
    have BT : bet (upd zC 0 m) = false := decide_eq_false (by show ¬ (CrewW.mem m).length < (CrewW.mem 0).length; rw [mem_zero]; omega)
    have M0 : m ≠ 0 := by have := MB.out; omega
    have C1 := Lib.hid (P18.out.close 7 m 1 (by unfold bsB; rw [BT]; rfl) (by unfold bsC; rw [BT]; rfl) (by show (if m = 0 then 0 else 1) + _ = _; rw [if_neg M0]; rfl))
    clear BT M0
    go_wp2_with fail
    refine C1.out.mono ?_
    rintro r w19 ⟨rfl, p19, -⟩
    have P19 := Lib.hid p19
    clear p19 C1 P18
    have C2 := Lib.hid (P19.out.close 0 0 0 (by decide +kernel) (by decide +kernel) (by decide +kernel))
    go_wp2_with fail
    refine C2.out.mono ?_
    rintro r w20 ⟨rfl, p20, -⟩
    have P20 := Lib.hid p20
    clear p20 C2 P19
    go_wp2
    go_ret
    exact ⟨rfl, P20.out.st.b⟩
set_option maxRecDepth 100000 in
/-- What the walk gives, for every argument and every world. -/
theorem contract (H : Type) (enc : TypeId × Value → H) (W : World) (base : Nat) (args : Array Value) (ds gs : List (DataW H)) (before : List MemPlace)
    (hval : ∀ (j : Nat) t v, Try.f6.params[j]? = some t → args[j]? = some v → Value.okWide Try.prog W .any base t v)
    (hW : DataW.Whole enc Try.prog Try.f6.params.toList Rows.alignFarSpec.vars false W args.toList ds gs before) : 
    Calls Try.prog 6 args W fun e W' => ∃ v, e = .returned v ∧ Rows.alignFarSpec.post enc Try.prog Try.f6 false true false false W args v W' := by
  have hW' := hW
  obtain ⟨p, q, hA0, hV, rfl, hfz, hnd⟩ := hW
  have hA : DataW.TrodAll enc Try.prog W 0 (fun _ => true) true Try.f6.params.toList args.toList ds p := hA0
  rw [Try.params6] at hA hval
  obtain ⟨v0, vs0, d0, ds0, p0, q0, hargs, rfl, rfl, h0, r0⟩ := trodAll_cons hA
  obtain ⟨v1, vs1, d1, ds1, p1, q1, rfl, rfl, rfl, h1, r1⟩ := trodAll_cons r0
  obtain ⟨v2, vs2, d2, ds2, p2, q2, rfl, rfl, rfl, h2, r2⟩ := trodAll_cons r1
  obtain ⟨rfl, rfl, rfl⟩ := trodAll_nil r2
  obtain rfl : args = #[v0, v1, v2] := by cases args; simp_all
  obtain ⟨rfl, rfl⟩ := trodVars_none hV
  obtain ⟨cy, rfl, rfl, rfl, w0⟩ := open_int Try.underlying5 (hval 0 5 v0 rfl rfl) h0
  obtain ⟨other, rfl, rfl, rfl, w1⟩ := open_int Try.underlying5 (hval 1 5 v1 rfl rfl) h1
  obtain ⟨crew, rfl, rfl, rfl, w2⟩ := open_int Try.underlying27 (hval 2 27 v2 rfl rfl) h2
  refine (walk cy other crew W (u8_wf w0) (u8_wf w1) (u32_wf w2)).mono fun e W' ⟨he, hb⟩ => ?_
  exact ⟨_, he, Shell.post_law laidOut (by kernel_rfl) rfl Try.underlying4 rfl hW' rfl hb⟩
theorem reads (os : Os) {H : Type} (enc : TypeId × Value → H) : ∃ places, DataW.whole enc Try.prog ((World.holding Try.prog os ⟨#[], #[], []⟩).forCall (fun _ _ => 0) ⟨#[], #[.int .u8 0, .int .u8 0, .int .u32 0], []⟩).memory Try.f6.params.toList Rows.alignFarSpec.vars false (#[Value.int .u8 0, Value.int .u8 0, Value.int .u32 0]).toList 8 = some ([.lit (.int .u8 0), .lit (.int .u8 0), .lit (.int .u32 0)], [], places) :=
  ⟨[], by kernel_rfl⟩
set_option maxRecDepth 100000 in
theorem lifted (os : Os) (started : os.Started) (H : Type) (enc : TypeId × Value → H) (F : Stop.Interp) :
    ReturnsInHanded {} Try.checked os 6 .any ((OpenSpec.ofChange Rows.alignFarSpec).preRow enc Try.prog Try.f6 Rows.alignFarRow.domain false Rows.alignFarRow.laid) (((OpenSpec.ofChange Rows.alignFarSpec).at F).post enc Try.prog Try.f6 false true false false) := by
  obtain ⟨places, hx⟩ := reads os enc
  refine returnsInHanded_of_row (C := Try.checked) (s := OpenSpec.ofChange Rows.alignFarSpec) own started (by kernel_rfl) Try.func6
    (witness_row_atRef (enc := enc) (C := Try.checked) false (World.holding Try.prog os ⟨#[], #[], []⟩) #[.int .u8 0, .int .u8 0, .int .u32 0] rfl (by kernel_rfl) (by kernel_rfl) (by kernel_rfl)
      (OpenSpec.preRow_of_cond 8 hx (by kernel_rfl) (fun k hk => by cases hk) (by kernel_rfl) (laid_met os _))) ?_
  intro W base args ds gs before hval hW _ _ _ hL _ _
  exact contract H enc W base args ds gs before hval hW
theorem said : Rows.AlignFarSaid :=
  OpenClaim.holds_of_cond 6 Try.f6 rfl rfl rfl rfl rfl rfl rfl ⟨rfl, rfl, rfl, rfl, rfl⟩ rfl rfl rfl rfl rfl (by kernel_rfl) Try.func6 (by kernel_rfl)
    (of_decide_eq_true (by kernel_rfl)) (by unfold Func.isWrapper; first | (rw [if_pos (by decide +kernel)]; kernel_rfl) | (rw [if_neg (by decide +kernel)]; exact ⟨rfl, rfl⟩))
    (fun os started H enc _ F => by rw [OpenClaim.pre_eq_preRow]; exact lifted os started H enc F)
end Go.Proofs.Ytpdcdnklmoaokaa.AlignW.AlignFar
