/- The landed station: Judge, Count, Forget, the nil one, one that is made. -/
import Derived.Test.YtnlimdlmhfnkiaaTake
import Derived.Test.YtnlimdlmhfnkiaaStationLB
namespace Go.Proofs.Ytnlimdlmhfnkiaa.StationW
open Shell (takeR skipR aput lset)
open Go.RowKit Shell
open ConfW (Cfg R4 CM ML chk)
open FrameW (BL rdE rdV)
section
variable {lo g N : Nat} {X : Nat → Prop} {c : Cfg} {h : Int} {T : List Tn} {xa xb : Int} {D E L : Option Addr} {nd cd ne ce nl cl me ml : Nat} {Y : Nat → Prop} {W : World}
theorem TM.off (q : TM lo X g c h T xa xb N D E L nd cd ne ce nl cl me ml Y W) {W0 W1 : World} {k : Nat} (t : Turn X X W0 W) (hk : W0.heap.size ≤ k) (hx : ¬ X k) (kp : Kept k W W1) : TM lo X g c h T xa xb N D E L nd cd ne ce nl cl me ml Y W1 ∧ Turn X X W0 W1 :=
  ⟨q.frame kp.size (fun j hj => kp.block j (fun e => hx (e ▸ hj)) (q.bx j hj).2), t.kept kp hk⟩
set_option maxHeartbeats 4000000 in
set_option maxRecDepth 100000 in
theorem judge0 (t : Int) (A : Option Addr) (l : List Int) (cp : Nat) (q : TM lo X g c h T xa xb N D E L nd cd ne ce nl cl me ml Y W) (hN : N ≤ 140737488355327) (hb : BL W A l) (hl : l.length ≤ 9223372036854775807) (hc : l.length ≤ cp) (hz : 0 ≤ xa ∧ xa + 1 ≤ 9223372036854775807) (vk : Int) (hv : gd c h T t l = ⟨0, vk⟩) :
    Calls Try.prog 12 #[.pointer (some ⟨g, 0, none⟩), .int .i64 t, .slice A l.length cp] W fun r W' => r = .returned (gg (dt l) ⟨0, vk⟩) ∧ TM lo X g c h (nL c h T t l) (xa + 1) xb (N + 1) D E L nd cd ne ce nl cl me ml Y W' ∧ Turn X X W W' := by
  have S0 := Lib.hid ((Stay.start W).alloc (gbx v0 d0 41))
  have HV := Lib.hid (judged_any t A l cp (q.next (al (Below.refl _ _) (gbx v0 d0 41))) hN (hb.below S0.out.b) hl hc)
  rw [hv] at HV
  have HX := Lib.hid (show ¬ X W.heap.size from fun hx => absurd (q.bx _ hx).2 (Nat.lt_irrefl _))
  have HG := Lib.hid (show W.heap.size ≠ g from fun e => HX.out (e ▸ q.xg.1))
  obtain ⟨wz1, wz2⟩ : IntKind.i64.wrap (xa + 1) = xa + 1 ∧ wrap64 (xa + 1) = xa + 1 := ⟨by rw [IntKind.wrap_i64]; omega, by unfold wrap64; omega⟩
  generalize dt l = d at *
  obtain ⟨dc, dl, dn, dp, ds⟩ := d
  clear q hb hl hc hN hv hz
  go_enter Try.func12, Try.ntmps12
  go_wp2_with fail
  refine HV.out.mono ?_
  rintro r w1 ⟨rfl, h1, u1⟩
  have H1 := Lib.hid h1
  have U1 := Lib.hid ((Turn.of (X := X) S0.out.b).trans u1)
  have P1 := Lib.hid (u1.bx (S0.out.at 0 rfl) HX.out).1
  clear h1 u1 HV S0
  have H2 := Lib.hid (H1.out.next (al (Below.refl _ _) (gbx ⟨0, vk⟩ ⟨dc, dl, dn, dp, ds⟩ 41)))
  have U2 := Lib.hid (U1.out.trans (Turn.of (al (Below.refl _ _) (gbx ⟨0, vk⟩ ⟨dc, dl, dn, dp, ds⟩ 41))))
  have P2 := Lib.hid (row_below (al (Below.refl _ _) (gbx ⟨0, vk⟩ ⟨dc, dl, dn, dp, ds⟩ 41)) P1.out)
  have Q2 := Lib.hid (heap_alloc_new w1 (gbx ⟨0, vk⟩ ⟨dc, dl, dn, dp, ds⟩ 41))
  have PQ := Lib.hid (show W.heap.size ≠ w1.heap.size ∧ w1.heap.size ≠ g from ⟨Nat.ne_of_lt (lt_of_heap P1.out), fun e => absurd (H1.out.bx _ (e ▸ H1.out.xg.1 : X w1.heap.size)).2 (Nat.lt_irrefl _)⟩)
  clear H1 U1 P1
  have BX := Lib.hid (heap_setCell_same _ g 12 _ _ (.int .i64 (xa + 1)) H2.out.box)
  have KP := Lib.hid (kept1 (w1.alloc (gbx ⟨0, vk⟩ ⟨dc, dl, dn, dp, ds⟩ 41)) g 12 (.int .i64 (xa + 1)))
  have H3 := Lib.hid (H2.out.count KP.out BX.out)
  have P3 := Lib.hid ((KP.out.block _ HG.out (lt_of_heap P2.out)).trans P2.out)
  have Q3 := Lib.hid ((KP.out.block _ PQ.out.2 (lt_of_heap Q2.out)).trans Q2.out)
  have U3 := Lib.hid (U2.out.trans H3.out.2)
  have y0 := cell_of_row _ w1.heap.size 0 _ _ _ Q2.out
  have a12 := cell_of_row _ g 12 _ _ _ H2.out.box
  have f12 := frozen_of_row _ g 12 _ _ H2.out.box
  obtain ⟨u0, u1, u2, u3, u4, u5, u6⟩ := cells7 Q3.out
  obtain ⟨s0, s1, s2, s3, s4, s5, s6⟩ := cells7 P3.out
  obtain ⟨e0, e1, e2, e3, e4, e5, e6⟩ := frozen7 P3.out
  clear Q3 H2 U2 P2 Q2 BX KP
  go_wp2
  exact ret_s rfl rfl (put7 P3.out _ _ _ _ _ _ _) ⟨rfl, H3.out.1.off U3.out (Nat.le_refl _) HX.out (kept7 _ _ _ _ _ _ _ _ _)⟩
set_option maxHeartbeats 4000000 in
set_option maxRecDepth 100000 in
theorem judge1 (t : Int) (A : Option Addr) (l : List Int) (cp : Nat) (q : TM lo X g c h T xa xb N D E L nd cd ne ce nl cl me ml Y W) (hN : N ≤ 140737488355327) (hb : BL W A l) (hl : l.length ≤ 9223372036854775807) (hc : l.length ≤ cp) (hz : 0 ≤ xb ∧ xb + 1 ≤ 9223372036854775807) (vw vk : Int) (hw : vw ≠ 0) (hv : gd c h T t l = ⟨vw, vk⟩) :
    Calls Try.prog 12 #[.pointer (some ⟨g, 0, none⟩), .int .i64 t, .slice A l.length cp] W fun r W' => r = .returned (gg (dt l) ⟨vw, vk⟩) ∧ TM lo X g c h (nL c h T t l) xa (xb + 1) (N + 1) D E L nd cd ne ce nl cl me ml Y W' ∧ Turn X X W W' := by
  have S0 := Lib.hid ((Stay.start W).alloc (gbx v0 d0 41))
  have HV := Lib.hid (judged_any t A l cp (q.next (al (Below.refl _ _) (gbx v0 d0 41))) hN (hb.below S0.out.b) hl hc)
  rw [hv] at HV
  have HX := Lib.hid (show ¬ X W.heap.size from fun hx => absurd (q.bx _ hx).2 (Nat.lt_irrefl _))
  have HG := Lib.hid (show W.heap.size ≠ g from fun e => HX.out (e ▸ q.xg.1))
  obtain ⟨wz1, wz2⟩ : IntKind.i64.wrap (xb + 1) = xb + 1 ∧ wrap64 (xb + 1) = xb + 1 := ⟨by rw [IntKind.wrap_i64]; omega, by unfold wrap64; omega⟩
  have q1 : (vw == 0) = false := by rw [beq_eq_false_iff_ne]; exact hw
  generalize dt l = d at *
  obtain ⟨dc, dl, dn, dp, ds⟩ := d
  clear q hb hl hc hN hv hz hw
  go_enter Try.func12, Try.ntmps12
  go_wp2_with fail
  refine HV.out.mono ?_
  rintro r w1 ⟨rfl, h1, u1⟩
  have H1 := Lib.hid h1
  have U1 := Lib.hid ((Turn.of (X := X) S0.out.b).trans u1)
  have P1 := Lib.hid (u1.bx (S0.out.at 0 rfl) HX.out).1
  clear h1 u1 HV S0
  have H2 := Lib.hid (H1.out.next (al (Below.refl _ _) (gbx ⟨vw, vk⟩ ⟨dc, dl, dn, dp, ds⟩ 41)))
  have U2 := Lib.hid (U1.out.trans (Turn.of (al (Below.refl _ _) (gbx ⟨vw, vk⟩ ⟨dc, dl, dn, dp, ds⟩ 41))))
  have P2 := Lib.hid (row_below (al (Below.refl _ _) (gbx ⟨vw, vk⟩ ⟨dc, dl, dn, dp, ds⟩ 41)) P1.out)
  have Q2 := Lib.hid (heap_alloc_new w1 (gbx ⟨vw, vk⟩ ⟨dc, dl, dn, dp, ds⟩ 41))
  have PQ := Lib.hid (show W.heap.size ≠ w1.heap.size ∧ w1.heap.size ≠ g from ⟨Nat.ne_of_lt (lt_of_heap P1.out), fun e => absurd (H1.out.bx _ (e ▸ H1.out.xg.1 : X w1.heap.size)).2 (Nat.lt_irrefl _)⟩)
  clear H1 U1 P1
  have BX := Lib.hid (heap_setCell_same _ g 13 _ _ (.int .i64 (xb + 1)) H2.out.box)
  have KP := Lib.hid (kept1 (w1.alloc (gbx ⟨vw, vk⟩ ⟨dc, dl, dn, dp, ds⟩ 41)) g 13 (.int .i64 (xb + 1)))
  have H3 := Lib.hid (H2.out.count KP.out BX.out)
  have P3 := Lib.hid ((KP.out.block _ HG.out (lt_of_heap P2.out)).trans P2.out)
  have Q3 := Lib.hid ((KP.out.block _ PQ.out.2 (lt_of_heap Q2.out)).trans Q2.out)
  have U3 := Lib.hid (U2.out.trans H3.out.2)
  have y0 := cell_of_row _ w1.heap.size 0 _ _ _ Q2.out
  have a13 := cell_of_row _ g 13 _ _ _ H2.out.box
  have f13 := frozen_of_row _ g 13 _ _ H2.out.box
  obtain ⟨u0, u1, u2, u3, u4, u5, u6⟩ := cells7 Q3.out
  obtain ⟨s0, s1, s2, s3, s4, s5, s6⟩ := cells7 P3.out
  obtain ⟨e0, e1, e2, e3, e4, e5, e6⟩ := frozen7 P3.out
  clear Q3 H2 U2 P2 Q2 BX KP
  go_wp2
  exact ret_s rfl rfl (put7 P3.out _ _ _ _ _ _ _) ⟨rfl, H3.out.1.off U3.out (Nat.le_refl _) HX.out (kept7 _ _ _ _ _ _ _ _ _)⟩
set_option maxHeartbeats 4000000 in
set_option maxRecDepth 100000 in
theorem forget_m (q : TM lo X g c h T xa xb N D E L nd cd ne ce nl cl me ml Y W) : Calls Try.prog 11 #[.pointer (some ⟨g, 0, none⟩)] W fun r W' => r = .returned (.tuple #[]) ∧ TM lo X g c h [] xa xb N D E L nd cd ne ce nl cl me ml Y W' ∧ Turn X X W W' := by
  obtain ⟨w1, hc1, p1, k1⟩ := q.pe.clear
  obtain ⟨w2, hc2, p2, k2⟩ := (q.pl.block (k1.block ml (fun e => q.ne.1 e.symm) q.pl.lt)).clear
  have R := Lib.hid (q.lost k1 p1 k2 p2)
  have a10 := cell_of_row _ g 10 _ _ _ q.box
  have a11 := cell_of_row _ g 11 _ _ _ ((k1.block g (fun e => q.ne.2.1 e.symm) (q.bx g q.xg.1).2).trans q.box)
  clear q p1 p2 k1 k2
  go_enter Try.func11, Try.ntmps11
  go_wp2
  go_end0
  exact ⟨rfl, R.out⟩
end
-- COUNT
set_option maxHeartbeats 4000000 in
set_option maxRecDepth 100000 in
theorem count_m (c : Cfg) (D E L : Option Addr) (nd cd ne ce nl cl : Nat) (h : Int) (me ml : Nat) (xa xb : Int) (g : Nat) (W : World) (hx : W.heap[g]? = some (sbx c D E L nd cd ne ce nl cl h me ml xa xb)) : Calls Try.prog 14 #[.pointer (some ⟨g, 0, none⟩)] W fun r W' => r = .returned (.tuple #[.int .i64 xa, .int .i64 xb]) ∧ Below W.heap.size W W' := by
  have S1 := Lib.hid ((Stay.start W).add hx)
  clear hx
  go_enter Try.func14, Try.ntmps14
  go_wp2
  apply wp_one
  case h =>
    refine wp_region_noPanic ?_
    refine wp_region_held_drew (S := fun Z : World => Stay W [(g, sbx c D E L nd cd ne ce nl cl h me ml xa xb)] Z) (by kernel_rfl) (S1.out.drew) (fun hHeld => ?_)
    refine takeR 0 (some 6) ?_ ?_ ?_; rotate_left; (focus (intros; go_simp; (try with_reducible rfl)))
    simp only [aput, lset]
    refine takeR 1 (some 7) ?_ ?_ ?_; rotate_left; (focus (intros; go_simp; (try with_reducible rfl)))
    simp only [aput, lset]
    refine takeR 2 (some 8) ?_ ?_ ?_; rotate_left; (focus (intros; go_simp; (try with_reducible rfl)))
    simp only [aput, lset]
    refine takeR 3 (some 9) ?_ ?_ ?_; rotate_left; (focus (intro w hSw; (try dsimp only at hSw); have a12 := cell_of_row _ g 12 _ _ _ (Stay.at hSw 0 rfl); have a13 := cell_of_row _ g 13 _ _ _ (Stay.at hSw 0 rfl); go_simp; (try with_reducible rfl)))
    simp only [aput, lset]
    refine takeR 4 (some 10) ?_ ?_ ?_; rotate_left; (focus (intros; go_simp; (try with_reducible rfl)))
    simp only [aput, lset]
    refine takeR 5 (some 11) ?_ ?_ ?_; rotate_left; (focus (intros; go_simp; (try with_reducible rfl)))
    simp only [aput, lset]
    refine takeR 6 (some 12) ?_ ?_ ?_; rotate_left; (focus (intros; go_simp; (try with_reducible rfl)))
    simp only [aput, lset]
    refine takeR 7 (some 13) ?_ ?_ ?_; rotate_left; (focus (intro w hSw; (try dsimp only at hSw); have a12 := cell_of_row _ g 12 _ _ _ (Stay.at hSw 0 rfl); have a13 := cell_of_row _ g 13 _ _ _ (Stay.at hSw 0 rfl); go_simp; (try with_reducible rfl)))
    simp only [aput, lset]
    refine takeR 8 (some 2) ?_ ?_ ?_; rotate_left; (focus (intros; go_simp; (try with_reducible rfl)))
    simp only [aput, lset]
    refine takeR 9 (some 3) ?_ ?_ ?_; rotate_left; (focus (intros; go_simp; (try with_reducible rfl)))
    simp only [aput, lset]
    refine wpAnyH_done (by kernel_rfl) ?_ _
    exact NoPanic.normal ⟨rfl, rfl, rfl⟩
  case hm =>
    go_wp2
    go_ret2
    exact ⟨rfl, S1.out.b.drew⟩
-- COUNT
set_option maxHeartbeats 4000000 in
set_option maxRecDepth 100000 in
theorem judge_nil0 (t : Int) (A : Option Addr) (n cp : Nat) (W : World) : Calls Try.prog 12 #[.pointer none, .int .i64 t, .slice A n cp] W fun r W' => r = .returned (gg d0 ⟨1, 0⟩) ∧ Below W.heap.size W W' := by
  go_enter Try.func12, Try.ntmps12
  go_wp2
  exact ret_s rfl rfl (heap_alloc_new W (gbx ⟨1, 0⟩ d0 41)) ⟨rfl, al (Below.refl _ _) _⟩
set_option maxRecDepth 100000 in
theorem count_nil0 (W : World) : Calls Try.prog 14 #[.pointer none] W fun r W' => r = .returned (.tuple #[.int .i64 0, .int .i64 0]) ∧ Below W.heap.size W W' := by
  go_enter Try.func14, Try.ntmps14
  go_wp2
  go_ret2
  exact ⟨rfl, Below.refl _ _⟩
set_option maxRecDepth 100000 in
theorem forget_nil0 (W : World) : Calls Try.prog 11 #[.pointer none] W fun r W' => r = .returned (.tuple #[]) ∧ Below W.heap.size W W' := by
  go_enter Try.func11, Try.ntmps11
  go_wp2
  exact bodyPost_ret (results_none rfl _ _ _) rfl ⟨rfl, Below.refl _ _⟩
set_option maxHeartbeats 8000000 in
set_option maxRecDepth 100000 in
theorem new_no (c : Cfg) (D E L : Option Addr) (nd cd ne ce nl cl : Nat) (h : Int) (W : World) (m : CM W c D E L nd cd ne ce nl cl) (hz : ¬ may c h) : Calls Try.prog 9 #[.agg #[.int .i64 c.hosts, .int .i64 c.cycle, .int .i64 c.delay, .int .i64 c.window, .int .i64 c.precision, .slice D nd cd, .slice E ne ce, .slice L nl cl, .int .i64 c.queue], .int .i64 h] W fun r W' => r = .returned (.tuple #[.pointer none, .int .i64 1]) ∧ Below W.heap.size W W' := by
  have S1 := Lib.hid ((Stay.start W).alloc (cbx c D E L nd cd ne ce nl cl))
  have HC := Lib.hid (ConfW.check_any c D E L nd cd ne ce nl cl _ (m.below S1.out.b))
  obtain ⟨a0, a1, a2, a3, a4, a5, a6, a7, a8⟩ := PlanW.cells9 (S1.out.at 0 rfl)
  have HZ : chk c ≠ 0 ∨ (chk c = 0 ∧ h < 0) ∨ (chk c = 0 ∧ ¬ h < 0 ∧ c.hosts ≤ h) := by
    unfold may at hz
    by_cases z1 : chk c = 0
    · by_cases z2 : h < 0
      · exact Or.inr (Or.inl ⟨z1, z2⟩)
      · by_cases z3 : c.hosts ≤ h
        · exact Or.inr (Or.inr ⟨z1, z2, z3⟩)
        · exact absurd ⟨z1, by omega, by omega⟩ hz
    · exact Or.inl z1
  generalize chk c = z at *
  clear m hz
  rcases HZ with z1 | ⟨rfl, z2⟩ | ⟨rfl, z2, z3⟩
  · have q1 : (z != 0) = true := by rw [bne_iff_ne]; exact z1
    clear z1
    go_enter Try.func9, Try.ntmps9
    go_wp2_with fail
    refine HC.out.mono ?_
    rintro r w1 ⟨rfl, b1⟩
    have S2 := Lib.hid (S1.out.next b1)
    clear b1 a0 a1 a2 a3 a4 a5 a6 a7 a8 S1 HC
    go_wp2
    go_ret2
    exact ⟨rfl, S2.out.b⟩
  · have q2 : decide (h < 0) = true := decide_eq_true z2
    go_enter Try.func9, Try.ntmps9
    go_wp2_with fail
    refine HC.out.mono ?_
    rintro r w1 ⟨rfl, b1⟩
    have S2 := Lib.hid (S1.out.next b1)
    clear b1 a0 a1 a2 a3 a4 a5 a6 a7 a8 S1 HC
    go_wp2
    go_ret2
    exact ⟨rfl, S2.out.b⟩
  · have q2 : decide (h < 0) = false := decide_eq_false z2
    have q3 : h ≥ c.hosts := z3
    go_enter Try.func9, Try.ntmps9
    go_wp2_with fail
    refine HC.out.mono ?_
    rintro r w1 ⟨rfl, b1⟩
    have S2 := Lib.hid (S1.out.next b1)
    clear b1 a0 a1 a2 a3 a4 a5 a6 a7 a8 S1 HC
    obtain ⟨a0, a1, a2, a3, a4, a5, a6, a7, a8⟩ := PlanW.cells9 (S2.out.at 0 rfl)
    go_wp2
    go_ret2
    exact ⟨rfl, S2.out.b⟩
/-- A station that was made. -/
theorem made {W w1 w2 w5 : World} {c : Cfg} {h : Int} {D2 E2 L2 : Option Addr} {nd cd2 ne ce2 nl cl2 g me ml : Nat} (hz : chk c = 0) (hh : 0 ≤ h ∧ h < c.hosts) (b1 : Below W.heap.size W w1) (b2 : Below w1.heap.size w1 w2)
    (kp : ∀ W1 : World, w2.heap.size ≤ W1.heap.size → (∀ j, w1.heap.size ≤ j → j < w2.heap.size → W1.heap[j]? = w2.heap[j]?) → CM W1 c D2 E2 L2 nd cd2 ne ce2 nl cl2)
    (h1 : me = w2.heap.size) (h2 : ml = w2.heap.size + 1) (h3 : g = w2.heap.size + 2) (h5 : w5 = ((w2.alloc (.map #[] 0)).alloc (.map #[] 0)).alloc (sbx c D2 E2 L2 nd cd2 ne ce2 nl cl2 h me ml 0 0)) :
    SI0 W.heap.size (fun j => W.heap.size ≤ j ∧ j < w5.heap.size) g c h [] 0 0 0 w5 ∧ Below W.heap.size W w5 := by
  have e1 : (w2.alloc (.map #[] 0)).heap.size = w2.heap.size + 1 := World.size_alloc _ _
  have e2 : ((w2.alloc (.map #[] 0)).alloc (.map #[] 0)).heap.size = w2.heap.size + 2 := by rw [World.size_alloc, e1]
  have e5 : w5.heap.size = w2.heap.size + 3 := by rw [h5, World.size_alloc, e2]
  have c1 := al (Below.refl w2.heap.size w2) (.map #[] 0)
  have c2 := al (Below.refl _ (w2.alloc (.map #[] 0))) (.map #[] 0)
  have c3 := al (Below.refl _ ((w2.alloc (.map #[] 0)).alloc (.map #[] 0))) (sbx c D2 E2 L2 nd cd2 ne ce2 nl cl2 h me ml 0 0)
  rw [← h5] at c3
  have hb : w5.heap[g]? = some (sbx c D2 E2 L2 nd cd2 ne ce2 nl cl2 h me ml 0 0) := by rw [h5, h3, ← e2]; exact heap_alloc_new _ _
  have m1 : MP w5 me 0 (fun _ => none) := by
    have := MP.made w2
    rw [← h1] at this
    refine this.block ?_
    rw [c3.block me (by omega), c2.block me (by omega)]
  have m2 : MP w5 ml 0 (fun _ => none) := by
    have := MP.made (w2.alloc (.map #[] 0))
    rw [e1, ← h2] at this
    exact this.block (c3.block ml (by omega))
  have s1 := b1.size
  have s2 := b2.size
  have bw : Below w2.heap.size w2 w5 := (c1.trans (c2.mono (by omega))).trans (c3.mono (by omega))
  refine ⟨⟨D2, E2, L2, nd, cd2, ne, ce2, nl, cl2, me, ml, fun j => w1.heap.size ≤ j ∧ j < w2.heap.size, ⟨hz, hh, rise_nil, hb, fun W1 hs hy => kp W1 (by omega) (fun j j1 j2 => (hy j ⟨j1, j2⟩).trans (bw.block j j2)), m1, m2, ⟨by omega, by omega, by omega⟩, ⟨by omega, by omega, by omega⟩, fun j hj => ⟨by omega, by omega⟩, ⟨⟨by omega, by omega⟩, ⟨by omega, by omega⟩, ⟨by omega, by omega⟩⟩, fun j hj => hj⟩, ⟨by decide, by decide⟩, by decide, by decide⟩, (b1.trans (b2.mono s1)).trans (bw.mono (by omega))⟩
set_option maxHeartbeats 8000000 in
set_option maxRecDepth 100000 in
theorem new_yes (c : Cfg) (D E L : Option Addr) (nd cd ne ce nl cl : Nat) (h : Int) (W : World) (m : CM W c D E L nd cd ne ce nl cl) (hz : may c h) : Calls Try.prog 9 #[.agg #[.int .i64 c.hosts, .int .i64 c.cycle, .int .i64 c.delay, .int .i64 c.window, .int .i64 c.precision, .slice D nd cd, .slice E ne ce, .slice L nl cl, .int .i64 c.queue], .int .i64 h] W fun r W' => ∃ g X, r = .returned (.tuple #[.pointer (some ⟨g, 0, none⟩), .int .i64 0]) ∧ SI0 W.heap.size X g c h [] 0 0 0 W' ∧ Below W.heap.size W W' := by
  obtain ⟨z1, z2, z3⟩ := hz
  have S1 := Lib.hid ((Stay.start W).alloc (cbx c D E L nd cd ne ce nl cl))
  have HC := Lib.hid (ConfW.check_any c D E L nd cd ne ce nl cl _ (m.below S1.out.b))
  rw [z1] at HC
  have HCP := Lib.hid (fun w (hw : CM w c D E L nd cd ne ce nl cl) => copy_kept c D E L nd cd ne ce nl cl w hw z1)
  have HM := Lib.hid m
  have HZ := Lib.hid (And.intro z1 (And.intro z2 z3))
  have hmm := @run_makeMap Try.prog
  obtain ⟨a0, a1, a2, a3, a4, a5, a6, a7, a8⟩ := PlanW.cells9 (S1.out.at 0 rfl)
  have q2 : decide (h < 0) = false := decide_eq_false (by omega)
  have q3 : decide (c.hosts ≤ h) = false := decide_eq_false (by omega)
  have q4 : (h < 0) = False := eq_false (by omega)
  have q5 : (h ≥ c.hosts) = False := eq_false (by omega)
  clear m z1 z2 z3
  go_enter Try.func9, Try.ntmps9
  go_wp2_with fail
  refine HC.out.mono ?_
  rintro r w1 ⟨rfl, b1⟩
  have S2 := Lib.hid (S1.out.next b1)
  clear b1 a0 a1 a2 a3 a4 a5 a6 a7 a8 S1 HC
  obtain ⟨a0, a1, a2, a3, a4, a5, a6, a7, a8⟩ := PlanW.cells9 (S2.out.at 0 rfl)
  go_wp2_with fail
  refine (HCP.out _ (HM.out.below S2.out.b)).mono ?_
  rintro r w2 ⟨D2, E2, L2, cd2, ce2, cl2, rfl, b2, kp⟩
  have KP := Lib.hid kp
  have B1 := Lib.hid (S2.out.b)
  have B2 := Lib.hid b2
  clear b2 kp HCP S2 a0 a1 a2 a3 a4 a5 a6 a7 a8
  have e1 : (w2.alloc (.map #[] 0)).heap.size = w2.heap.size + 1 := World.size_alloc _ _
  have e2 : ((w2.alloc (.map #[] 0)).alloc (.map #[] 0)).heap.size = w2.heap.size + 2 := by rw [World.size_alloc, e1]
  have E1 := Lib.hid e1
  have E2' := Lib.hid e2
  clear e1 e2
  go_wp2
  go_ret2
  exact ⟨_, _, rfl, made HZ.out.1 HZ.out.2 B1.out B2.out KP.out rfl rfl rfl rfl⟩
end Go.Proofs.Ytnlimdlmhfnkiaa.StationW
