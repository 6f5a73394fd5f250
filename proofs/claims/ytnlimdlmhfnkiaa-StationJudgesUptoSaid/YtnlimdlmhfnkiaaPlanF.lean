/- The document's own Relay and Land. -/
import Derived.Test.YtnlimdlmhfnkiaaTake
import Derived.Test.YtnlimdlmhfnkiaaPlanE
namespace Go.Proofs.Ytnlimdlmhfnkiaa.PlanW
open Shell (takeR skipR aput lset)
open Go.RowKit Shell
open ConfW (Cfg R4 CM ML chk tim fwd ear lat at0 at1)
theorem wr_id {z : Int} (hz : 0 ≤ z ∧ z ≤ 1125899906842624) : IntKind.i64.wrap z = z ∧ wrap64 z = z := by
  constructor
  · rw [IntKind.wrap_i64]; omega
  · unfold wrap64; omega
theorem wr_at {x z : Int} (h : x = z) (hz : 0 ≤ z ∧ z ≤ 1125899906842624) : IntKind.i64.wrap x = z ∧ wrap64 x = z := by
  subst h
  exact wr_id hz
theorem wr_add {z y s : Int} (h : z + y = s) (hz : 0 ≤ z ∧ z ≤ 1125899906842624) (hy : -1099511627776 ≤ y ∧ y ≤ 1099511627776) : IntKind.i64.wrap (z + y) = s ∧ wrap64 (z + y) = s := by
  constructor
  · rw [IntKind.wrap_i64]; omega
  · unfold wrap64; omega
theorem cells5 {w : World} {j : Nat} {v0 v1 v2 v3 v4 : Value} {t : TypeId} (h : w.heap[j]? = some (.cells #[v0, v1, v2, v3, v4] t (0, 0))) : w.cell? ⟨j, 0, none⟩ = some v0 ∧ w.cell? ⟨j, 1, none⟩ = some v1 ∧ w.cell? ⟨j, 2, none⟩ = some v2 ∧ w.cell? ⟨j, 3, none⟩ = some v3 ∧ w.cell? ⟨j, 4, none⟩ = some v4 :=
  ⟨cell_of_row w j 0 _ _ _ h, cell_of_row w j 1 _ _ _ h, cell_of_row w j 2 _ _ _ h, cell_of_row w j 3 _ _ _ h, cell_of_row w j 4 _ _ _ h⟩
theorem frozen5 {w : World} {j : Nat} {v0 v1 v2 v3 v4 : Value} {t : TypeId} (h : w.heap[j]? = some (.cells #[v0, v1, v2, v3, v4] t (0, 0))) : w.frozen? ⟨j, 0, none⟩ = false ∧ w.frozen? ⟨j, 1, none⟩ = false ∧ w.frozen? ⟨j, 2, none⟩ = false ∧ w.frozen? ⟨j, 3, none⟩ = false ∧ w.frozen? ⟨j, 4, none⟩ = false :=
  ⟨frozen_of_row w j 0 _ _ h, frozen_of_row w j 1 _ _ h, frozen_of_row w j 2 _ _ h, frozen_of_row w j 3 _ _ h, frozen_of_row w j 4 _ _ h⟩
/-- Five numbers stored into a box of the call's own. -/
theorem store5 {w0 w : World} {L : List (Nat × Obj)} {g : Nat} {t : TypeId} {v0 v1 v2 v3 v4 : Value} (S : Stay w0 L w) (B : w.heap[g]? = some (.cells #[v0, v1, v2, v3, v4] t (0, 0))) (hw : w0.heap.size ≤ g) (hL : ∀ x ∈ L, x.1 ≠ g) (x0 x1 x2 x3 x4 : Value) :
    Stay w0 ((g, .cells #[x0, x1, x2, x3, x4] t (0, 0)) :: L) (((((w.setCell ⟨g, 0, none⟩ x0).setCell ⟨g, 1, none⟩ x1).setCell ⟨g, 2, none⟩ x2).setCell ⟨g, 3, none⟩ x3).setCell ⟨g, 4, none⟩ x4) := by
  have k : Kept g w (((((w.setCell ⟨g, 0, none⟩ x0).setCell ⟨g, 1, none⟩ x1).setCell ⟨g, 2, none⟩ x2).setCell ⟨g, 3, none⟩ x3).setCell ⟨g, 4, none⟩ x4) := (kept3 w g x0 x1 x2).trans (kept2 _ g 3 4 x3 x4)
  refine (S.add B).turn k ?_ hw hL
  replace B : (w.setCell ⟨g, 0, none⟩ x0).heap[g]? = some (.cells #[x0, v1, v2, v3, v4] t (0, 0)) := heap_setCell_same w g 0 _ _ _ B
  replace B : ((w.setCell ⟨g, 0, none⟩ x0).setCell ⟨g, 1, none⟩ x1).heap[g]? = some (.cells #[x0, x1, v2, v3, v4] t (0, 0)) := heap_setCell_same _ g 1 _ _ _ B
  replace B : (((w.setCell ⟨g, 0, none⟩ x0).setCell ⟨g, 1, none⟩ x1).setCell ⟨g, 2, none⟩ x2).heap[g]? = some (.cells #[x0, x1, x2, v3, v4] t (0, 0)) := heap_setCell_same _ g 2 _ _ _ B
  replace B : ((((w.setCell ⟨g, 0, none⟩ x0).setCell ⟨g, 1, none⟩ x1).setCell ⟨g, 2, none⟩ x2).setCell ⟨g, 3, none⟩ x3).heap[g]? = some (.cells #[x0, x1, x2, x3, v4] t (0, 0)) := heap_setCell_same _ g 3 _ _ _ B
  exact heap_setCell_same _ g 4 _ _ _ B
set_option maxHeartbeats 8000000 in
set_option maxRecDepth 100000 in
theorem refLand_any (c : Cfg) (D E L : Option Addr) (nd cd ne ce nl cl : Nat) (k t : Int) (w : World) (m : CM w c D E L nd cd ne ce nl cl) : Calls Try.prog 28 #[.agg #[.int .i64 c.hosts, .int .i64 c.cycle, .int .i64 c.delay, .int .i64 c.window, .int .i64 c.precision, .slice D nd cd, .slice E ne ce, .slice L nl cl, .int .i64 c.queue], .int .i64 k, .int .i64 t] w fun r w' => r = .returned (.tuple #[.int .i64 (landV c k t).1, .bool (landV c k t).2]) ∧ Below w.heap.size w w' := by
  have S0 := Lib.hid ((Stay.start w).alloc (Obj.cells #[.int .i64 c.hosts, .int .i64 c.cycle, .int .i64 c.delay, .int .i64 c.window, .int .i64 c.precision, .slice D nd cd, .slice E ne ce, .slice L nl cl, .int .i64 c.queue] 26))
  have HM := Lib.hid (m.below S0.out.b)
  have K := Lib.hid (entry_any c D E L nd cd ne ce nl cl k t _ HM.out)
  obtain ⟨a0, a1, a2, a3, a4, a5, a6, a7, a8⟩ := cells9 (S0.out.at 0 rfl)
  cases hg : got c k t with
  | false =>
    rw [land_no hg]
    rw [hg] at K
    clear hg m
    go_enter Try.func28, Try.ntmps28
    go_wp2_with (go_at_call 58; refine K.out.mono ?_; rintro r w5 ⟨rfl, b5⟩; have S := Lib.hid (S0.out.next b5); clear b5)
    go_ret2
    exact ⟨rfl, S.out.b⟩
  | true =>
    obtain ⟨n, e, rfl, he, g, ok, hea⟩ := got_ent hg
    rw [land_yes hg hea]
    rw [hg] at K
    obtain ⟨⟨t0, t1⟩, hz⟩ := god_iff.1 g
    have sp := (chk_span hz).1
    have dv := div_ok t0 (show 0 < c.cycle by omega)
    generalize t / c.cycle = q at *
    generalize t % c.cycle = p at *
    obtain ⟨z, hzq⟩ : ∃ z, q * c.cycle = z := ⟨_, rfl⟩
    have l1 := ok.lo
    have l2 := ok.hi
    have l3 := ok.tp
    have l4 := chk_span hz
    have l5 := dv.bp
    have l6 := dv.es
    have l7 := dv.bq
    have dq2 := dv.eq2
    have lin := ent_in ok
    have ia0 := lin.a0
    have ia1 := lin.a1
    have if1 := lin.f
    have ier := lin.er
    have ila := lin.la
    rw [hzq] at l6
    obtain ⟨b, off, rfl, -⟩ := HM.out.he n e he
    have KT := Lib.hid (fun W => times_ok c D (some ⟨b, off, none⟩) L nd cd ne ce nl cl e W ok)
    generalize at0 c e = y0 at *
    generalize at1 c e = y1 at *
    generalize fwd c e = y2 at *
    generalize ear c e = y3 at *
    generalize lat c e = y4 at *
    obtain ⟨s0, hs0⟩ : ∃ s, z + y0 = s := ⟨_, rfl⟩
    obtain ⟨s1, hs1⟩ : ∃ s, z + y1 = s := ⟨_, rfl⟩
    obtain ⟨s2, hs2⟩ : ∃ s, z + y2 = s := ⟨_, rfl⟩
    obtain ⟨s3, hs3⟩ : ∃ s, z + y3 = s := ⟨_, rfl⟩
    obtain ⟨s4, hs4⟩ : ∃ s, z + y4 = s := ⟨_, rfl⟩
    have P0 := Lib.hid (show y0 ≤ p ↔ s0 ≤ t by omega)
    have P1 := Lib.hid (show p ≤ y1 ↔ t ≤ s1 by omega)
    have P3 := Lib.hid (show y3 ≤ p ↔ s3 ≤ t by omega)
    have P4 := Lib.hid (show p ≤ y4 ↔ t ≤ s4 by omega)
    have HS2 := Lib.hid hs2
    have zb : 0 ≤ z := by rw [← hzq]; exact Int.mul_nonneg dv.bq.1 (by omega)
    have bz : 0 ≤ z ∧ z ≤ 1125899906842624 := by omega
    have bq : 0 ≤ q ∧ q ≤ 1125899906842624 := by omega
    have b0 : -1099511627776 ≤ y0 ∧ y0 ≤ 1099511627776 := by omega
    have b1 : -1099511627776 ≤ y1 ∧ y1 ≤ 1099511627776 := by omega
    have b2 : -1099511627776 ≤ y2 ∧ y2 ≤ 1099511627776 := by omega
    have b3 : -1099511627776 ≤ y3 ∧ y3 ≤ 1099511627776 := by omega
    have b4 : -1099511627776 ≤ y4 ∧ y4 ≤ 1099511627776 := by omega
    have nz : ¬ c.cycle = 0 := by omega
    obtain ⟨w1, w2⟩ := wr_id bq
    obtain ⟨w3, w4⟩ := wr_at hzq bz
    obtain ⟨u0, v0⟩ := wr_add hs0 bz b0
    obtain ⟨u1, v1⟩ := wr_add hs1 bz b1
    obtain ⟨u2, v2⟩ := wr_add hs2 bz b2
    obtain ⟨u3, v3⟩ := wr_add hs3 bz b3
    obtain ⟨u4, v4⟩ := wr_add hs4 bz b4
    have h1 : (n : Int) < (ne : Int) := by
      have := (got_iff.1 hg).2.2
      rw [m.nE]; exact this
    have HN := Lib.hid m.mE
    have HM0 := Lib.hid m
    have ME := Lib.hid (fun W (hW : CM W c D (some ⟨b, off, none⟩) L nd cd ne ce nl cl) => hW.he n e he)
    have HZQ := Lib.hid hzq
    clear hg m l1 l2 l3 l4 l5 l6 l7 ok dv hz t0 t1 sp hea he g lin ia0 ia1 if1 ier ila hzq hs0 hs1 hs2 hs3 hs4 bz bq b0 b1 b2 b3 b4 zb
    generalize hV : (if y3 ≤ p ∧ p ≤ y4 then (q, true) else (0, false) : Int × Bool) = V at *
    have E0 := Lib.hid (show t < s3 → V = (0, false) from fun h => by rw [← hV, if_neg (fun g => by have := P3.out.1 g.1; omega)])
    have E1 := Lib.hid (show s4 < t → V = (0, false) from fun h => by rw [← hV, if_neg (fun g => by have := P4.out.1 g.2; omega)])
    have E2 := Lib.hid (show s3 ≤ t → t ≤ s4 → V = (q, true) from fun h g => by rw [← hV, if_pos ⟨P3.out.2 h, P4.out.2 g⟩])
    clear hV P0 P1 P3 P4
    go_enter Try.func28, Try.ntmps28
    go_wp2_with (go_at_call 58; refine K.out.mono ?_; rintro r w5 ⟨rfl, b5⟩; have S := Lib.hid (S0.out.next b5); clear b5 a0 a1 a2 a3 a4 a5 a6 a7 a8; obtain ⟨a0, a1, a2, a3, a4, a5, a6, a7, a8⟩ := cells9 (S.out.at 0 rfl))
    have S2 := Lib.hid S.out
    generalize w5 = w6 at *
    refine wp_region_held_drew (S := fun W : World => Stay w [(w.heap.size, Obj.cells #[.int .i64 c.hosts, .int .i64 c.cycle, .int .i64 c.delay, .int .i64 c.window, .int .i64 c.precision, .slice D nd cd, .slice (some ⟨b, off, none⟩) ne ce, .slice L nl cl, .int .i64 c.queue] 26)] W) (by kernel_rfl) (S2.out.drew) (fun hHeld => ?_)
    refine takeR 0 (some 19) ?_ ?_ ?_; rotate_left; (focus (intro w hSw; (try dsimp only at hSw); obtain ⟨a0, a1, a2, a3, a4, a5, a6, a7, a8⟩ := cells9 (Stay.at hSw 0 rfl); obtain ⟨b', off', hb', ⟨x0, x1, x2, x3⟩, -⟩ := ME.out _ (HM0.out.below (Stay.b hSw)); cases hb'; go_simp; (try with_reducible rfl)))
    simp only [aput, lset]
    refine takeR 1 (some 20) ?_ ?_ ?_; rotate_left; (focus (intros; go_simp; (try with_reducible rfl)))
    simp only [aput, lset]
    refine takeR 2 (some 21) ?_ ?_ ?_; rotate_left; (focus (intro w hSw; (try dsimp only at hSw); obtain ⟨a0, a1, a2, a3, a4, a5, a6, a7, a8⟩ := cells9 (Stay.at hSw 0 rfl); obtain ⟨b', off', hb', ⟨x0, x1, x2, x3⟩, -⟩ := ME.out _ (HM0.out.below (Stay.b hSw)); cases hb'; go_simp; (try with_reducible rfl)))
    simp only [aput, lset]
    refine takeR 3 (some 22) ?_ ?_ ?_; rotate_left; (focus (intros; go_simp; (try with_reducible rfl)))
    simp only [aput, lset]
    refine takeR 4 (some 23) ?_ ?_ ?_; rotate_left; (focus (intros; go_simp; (try with_reducible rfl)))
    simp only [aput, lset]
    refine takeR 5 (some 24) ?_ ?_ ?_; rotate_left; (focus (intro w hSw; (try dsimp only at hSw); obtain ⟨a0, a1, a2, a3, a4, a5, a6, a7, a8⟩ := cells9 (Stay.at hSw 0 rfl); obtain ⟨b', off', hb', ⟨x0, x1, x2, x3⟩, -⟩ := ME.out _ (HM0.out.below (Stay.b hSw)); cases hb'; go_simp; (try with_reducible rfl)))
    simp only [aput, lset]
    refine wpAnyH_ready (rs := [6, 7]) (by kernel_rfl) (by simp) ?_
    refine AllReadyH.cons (o := ⟨some 25, _, _, _, _, _⟩) rfl (fun K hK => ?_) ?_
    · rw [if_pos (by kernel_rfl)]
      go_simp
      refine (KT.out _).mono ?_
      rintro r w9 ⟨rfl, b9⟩
      have hS9 := Stay.next hHeld b9
      clear b9
      go_simp
      refine hK.out _ _ (by assumption) (fun hHeld => ?_)
      clear hK K
      refine wpAnyH_ready (rs := [7]) (by kernel_rfl) (by simp) ?_
      refine AllReadyH.cons (o := ⟨some 9, _, _, _, _, _⟩) rfl (fun K hK => ?_) AllReadyH.nil
      rw [if_pos (by kernel_rfl)]
      go_simp
      have hS7 := Stay.next hHeld (al (Below.refl _ _) (.cells #[.int .i64 0, .int .i64 0, .int .i64 0, .int .i64 0, .int .i64 0] 57))
      have B7 : (World.alloc w9 (.cells #[.int .i64 0, .int .i64 0, .int .i64 0, .int .i64 0, .int .i64 0] 57)).heap[w9.heap.size]? = some (.cells #[.int .i64 0, .int .i64 0, .int .i64 0, .int .i64 0, .int .i64 0] 57) := heap_alloc_new w9 (.cells #[.int .i64 0, .int .i64 0, .int .i64 0, .int .i64 0, .int .i64 0] 57)
      have hg7 : w.heap.size < w9.heap.size := lt_of_heap (Stay.at hHeld 0 rfl)
      go_simp
      refine hK.out _ _ (by assumption) (fun hHeld => ?_)
      clear hK K
      refine wpAnyH_ready (rs := [8]) (by kernel_rfl) (by simp) ?_
      refine AllReadyH.cons (o := ⟨none, _, _, _, _, _⟩) rfl (fun K hK => ?_) AllReadyH.nil
      rw [if_pos (by kernel_rfl)]
      go_simp
      have HB8 := Lib.hid (Stay.alloc hS9 (.cells #[.int .i64 y0, .int .i64 y1, .int .i64 y2, .int .i64 y3, .int .i64 y4] 57))
      have hS8 := Stay.drop HB8.out
      go_simp
      refine hK.out _ _ (by assumption) (fun hHeld => ?_)
      clear hK K
      refine wpAnyH_done (by kernel_rfl) ?_ _
      clear B7 hg7
      clear a0 a1 a2 a3 a4 a5 a6 a7 a8
      obtain ⟨a0, a1, a2, a3, a4, a5, a6, a7, a8⟩ := cells9 (HB8.out.at 1 rfl)
      obtain ⟨z0, z1, z2, z3, z4⟩ := cells5 (HB8.out.at 0 rfl)
      by_cases g1 : t < s3
      · have G := Lib.hid (E0.out g1)
        go_wp2
        go_ret2
        exact ⟨by rw [G.out]; rfl, HB8.out.b⟩
      by_cases g2 : s4 < t
      · have G := Lib.hid (E1.out g2)
        go_wp2
        go_ret2
        exact ⟨by rw [G.out]; rfl, HB8.out.b⟩
      · have G := Lib.hid (E2.out (by omega) (by omega))
        go_wp2
        go_ret2
        exact ⟨by rw [G.out]; rfl, HB8.out.b⟩
    refine AllReadyH.cons (o := ⟨some 9, _, _, _, _, _⟩) rfl (fun K hK => ?_) AllReadyH.nil
    rw [if_pos (by kernel_rfl)]
    go_simp
    have hS7 := Stay.next hHeld (al (Below.refl _ _) (.cells #[.int .i64 0, .int .i64 0, .int .i64 0, .int .i64 0, .int .i64 0] 57))
    have B7 : (World.alloc w6.drew (.cells #[.int .i64 0, .int .i64 0, .int .i64 0, .int .i64 0, .int .i64 0] 57)).heap[w6.heap.size]? = some (.cells #[.int .i64 0, .int .i64 0, .int .i64 0, .int .i64 0, .int .i64 0] 57) := heap_alloc_new w6.drew (.cells #[.int .i64 0, .int .i64 0, .int .i64 0, .int .i64 0, .int .i64 0] 57)
    have hg7 : w.heap.size < w6.heap.size := lt_of_heap (Stay.at hHeld 0 rfl)
    go_simp
    refine hK.out _ _ (by assumption) (fun hHeld => ?_)
    clear hK K
    refine wpAnyH_ready (rs := [6]) (by kernel_rfl) (by simp) ?_
    refine AllReadyH.cons (o := ⟨some 25, _, _, _, _, _⟩) rfl (fun K hK => ?_) AllReadyH.nil
    rw [if_pos (by kernel_rfl)]
    go_simp
    refine (KT.out _).mono ?_
    rintro r w9 ⟨rfl, b9⟩
    have hS9 := Stay.next hHeld b9
    have B9 := row_below b9 B7
    clear b9
    go_simp
    refine hK.out _ _ (by assumption) (fun hHeld => ?_)
    clear hK K
    refine wpAnyH_ready (rs := [8]) (by kernel_rfl) (by simp) ?_
    refine AllReadyH.cons (o := ⟨none, _, _, _, _, _⟩) rfl (fun K hK => ?_) AllReadyH.nil
    rw [if_pos (by kernel_rfl)]
    go_simp
    obtain ⟨z0, z1, z2, z3, z4⟩ := cells5 B9
    obtain ⟨g0, g1, g2, g3, g4⟩ := frozen5 B9
    have HB8 := Lib.hid (store5 hHeld B9 (Nat.le_of_lt hg7) (fun x hx e => by rw [List.mem_singleton] at hx; subst hx; omega) (.int .i64 y0) (.int .i64 y1) (.int .i64 y2) (.int .i64 y3) (.int .i64 y4))
    have hS8 := Stay.drop HB8.out
    go_simp
    refine hK.out _ _ (by assumption) (fun hHeld => ?_)
    clear hK K
    refine wpAnyH_done (by kernel_rfl) ?_ _
    clear B7 B9 hg7 z0 z1 z2 z3 z4 g0 g1 g2 g3 g4 hS9
    generalize World.setCell _ _ _ = w8 at *
    clear a0 a1 a2 a3 a4 a5 a6 a7 a8
    obtain ⟨a0, a1, a2, a3, a4, a5, a6, a7, a8⟩ := cells9 (HB8.out.at 1 rfl)
    obtain ⟨z0, z1, z2, z3, z4⟩ := cells5 (HB8.out.at 0 rfl)
    by_cases g1 : t < s3
    · have G := Lib.hid (E0.out g1)
      go_wp2
      go_ret2
      exact ⟨by rw [G.out]; rfl, HB8.out.b⟩
    by_cases g2 : s4 < t
    · have G := Lib.hid (E1.out g2)
      go_wp2
      go_ret2
      exact ⟨by rw [G.out]; rfl, HB8.out.b⟩
    · have G := Lib.hid (E2.out (by omega) (by omega))
      go_wp2
      go_ret2
      exact ⟨by rw [G.out]; rfl, HB8.out.b⟩
end Go.Proofs.Ytnlimdlmhfnkiaa.PlanW

