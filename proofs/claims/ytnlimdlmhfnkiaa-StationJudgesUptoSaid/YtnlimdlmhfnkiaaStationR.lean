/- The document's own Judge of a station: every way of it. -/
import Derived.Test.YtnlimdlmhfnkiaaTake
import Derived.Test.YtnlimdlmhfnkiaaStationPJa
import Derived.Test.YtnlimdlmhfnkiaaPlanF
import Derived.Test.YtnlimdlmhfnkiaaFrameO
import Derived.Test.YtnlimdlmhfnkiaaCrewAJa
namespace Go.Proofs.Ytnlimdlmhfnkiaa.StationW
open Shell (takeR skipR aput lset)
open Go.RowKit Shell
open ConfW (Cfg R4 CM ML chk)
open FrameW (BL rdE rdV)
open PlanW (landV)
set_option maxHeartbeats 4000000 in
set_option maxRecDepth 100000 in
theorem rt0 (c : Cfg) (D E L : Option Addr) (nd cd ne ce nl cl : Nat) (h t : Int) (Av : Option Addr) (Lt : List Tn) (cv : Nat) (A : Option Addr) (l : List Int) (cp : Nat) (w : World) (m : CM w c D E L nd cd ne ce nl cl) (hb : BL w A l) (hl : l.length ≤ 9223372036854775807) (hc : l.length ≤ cp) (d : Dt) (hd : dt l = d) (he : rdE l = 0) (hs : SG F19 w Av Lt) (h1 : d.c = 1) (h2 : entAt c d.l = none) :
    Calls Try.prog 13 #[.agg #[.int .i64 c.hosts, .int .i64 c.cycle, .int .i64 c.delay, .int .i64 c.window, .int .i64 c.precision, .slice D nd cd, .slice E ne ce, .slice L nl cl, .int .i64 c.queue], .int .i64 h, .slice Av Lt.length cv, .int .i64 t, .slice A l.length cp] w fun r w' => r = .returned (gg d ⟨1, 0⟩) ∧ Below w.heap.size w w' := by
  have S0 := ((Stay.start w).alloc (cbx c D E L nd cd ne ce nl cl)).alloc (gbx ⟨0, 0⟩ d0 43)
  rw [World.size_alloc] at S0
  have S1 := Lib.hid S0
  have HR := Lib.hid (FrameW.refReadData_any A cp l _ (hb.below S0.b) hl hc)
  have ok := dt_ok he
  rw [rdV_dt, he, hd] at HR
  rw [hd] at ok
  have HM := Lib.hid m
  have HSG := Lib.hid hs
  have hnE : ne ≤ 9223372036854775807 := by have := m.mE; unfold maxLen at this; omega
  have hnL : nl ≤ 9223372036854775807 := by have := m.mL; unfold maxLen at this; omega
  have g0 := ent_no h2 ok.l.1
  rw [← m.nE] at g0
  obtain ⟨dc, dl, dn, dp, ds⟩ := d
  obtain rfl : dc = 1 := h1
  replace g0 : dl ≥ (ne : Int) := g0
  have g1 : decide ((ne : Int) ≤ dl) = true := decide_eq_true g0
  clear h2
  clear S0 hb hl hc hd he m ok hs
  go_enter Try.func13, Try.ntmps13
  go_wp2_with fail
  refine HR.out.mono ?_
  rintro r w1 ⟨rfl, b1⟩
  have S2 := Lib.hid ((S1.out.next b1).alloc (dbx ⟨1, dl, dn, dp, ds⟩))
  have s3 := S2.out.alloc (gbx ⟨0, 0⟩ ⟨1, dl, dn, dp, ds⟩ 43)
  rw [World.size_alloc] at s3
  have S3 := Lib.hid s3
  have HPQ := Lib.hid (show w.heap.size + 1 < w1.heap.size ∧ w.heap.size < w1.heap.size by
    have := lt_of_heap (S1.out.at 0 rfl)
    have := b1.size
    omega)
  clear b1 S1 HR s3
  obtain ⟨z0, z1, z2, z3, z4⟩ := cells5 (S2.out.at 0 rfl)
  obtain ⟨y0, y1, y2, y3, y4⟩ := cells5 (S3.out.at 1 rfl)
  obtain ⟨a0, a1, a2, a3, a4, a5, a6, a7, a8⟩ := PlanW.cells9 (S3.out.at 3 rfl)
  go_wp2
  generalize (w1.alloc (dbx ⟨1, dl, dn, dp, ds⟩)).alloc (gbx ⟨0, 0⟩ ⟨1, dl, dn, dp, ds⟩ 43) = w2 at *
  generalize hgq : w1.heap.size + 1 = g at *
  have HGQ := Lib.hid hgq
  clear hgq
  generalize w1.heap.size = q at *
  have SR := Lib.hid (S3.out.sub (M := [(q, dbx ⟨1, dl, dn, dp, ds⟩), (w.heap.size, cbx c D E L nd cd ne ce nl cl)]) (by intro x hx; simp only [List.mem_cons, List.not_mem_nil, or_false] at hx ⊢; rcases hx with rfl | rfl <;> simp))
  have HGP := Lib.hid (show w.heap.size + 1 < g ∧ w.heap.size ≤ g by have := HPQ.out; have := HGQ.out; omega)
  apply wp_one
  case h =>
    refine wp_region_noPanic ?_
    refine wp_region_held_drew (S := fun Z : World => Stay w [(q, dbx ⟨1, dl, dn, dp, ds⟩), (w.heap.size, cbx c D E L nd cd ne ce nl cl)] Z) (by kernel_rfl) (SR.out.drew) (fun hHeld => ?_)
    refine takeR 0 (some 32) ?_ ?_ ?_; rotate_left; (focus (intros; go_simp; (try with_reducible rfl)))
    simp only [aput, lset]
    refine takeR 1 (some 33) ?_ ?_ ?_; rotate_left; (focus (intro w hSw; (try dsimp only at hSw); obtain ⟨z0, z1, z2, z3, z4⟩ := cells5 (Stay.at hSw 0 rfl); obtain ⟨a0, a1, a2, a3, a4, a5, a6, a7, a8⟩ := PlanW.cells9 (Stay.at hSw 1 rfl); go_simp; (try with_reducible rfl)))
    simp only [aput, lset]
    refine takeR 2 (some 34) ?_ ?_ ?_; rotate_left; (focus (intros; go_simp; (try with_reducible rfl)))
    simp only [aput, lset]
    refine takeR 3 (some 35) ?_ ?_ ?_; rotate_left; (focus (intro w hSw; (try dsimp only at hSw); obtain ⟨z0, z1, z2, z3, z4⟩ := cells5 (Stay.at hSw 0 rfl); obtain ⟨a0, a1, a2, a3, a4, a5, a6, a7, a8⟩ := PlanW.cells9 (Stay.at hSw 1 rfl); go_simp; (try with_reducible rfl)))
    simp only [aput, lset]
    refine takeR 4 (some 36) ?_ ?_ ?_; rotate_left; (focus (intros; go_simp; (try with_reducible rfl)))
    simp only [aput, lset]
    refine takeR 5 (some 37) ?_ ?_ ?_; rotate_left; (focus (intros; go_simp; (try with_reducible rfl)))
    simp only [aput, lset]
    refine takeR 6 (some 38) ?_ ?_ ?_; rotate_left; (focus (intros; go_simp; (try with_reducible rfl)))
    simp only [aput, lset]
    refine skipR 7 (some 39) ?_
    simp only [aput, lset]
    refine skipR 8 (some 40) ?_
    simp only [aput, lset]
    refine skipR 9 (some 41) ?_
    simp only [aput, lset]
    refine skipR 10 (some 42) ?_
    simp only [aput, lset]
    refine skipR 11 (some 43) ?_
    simp only [aput, lset]
    refine skipR 12 (some 44) ?_
    simp only [aput, lset]
    refine skipR 13 (some 45) ?_
    simp only [aput, lset]
    refine skipR 14 (some 46) ?_
    simp only [aput, lset]
    refine skipR 15 (some 47) ?_
    simp only [aput, lset]
    refine skipR 16 (some 48) ?_
    simp only [aput, lset]
    refine takeR 17 (some 49) ?_ ?_ ?_; rotate_left; (focus (intros; go_simp; (try with_reducible rfl)))
    simp only [aput, lset]
    refine takeR 18 (some 50) ?_ ?_ ?_; rotate_left; (focus (intros; go_simp; (try with_reducible rfl)))
    simp only [aput, lset]
    refine skipR 19 (some 51) ?_
    simp only [aput, lset]
    refine skipR 20 (some 52) ?_
    simp only [aput, lset]
    refine skipR 21 (some 53) ?_
    simp only [aput, lset]
    refine skipR 22 (some 54) ?_
    simp only [aput, lset]
    refine skipR 23 (some 55) ?_
    simp only [aput, lset]
    refine skipR 24 (some 56) ?_
    simp only [aput, lset]
    refine skipR 25 (some 57) ?_
    simp only [aput, lset]
    refine skipR 26 (some 58) ?_
    simp only [aput, lset]
    refine skipR 27 (some 59) ?_
    simp only [aput, lset]
    refine skipR 28 (some 60) ?_
    simp only [aput, lset]
    refine takeR 29 (some 61) ?_ ?_ ?_; rotate_left; (focus (intros; go_simp; (try with_reducible rfl)))
    simp only [aput, lset]
    refine wpAnyH_done (by kernel_rfl) ?_ _
    exact NoPanic.normal ⟨rfl, rfl, rfl⟩
  case hm =>
    have S4 := Lib.hid S3.out.drew
    clear S3 SR
    generalize w2.drew = w3 at *
    have T := Lib.hid (why_end S4.out HGP.out 1)
    obtain ⟨t0, t1, t2, t3, t4, t5, t6⟩ := cells7 (S4.out.at 0 rfl)
    obtain ⟨f0, f1, f2, f3, f4, f5, f6⟩ := frozen7 (S4.out.at 0 rfl)
    obtain ⟨u0, u1, u2, u3, u4, u5, u6⟩ := cells7 T.out.1
    obtain ⟨x0, x1, x2, x3, x4, x5, x6⟩ := cells7 T.out.2.1
    obtain ⟨e0, e1, e2, e3, e4, e5, e6⟩ := frozen7 T.out.2.1
    go_wp2
    exact ret_g rfl rfl (put7 T.out.2.1 _ _ _ _ _ _ _) ⟨rfl, T.out.2.2.trans ((kept7 _ _ _ _ _ _ _ _ _).below (Nat.le_succ _) T.out.2.2.size)⟩
set_option maxHeartbeats 4000000 in
set_option maxRecDepth 100000 in
theorem rt1 (c : Cfg) (D E L : Option Addr) (nd cd ne ce nl cl : Nat) (h t : Int) (Av : Option Addr) (Lt : List Tn) (cv : Nat) (A : Option Addr) (l : List Int) (cp : Nat) (w : World) (m : CM w c D E L nd cd ne ce nl cl) (hb : BL w A l) (hl : l.length ≤ 9223372036854775807) (hc : l.length ≤ cp) (d : Dt) (hd : dt l = d) (he : rdE l = 0) (hs : SG F19 w Av Lt) (e : R4) (h1 : d.c = 1) (h2 : entAt c d.l = some e) (h3 : CrewW.has e.b h = false) :
    Calls Try.prog 13 #[.agg #[.int .i64 c.hosts, .int .i64 c.cycle, .int .i64 c.delay, .int .i64 c.window, .int .i64 c.precision, .slice D nd cd, .slice E ne ce, .slice L nl cl, .int .i64 c.queue], .int .i64 h, .slice Av Lt.length cv, .int .i64 t, .slice A l.length cp] w fun r w' => r = .returned (gg d ⟨1, 0⟩) ∧ Below w.heap.size w w' := by
  have S0 := ((Stay.start w).alloc (cbx c D E L nd cd ne ce nl cl)).alloc (gbx ⟨0, 0⟩ d0 43)
  rw [World.size_alloc] at S0
  have S1 := Lib.hid S0
  have HR := Lib.hid (FrameW.refReadData_any A cp l _ (hb.below S0.b) hl hc)
  have ok := dt_ok he
  rw [rdV_dt, he, hd] at HR
  rw [hd] at ok
  have HM := Lib.hid m
  have HSG := Lib.hid hs
  have hnE : ne ≤ 9223372036854775807 := by have := m.mE; unfold maxLen at this; omega
  have hnL : nl ≤ 9223372036854775807 := by have := m.mL; unfold maxLen at this; omega
  obtain ⟨n, hn, hk, hlt⟩ := ent_at h2 ok.l.1
  rw [← m.nE] at hlt
  obtain ⟨dc, dl, dn, dp, ds⟩ := d
  obtain rfl : dc = 1 := h1
  obtain rfl : dl = (n : Int) := hn
  have g0 : (n : Int) < (ne : Int) := by omega
  have g1 : decide ((ne : Int) ≤ (n : Int)) = false := decide_eq_false (by omega)
  have g4 : decide (ne ≤ n) = false := decide_eq_false (by omega)
  obtain ⟨b, off, rfl, l0, l1, l2, l3⟩ := ml_at m.he hk
  have E1 := Lib.hid l1
  have E3 := Lib.hid l3
  have HB := Lib.hid (m.he.u32 e (List.mem_of_getElem? hk))
  clear h2 l0 l1 l2 l3
  have HH := Lib.hid (fun W => CrewW.refHas_any e.b h W HB.out)
  rw [h3] at HH
  clear h3
  clear S0 hb hl hc hd he m ok hs
  go_enter Try.func13, Try.ntmps13
  go_wp2_with fail
  refine HR.out.mono ?_
  rintro r w1 ⟨rfl, b1⟩
  have S2 := Lib.hid ((S1.out.next b1).alloc (dbx ⟨1, (n : Int), dn, dp, ds⟩))
  have s3 := S2.out.alloc (gbx ⟨0, 0⟩ ⟨1, (n : Int), dn, dp, ds⟩ 43)
  rw [World.size_alloc] at s3
  have S3 := Lib.hid s3
  have HPQ := Lib.hid (show w.heap.size + 1 < w1.heap.size ∧ w.heap.size < w1.heap.size by
    have := lt_of_heap (S1.out.at 0 rfl)
    have := b1.size
    omega)
  clear b1 S1 HR s3
  obtain ⟨z0, z1, z2, z3, z4⟩ := cells5 (S2.out.at 0 rfl)
  obtain ⟨y0, y1, y2, y3, y4⟩ := cells5 (S3.out.at 1 rfl)
  obtain ⟨a0, a1, a2, a3, a4, a5, a6, a7, a8⟩ := PlanW.cells9 (S3.out.at 3 rfl)
  go_wp2
  generalize (w1.alloc (dbx ⟨1, (n : Int), dn, dp, ds⟩)).alloc (gbx ⟨0, 0⟩ ⟨1, (n : Int), dn, dp, ds⟩ 43) = w2 at *
  generalize hgq : w1.heap.size + 1 = g at *
  have HGQ := Lib.hid hgq
  clear hgq
  generalize w1.heap.size = q at *
  have SR := Lib.hid (S3.out.sub (M := [(q, dbx ⟨1, (n : Int), dn, dp, ds⟩), (w.heap.size, cbx c D (some ⟨b, off, none⟩) L nd cd ne ce nl cl)]) (by intro x hx; simp only [List.mem_cons, List.not_mem_nil, or_false] at hx ⊢; rcases hx with rfl | rfl <;> simp))
  have HGP := Lib.hid (show w.heap.size + 1 < g ∧ w.heap.size ≤ g by have := HPQ.out; have := HGQ.out; omega)
  apply wp_one
  case h =>
    refine wp_region_noPanic ?_
    refine wp_region_held_drew (S := fun Z : World => Stay w [(q, dbx ⟨1, (n : Int), dn, dp, ds⟩), (w.heap.size, cbx c D (some ⟨b, off, none⟩) L nd cd ne ce nl cl)] Z) (by kernel_rfl) (SR.out.drew) (fun hHeld => ?_)
    refine takeR 0 (some 32) ?_ ?_ ?_; rotate_left; (focus (intros; go_simp; (try with_reducible rfl)))
    simp only [aput, lset]
    refine takeR 1 (some 33) ?_ ?_ ?_; rotate_left; (focus (intro w hSw; (try dsimp only at hSw); obtain ⟨z0, z1, z2, z3, z4⟩ := cells5 (Stay.at hSw 0 rfl); obtain ⟨a0, a1, a2, a3, a4, a5, a6, a7, a8⟩ := PlanW.cells9 (Stay.at hSw 1 rfl); have l1 := cell_keep E1.out hSw.b; have l3 := cell_keep E3.out hSw.b; go_simp; (try with_reducible rfl)))
    simp only [aput, lset]
    refine takeR 2 (some 34) ?_ ?_ ?_; rotate_left; (focus (intros; go_simp; (try with_reducible rfl)))
    simp only [aput, lset]
    refine takeR 3 (some 35) ?_ ?_ ?_; rotate_left; (focus (intro w hSw; (try dsimp only at hSw); obtain ⟨z0, z1, z2, z3, z4⟩ := cells5 (Stay.at hSw 0 rfl); obtain ⟨a0, a1, a2, a3, a4, a5, a6, a7, a8⟩ := PlanW.cells9 (Stay.at hSw 1 rfl); have l1 := cell_keep E1.out hSw.b; have l3 := cell_keep E3.out hSw.b; go_simp; (try with_reducible rfl)))
    simp only [aput, lset]
    refine takeR 4 (some 36) ?_ ?_ ?_; rotate_left; (focus (intros; go_simp; (try with_reducible rfl)))
    simp only [aput, lset]
    refine takeR 5 (some 37) ?_ ?_ ?_; rotate_left; (focus (intros; go_simp; (try with_reducible rfl)))
    simp only [aput, lset]
    refine takeR 6 (some 38) ?_ ?_ ?_; rotate_left; (focus (intros; go_simp; (try with_reducible rfl)))
    simp only [aput, lset]
    refine takeR 7 (some 39) ?_ ?_ ?_; rotate_left; (focus (intros; go_simp; (try with_reducible rfl)))
    simp only [aput, lset]
    refine takeR 8 (some 40) ?_ ?_ ?_; rotate_left; (focus (intro w hSw; (try dsimp only at hSw); obtain ⟨z0, z1, z2, z3, z4⟩ := cells5 (Stay.at hSw 0 rfl); obtain ⟨a0, a1, a2, a3, a4, a5, a6, a7, a8⟩ := PlanW.cells9 (Stay.at hSw 1 rfl); have l1 := cell_keep E1.out hSw.b; have l3 := cell_keep E3.out hSw.b; go_simp; (try with_reducible rfl)))
    simp only [aput, lset]
    refine takeR 9 (some 41) ?_ ?_ ?_; rotate_left; (focus (intros; go_simp; (try with_reducible rfl)))
    simp only [aput, lset]
    refine takeR 10 (some 42) ?_ ?_ ?_; rotate_left; (focus (intro w hSw; (try dsimp only at hSw); obtain ⟨z0, z1, z2, z3, z4⟩ := cells5 (Stay.at hSw 0 rfl); obtain ⟨a0, a1, a2, a3, a4, a5, a6, a7, a8⟩ := PlanW.cells9 (Stay.at hSw 1 rfl); have l1 := cell_keep E1.out hSw.b; have l3 := cell_keep E3.out hSw.b; go_simp; (try with_reducible rfl)))
    simp only [aput, lset]
    refine takeR 11 (some 43) ?_ ?_ ?_; rotate_left; (focus (intros; go_simp; (try with_reducible rfl)))
    simp only [aput, lset]
    refine takeR 12 (some 44) ?_ ?_ ?_; rotate_left; (focus (intros; go_simp; (try with_reducible rfl)))
    simp only [aput, lset]
    refine takeR 13 (some 45) ?_ ?_ ?_; rotate_left; (focus (intro w hSw; (try dsimp only at hSw); obtain ⟨z0, z1, z2, z3, z4⟩ := cells5 (Stay.at hSw 0 rfl); obtain ⟨a0, a1, a2, a3, a4, a5, a6, a7, a8⟩ := PlanW.cells9 (Stay.at hSw 1 rfl); have l1 := cell_keep E1.out hSw.b; have l3 := cell_keep E3.out hSw.b; go_simp; (try with_reducible rfl)))
    simp only [aput, lset]
    refine takeR 14 (some 46) ?_ ?_ ?_; rotate_left; (focus (intros; go_simp; (try with_reducible rfl)))
    simp only [aput, lset]
    refine wpAnyH_ready (rs := [15]) (by kernel_rfl) (by simp) ?_
    refine AllReadyH.cons (o := ⟨some 47, _, _, _, _, _⟩) rfl (fun K hK => ?_) AllReadyH.nil
    rw [if_pos (by kernel_rfl)]
    go_simp
    refine (HH.out _).mono ?_
    rintro r w9 ⟨rfl, hw9⟩
    obtain rfl := hw9.symm
    go_simp
    refine hK.out _ _ (by assumption) (fun hHeld => ?_)
    clear hK K
    refine takeR 16 (some 48) ?_ ?_ ?_; rotate_left; (focus (intros; go_simp; (try with_reducible rfl)))
    simp only [aput, lset]
    refine takeR 17 (some 49) ?_ ?_ ?_; rotate_left; (focus (intros; go_simp; (try with_reducible rfl)))
    simp only [aput, lset]
    refine takeR 18 (some 50) ?_ ?_ ?_; rotate_left; (focus (intros; go_simp; (try with_reducible rfl)))
    simp only [aput, lset]
    refine skipR 19 (some 51) ?_
    simp only [aput, lset]
    refine skipR 20 (some 52) ?_
    simp only [aput, lset]
    refine skipR 21 (some 53) ?_
    simp only [aput, lset]
    refine skipR 22 (some 54) ?_
    simp only [aput, lset]
    refine skipR 23 (some 55) ?_
    simp only [aput, lset]
    refine skipR 24 (some 56) ?_
    simp only [aput, lset]
    refine skipR 25 (some 57) ?_
    simp only [aput, lset]
    refine skipR 26 (some 58) ?_
    simp only [aput, lset]
    refine skipR 27 (some 59) ?_
    simp only [aput, lset]
    refine skipR 28 (some 60) ?_
    simp only [aput, lset]
    refine takeR 29 (some 61) ?_ ?_ ?_; rotate_left; (focus (intros; go_simp; (try with_reducible rfl)))
    simp only [aput, lset]
    refine wpAnyH_done (by kernel_rfl) ?_ _
    exact NoPanic.normal ⟨rfl, rfl, rfl⟩
  case hm =>
    have S4 := Lib.hid S3.out.drew
    clear S3 SR
    generalize w2.drew = w3 at *
    have T := Lib.hid (why_end S4.out HGP.out 1)
    obtain ⟨t0, t1, t2, t3, t4, t5, t6⟩ := cells7 (S4.out.at 0 rfl)
    obtain ⟨f0, f1, f2, f3, f4, f5, f6⟩ := frozen7 (S4.out.at 0 rfl)
    obtain ⟨u0, u1, u2, u3, u4, u5, u6⟩ := cells7 T.out.1
    obtain ⟨x0, x1, x2, x3, x4, x5, x6⟩ := cells7 T.out.2.1
    obtain ⟨e0, e1, e2, e3, e4, e5, e6⟩ := frozen7 T.out.2.1
    go_wp2
    exact ret_g rfl rfl (put7 T.out.2.1 _ _ _ _ _ _ _) ⟨rfl, T.out.2.2.trans ((kept7 _ _ _ _ _ _ _ _ _).below (Nat.le_succ _) T.out.2.2.size)⟩
set_option maxHeartbeats 4000000 in
set_option maxRecDepth 100000 in
theorem rt2 (c : Cfg) (D E L : Option Addr) (nd cd ne ce nl cl : Nat) (h t : Int) (Av : Option Addr) (Lt : List Tn) (cv : Nat) (A : Option Addr) (l : List Int) (cp : Nat) (w : World) (m : CM w c D E L nd cd ne ce nl cl) (hb : BL w A l) (hl : l.length ≤ 9223372036854775807) (hc : l.length ≤ cp) (d : Dt) (hd : dt l = d) (he : rdE l = 0) (hs : SG F19 w Av Lt) (e : R4) (h1 : d.c = 1) (h2 : entAt c d.l = some e) (h3 : CrewW.has e.b h = true) (h4 : e.d ≠ d.s) :
    Calls Try.prog 13 #[.agg #[.int .i64 c.hosts, .int .i64 c.cycle, .int .i64 c.delay, .int .i64 c.window, .int .i64 c.precision, .slice D nd cd, .slice E ne ce, .slice L nl cl, .int .i64 c.queue], .int .i64 h, .slice Av Lt.length cv, .int .i64 t, .slice A l.length cp] w fun r w' => r = .returned (gg d ⟨1, 0⟩) ∧ Below w.heap.size w w' := by
  have S0 := ((Stay.start w).alloc (cbx c D E L nd cd ne ce nl cl)).alloc (gbx ⟨0, 0⟩ d0 43)
  rw [World.size_alloc] at S0
  have S1 := Lib.hid S0
  have HR := Lib.hid (FrameW.refReadData_any A cp l _ (hb.below S0.b) hl hc)
  have ok := dt_ok he
  rw [rdV_dt, he, hd] at HR
  rw [hd] at ok
  have HM := Lib.hid m
  have HSG := Lib.hid hs
  have hnE : ne ≤ 9223372036854775807 := by have := m.mE; unfold maxLen at this; omega
  have hnL : nl ≤ 9223372036854775807 := by have := m.mL; unfold maxLen at this; omega
  obtain ⟨n, hn, hk, hlt⟩ := ent_at h2 ok.l.1
  rw [← m.nE] at hlt
  obtain ⟨dc, dl, dn, dp, ds⟩ := d
  obtain rfl : dc = 1 := h1
  obtain rfl : dl = (n : Int) := hn
  have g0 : (n : Int) < (ne : Int) := by omega
  have g1 : decide ((ne : Int) ≤ (n : Int)) = false := decide_eq_false (by omega)
  have g4 : decide (ne ≤ n) = false := decide_eq_false (by omega)
  obtain ⟨b, off, rfl, l0, l1, l2, l3⟩ := ml_at m.he hk
  have E1 := Lib.hid l1
  have E3 := Lib.hid l3
  have HB := Lib.hid (m.he.u32 e (List.mem_of_getElem? hk))
  clear h2 l0 l1 l2 l3
  have HH := Lib.hid (fun W => CrewW.refHas_any e.b h W HB.out)
  rw [h3] at HH
  clear h3
  have g2 : (e.d != ds) = true := by rw [bne_iff_ne]; exact h4
  clear h4
  clear S0 hb hl hc hd he m ok hs
  go_enter Try.func13, Try.ntmps13
  go_wp2_with fail
  refine HR.out.mono ?_
  rintro r w1 ⟨rfl, b1⟩
  have S2 := Lib.hid ((S1.out.next b1).alloc (dbx ⟨1, (n : Int), dn, dp, ds⟩))
  have s3 := S2.out.alloc (gbx ⟨0, 0⟩ ⟨1, (n : Int), dn, dp, ds⟩ 43)
  rw [World.size_alloc] at s3
  have S3 := Lib.hid s3
  have HPQ := Lib.hid (show w.heap.size + 1 < w1.heap.size ∧ w.heap.size < w1.heap.size by
    have := lt_of_heap (S1.out.at 0 rfl)
    have := b1.size
    omega)
  clear b1 S1 HR s3
  obtain ⟨z0, z1, z2, z3, z4⟩ := cells5 (S2.out.at 0 rfl)
  obtain ⟨y0, y1, y2, y3, y4⟩ := cells5 (S3.out.at 1 rfl)
  obtain ⟨a0, a1, a2, a3, a4, a5, a6, a7, a8⟩ := PlanW.cells9 (S3.out.at 3 rfl)
  go_wp2
  generalize (w1.alloc (dbx ⟨1, (n : Int), dn, dp, ds⟩)).alloc (gbx ⟨0, 0⟩ ⟨1, (n : Int), dn, dp, ds⟩ 43) = w2 at *
  generalize hgq : w1.heap.size + 1 = g at *
  have HGQ := Lib.hid hgq
  clear hgq
  generalize w1.heap.size = q at *
  have SR := Lib.hid (S3.out.sub (M := [(q, dbx ⟨1, (n : Int), dn, dp, ds⟩), (w.heap.size, cbx c D (some ⟨b, off, none⟩) L nd cd ne ce nl cl)]) (by intro x hx; simp only [List.mem_cons, List.not_mem_nil, or_false] at hx ⊢; rcases hx with rfl | rfl <;> simp))
  have HGP := Lib.hid (show w.heap.size + 1 < g ∧ w.heap.size ≤ g by have := HPQ.out; have := HGQ.out; omega)
  apply wp_one
  case h =>
    refine wp_region_noPanic ?_
    refine wp_region_held_drew (S := fun Z : World => Stay w [(q, dbx ⟨1, (n : Int), dn, dp, ds⟩), (w.heap.size, cbx c D (some ⟨b, off, none⟩) L nd cd ne ce nl cl)] Z) (by kernel_rfl) (SR.out.drew) (fun hHeld => ?_)
    refine takeR 0 (some 32) ?_ ?_ ?_; rotate_left; (focus (intros; go_simp; (try with_reducible rfl)))
    simp only [aput, lset]
    refine takeR 1 (some 33) ?_ ?_ ?_; rotate_left; (focus (intro w hSw; (try dsimp only at hSw); obtain ⟨z0, z1, z2, z3, z4⟩ := cells5 (Stay.at hSw 0 rfl); obtain ⟨a0, a1, a2, a3, a4, a5, a6, a7, a8⟩ := PlanW.cells9 (Stay.at hSw 1 rfl); have l1 := cell_keep E1.out hSw.b; have l3 := cell_keep E3.out hSw.b; go_simp; (try with_reducible rfl)))
    simp only [aput, lset]
    refine takeR 2 (some 34) ?_ ?_ ?_; rotate_left; (focus (intros; go_simp; (try with_reducible rfl)))
    simp only [aput, lset]
    refine takeR 3 (some 35) ?_ ?_ ?_; rotate_left; (focus (intro w hSw; (try dsimp only at hSw); obtain ⟨z0, z1, z2, z3, z4⟩ := cells5 (Stay.at hSw 0 rfl); obtain ⟨a0, a1, a2, a3, a4, a5, a6, a7, a8⟩ := PlanW.cells9 (Stay.at hSw 1 rfl); have l1 := cell_keep E1.out hSw.b; have l3 := cell_keep E3.out hSw.b; go_simp; (try with_reducible rfl)))
    simp only [aput, lset]
    refine takeR 4 (some 36) ?_ ?_ ?_; rotate_left; (focus (intros; go_simp; (try with_reducible rfl)))
    simp only [aput, lset]
    refine takeR 5 (some 37) ?_ ?_ ?_; rotate_left; (focus (intros; go_simp; (try with_reducible rfl)))
    simp only [aput, lset]
    refine takeR 6 (some 38) ?_ ?_ ?_; rotate_left; (focus (intros; go_simp; (try with_reducible rfl)))
    simp only [aput, lset]
    refine takeR 7 (some 39) ?_ ?_ ?_; rotate_left; (focus (intros; go_simp; (try with_reducible rfl)))
    simp only [aput, lset]
    refine takeR 8 (some 40) ?_ ?_ ?_; rotate_left; (focus (intro w hSw; (try dsimp only at hSw); obtain ⟨z0, z1, z2, z3, z4⟩ := cells5 (Stay.at hSw 0 rfl); obtain ⟨a0, a1, a2, a3, a4, a5, a6, a7, a8⟩ := PlanW.cells9 (Stay.at hSw 1 rfl); have l1 := cell_keep E1.out hSw.b; have l3 := cell_keep E3.out hSw.b; go_simp; (try with_reducible rfl)))
    simp only [aput, lset]
    refine takeR 9 (some 41) ?_ ?_ ?_; rotate_left; (focus (intros; go_simp; (try with_reducible rfl)))
    simp only [aput, lset]
    refine takeR 10 (some 42) ?_ ?_ ?_; rotate_left; (focus (intro w hSw; (try dsimp only at hSw); obtain ⟨z0, z1, z2, z3, z4⟩ := cells5 (Stay.at hSw 0 rfl); obtain ⟨a0, a1, a2, a3, a4, a5, a6, a7, a8⟩ := PlanW.cells9 (Stay.at hSw 1 rfl); have l1 := cell_keep E1.out hSw.b; have l3 := cell_keep E3.out hSw.b; go_simp; (try with_reducible rfl)))
    simp only [aput, lset]
    refine takeR 11 (some 43) ?_ ?_ ?_; rotate_left; (focus (intros; go_simp; (try with_reducible rfl)))
    simp only [aput, lset]
    refine takeR 12 (some 44) ?_ ?_ ?_; rotate_left; (focus (intros; go_simp; (try with_reducible rfl)))
    simp only [aput, lset]
    refine takeR 13 (some 45) ?_ ?_ ?_; rotate_left; (focus (intro w hSw; (try dsimp only at hSw); obtain ⟨z0, z1, z2, z3, z4⟩ := cells5 (Stay.at hSw 0 rfl); obtain ⟨a0, a1, a2, a3, a4, a5, a6, a7, a8⟩ := PlanW.cells9 (Stay.at hSw 1 rfl); have l1 := cell_keep E1.out hSw.b; have l3 := cell_keep E3.out hSw.b; go_simp; (try with_reducible rfl)))
    simp only [aput, lset]
    refine takeR 14 (some 46) ?_ ?_ ?_; rotate_left; (focus (intros; go_simp; (try with_reducible rfl)))
    simp only [aput, lset]
    refine wpAnyH_ready (rs := [15]) (by kernel_rfl) (by simp) ?_
    refine AllReadyH.cons (o := ⟨some 47, _, _, _, _, _⟩) rfl (fun K hK => ?_) AllReadyH.nil
    rw [if_pos (by kernel_rfl)]
    go_simp
    refine (HH.out _).mono ?_
    rintro r w9 ⟨rfl, hw9⟩
    obtain rfl := hw9.symm
    go_simp
    refine hK.out _ _ (by assumption) (fun hHeld => ?_)
    clear hK K
    refine takeR 16 (some 48) ?_ ?_ ?_; rotate_left; (focus (intros; go_simp; (try with_reducible rfl)))
    simp only [aput, lset]
    refine takeR 17 (some 49) ?_ ?_ ?_; rotate_left; (focus (intros; go_simp; (try with_reducible rfl)))
    simp only [aput, lset]
    refine takeR 18 (some 50) ?_ ?_ ?_; rotate_left; (focus (intros; go_simp; (try with_reducible rfl)))
    simp only [aput, lset]
    refine takeR 19 (some 51) ?_ ?_ ?_; rotate_left; (focus (intros; go_simp; (try with_reducible rfl)))
    simp only [aput, lset]
    refine takeR 20 (some 52) ?_ ?_ ?_; rotate_left; (focus (intro w hSw; (try dsimp only at hSw); obtain ⟨z0, z1, z2, z3, z4⟩ := cells5 (Stay.at hSw 0 rfl); obtain ⟨a0, a1, a2, a3, a4, a5, a6, a7, a8⟩ := PlanW.cells9 (Stay.at hSw 1 rfl); have l1 := cell_keep E1.out hSw.b; have l3 := cell_keep E3.out hSw.b; go_simp; (try with_reducible rfl)))
    simp only [aput, lset]
    refine takeR 21 (some 53) ?_ ?_ ?_; rotate_left; (focus (intros; go_simp; (try with_reducible rfl)))
    simp only [aput, lset]
    refine takeR 22 (some 54) ?_ ?_ ?_; rotate_left; (focus (intro w hSw; (try dsimp only at hSw); obtain ⟨z0, z1, z2, z3, z4⟩ := cells5 (Stay.at hSw 0 rfl); obtain ⟨a0, a1, a2, a3, a4, a5, a6, a7, a8⟩ := PlanW.cells9 (Stay.at hSw 1 rfl); have l1 := cell_keep E1.out hSw.b; have l3 := cell_keep E3.out hSw.b; go_simp; (try with_reducible rfl)))
    simp only [aput, lset]
    refine takeR 23 (some 55) ?_ ?_ ?_; rotate_left; (focus (intros; go_simp; (try with_reducible rfl)))
    simp only [aput, lset]
    refine takeR 24 (some 56) ?_ ?_ ?_; rotate_left; (focus (intros; go_simp; (try with_reducible rfl)))
    simp only [aput, lset]
    refine takeR 25 (some 57) ?_ ?_ ?_; rotate_left; (focus (intro w hSw; (try dsimp only at hSw); obtain ⟨z0, z1, z2, z3, z4⟩ := cells5 (Stay.at hSw 0 rfl); obtain ⟨a0, a1, a2, a3, a4, a5, a6, a7, a8⟩ := PlanW.cells9 (Stay.at hSw 1 rfl); have l1 := cell_keep E1.out hSw.b; have l3 := cell_keep E3.out hSw.b; go_simp; (try with_reducible rfl)))
    simp only [aput, lset]
    refine takeR 26 (some 58) ?_ ?_ ?_; rotate_left; (focus (intros; go_simp; (try with_reducible rfl)))
    simp only [aput, lset]
    refine takeR 27 (some 59) ?_ ?_ ?_; rotate_left; (focus (intro w hSw; (try dsimp only at hSw); obtain ⟨z0, z1, z2, z3, z4⟩ := cells5 (Stay.at hSw 0 rfl); obtain ⟨a0, a1, a2, a3, a4, a5, a6, a7, a8⟩ := PlanW.cells9 (Stay.at hSw 1 rfl); have l1 := cell_keep E1.out hSw.b; have l3 := cell_keep E3.out hSw.b; go_simp; (try with_reducible rfl)))
    simp only [aput, lset]
    refine takeR 28 (some 60) ?_ ?_ ?_; rotate_left; (focus (intros; go_simp; (try with_reducible rfl)))
    simp only [aput, lset]
    refine takeR 29 (some 61) ?_ ?_ ?_; rotate_left; (focus (intros; go_simp; (try with_reducible rfl)))
    simp only [aput, lset]
    refine wpAnyH_done (by kernel_rfl) ?_ _
    exact NoPanic.normal ⟨rfl, rfl, rfl⟩
  case hm =>
    have S4 := Lib.hid S3.out.drew
    clear S3 SR
    generalize w2.drew = w3 at *
    have T := Lib.hid (why_end S4.out HGP.out 1)
    obtain ⟨t0, t1, t2, t3, t4, t5, t6⟩ := cells7 (S4.out.at 0 rfl)
    obtain ⟨f0, f1, f2, f3, f4, f5, f6⟩ := frozen7 (S4.out.at 0 rfl)
    obtain ⟨u0, u1, u2, u3, u4, u5, u6⟩ := cells7 T.out.1
    obtain ⟨x0, x1, x2, x3, x4, x5, x6⟩ := cells7 T.out.2.1
    obtain ⟨e0, e1, e2, e3, e4, e5, e6⟩ := frozen7 T.out.2.1
    go_wp2
    exact ret_g rfl rfl (put7 T.out.2.1 _ _ _ _ _ _ _) ⟨rfl, T.out.2.2.trans ((kept7 _ _ _ _ _ _ _ _ _).below (Nat.le_succ _) T.out.2.2.size)⟩
set_option maxHeartbeats 4000000 in
set_option maxRecDepth 100000 in
theorem rt3 (c : Cfg) (D E L : Option Addr) (nd cd ne ce nl cl : Nat) (h t : Int) (Av : Option Addr) (Lt : List Tn) (cv : Nat) (A : Option Addr) (l : List Int) (cp : Nat) (w : World) (m : CM w c D E L nd cd ne ce nl cl) (hb : BL w A l) (hl : l.length ≤ 9223372036854775807) (hc : l.length ≤ cp) (d : Dt) (hd : dt l = d) (he : rdE l = 0) (hs : SG F19 w Av Lt) (e : R4) (k : Int) (h1 : d.c = 1) (h2 : entAt c d.l = some e) (h3 : CrewW.has e.b h = true) (h4 : e.d = d.s) (h5 : landV c d.l t = (k, false)) :
    Calls Try.prog 13 #[.agg #[.int .i64 c.hosts, .int .i64 c.cycle, .int .i64 c.delay, .int .i64 c.window, .int .i64 c.precision, .slice D nd cd, .slice E ne ce, .slice L nl cl, .int .i64 c.queue], .int .i64 h, .slice Av Lt.length cv, .int .i64 t, .slice A l.length cp] w fun r w' => r = .returned (gg d ⟨2, 0⟩) ∧ Below w.heap.size w w' := by
  have S0 := ((Stay.start w).alloc (cbx c D E L nd cd ne ce nl cl)).alloc (gbx ⟨0, 0⟩ d0 43)
  rw [World.size_alloc] at S0
  have S1 := Lib.hid S0
  have HR := Lib.hid (FrameW.refReadData_any A cp l _ (hb.below S0.b) hl hc)
  have ok := dt_ok he
  rw [rdV_dt, he, hd] at HR
  rw [hd] at ok
  have HM := Lib.hid m
  have HSG := Lib.hid hs
  have hnE : ne ≤ 9223372036854775807 := by have := m.mE; unfold maxLen at this; omega
  have hnL : nl ≤ 9223372036854775807 := by have := m.mL; unfold maxLen at this; omega
  obtain ⟨n, hn, hk, hlt⟩ := ent_at h2 ok.l.1
  rw [← m.nE] at hlt
  obtain ⟨dc, dl, dn, dp, ds⟩ := d
  obtain rfl : dc = 1 := h1
  obtain rfl : dl = (n : Int) := hn
  have g0 : (n : Int) < (ne : Int) := by omega
  have g1 : decide ((ne : Int) ≤ (n : Int)) = false := decide_eq_false (by omega)
  have g4 : decide (ne ≤ n) = false := decide_eq_false (by omega)
  obtain ⟨b, off, rfl, l0, l1, l2, l3⟩ := ml_at m.he hk
  have E1 := Lib.hid l1
  have E3 := Lib.hid l3
  have HB := Lib.hid (m.he.u32 e (List.mem_of_getElem? hk))
  have HV := Lib.hid (show landV c (n : Int) t = (k, false) from h5)
  clear h5 h2 l0 l1 l2 l3
  have HH := Lib.hid (fun W => CrewW.refHas_any e.b h W HB.out)
  rw [h3] at HH
  clear h3
  have g2 : (e.d != ds) = false := by rw [bne_eq_false_iff_eq]; exact h4
  clear h4
  clear S0 hb hl hc hd he m ok hs
  go_enter Try.func13, Try.ntmps13
  go_wp2_with fail
  refine HR.out.mono ?_
  rintro r w1 ⟨rfl, b1⟩
  have S2 := Lib.hid ((S1.out.next b1).alloc (dbx ⟨1, (n : Int), dn, dp, ds⟩))
  have s3 := S2.out.alloc (gbx ⟨0, 0⟩ ⟨1, (n : Int), dn, dp, ds⟩ 43)
  rw [World.size_alloc] at s3
  have S3 := Lib.hid s3
  have HPQ := Lib.hid (show w.heap.size + 1 < w1.heap.size ∧ w.heap.size < w1.heap.size by
    have := lt_of_heap (S1.out.at 0 rfl)
    have := b1.size
    omega)
  clear b1 S1 HR s3
  obtain ⟨z0, z1, z2, z3, z4⟩ := cells5 (S2.out.at 0 rfl)
  obtain ⟨y0, y1, y2, y3, y4⟩ := cells5 (S3.out.at 1 rfl)
  obtain ⟨a0, a1, a2, a3, a4, a5, a6, a7, a8⟩ := PlanW.cells9 (S3.out.at 3 rfl)
  go_wp2
  generalize (w1.alloc (dbx ⟨1, (n : Int), dn, dp, ds⟩)).alloc (gbx ⟨0, 0⟩ ⟨1, (n : Int), dn, dp, ds⟩ 43) = w2 at *
  generalize hgq : w1.heap.size + 1 = g at *
  have HGQ := Lib.hid hgq
  clear hgq
  generalize w1.heap.size = q at *
  have SR := Lib.hid (S3.out.sub (M := [(q, dbx ⟨1, (n : Int), dn, dp, ds⟩), (w.heap.size, cbx c D (some ⟨b, off, none⟩) L nd cd ne ce nl cl)]) (by intro x hx; simp only [List.mem_cons, List.not_mem_nil, or_false] at hx ⊢; rcases hx with rfl | rfl <;> simp))
  have HGP := Lib.hid (show w.heap.size + 1 < g ∧ w.heap.size ≤ g by have := HPQ.out; have := HGQ.out; omega)
  apply wp_one
  case h =>
    refine wp_region_noPanic ?_
    refine wp_region_held_drew (S := fun Z : World => Stay w [(q, dbx ⟨1, (n : Int), dn, dp, ds⟩), (w.heap.size, cbx c D (some ⟨b, off, none⟩) L nd cd ne ce nl cl)] Z) (by kernel_rfl) (SR.out.drew) (fun hHeld => ?_)
    refine takeR 0 (some 32) ?_ ?_ ?_; rotate_left; (focus (intros; go_simp; (try with_reducible rfl)))
    simp only [aput, lset]
    refine takeR 1 (some 33) ?_ ?_ ?_; rotate_left; (focus (intro w hSw; (try dsimp only at hSw); obtain ⟨z0, z1, z2, z3, z4⟩ := cells5 (Stay.at hSw 0 rfl); obtain ⟨a0, a1, a2, a3, a4, a5, a6, a7, a8⟩ := PlanW.cells9 (Stay.at hSw 1 rfl); have l1 := cell_keep E1.out hSw.b; have l3 := cell_keep E3.out hSw.b; go_simp; (try with_reducible rfl)))
    simp only [aput, lset]
    refine takeR 2 (some 34) ?_ ?_ ?_; rotate_left; (focus (intros; go_simp; (try with_reducible rfl)))
    simp only [aput, lset]
    refine takeR 3 (some 35) ?_ ?_ ?_; rotate_left; (focus (intro w hSw; (try dsimp only at hSw); obtain ⟨z0, z1, z2, z3, z4⟩ := cells5 (Stay.at hSw 0 rfl); obtain ⟨a0, a1, a2, a3, a4, a5, a6, a7, a8⟩ := PlanW.cells9 (Stay.at hSw 1 rfl); have l1 := cell_keep E1.out hSw.b; have l3 := cell_keep E3.out hSw.b; go_simp; (try with_reducible rfl)))
    simp only [aput, lset]
    refine takeR 4 (some 36) ?_ ?_ ?_; rotate_left; (focus (intros; go_simp; (try with_reducible rfl)))
    simp only [aput, lset]
    refine takeR 5 (some 37) ?_ ?_ ?_; rotate_left; (focus (intros; go_simp; (try with_reducible rfl)))
    simp only [aput, lset]
    refine takeR 6 (some 38) ?_ ?_ ?_; rotate_left; (focus (intros; go_simp; (try with_reducible rfl)))
    simp only [aput, lset]
    refine takeR 7 (some 39) ?_ ?_ ?_; rotate_left; (focus (intros; go_simp; (try with_reducible rfl)))
    simp only [aput, lset]
    refine takeR 8 (some 40) ?_ ?_ ?_; rotate_left; (focus (intro w hSw; (try dsimp only at hSw); obtain ⟨z0, z1, z2, z3, z4⟩ := cells5 (Stay.at hSw 0 rfl); obtain ⟨a0, a1, a2, a3, a4, a5, a6, a7, a8⟩ := PlanW.cells9 (Stay.at hSw 1 rfl); have l1 := cell_keep E1.out hSw.b; have l3 := cell_keep E3.out hSw.b; go_simp; (try with_reducible rfl)))
    simp only [aput, lset]
    refine takeR 9 (some 41) ?_ ?_ ?_; rotate_left; (focus (intros; go_simp; (try with_reducible rfl)))
    simp only [aput, lset]
    refine takeR 10 (some 42) ?_ ?_ ?_; rotate_left; (focus (intro w hSw; (try dsimp only at hSw); obtain ⟨z0, z1, z2, z3, z4⟩ := cells5 (Stay.at hSw 0 rfl); obtain ⟨a0, a1, a2, a3, a4, a5, a6, a7, a8⟩ := PlanW.cells9 (Stay.at hSw 1 rfl); have l1 := cell_keep E1.out hSw.b; have l3 := cell_keep E3.out hSw.b; go_simp; (try with_reducible rfl)))
    simp only [aput, lset]
    refine takeR 11 (some 43) ?_ ?_ ?_; rotate_left; (focus (intros; go_simp; (try with_reducible rfl)))
    simp only [aput, lset]
    refine takeR 12 (some 44) ?_ ?_ ?_; rotate_left; (focus (intros; go_simp; (try with_reducible rfl)))
    simp only [aput, lset]
    refine takeR 13 (some 45) ?_ ?_ ?_; rotate_left; (focus (intro w hSw; (try dsimp only at hSw); obtain ⟨z0, z1, z2, z3, z4⟩ := cells5 (Stay.at hSw 0 rfl); obtain ⟨a0, a1, a2, a3, a4, a5, a6, a7, a8⟩ := PlanW.cells9 (Stay.at hSw 1 rfl); have l1 := cell_keep E1.out hSw.b; have l3 := cell_keep E3.out hSw.b; go_simp; (try with_reducible rfl)))
    simp only [aput, lset]
    refine takeR 14 (some 46) ?_ ?_ ?_; rotate_left; (focus (intros; go_simp; (try with_reducible rfl)))
    simp only [aput, lset]
    refine wpAnyH_ready (rs := [15]) (by kernel_rfl) (by simp) ?_
    refine AllReadyH.cons (o := ⟨some 47, _, _, _, _, _⟩) rfl (fun K hK => ?_) AllReadyH.nil
    rw [if_pos (by kernel_rfl)]
    go_simp
    refine (HH.out _).mono ?_
    rintro r w9 ⟨rfl, hw9⟩
    obtain rfl := hw9.symm
    go_simp
    refine hK.out _ _ (by assumption) (fun hHeld => ?_)
    clear hK K
    refine takeR 16 (some 48) ?_ ?_ ?_; rotate_left; (focus (intros; go_simp; (try with_reducible rfl)))
    simp only [aput, lset]
    refine takeR 17 (some 49) ?_ ?_ ?_; rotate_left; (focus (intros; go_simp; (try with_reducible rfl)))
    simp only [aput, lset]
    refine takeR 18 (some 50) ?_ ?_ ?_; rotate_left; (focus (intros; go_simp; (try with_reducible rfl)))
    simp only [aput, lset]
    refine takeR 19 (some 51) ?_ ?_ ?_; rotate_left; (focus (intros; go_simp; (try with_reducible rfl)))
    simp only [aput, lset]
    refine takeR 20 (some 52) ?_ ?_ ?_; rotate_left; (focus (intro w hSw; (try dsimp only at hSw); obtain ⟨z0, z1, z2, z3, z4⟩ := cells5 (Stay.at hSw 0 rfl); obtain ⟨a0, a1, a2, a3, a4, a5, a6, a7, a8⟩ := PlanW.cells9 (Stay.at hSw 1 rfl); have l1 := cell_keep E1.out hSw.b; have l3 := cell_keep E3.out hSw.b; go_simp; (try with_reducible rfl)))
    simp only [aput, lset]
    refine takeR 21 (some 53) ?_ ?_ ?_; rotate_left; (focus (intros; go_simp; (try with_reducible rfl)))
    simp only [aput, lset]
    refine takeR 22 (some 54) ?_ ?_ ?_; rotate_left; (focus (intro w hSw; (try dsimp only at hSw); obtain ⟨z0, z1, z2, z3, z4⟩ := cells5 (Stay.at hSw 0 rfl); obtain ⟨a0, a1, a2, a3, a4, a5, a6, a7, a8⟩ := PlanW.cells9 (Stay.at hSw 1 rfl); have l1 := cell_keep E1.out hSw.b; have l3 := cell_keep E3.out hSw.b; go_simp; (try with_reducible rfl)))
    simp only [aput, lset]
    refine takeR 23 (some 55) ?_ ?_ ?_; rotate_left; (focus (intros; go_simp; (try with_reducible rfl)))
    simp only [aput, lset]
    refine takeR 24 (some 56) ?_ ?_ ?_; rotate_left; (focus (intros; go_simp; (try with_reducible rfl)))
    simp only [aput, lset]
    refine takeR 25 (some 57) ?_ ?_ ?_; rotate_left; (focus (intro w hSw; (try dsimp only at hSw); obtain ⟨z0, z1, z2, z3, z4⟩ := cells5 (Stay.at hSw 0 rfl); obtain ⟨a0, a1, a2, a3, a4, a5, a6, a7, a8⟩ := PlanW.cells9 (Stay.at hSw 1 rfl); have l1 := cell_keep E1.out hSw.b; have l3 := cell_keep E3.out hSw.b; go_simp; (try with_reducible rfl)))
    simp only [aput, lset]
    refine takeR 26 (some 58) ?_ ?_ ?_; rotate_left; (focus (intros; go_simp; (try with_reducible rfl)))
    simp only [aput, lset]
    refine takeR 27 (some 59) ?_ ?_ ?_; rotate_left; (focus (intro w hSw; (try dsimp only at hSw); obtain ⟨z0, z1, z2, z3, z4⟩ := cells5 (Stay.at hSw 0 rfl); obtain ⟨a0, a1, a2, a3, a4, a5, a6, a7, a8⟩ := PlanW.cells9 (Stay.at hSw 1 rfl); have l1 := cell_keep E1.out hSw.b; have l3 := cell_keep E3.out hSw.b; go_simp; (try with_reducible rfl)))
    simp only [aput, lset]
    refine takeR 28 (some 60) ?_ ?_ ?_; rotate_left; (focus (intros; go_simp; (try with_reducible rfl)))
    simp only [aput, lset]
    refine takeR 29 (some 61) ?_ ?_ ?_; rotate_left; (focus (intros; go_simp; (try with_reducible rfl)))
    simp only [aput, lset]
    refine wpAnyH_done (by kernel_rfl) ?_ _
    exact NoPanic.normal ⟨rfl, rfl, rfl⟩
  case hm =>
    have S4 := Lib.hid S3.out.drew
    have HP := Lib.hid (PlanW.refLand_any c D (some ⟨b, off, none⟩) L nd cd ne ce nl cl (n : Int) t _ (HM.out.below S4.out.b))
    rw [HV.out] at HP
    obtain ⟨z0, z1, z2, z3, z4⟩ := cells5 (S4.out.at 1 rfl)
    obtain ⟨a0, a1, a2, a3, a4, a5, a6, a7, a8⟩ := PlanW.cells9 (S4.out.at 3 rfl)
    go_wp2_with fail
    refine HP.out.mono ?_
    rintro r w3 ⟨rfl, b3⟩
    have S5 := Lib.hid (S4.out.next b3)
    clear b3 HP S4 S3 SR z0 z1 z2 z3 z4 a0 a1 a2 a3 a4 a5 a6 a7 a8
    have T := Lib.hid (why_end S5.out HGP.out 2)
    obtain ⟨t0, t1, t2, t3, t4, t5, t6⟩ := cells7 (S5.out.at 0 rfl)
    obtain ⟨f0, f1, f2, f3, f4, f5, f6⟩ := frozen7 (S5.out.at 0 rfl)
    obtain ⟨u0, u1, u2, u3, u4, u5, u6⟩ := cells7 T.out.1
    obtain ⟨x0, x1, x2, x3, x4, x5, x6⟩ := cells7 T.out.2.1
    obtain ⟨e0, e1, e2, e3, e4, e5, e6⟩ := frozen7 T.out.2.1
    go_wp2
    exact ret_g rfl rfl (put7 T.out.2.1 _ _ _ _ _ _ _) ⟨rfl, T.out.2.2.trans ((kept7 _ _ _ _ _ _ _ _ _).below (Nat.le_succ _) T.out.2.2.size)⟩
set_option maxHeartbeats 4000000 in
set_option maxRecDepth 100000 in
theorem rt4 (c : Cfg) (D E L : Option Addr) (nd cd ne ce nl cl : Nat) (h t : Int) (Av : Option Addr) (Lt : List Tn) (cv : Nat) (A : Option Addr) (l : List Int) (cp : Nat) (w : World) (m : CM w c D E L nd cd ne ce nl cl) (hb : BL w A l) (hl : l.length ≤ 9223372036854775807) (hc : l.length ≤ cp) (d : Dt) (hd : dt l = d) (he : rdE l = 0) (hs : SG F19 w Av Lt) (hL : Lt.length ≤ 9223372036854775807) (e : R4) (k : Int) (h1 : d.c = 1) (h2 : entAt c d.l = some e) (h3 : CrewW.has e.b h = true) (h4 : e.d = d.s) (h5 : landV c d.l t = (k, true)) (vv : Int) (hvv : (if tw Lt d k = true then (3 : Int) else 0) = vv) :
    Calls Try.prog 13 #[.agg #[.int .i64 c.hosts, .int .i64 c.cycle, .int .i64 c.delay, .int .i64 c.window, .int .i64 c.precision, .slice D nd cd, .slice E ne ce, .slice L nl cl, .int .i64 c.queue], .int .i64 h, .slice Av Lt.length cv, .int .i64 t, .slice A l.length cp] w fun r w' => r = .returned (gg d ⟨vv, k⟩) ∧ Below w.heap.size w w' := by
  have S0 := ((Stay.start w).alloc (cbx c D E L nd cd ne ce nl cl)).alloc (gbx ⟨0, 0⟩ d0 43)
  rw [World.size_alloc] at S0
  have S1 := Lib.hid S0
  have HR := Lib.hid (FrameW.refReadData_any A cp l _ (hb.below S0.b) hl hc)
  have ok := dt_ok he
  rw [rdV_dt, he, hd] at HR
  rw [hd] at ok
  have HM := Lib.hid m
  have HSG := Lib.hid hs
  have hnE : ne ≤ 9223372036854775807 := by have := m.mE; unfold maxLen at this; omega
  have hnL : nl ≤ 9223372036854775807 := by have := m.mL; unfold maxLen at this; omega
  obtain ⟨n, hn, hk, hlt⟩ := ent_at h2 ok.l.1
  rw [← m.nE] at hlt
  obtain ⟨dc, dl, dn, dp, ds⟩ := d
  obtain rfl : dc = 1 := h1
  obtain rfl : dl = (n : Int) := hn
  have g0 : (n : Int) < (ne : Int) := by omega
  have g1 : decide ((ne : Int) ≤ (n : Int)) = false := decide_eq_false (by omega)
  have g4 : decide (ne ≤ n) = false := decide_eq_false (by omega)
  obtain ⟨b, off, rfl, l0, l1, l2, l3⟩ := ml_at m.he hk
  have E1 := Lib.hid l1
  have E3 := Lib.hid l3
  have HB := Lib.hid (m.he.u32 e (List.mem_of_getElem? hk))
  have HV := Lib.hid (show landV c (n : Int) t = (k, true) from h5)
  have HVV := Lib.hid (show (if tw Lt ⟨1, (n : Int), dn, dp, ds⟩ k = true then (3 : Int) else 0) = vv from hvv)
  clear hvv h5 h2 l0 l1 l2 l3
  have HH := Lib.hid (fun W => CrewW.refHas_any e.b h W HB.out)
  rw [h3] at HH
  clear h3
  have g2 : (e.d != ds) = false := by rw [bne_eq_false_iff_eq]; exact h4
  clear h4
  clear S0 hb hl hc hd he m ok hs
  go_enter Try.func13, Try.ntmps13
  go_wp2_with fail
  refine HR.out.mono ?_
  rintro r w1 ⟨rfl, b1⟩
  have S2 := Lib.hid ((S1.out.next b1).alloc (dbx ⟨1, (n : Int), dn, dp, ds⟩))
  have s3 := S2.out.alloc (gbx ⟨0, 0⟩ ⟨1, (n : Int), dn, dp, ds⟩ 43)
  rw [World.size_alloc] at s3
  have S3 := Lib.hid s3
  have HPQ := Lib.hid (show w.heap.size + 1 < w1.heap.size ∧ w.heap.size < w1.heap.size by
    have := lt_of_heap (S1.out.at 0 rfl)
    have := b1.size
    omega)
  clear b1 S1 HR s3
  obtain ⟨z0, z1, z2, z3, z4⟩ := cells5 (S2.out.at 0 rfl)
  obtain ⟨y0, y1, y2, y3, y4⟩ := cells5 (S3.out.at 1 rfl)
  obtain ⟨a0, a1, a2, a3, a4, a5, a6, a7, a8⟩ := PlanW.cells9 (S3.out.at 3 rfl)
  go_wp2
  generalize (w1.alloc (dbx ⟨1, (n : Int), dn, dp, ds⟩)).alloc (gbx ⟨0, 0⟩ ⟨1, (n : Int), dn, dp, ds⟩ 43) = w2 at *
  generalize hgq : w1.heap.size + 1 = g at *
  have HGQ := Lib.hid hgq
  clear hgq
  generalize w1.heap.size = q at *
  have SR := Lib.hid (S3.out.sub (M := [(q, dbx ⟨1, (n : Int), dn, dp, ds⟩), (w.heap.size, cbx c D (some ⟨b, off, none⟩) L nd cd ne ce nl cl)]) (by intro x hx; simp only [List.mem_cons, List.not_mem_nil, or_false] at hx ⊢; rcases hx with rfl | rfl <;> simp))
  have HGP := Lib.hid (show w.heap.size + 1 < g ∧ w.heap.size ≤ g by have := HPQ.out; have := HGQ.out; omega)
  apply wp_one
  case h =>
    refine wp_region_noPanic ?_
    refine wp_region_held_drew (S := fun Z : World => Stay w [(q, dbx ⟨1, (n : Int), dn, dp, ds⟩), (w.heap.size, cbx c D (some ⟨b, off, none⟩) L nd cd ne ce nl cl)] Z) (by kernel_rfl) (SR.out.drew) (fun hHeld => ?_)
    refine takeR 0 (some 32) ?_ ?_ ?_; rotate_left; (focus (intros; go_simp; (try with_reducible rfl)))
    simp only [aput, lset]
    refine takeR 1 (some 33) ?_ ?_ ?_; rotate_left; (focus (intro w hSw; (try dsimp only at hSw); obtain ⟨z0, z1, z2, z3, z4⟩ := cells5 (Stay.at hSw 0 rfl); obtain ⟨a0, a1, a2, a3, a4, a5, a6, a7, a8⟩ := PlanW.cells9 (Stay.at hSw 1 rfl); have l1 := cell_keep E1.out hSw.b; have l3 := cell_keep E3.out hSw.b; go_simp; (try with_reducible rfl)))
    simp only [aput, lset]
    refine takeR 2 (some 34) ?_ ?_ ?_; rotate_left; (focus (intros; go_simp; (try with_reducible rfl)))
    simp only [aput, lset]
    refine takeR 3 (some 35) ?_ ?_ ?_; rotate_left; (focus (intro w hSw; (try dsimp only at hSw); obtain ⟨z0, z1, z2, z3, z4⟩ := cells5 (Stay.at hSw 0 rfl); obtain ⟨a0, a1, a2, a3, a4, a5, a6, a7, a8⟩ := PlanW.cells9 (Stay.at hSw 1 rfl); have l1 := cell_keep E1.out hSw.b; have l3 := cell_keep E3.out hSw.b; go_simp; (try with_reducible rfl)))
    simp only [aput, lset]
    refine takeR 4 (some 36) ?_ ?_ ?_; rotate_left; (focus (intros; go_simp; (try with_reducible rfl)))
    simp only [aput, lset]
    refine takeR 5 (some 37) ?_ ?_ ?_; rotate_left; (focus (intros; go_simp; (try with_reducible rfl)))
    simp only [aput, lset]
    refine takeR 6 (some 38) ?_ ?_ ?_; rotate_left; (focus (intros; go_simp; (try with_reducible rfl)))
    simp only [aput, lset]
    refine takeR 7 (some 39) ?_ ?_ ?_; rotate_left; (focus (intros; go_simp; (try with_reducible rfl)))
    simp only [aput, lset]
    refine takeR 8 (some 40) ?_ ?_ ?_; rotate_left; (focus (intro w hSw; (try dsimp only at hSw); obtain ⟨z0, z1, z2, z3, z4⟩ := cells5 (Stay.at hSw 0 rfl); obtain ⟨a0, a1, a2, a3, a4, a5, a6, a7, a8⟩ := PlanW.cells9 (Stay.at hSw 1 rfl); have l1 := cell_keep E1.out hSw.b; have l3 := cell_keep E3.out hSw.b; go_simp; (try with_reducible rfl)))
    simp only [aput, lset]
    refine takeR 9 (some 41) ?_ ?_ ?_; rotate_left; (focus (intros; go_simp; (try with_reducible rfl)))
    simp only [aput, lset]
    refine takeR 10 (some 42) ?_ ?_ ?_; rotate_left; (focus (intro w hSw; (try dsimp only at hSw); obtain ⟨z0, z1, z2, z3, z4⟩ := cells5 (Stay.at hSw 0 rfl); obtain ⟨a0, a1, a2, a3, a4, a5, a6, a7, a8⟩ := PlanW.cells9 (Stay.at hSw 1 rfl); have l1 := cell_keep E1.out hSw.b; have l3 := cell_keep E3.out hSw.b; go_simp; (try with_reducible rfl)))
    simp only [aput, lset]
    refine takeR 11 (some 43) ?_ ?_ ?_; rotate_left; (focus (intros; go_simp; (try with_reducible rfl)))
    simp only [aput, lset]
    refine takeR 12 (some 44) ?_ ?_ ?_; rotate_left; (focus (intros; go_simp; (try with_reducible rfl)))
    simp only [aput, lset]
    refine takeR 13 (some 45) ?_ ?_ ?_; rotate_left; (focus (intro w hSw; (try dsimp only at hSw); obtain ⟨z0, z1, z2, z3, z4⟩ := cells5 (Stay.at hSw 0 rfl); obtain ⟨a0, a1, a2, a3, a4, a5, a6, a7, a8⟩ := PlanW.cells9 (Stay.at hSw 1 rfl); have l1 := cell_keep E1.out hSw.b; have l3 := cell_keep E3.out hSw.b; go_simp; (try with_reducible rfl)))
    simp only [aput, lset]
    refine takeR 14 (some 46) ?_ ?_ ?_; rotate_left; (focus (intros; go_simp; (try with_reducible rfl)))
    simp only [aput, lset]
    refine wpAnyH_ready (rs := [15]) (by kernel_rfl) (by simp) ?_
    refine AllReadyH.cons (o := ⟨some 47, _, _, _, _, _⟩) rfl (fun K hK => ?_) AllReadyH.nil
    rw [if_pos (by kernel_rfl)]
    go_simp
    refine (HH.out _).mono ?_
    rintro r w9 ⟨rfl, hw9⟩
    obtain rfl := hw9.symm
    go_simp
    refine hK.out _ _ (by assumption) (fun hHeld => ?_)
    clear hK K
    refine takeR 16 (some 48) ?_ ?_ ?_; rotate_left; (focus (intros; go_simp; (try with_reducible rfl)))
    simp only [aput, lset]
    refine takeR 17 (some 49) ?_ ?_ ?_; rotate_left; (focus (intros; go_simp; (try with_reducible rfl)))
    simp only [aput, lset]
    refine takeR 18 (some 50) ?_ ?_ ?_; rotate_left; (focus (intros; go_simp; (try with_reducible rfl)))
    simp only [aput, lset]
    refine takeR 19 (some 51) ?_ ?_ ?_; rotate_left; (focus (intros; go_simp; (try with_reducible rfl)))
    simp only [aput, lset]
    refine takeR 20 (some 52) ?_ ?_ ?_; rotate_left; (focus (intro w hSw; (try dsimp only at hSw); obtain ⟨z0, z1, z2, z3, z4⟩ := cells5 (Stay.at hSw 0 rfl); obtain ⟨a0, a1, a2, a3, a4, a5, a6, a7, a8⟩ := PlanW.cells9 (Stay.at hSw 1 rfl); have l1 := cell_keep E1.out hSw.b; have l3 := cell_keep E3.out hSw.b; go_simp; (try with_reducible rfl)))
    simp only [aput, lset]
    refine takeR 21 (some 53) ?_ ?_ ?_; rotate_left; (focus (intros; go_simp; (try with_reducible rfl)))
    simp only [aput, lset]
    refine takeR 22 (some 54) ?_ ?_ ?_; rotate_left; (focus (intro w hSw; (try dsimp only at hSw); obtain ⟨z0, z1, z2, z3, z4⟩ := cells5 (Stay.at hSw 0 rfl); obtain ⟨a0, a1, a2, a3, a4, a5, a6, a7, a8⟩ := PlanW.cells9 (Stay.at hSw 1 rfl); have l1 := cell_keep E1.out hSw.b; have l3 := cell_keep E3.out hSw.b; go_simp; (try with_reducible rfl)))
    simp only [aput, lset]
    refine takeR 23 (some 55) ?_ ?_ ?_; rotate_left; (focus (intros; go_simp; (try with_reducible rfl)))
    simp only [aput, lset]
    refine takeR 24 (some 56) ?_ ?_ ?_; rotate_left; (focus (intros; go_simp; (try with_reducible rfl)))
    simp only [aput, lset]
    refine takeR 25 (some 57) ?_ ?_ ?_; rotate_left; (focus (intro w hSw; (try dsimp only at hSw); obtain ⟨z0, z1, z2, z3, z4⟩ := cells5 (Stay.at hSw 0 rfl); obtain ⟨a0, a1, a2, a3, a4, a5, a6, a7, a8⟩ := PlanW.cells9 (Stay.at hSw 1 rfl); have l1 := cell_keep E1.out hSw.b; have l3 := cell_keep E3.out hSw.b; go_simp; (try with_reducible rfl)))
    simp only [aput, lset]
    refine takeR 26 (some 58) ?_ ?_ ?_; rotate_left; (focus (intros; go_simp; (try with_reducible rfl)))
    simp only [aput, lset]
    refine takeR 27 (some 59) ?_ ?_ ?_; rotate_left; (focus (intro w hSw; (try dsimp only at hSw); obtain ⟨z0, z1, z2, z3, z4⟩ := cells5 (Stay.at hSw 0 rfl); obtain ⟨a0, a1, a2, a3, a4, a5, a6, a7, a8⟩ := PlanW.cells9 (Stay.at hSw 1 rfl); have l1 := cell_keep E1.out hSw.b; have l3 := cell_keep E3.out hSw.b; go_simp; (try with_reducible rfl)))
    simp only [aput, lset]
    refine takeR 28 (some 60) ?_ ?_ ?_; rotate_left; (focus (intros; go_simp; (try with_reducible rfl)))
    simp only [aput, lset]
    refine takeR 29 (some 61) ?_ ?_ ?_; rotate_left; (focus (intros; go_simp; (try with_reducible rfl)))
    simp only [aput, lset]
    refine wpAnyH_done (by kernel_rfl) ?_ _
    exact NoPanic.normal ⟨rfl, rfl, rfl⟩
  case hm =>
    have S4 := Lib.hid S3.out.drew
    have HP := Lib.hid (PlanW.refLand_any c D (some ⟨b, off, none⟩) L nd cd ne ce nl cl (n : Int) t _ (HM.out.below S4.out.b))
    rw [HV.out] at HP
    obtain ⟨z0, z1, z2, z3, z4⟩ := cells5 (S4.out.at 1 rfl)
    obtain ⟨a0, a1, a2, a3, a4, a5, a6, a7, a8⟩ := PlanW.cells9 (S4.out.at 3 rfl)
    go_wp2_with fail
    refine HP.out.mono ?_
    rintro r w3 ⟨rfl, b3⟩
    have S5 := Lib.hid (S4.out.next b3)
    clear b3 HP S4 S3 SR z0 z1 z2 z3 z4 a0 a1 a2 a3 a4 a5 a6 a7 a8
    obtain ⟨y0, y1, y2, y3, y4, y5, y6⟩ := cells7 (S5.out.at 0 rfl)
    obtain ⟨f0, f1, f2, f3, f4, f5, f6⟩ := frozen7 (S5.out.at 0 rfl)
    have SL := Lib.hid (show Stay w [(g, gbx (⟨if tw (Lt.take 0) ⟨1, (n : Int), dn, dp, ds⟩ k = true then 3 else 0, k⟩ : Vg) ⟨1, (n : Int), dn, dp, ds⟩ 43), (q, dbx ⟨1, (n : Int), dn, dp, ds⟩), (w.heap.size + 1, gbx ⟨0, 0⟩ d0 43), (w.heap.size, cbx c D (some ⟨b, off, none⟩) L nd cd ne ce nl cl)] (w3.setCell ⟨g, 6, none⟩ (.int .i64 k)) from S5.out.turn (kept1 w3 g 6 _) (heap_setCell_same w3 g 6 _ _ _ (S5.out.at 0 rfl)) HGP.out.2 (fun z hz e => by
      have := HGP.out
      have := HGQ.out
      simp only [List.mem_cons, List.not_mem_nil, or_false] at hz
      rcases hz with rfl | rfl | rfl <;> dsimp only at e <;> omega))
    go_wp2
    clear y0 y1 y2 y3 y4 y5 y6 f0 f1 f2 f3 f4 f5 f6 S5
    generalize w3.setCell ⟨g, 6, none⟩ (.int .i64 k) = w4 at *
    go_loopw [16] (fun iv wr => ∃ (i : Nat), i ≤ Lt.length ∧ iv = .int .i64 i ∧ Hid (Stay w [(g, gbx (⟨if tw (Lt.take i) ⟨1, (n : Int), dn, dp, ds⟩ k = true then 3 else 0, k⟩ : Vg) ⟨1, (n : Int), dn, dp, ds⟩ 43), (q, dbx ⟨1, (n : Int), dn, dp, ds⟩), (w.heap.size + 1, gbx ⟨0, 0⟩ d0 43), (w.heap.size, cbx c D (some ⟨b, off, none⟩) L nd cd ne ce nl cl)] wr)) (fun iv _ => Lt.length - (intOf iv).toNat)
    case atStart => exact ⟨0, Nat.zero_le _, rfl, SL⟩
    case round =>
      clear SL
      obtain ⟨i, hi, rfl, HS⟩ := hrel
      by_cases hlt : (i : Int) < (Lt.length : Int)
      · obtain ⟨x, hx⟩ : ∃ x, Lt[i]? = some x := ⟨_, List.getElem?_eq_getElem (by omega)⟩
        obtain ⟨vb, vo, rfl, -, hcs⟩ := (HSG.out.below HS.out.b) i x hx
        have r0 : wr.cell? ⟨vb, vo + i * 7, none⟩ = some (.int .i64 0) := hcs 0 _ rfl
        have r1 : wr.cell? ⟨vb, vo + i * 7 + 1, none⟩ = some (.int .i64 x.d.c) := hcs 1 _ rfl
        have r2 : wr.cell? ⟨vb, vo + i * 7 + 2, none⟩ = some (.int .i64 x.d.l) := hcs 2 _ rfl
        have r3 : wr.cell? ⟨vb, vo + i * 7 + 3, none⟩ = some (.int .i64 x.d.n) := hcs 3 _ rfl
        have r4 : wr.cell? ⟨vb, vo + i * 7 + 4, none⟩ = some (.string x.d.p) := hcs 4 _ rfl
        have r5 : wr.cell? ⟨vb, vo + i * 7 + 5, none⟩ = some (.int .i64 x.d.s) := hcs 5 _ rfl
        have r6 : wr.cell? ⟨vb, vo + i * 7 + 6, none⟩ = some (.int .i64 x.k) := hcs 6 _ rfl
        have HT := Lib.hid (show tw (Lt.take (i + 1)) ⟨1, (n : Int), dn, dp, ds⟩ k = (tw (Lt.take i) ⟨1, (n : Int), dn, dp, ds⟩ k || bars ⟨1, (n : Int), dn, dp, ds⟩ k x) by rw [List.take_add_one, hx]; exact tw_snoc _ _ _ _)
        have SX := Lib.hid (HS.out.alloc (gbx ⟨0, x.k⟩ x.d 43))
        have hX := Lib.hid hx
        clear hcs hx HS
        obtain ⟨xd, xk⟩ := x
        obtain ⟨xc, xl, xn, xp, xs⟩ := xd
        dsimp only at r0 r1 r2 r3 r4 r5 r6
        generalize hvw : (if tw (Lt.take i) ⟨1, (n : Int), dn, dp, ds⟩ k = true then (3 : Int) else 0) = vw at *
        obtain ⟨z0, z1, z2, z3, z4⟩ := cells5 (SX.out.at 2 rfl)
        obtain ⟨y0, y1, y2, y3, y4, y5, y6⟩ := cells7 (SX.out.at 1 rfl)
        obtain ⟨u0, u1, u2, u3, u4, u5, u6⟩ := cells7 (SX.out.at 0 rfl)
        have NO := Lib.hid (show bars ⟨1, (n : Int), dn, dp, ds⟩ k ⟨⟨xc, xl, xn, xp, xs⟩, xk⟩ = false → Stay w [(g, gbx (⟨if tw (Lt.take (i + 1)) ⟨1, (n : Int), dn, dp, ds⟩ k = true then 3 else 0, k⟩ : Vg) ⟨1, (n : Int), dn, dp, ds⟩ 43), (q, dbx ⟨1, (n : Int), dn, dp, ds⟩), (w.heap.size + 1, gbx ⟨0, 0⟩ d0 43), (w.heap.size, cbx c D (some ⟨b, off, none⟩) L nd cd ne ce nl cl)] (wr.alloc (gbx ⟨0, xk⟩ ⟨xc, xl, xn, xp, xs⟩ 43)) from fun hb => by rw [HT.out, hb, Bool.or_false, hvw]; exact SX.out.drop)
        have YE := Lib.hid (show bars ⟨1, (n : Int), dn, dp, ds⟩ k ⟨⟨xc, xl, xn, xp, xs⟩, xk⟩ = true → Stay w [(g, gbx (⟨if tw (Lt.take (i + 1)) ⟨1, (n : Int), dn, dp, ds⟩ k = true then 3 else 0, k⟩ : Vg) ⟨1, (n : Int), dn, dp, ds⟩ 43), (q, dbx ⟨1, (n : Int), dn, dp, ds⟩), (w.heap.size + 1, gbx ⟨0, 0⟩ d0 43), (w.heap.size, cbx c D (some ⟨b, off, none⟩) L nd cd ne ce nl cl)] ((wr.alloc (gbx ⟨0, xk⟩ ⟨xc, xl, xn, xp, xs⟩ 43)).setCell ⟨g, 0, none⟩ (.int .i64 3)) from fun hb => by
          rw [HT.out, hb, Bool.or_true, if_pos rfl]
          exact SX.out.drop.turn (kept1 _ g 0 _) (heap_setCell_same _ g 0 _ _ _ (SX.out.drop.at 0 rfl)) HGP.out.2 (fun z hz e => by
            have := HGP.out
            have := HGQ.out
            simp only [List.mem_cons, List.not_mem_nil, or_false] at hz
            rcases hz with rfl | rfl | rfl <;> dsimp only at e <;> omega))
        have fz := frozen7 (SX.out.at 1 rfl)
        obtain ⟨f0, f1, f2, f3, f4, f5, f6⟩ := fz
        clear SX HT hvw
        by_cases e1 : xc = 1
        case neg =>
          have b1 : (xc == 1) = false := by rw [beq_eq_false_iff_ne]; exact e1
          have HN := Lib.hid (NO.out (by unfold bars; simp [e1]))
          clear NO YE e1
          go_wp2
          go_roundw
          case rel => exact ⟨i + 1, by omega, by go_num, HN⟩
          case measure => simp [intOf]; omega
        subst e1
        by_cases e2 : xl = (n : Int)
        case neg =>
          have b1 : (xl == (n : Int)) = false := by rw [beq_eq_false_iff_ne]; exact e2
          have HN := Lib.hid (NO.out (by unfold bars; simp [e2]))
          clear NO YE e2
          go_wp2
          go_roundw
          case rel => exact ⟨i + 1, by omega, by go_num, HN⟩
          case measure => simp [intOf]; omega
        subst e2
        by_cases c3 : k ≤ xk
        case neg =>
          have g9 : decide (k ≤ xk) = false := decide_eq_false c3
          have g10 : ¬ xk ≥ k := c3
          have HN := Lib.hid (NO.out (by unfold bars; simp [c3]))
          clear NO YE c3
          go_wp2
          go_roundw
          case rel => exact ⟨i + 1, by omega, by go_num, HN⟩
          case measure => simp [intOf]; omega
        have g9 : decide (k ≤ xk) = true := decide_eq_true c3
        have g10 : xk ≥ k := c3
        have HN := Lib.hid (YE.out (by unfold bars; simp [c3]))
        clear NO YE c3
        go_wp2
        go_roundw
        case rel => exact ⟨i + 1, by omega, by go_num, HN⟩
        case measure => simp [intOf]; omega
      · obtain rfl : Lt.length = i := by omega
        have SE := Lib.hid (show Stay w [(g, gbx (⟨if tw Lt ⟨1, (n : Int), dn, dp, ds⟩ k = true then 3 else 0, k⟩ : Vg) ⟨1, (n : Int), dn, dp, ds⟩ 43), (q, dbx ⟨1, (n : Int), dn, dp, ds⟩), (w.heap.size + 1, gbx ⟨0, 0⟩ d0 43), (w.heap.size, cbx c D (some ⟨b, off, none⟩) L nd cd ne ce nl cl)] wr by have := HS.out; rwa [List.take_length] at this)
        clear HS
        rw [HVV.out] at SE
        clear HVV
        obtain ⟨y0, y1, y2, y3, y4, y5, y6⟩ := cells7 (SE.out.at 0 rfl)
        obtain ⟨x0, x1, x2, x3, x4, x5, x6⟩ := cells7 (SE.out.at 2 rfl)
        obtain ⟨e0, e1, e2, e3, e4, e5, e6⟩ := frozen7 (SE.out.at 2 rfl)
        go_wp2
        exact ret_g rfl rfl (put7 (SE.out.at 2 rfl) _ _ _ _ _ _ _) ⟨rfl, SE.out.b.trans ((kept7 _ _ _ _ _ _ _ _ _).below (Nat.le_succ _) SE.out.b.size)⟩
set_option maxHeartbeats 4000000 in
set_option maxRecDepth 100000 in
theorem rr0 (c : Cfg) (D E L : Option Addr) (nd cd ne ce nl cl : Nat) (h t : Int) (Av : Option Addr) (Lt : List Tn) (cv : Nat) (A : Option Addr) (l : List Int) (cp : Nat) (w : World) (m : CM w c D E L nd cd ne ce nl cl) (hb : BL w A l) (hl : l.length ≤ 9223372036854775807) (hc : l.length ≤ cp) (d : Dt) (hd : dt l = d) (he : rdE l = 0) (hs : SG F19 w Av Lt) (h1 : d.c = 2) (h2 : lnkAt c d.l = none) :
    Calls Try.prog 13 #[.agg #[.int .i64 c.hosts, .int .i64 c.cycle, .int .i64 c.delay, .int .i64 c.window, .int .i64 c.precision, .slice D nd cd, .slice E ne ce, .slice L nl cl, .int .i64 c.queue], .int .i64 h, .slice Av Lt.length cv, .int .i64 t, .slice A l.length cp] w fun r w' => r = .returned (gg d ⟨1, 0⟩) ∧ Below w.heap.size w w' := by
  have S0 := ((Stay.start w).alloc (cbx c D E L nd cd ne ce nl cl)).alloc (gbx ⟨0, 0⟩ d0 43)
  rw [World.size_alloc] at S0
  have S1 := Lib.hid S0
  have HR := Lib.hid (FrameW.refReadData_any A cp l _ (hb.below S0.b) hl hc)
  have ok := dt_ok he
  rw [rdV_dt, he, hd] at HR
  rw [hd] at ok
  have HM := Lib.hid m
  have HSG := Lib.hid hs
  have hnE : ne ≤ 9223372036854775807 := by have := m.mE; unfold maxLen at this; omega
  have hnL : nl ≤ 9223372036854775807 := by have := m.mL; unfold maxLen at this; omega
  have g0 := lnk_no h2 ok.l.1
  rw [← m.nL] at g0
  obtain ⟨dc, dl, dn, dp, ds⟩ := d
  obtain rfl : dc = 2 := h1
  replace g0 : dl ≥ (nl : Int) := g0
  have g1 : decide ((nl : Int) ≤ dl) = true := decide_eq_true g0
  clear h2
  clear S0 hb hl hc hd he m ok hs
  go_enter Try.func13, Try.ntmps13
  go_wp2_with fail
  refine HR.out.mono ?_
  rintro r w1 ⟨rfl, b1⟩
  have S2 := Lib.hid ((S1.out.next b1).alloc (dbx ⟨2, dl, dn, dp, ds⟩))
  have s3 := S2.out.alloc (gbx ⟨0, 0⟩ ⟨2, dl, dn, dp, ds⟩ 43)
  rw [World.size_alloc] at s3
  have S3 := Lib.hid s3
  have HPQ := Lib.hid (show w.heap.size + 1 < w1.heap.size ∧ w.heap.size < w1.heap.size by
    have := lt_of_heap (S1.out.at 0 rfl)
    have := b1.size
    omega)
  clear b1 S1 HR s3
  obtain ⟨z0, z1, z2, z3, z4⟩ := cells5 (S2.out.at 0 rfl)
  obtain ⟨y0, y1, y2, y3, y4⟩ := cells5 (S3.out.at 1 rfl)
  obtain ⟨a0, a1, a2, a3, a4, a5, a6, a7, a8⟩ := PlanW.cells9 (S3.out.at 3 rfl)
  go_wp2
  generalize (w1.alloc (dbx ⟨2, dl, dn, dp, ds⟩)).alloc (gbx ⟨0, 0⟩ ⟨2, dl, dn, dp, ds⟩ 43) = w2 at *
  generalize hgq : w1.heap.size + 1 = g at *
  have HGQ := Lib.hid hgq
  clear hgq
  generalize w1.heap.size = q at *
  have SR := Lib.hid (S3.out.sub (M := [(q, dbx ⟨2, dl, dn, dp, ds⟩), (w.heap.size, cbx c D E L nd cd ne ce nl cl)]) (by intro x hx; simp only [List.mem_cons, List.not_mem_nil, or_false] at hx ⊢; rcases hx with rfl | rfl <;> simp))
  have HGP := Lib.hid (show w.heap.size + 1 < g ∧ w.heap.size ≤ g by have := HPQ.out; have := HGQ.out; omega)
  apply wp_one
  case h =>
    refine wp_region_noPanic ?_
    refine wp_region_held_drew (S := fun Z : World => Stay w [(q, dbx ⟨2, dl, dn, dp, ds⟩), (w.heap.size, cbx c D E L nd cd ne ce nl cl)] Z) (by kernel_rfl) (SR.out.drew) (fun hHeld => ?_)
    refine takeR 0 (some 80) ?_ ?_ ?_; rotate_left; (focus (intros; go_simp; (try with_reducible rfl)))
    simp only [aput, lset]
    refine takeR 1 (some 81) ?_ ?_ ?_; rotate_left; (focus (intro w hSw; (try dsimp only at hSw); obtain ⟨z0, z1, z2, z3, z4⟩ := cells5 (Stay.at hSw 0 rfl); obtain ⟨a0, a1, a2, a3, a4, a5, a6, a7, a8⟩ := PlanW.cells9 (Stay.at hSw 1 rfl); go_simp; (try with_reducible rfl)))
    simp only [aput, lset]
    refine takeR 2 (some 82) ?_ ?_ ?_; rotate_left; (focus (intros; go_simp; (try with_reducible rfl)))
    simp only [aput, lset]
    refine takeR 3 (some 83) ?_ ?_ ?_; rotate_left; (focus (intro w hSw; (try dsimp only at hSw); obtain ⟨z0, z1, z2, z3, z4⟩ := cells5 (Stay.at hSw 0 rfl); obtain ⟨a0, a1, a2, a3, a4, a5, a6, a7, a8⟩ := PlanW.cells9 (Stay.at hSw 1 rfl); go_simp; (try with_reducible rfl)))
    simp only [aput, lset]
    refine takeR 4 (some 84) ?_ ?_ ?_; rotate_left; (focus (intros; go_simp; (try with_reducible rfl)))
    simp only [aput, lset]
    refine takeR 5 (some 85) ?_ ?_ ?_; rotate_left; (focus (intros; go_simp; (try with_reducible rfl)))
    simp only [aput, lset]
    refine takeR 6 (some 86) ?_ ?_ ?_; rotate_left; (focus (intros; go_simp; (try with_reducible rfl)))
    simp only [aput, lset]
    refine skipR 7 (some 87) ?_
    simp only [aput, lset]
    refine skipR 8 (some 88) ?_
    simp only [aput, lset]
    refine skipR 9 (some 89) ?_
    simp only [aput, lset]
    refine skipR 10 (some 90) ?_
    simp only [aput, lset]
    refine skipR 11 (some 91) ?_
    simp only [aput, lset]
    refine skipR 12 (some 92) ?_
    simp only [aput, lset]
    refine skipR 13 (some 93) ?_
    simp only [aput, lset]
    refine skipR 14 (some 94) ?_
    simp only [aput, lset]
    refine skipR 15 (some 95) ?_
    simp only [aput, lset]
    refine skipR 16 (some 96) ?_
    simp only [aput, lset]
    refine takeR 17 (some 97) ?_ ?_ ?_; rotate_left; (focus (intros; go_simp; (try with_reducible rfl)))
    simp only [aput, lset]
    refine takeR 18 (some 98) ?_ ?_ ?_; rotate_left; (focus (intros; go_simp; (try with_reducible rfl)))
    simp only [aput, lset]
    refine skipR 19 (some 99) ?_
    simp only [aput, lset]
    refine skipR 20 (some 100) ?_
    simp only [aput, lset]
    refine skipR 21 (some 101) ?_
    simp only [aput, lset]
    refine skipR 22 (some 102) ?_
    simp only [aput, lset]
    refine skipR 23 (some 103) ?_
    simp only [aput, lset]
    refine skipR 24 (some 104) ?_
    simp only [aput, lset]
    refine skipR 25 (some 105) ?_
    simp only [aput, lset]
    refine skipR 26 (some 106) ?_
    simp only [aput, lset]
    refine skipR 27 (some 107) ?_
    simp only [aput, lset]
    refine skipR 28 (some 108) ?_
    simp only [aput, lset]
    refine takeR 29 (some 109) ?_ ?_ ?_; rotate_left; (focus (intros; go_simp; (try with_reducible rfl)))
    simp only [aput, lset]
    refine wpAnyH_done (by kernel_rfl) ?_ _
    exact NoPanic.normal ⟨rfl, rfl, rfl⟩
  case hm =>
    have S4 := Lib.hid S3.out.drew
    clear S3 SR
    generalize w2.drew = w3 at *
    have T := Lib.hid (why_end S4.out HGP.out 1)
    obtain ⟨t0, t1, t2, t3, t4, t5, t6⟩ := cells7 (S4.out.at 0 rfl)
    obtain ⟨f0, f1, f2, f3, f4, f5, f6⟩ := frozen7 (S4.out.at 0 rfl)
    obtain ⟨u0, u1, u2, u3, u4, u5, u6⟩ := cells7 T.out.1
    obtain ⟨x0, x1, x2, x3, x4, x5, x6⟩ := cells7 T.out.2.1
    obtain ⟨e0, e1, e2, e3, e4, e5, e6⟩ := frozen7 T.out.2.1
    go_wp2
    exact ret_g rfl rfl (put7 T.out.2.1 _ _ _ _ _ _ _) ⟨rfl, T.out.2.2.trans ((kept7 _ _ _ _ _ _ _ _ _).below (Nat.le_succ _) T.out.2.2.size)⟩
set_option maxHeartbeats 4000000 in
set_option maxRecDepth 100000 in
theorem rr1 (c : Cfg) (D E L : Option Addr) (nd cd ne ce nl cl : Nat) (h t : Int) (Av : Option Addr) (Lt : List Tn) (cv : Nat) (A : Option Addr) (l : List Int) (cp : Nat) (w : World) (m : CM w c D E L nd cd ne ce nl cl) (hb : BL w A l) (hl : l.length ≤ 9223372036854775807) (hc : l.length ≤ cp) (d : Dt) (hd : dt l = d) (he : rdE l = 0) (hs : SG F19 w Av Lt) (e : R4) (h1 : d.c = 2) (h2 : lnkAt c d.l = some e) (h3 : CrewW.has e.b h = false) :
    Calls Try.prog 13 #[.agg #[.int .i64 c.hosts, .int .i64 c.cycle, .int .i64 c.delay, .int .i64 c.window, .int .i64 c.precision, .slice D nd cd, .slice E ne ce, .slice L nl cl, .int .i64 c.queue], .int .i64 h, .slice Av Lt.length cv, .int .i64 t, .slice A l.length cp] w fun r w' => r = .returned (gg d ⟨1, 0⟩) ∧ Below w.heap.size w w' := by
  have S0 := ((Stay.start w).alloc (cbx c D E L nd cd ne ce nl cl)).alloc (gbx ⟨0, 0⟩ d0 43)
  rw [World.size_alloc] at S0
  have S1 := Lib.hid S0
  have HR := Lib.hid (FrameW.refReadData_any A cp l _ (hb.below S0.b) hl hc)
  have ok := dt_ok he
  rw [rdV_dt, he, hd] at HR
  rw [hd] at ok
  have HM := Lib.hid m
  have HSG := Lib.hid hs
  have hnE : ne ≤ 9223372036854775807 := by have := m.mE; unfold maxLen at this; omega
  have hnL : nl ≤ 9223372036854775807 := by have := m.mL; unfold maxLen at this; omega
  obtain ⟨n, hn, hk, hlt⟩ := lnk_at h2 ok.l.1
  rw [← m.nL] at hlt
  obtain ⟨dc, dl, dn, dp, ds⟩ := d
  obtain rfl : dc = 2 := h1
  obtain rfl : dl = (n : Int) := hn
  have g0 : (n : Int) < (nl : Int) := by omega
  have g1 : decide ((nl : Int) ≤ (n : Int)) = false := decide_eq_false (by omega)
  have g4 : decide (nl ≤ n) = false := decide_eq_false (by omega)
  obtain ⟨b, off, rfl, l0, l1, l2, l3⟩ := ml_at m.hl hk
  have E1 := Lib.hid l1
  have E3 := Lib.hid l3
  have HB := Lib.hid (m.hl.u32 e (List.mem_of_getElem? hk))
  clear h2 l0 l1 l2 l3
  have HH := Lib.hid (fun W => CrewW.refHas_any e.b h W HB.out)
  rw [h3] at HH
  clear h3
  clear S0 hb hl hc hd he m ok hs
  go_enter Try.func13, Try.ntmps13
  go_wp2_with fail
  refine HR.out.mono ?_
  rintro r w1 ⟨rfl, b1⟩
  have S2 := Lib.hid ((S1.out.next b1).alloc (dbx ⟨2, (n : Int), dn, dp, ds⟩))
  have s3 := S2.out.alloc (gbx ⟨0, 0⟩ ⟨2, (n : Int), dn, dp, ds⟩ 43)
  rw [World.size_alloc] at s3
  have S3 := Lib.hid s3
  have HPQ := Lib.hid (show w.heap.size + 1 < w1.heap.size ∧ w.heap.size < w1.heap.size by
    have := lt_of_heap (S1.out.at 0 rfl)
    have := b1.size
    omega)
  clear b1 S1 HR s3
  obtain ⟨z0, z1, z2, z3, z4⟩ := cells5 (S2.out.at 0 rfl)
  obtain ⟨y0, y1, y2, y3, y4⟩ := cells5 (S3.out.at 1 rfl)
  obtain ⟨a0, a1, a2, a3, a4, a5, a6, a7, a8⟩ := PlanW.cells9 (S3.out.at 3 rfl)
  go_wp2
  generalize (w1.alloc (dbx ⟨2, (n : Int), dn, dp, ds⟩)).alloc (gbx ⟨0, 0⟩ ⟨2, (n : Int), dn, dp, ds⟩ 43) = w2 at *
  generalize hgq : w1.heap.size + 1 = g at *
  have HGQ := Lib.hid hgq
  clear hgq
  generalize w1.heap.size = q at *
  have SR := Lib.hid (S3.out.sub (M := [(q, dbx ⟨2, (n : Int), dn, dp, ds⟩), (w.heap.size, cbx c D E (some ⟨b, off, none⟩) nd cd ne ce nl cl)]) (by intro x hx; simp only [List.mem_cons, List.not_mem_nil, or_false] at hx ⊢; rcases hx with rfl | rfl <;> simp))
  have HGP := Lib.hid (show w.heap.size + 1 < g ∧ w.heap.size ≤ g by have := HPQ.out; have := HGQ.out; omega)
  apply wp_one
  case h =>
    refine wp_region_noPanic ?_
    refine wp_region_held_drew (S := fun Z : World => Stay w [(q, dbx ⟨2, (n : Int), dn, dp, ds⟩), (w.heap.size, cbx c D E (some ⟨b, off, none⟩) nd cd ne ce nl cl)] Z) (by kernel_rfl) (SR.out.drew) (fun hHeld => ?_)
    refine takeR 0 (some 80) ?_ ?_ ?_; rotate_left; (focus (intros; go_simp; (try with_reducible rfl)))
    simp only [aput, lset]
    refine takeR 1 (some 81) ?_ ?_ ?_; rotate_left; (focus (intro w hSw; (try dsimp only at hSw); obtain ⟨z0, z1, z2, z3, z4⟩ := cells5 (Stay.at hSw 0 rfl); obtain ⟨a0, a1, a2, a3, a4, a5, a6, a7, a8⟩ := PlanW.cells9 (Stay.at hSw 1 rfl); have l1 := cell_keep E1.out hSw.b; have l3 := cell_keep E3.out hSw.b; go_simp; (try with_reducible rfl)))
    simp only [aput, lset]
    refine takeR 2 (some 82) ?_ ?_ ?_; rotate_left; (focus (intros; go_simp; (try with_reducible rfl)))
    simp only [aput, lset]
    refine takeR 3 (some 83) ?_ ?_ ?_; rotate_left; (focus (intro w hSw; (try dsimp only at hSw); obtain ⟨z0, z1, z2, z3, z4⟩ := cells5 (Stay.at hSw 0 rfl); obtain ⟨a0, a1, a2, a3, a4, a5, a6, a7, a8⟩ := PlanW.cells9 (Stay.at hSw 1 rfl); have l1 := cell_keep E1.out hSw.b; have l3 := cell_keep E3.out hSw.b; go_simp; (try with_reducible rfl)))
    simp only [aput, lset]
    refine takeR 4 (some 84) ?_ ?_ ?_; rotate_left; (focus (intros; go_simp; (try with_reducible rfl)))
    simp only [aput, lset]
    refine takeR 5 (some 85) ?_ ?_ ?_; rotate_left; (focus (intros; go_simp; (try with_reducible rfl)))
    simp only [aput, lset]
    refine takeR 6 (some 86) ?_ ?_ ?_; rotate_left; (focus (intros; go_simp; (try with_reducible rfl)))
    simp only [aput, lset]
    refine takeR 7 (some 87) ?_ ?_ ?_; rotate_left; (focus (intros; go_simp; (try with_reducible rfl)))
    simp only [aput, lset]
    refine takeR 8 (some 88) ?_ ?_ ?_; rotate_left; (focus (intro w hSw; (try dsimp only at hSw); obtain ⟨z0, z1, z2, z3, z4⟩ := cells5 (Stay.at hSw 0 rfl); obtain ⟨a0, a1, a2, a3, a4, a5, a6, a7, a8⟩ := PlanW.cells9 (Stay.at hSw 1 rfl); have l1 := cell_keep E1.out hSw.b; have l3 := cell_keep E3.out hSw.b; go_simp; (try with_reducible rfl)))
    simp only [aput, lset]
    refine takeR 9 (some 89) ?_ ?_ ?_; rotate_left; (focus (intros; go_simp; (try with_reducible rfl)))
    simp only [aput, lset]
    refine takeR 10 (some 90) ?_ ?_ ?_; rotate_left; (focus (intro w hSw; (try dsimp only at hSw); obtain ⟨z0, z1, z2, z3, z4⟩ := cells5 (Stay.at hSw 0 rfl); obtain ⟨a0, a1, a2, a3, a4, a5, a6, a7, a8⟩ := PlanW.cells9 (Stay.at hSw 1 rfl); have l1 := cell_keep E1.out hSw.b; have l3 := cell_keep E3.out hSw.b; go_simp; (try with_reducible rfl)))
    simp only [aput, lset]
    refine takeR 11 (some 91) ?_ ?_ ?_; rotate_left; (focus (intros; go_simp; (try with_reducible rfl)))
    simp only [aput, lset]
    refine takeR 12 (some 92) ?_ ?_ ?_; rotate_left; (focus (intros; go_simp; (try with_reducible rfl)))
    simp only [aput, lset]
    refine takeR 13 (some 93) ?_ ?_ ?_; rotate_left; (focus (intro w hSw; (try dsimp only at hSw); obtain ⟨z0, z1, z2, z3, z4⟩ := cells5 (Stay.at hSw 0 rfl); obtain ⟨a0, a1, a2, a3, a4, a5, a6, a7, a8⟩ := PlanW.cells9 (Stay.at hSw 1 rfl); have l1 := cell_keep E1.out hSw.b; have l3 := cell_keep E3.out hSw.b; go_simp; (try with_reducible rfl)))
    simp only [aput, lset]
    refine takeR 14 (some 94) ?_ ?_ ?_; rotate_left; (focus (intros; go_simp; (try with_reducible rfl)))
    simp only [aput, lset]
    refine wpAnyH_ready (rs := [15]) (by kernel_rfl) (by simp) ?_
    refine AllReadyH.cons (o := ⟨some 95, _, _, _, _, _⟩) rfl (fun K hK => ?_) AllReadyH.nil
    rw [if_pos (by kernel_rfl)]
    go_simp
    refine (HH.out _).mono ?_
    rintro r w9 ⟨rfl, hw9⟩
    obtain rfl := hw9.symm
    go_simp
    refine hK.out _ _ (by assumption) (fun hHeld => ?_)
    clear hK K
    refine takeR 16 (some 96) ?_ ?_ ?_; rotate_left; (focus (intros; go_simp; (try with_reducible rfl)))
    simp only [aput, lset]
    refine takeR 17 (some 97) ?_ ?_ ?_; rotate_left; (focus (intros; go_simp; (try with_reducible rfl)))
    simp only [aput, lset]
    refine takeR 18 (some 98) ?_ ?_ ?_; rotate_left; (focus (intros; go_simp; (try with_reducible rfl)))
    simp only [aput, lset]
    refine skipR 19 (some 99) ?_
    simp only [aput, lset]
    refine skipR 20 (some 100) ?_
    simp only [aput, lset]
    refine skipR 21 (some 101) ?_
    simp only [aput, lset]
    refine skipR 22 (some 102) ?_
    simp only [aput, lset]
    refine skipR 23 (some 103) ?_
    simp only [aput, lset]
    refine skipR 24 (some 104) ?_
    simp only [aput, lset]
    refine skipR 25 (some 105) ?_
    simp only [aput, lset]
    refine skipR 26 (some 106) ?_
    simp only [aput, lset]
    refine skipR 27 (some 107) ?_
    simp only [aput, lset]
    refine skipR 28 (some 108) ?_
    simp only [aput, lset]
    refine takeR 29 (some 109) ?_ ?_ ?_; rotate_left; (focus (intros; go_simp; (try with_reducible rfl)))
    simp only [aput, lset]
    refine wpAnyH_done (by kernel_rfl) ?_ _
    exact NoPanic.normal ⟨rfl, rfl, rfl⟩
  case hm =>
    have S4 := Lib.hid S3.out.drew
    clear S3 SR
    generalize w2.drew = w3 at *
    have T := Lib.hid (why_end S4.out HGP.out 1)
    obtain ⟨t0, t1, t2, t3, t4, t5, t6⟩ := cells7 (S4.out.at 0 rfl)
    obtain ⟨f0, f1, f2, f3, f4, f5, f6⟩ := frozen7 (S4.out.at 0 rfl)
    obtain ⟨u0, u1, u2, u3, u4, u5, u6⟩ := cells7 T.out.1
    obtain ⟨x0, x1, x2, x3, x4, x5, x6⟩ := cells7 T.out.2.1
    obtain ⟨e0, e1, e2, e3, e4, e5, e6⟩ := frozen7 T.out.2.1
    go_wp2
    exact ret_g rfl rfl (put7 T.out.2.1 _ _ _ _ _ _ _) ⟨rfl, T.out.2.2.trans ((kept7 _ _ _ _ _ _ _ _ _).below (Nat.le_succ _) T.out.2.2.size)⟩
set_option maxHeartbeats 4000000 in
set_option maxRecDepth 100000 in
theorem rr2 (c : Cfg) (D E L : Option Addr) (nd cd ne ce nl cl : Nat) (h t : Int) (Av : Option Addr) (Lt : List Tn) (cv : Nat) (A : Option Addr) (l : List Int) (cp : Nat) (w : World) (m : CM w c D E L nd cd ne ce nl cl) (hb : BL w A l) (hl : l.length ≤ 9223372036854775807) (hc : l.length ≤ cp) (d : Dt) (hd : dt l = d) (he : rdE l = 0) (hs : SG F19 w Av Lt) (e : R4) (h1 : d.c = 2) (h2 : lnkAt c d.l = some e) (h3 : CrewW.has e.b h = true) (h4 : e.d < d.s) :
    Calls Try.prog 13 #[.agg #[.int .i64 c.hosts, .int .i64 c.cycle, .int .i64 c.delay, .int .i64 c.window, .int .i64 c.precision, .slice D nd cd, .slice E ne ce, .slice L nl cl, .int .i64 c.queue], .int .i64 h, .slice Av Lt.length cv, .int .i64 t, .slice A l.length cp] w fun r w' => r = .returned (gg d ⟨1, 0⟩) ∧ Below w.heap.size w w' := by
  have S0 := ((Stay.start w).alloc (cbx c D E L nd cd ne ce nl cl)).alloc (gbx ⟨0, 0⟩ d0 43)
  rw [World.size_alloc] at S0
  have S1 := Lib.hid S0
  have HR := Lib.hid (FrameW.refReadData_any A cp l _ (hb.below S0.b) hl hc)
  have ok := dt_ok he
  rw [rdV_dt, he, hd] at HR
  rw [hd] at ok
  have HM := Lib.hid m
  have HSG := Lib.hid hs
  have hnE : ne ≤ 9223372036854775807 := by have := m.mE; unfold maxLen at this; omega
  have hnL : nl ≤ 9223372036854775807 := by have := m.mL; unfold maxLen at this; omega
  obtain ⟨n, hn, hk, hlt⟩ := lnk_at h2 ok.l.1
  rw [← m.nL] at hlt
  obtain ⟨dc, dl, dn, dp, ds⟩ := d
  obtain rfl : dc = 2 := h1
  obtain rfl : dl = (n : Int) := hn
  have g0 : (n : Int) < (nl : Int) := by omega
  have g1 : decide ((nl : Int) ≤ (n : Int)) = false := decide_eq_false (by omega)
  have g4 : decide (nl ≤ n) = false := decide_eq_false (by omega)
  obtain ⟨b, off, rfl, l0, l1, l2, l3⟩ := ml_at m.hl hk
  have E1 := Lib.hid l1
  have E3 := Lib.hid l3
  have HB := Lib.hid (m.hl.u32 e (List.mem_of_getElem? hk))
  clear h2 l0 l1 l2 l3
  have HH := Lib.hid (fun W => CrewW.refHas_any e.b h W HB.out)
  rw [h3] at HH
  clear h3
  have g2 : decide (e.d < ds) = true := decide_eq_true h4
  have g5 : e.d < ds := h4
  clear h4
  clear S0 hb hl hc hd he m ok hs
  go_enter Try.func13, Try.ntmps13
  go_wp2_with fail
  refine HR.out.mono ?_
  rintro r w1 ⟨rfl, b1⟩
  have S2 := Lib.hid ((S1.out.next b1).alloc (dbx ⟨2, (n : Int), dn, dp, ds⟩))
  have s3 := S2.out.alloc (gbx ⟨0, 0⟩ ⟨2, (n : Int), dn, dp, ds⟩ 43)
  rw [World.size_alloc] at s3
  have S3 := Lib.hid s3
  have HPQ := Lib.hid (show w.heap.size + 1 < w1.heap.size ∧ w.heap.size < w1.heap.size by
    have := lt_of_heap (S1.out.at 0 rfl)
    have := b1.size
    omega)
  clear b1 S1 HR s3
  obtain ⟨z0, z1, z2, z3, z4⟩ := cells5 (S2.out.at 0 rfl)
  obtain ⟨y0, y1, y2, y3, y4⟩ := cells5 (S3.out.at 1 rfl)
  obtain ⟨a0, a1, a2, a3, a4, a5, a6, a7, a8⟩ := PlanW.cells9 (S3.out.at 3 rfl)
  go_wp2
  generalize (w1.alloc (dbx ⟨2, (n : Int), dn, dp, ds⟩)).alloc (gbx ⟨0, 0⟩ ⟨2, (n : Int), dn, dp, ds⟩ 43) = w2 at *
  generalize hgq : w1.heap.size + 1 = g at *
  have HGQ := Lib.hid hgq
  clear hgq
  generalize w1.heap.size = q at *
  have SR := Lib.hid (S3.out.sub (M := [(q, dbx ⟨2, (n : Int), dn, dp, ds⟩), (w.heap.size, cbx c D E (some ⟨b, off, none⟩) nd cd ne ce nl cl)]) (by intro x hx; simp only [List.mem_cons, List.not_mem_nil, or_false] at hx ⊢; rcases hx with rfl | rfl <;> simp))
  have HGP := Lib.hid (show w.heap.size + 1 < g ∧ w.heap.size ≤ g by have := HPQ.out; have := HGQ.out; omega)
  apply wp_one
  case h =>
    refine wp_region_noPanic ?_
    refine wp_region_held_drew (S := fun Z : World => Stay w [(q, dbx ⟨2, (n : Int), dn, dp, ds⟩), (w.heap.size, cbx c D E (some ⟨b, off, none⟩) nd cd ne ce nl cl)] Z) (by kernel_rfl) (SR.out.drew) (fun hHeld => ?_)
    refine takeR 0 (some 80) ?_ ?_ ?_; rotate_left; (focus (intros; go_simp; (try with_reducible rfl)))
    simp only [aput, lset]
    refine takeR 1 (some 81) ?_ ?_ ?_; rotate_left; (focus (intro w hSw; (try dsimp only at hSw); obtain ⟨z0, z1, z2, z3, z4⟩ := cells5 (Stay.at hSw 0 rfl); obtain ⟨a0, a1, a2, a3, a4, a5, a6, a7, a8⟩ := PlanW.cells9 (Stay.at hSw 1 rfl); have l1 := cell_keep E1.out hSw.b; have l3 := cell_keep E3.out hSw.b; go_simp; (try with_reducible rfl)))
    simp only [aput, lset]
    refine takeR 2 (some 82) ?_ ?_ ?_; rotate_left; (focus (intros; go_simp; (try with_reducible rfl)))
    simp only [aput, lset]
    refine takeR 3 (some 83) ?_ ?_ ?_; rotate_left; (focus (intro w hSw; (try dsimp only at hSw); obtain ⟨z0, z1, z2, z3, z4⟩ := cells5 (Stay.at hSw 0 rfl); obtain ⟨a0, a1, a2, a3, a4, a5, a6, a7, a8⟩ := PlanW.cells9 (Stay.at hSw 1 rfl); have l1 := cell_keep E1.out hSw.b; have l3 := cell_keep E3.out hSw.b; go_simp; (try with_reducible rfl)))
    simp only [aput, lset]
    refine takeR 4 (some 84) ?_ ?_ ?_; rotate_left; (focus (intros; go_simp; (try with_reducible rfl)))
    simp only [aput, lset]
    refine takeR 5 (some 85) ?_ ?_ ?_; rotate_left; (focus (intros; go_simp; (try with_reducible rfl)))
    simp only [aput, lset]
    refine takeR 6 (some 86) ?_ ?_ ?_; rotate_left; (focus (intros; go_simp; (try with_reducible rfl)))
    simp only [aput, lset]
    refine takeR 7 (some 87) ?_ ?_ ?_; rotate_left; (focus (intros; go_simp; (try with_reducible rfl)))
    simp only [aput, lset]
    refine takeR 8 (some 88) ?_ ?_ ?_; rotate_left; (focus (intro w hSw; (try dsimp only at hSw); obtain ⟨z0, z1, z2, z3, z4⟩ := cells5 (Stay.at hSw 0 rfl); obtain ⟨a0, a1, a2, a3, a4, a5, a6, a7, a8⟩ := PlanW.cells9 (Stay.at hSw 1 rfl); have l1 := cell_keep E1.out hSw.b; have l3 := cell_keep E3.out hSw.b; go_simp; (try with_reducible rfl)))
    simp only [aput, lset]
    refine takeR 9 (some 89) ?_ ?_ ?_; rotate_left; (focus (intros; go_simp; (try with_reducible rfl)))
    simp only [aput, lset]
    refine takeR 10 (some 90) ?_ ?_ ?_; rotate_left; (focus (intro w hSw; (try dsimp only at hSw); obtain ⟨z0, z1, z2, z3, z4⟩ := cells5 (Stay.at hSw 0 rfl); obtain ⟨a0, a1, a2, a3, a4, a5, a6, a7, a8⟩ := PlanW.cells9 (Stay.at hSw 1 rfl); have l1 := cell_keep E1.out hSw.b; have l3 := cell_keep E3.out hSw.b; go_simp; (try with_reducible rfl)))
    simp only [aput, lset]
    refine takeR 11 (some 91) ?_ ?_ ?_; rotate_left; (focus (intros; go_simp; (try with_reducible rfl)))
    simp only [aput, lset]
    refine takeR 12 (some 92) ?_ ?_ ?_; rotate_left; (focus (intros; go_simp; (try with_reducible rfl)))
    simp only [aput, lset]
    refine takeR 13 (some 93) ?_ ?_ ?_; rotate_left; (focus (intro w hSw; (try dsimp only at hSw); obtain ⟨z0, z1, z2, z3, z4⟩ := cells5 (Stay.at hSw 0 rfl); obtain ⟨a0, a1, a2, a3, a4, a5, a6, a7, a8⟩ := PlanW.cells9 (Stay.at hSw 1 rfl); have l1 := cell_keep E1.out hSw.b; have l3 := cell_keep E3.out hSw.b; go_simp; (try with_reducible rfl)))
    simp only [aput, lset]
    refine takeR 14 (some 94) ?_ ?_ ?_; rotate_left; (focus (intros; go_simp; (try with_reducible rfl)))
    simp only [aput, lset]
    refine wpAnyH_ready (rs := [15]) (by kernel_rfl) (by simp) ?_
    refine AllReadyH.cons (o := ⟨some 95, _, _, _, _, _⟩) rfl (fun K hK => ?_) AllReadyH.nil
    rw [if_pos (by kernel_rfl)]
    go_simp
    refine (HH.out _).mono ?_
    rintro r w9 ⟨rfl, hw9⟩
    obtain rfl := hw9.symm
    go_simp
    refine hK.out _ _ (by assumption) (fun hHeld => ?_)
    clear hK K
    refine takeR 16 (some 96) ?_ ?_ ?_; rotate_left; (focus (intros; go_simp; (try with_reducible rfl)))
    simp only [aput, lset]
    refine takeR 17 (some 97) ?_ ?_ ?_; rotate_left; (focus (intros; go_simp; (try with_reducible rfl)))
    simp only [aput, lset]
    refine takeR 18 (some 98) ?_ ?_ ?_; rotate_left; (focus (intros; go_simp; (try with_reducible rfl)))
    simp only [aput, lset]
    refine takeR 19 (some 99) ?_ ?_ ?_; rotate_left; (focus (intros; go_simp; (try with_reducible rfl)))
    simp only [aput, lset]
    refine takeR 20 (some 100) ?_ ?_ ?_; rotate_left; (focus (intro w hSw; (try dsimp only at hSw); obtain ⟨z0, z1, z2, z3, z4⟩ := cells5 (Stay.at hSw 0 rfl); obtain ⟨a0, a1, a2, a3, a4, a5, a6, a7, a8⟩ := PlanW.cells9 (Stay.at hSw 1 rfl); have l1 := cell_keep E1.out hSw.b; have l3 := cell_keep E3.out hSw.b; go_simp; (try with_reducible rfl)))
    simp only [aput, lset]
    refine takeR 21 (some 101) ?_ ?_ ?_; rotate_left; (focus (intros; go_simp; (try with_reducible rfl)))
    simp only [aput, lset]
    refine takeR 22 (some 102) ?_ ?_ ?_; rotate_left; (focus (intro w hSw; (try dsimp only at hSw); obtain ⟨z0, z1, z2, z3, z4⟩ := cells5 (Stay.at hSw 0 rfl); obtain ⟨a0, a1, a2, a3, a4, a5, a6, a7, a8⟩ := PlanW.cells9 (Stay.at hSw 1 rfl); have l1 := cell_keep E1.out hSw.b; have l3 := cell_keep E3.out hSw.b; go_simp; (try with_reducible rfl)))
    simp only [aput, lset]
    refine takeR 23 (some 103) ?_ ?_ ?_; rotate_left; (focus (intros; go_simp; (try with_reducible rfl)))
    simp only [aput, lset]
    refine takeR 24 (some 104) ?_ ?_ ?_; rotate_left; (focus (intros; go_simp; (try with_reducible rfl)))
    simp only [aput, lset]
    refine takeR 25 (some 105) ?_ ?_ ?_; rotate_left; (focus (intro w hSw; (try dsimp only at hSw); obtain ⟨z0, z1, z2, z3, z4⟩ := cells5 (Stay.at hSw 0 rfl); obtain ⟨a0, a1, a2, a3, a4, a5, a6, a7, a8⟩ := PlanW.cells9 (Stay.at hSw 1 rfl); have l1 := cell_keep E1.out hSw.b; have l3 := cell_keep E3.out hSw.b; go_simp; (try with_reducible rfl)))
    simp only [aput, lset]
    refine takeR 26 (some 106) ?_ ?_ ?_; rotate_left; (focus (intros; go_simp; (try with_reducible rfl)))
    simp only [aput, lset]
    refine takeR 27 (some 107) ?_ ?_ ?_; rotate_left; (focus (intro w hSw; (try dsimp only at hSw); obtain ⟨z0, z1, z2, z3, z4⟩ := cells5 (Stay.at hSw 0 rfl); obtain ⟨a0, a1, a2, a3, a4, a5, a6, a7, a8⟩ := PlanW.cells9 (Stay.at hSw 1 rfl); have l1 := cell_keep E1.out hSw.b; have l3 := cell_keep E3.out hSw.b; go_simp; (try with_reducible rfl)))
    simp only [aput, lset]
    refine takeR 28 (some 108) ?_ ?_ ?_; rotate_left; (focus (intros; go_simp; (try with_reducible rfl)))
    simp only [aput, lset]
    refine takeR 29 (some 109) ?_ ?_ ?_; rotate_left; (focus (intros; go_simp; (try with_reducible rfl)))
    simp only [aput, lset]
    refine wpAnyH_done (by kernel_rfl) ?_ _
    exact NoPanic.normal ⟨rfl, rfl, rfl⟩
  case hm =>
    have S4 := Lib.hid S3.out.drew
    clear S3 SR
    generalize w2.drew = w3 at *
    have T := Lib.hid (why_end S4.out HGP.out 1)
    obtain ⟨t0, t1, t2, t3, t4, t5, t6⟩ := cells7 (S4.out.at 0 rfl)
    obtain ⟨f0, f1, f2, f3, f4, f5, f6⟩ := frozen7 (S4.out.at 0 rfl)
    obtain ⟨u0, u1, u2, u3, u4, u5, u6⟩ := cells7 T.out.1
    obtain ⟨x0, x1, x2, x3, x4, x5, x6⟩ := cells7 T.out.2.1
    obtain ⟨e0, e1, e2, e3, e4, e5, e6⟩ := frozen7 T.out.2.1
    go_wp2
    exact ret_g rfl rfl (put7 T.out.2.1 _ _ _ _ _ _ _) ⟨rfl, T.out.2.2.trans ((kept7 _ _ _ _ _ _ _ _ _).below (Nat.le_succ _) T.out.2.2.size)⟩
set_option maxHeartbeats 4000000 in
set_option maxRecDepth 100000 in
theorem rr4 (c : Cfg) (D E L : Option Addr) (nd cd ne ce nl cl : Nat) (h t : Int) (Av : Option Addr) (Lt : List Tn) (cv : Nat) (A : Option Addr) (l : List Int) (cp : Nat) (w : World) (m : CM w c D E L nd cd ne ce nl cl) (hb : BL w A l) (hl : l.length ≤ 9223372036854775807) (hc : l.length ≤ cp) (d : Dt) (hd : dt l = d) (he : rdE l = 0) (hs : SG F19 w Av Lt) (hL : Lt.length ≤ 9223372036854775807) (e : R4) (h1 : d.c = 2) (h2 : lnkAt c d.l = some e) (h3 : CrewW.has e.b h = true) (h4 : d.s ≤ e.d) (vv : Int) (hvv : (if tw Lt d 0 = true then (3 : Int) else 0) = vv) :
    Calls Try.prog 13 #[.agg #[.int .i64 c.hosts, .int .i64 c.cycle, .int .i64 c.delay, .int .i64 c.window, .int .i64 c.precision, .slice D nd cd, .slice E ne ce, .slice L nl cl, .int .i64 c.queue], .int .i64 h, .slice Av Lt.length cv, .int .i64 t, .slice A l.length cp] w fun r w' => r = .returned (gg d ⟨vv, 0⟩) ∧ Below w.heap.size w w' := by
  have S0 := ((Stay.start w).alloc (cbx c D E L nd cd ne ce nl cl)).alloc (gbx ⟨0, 0⟩ d0 43)
  rw [World.size_alloc] at S0
  have S1 := Lib.hid S0
  have HR := Lib.hid (FrameW.refReadData_any A cp l _ (hb.below S0.b) hl hc)
  have ok := dt_ok he
  rw [rdV_dt, he, hd] at HR
  rw [hd] at ok
  have HM := Lib.hid m
  have HSG := Lib.hid hs
  have hnE : ne ≤ 9223372036854775807 := by have := m.mE; unfold maxLen at this; omega
  have hnL : nl ≤ 9223372036854775807 := by have := m.mL; unfold maxLen at this; omega
  obtain ⟨n, hn, hk, hlt⟩ := lnk_at h2 ok.l.1
  rw [← m.nL] at hlt
  obtain ⟨dc, dl, dn, dp, ds⟩ := d
  obtain rfl : dc = 2 := h1
  obtain rfl : dl = (n : Int) := hn
  have g0 : (n : Int) < (nl : Int) := by omega
  have g1 : decide ((nl : Int) ≤ (n : Int)) = false := decide_eq_false (by omega)
  have g4 : decide (nl ≤ n) = false := decide_eq_false (by omega)
  obtain ⟨b, off, rfl, l0, l1, l2, l3⟩ := ml_at m.hl hk
  have E1 := Lib.hid l1
  have E3 := Lib.hid l3
  have HB := Lib.hid (m.hl.u32 e (List.mem_of_getElem? hk))
  have HVV := Lib.hid (show (if tw Lt ⟨2, (n : Int), dn, dp, ds⟩ 0 = true then (3 : Int) else 0) = vv from hvv)
  clear hvv h2 l0 l1 l2 l3
  have HH := Lib.hid (fun W => CrewW.refHas_any e.b h W HB.out)
  rw [h3] at HH
  clear h3
  have g5 : ¬ e.d < ds := Int.not_lt.2 h4
  have g2 : decide (e.d < ds) = false := decide_eq_false g5
  clear h4
  clear S0 hb hl hc hd he m ok hs
  go_enter Try.func13, Try.ntmps13
  go_wp2_with fail
  refine HR.out.mono ?_
  rintro r w1 ⟨rfl, b1⟩
  have S2 := Lib.hid ((S1.out.next b1).alloc (dbx ⟨2, (n : Int), dn, dp, ds⟩))
  have s3 := S2.out.alloc (gbx ⟨0, 0⟩ ⟨2, (n : Int), dn, dp, ds⟩ 43)
  rw [World.size_alloc] at s3
  have S3 := Lib.hid s3
  have HPQ := Lib.hid (show w.heap.size + 1 < w1.heap.size ∧ w.heap.size < w1.heap.size by
    have := lt_of_heap (S1.out.at 0 rfl)
    have := b1.size
    omega)
  clear b1 S1 HR s3
  obtain ⟨z0, z1, z2, z3, z4⟩ := cells5 (S2.out.at 0 rfl)
  obtain ⟨y0, y1, y2, y3, y4⟩ := cells5 (S3.out.at 1 rfl)
  obtain ⟨a0, a1, a2, a3, a4, a5, a6, a7, a8⟩ := PlanW.cells9 (S3.out.at 3 rfl)
  go_wp2
  generalize (w1.alloc (dbx ⟨2, (n : Int), dn, dp, ds⟩)).alloc (gbx ⟨0, 0⟩ ⟨2, (n : Int), dn, dp, ds⟩ 43) = w2 at *
  generalize hgq : w1.heap.size + 1 = g at *
  have HGQ := Lib.hid hgq
  clear hgq
  generalize w1.heap.size = q at *
  have SR := Lib.hid (S3.out.sub (M := [(q, dbx ⟨2, (n : Int), dn, dp, ds⟩), (w.heap.size, cbx c D E (some ⟨b, off, none⟩) nd cd ne ce nl cl)]) (by intro x hx; simp only [List.mem_cons, List.not_mem_nil, or_false] at hx ⊢; rcases hx with rfl | rfl <;> simp))
  have HGP := Lib.hid (show w.heap.size + 1 < g ∧ w.heap.size ≤ g by have := HPQ.out; have := HGQ.out; omega)
  apply wp_one
  case h =>
    refine wp_region_noPanic ?_
    refine wp_region_held_drew (S := fun Z : World => Stay w [(q, dbx ⟨2, (n : Int), dn, dp, ds⟩), (w.heap.size, cbx c D E (some ⟨b, off, none⟩) nd cd ne ce nl cl)] Z) (by kernel_rfl) (SR.out.drew) (fun hHeld => ?_)
    refine takeR 0 (some 80) ?_ ?_ ?_; rotate_left; (focus (intros; go_simp; (try with_reducible rfl)))
    simp only [aput, lset]
    refine takeR 1 (some 81) ?_ ?_ ?_; rotate_left; (focus (intro w hSw; (try dsimp only at hSw); obtain ⟨z0, z1, z2, z3, z4⟩ := cells5 (Stay.at hSw 0 rfl); obtain ⟨a0, a1, a2, a3, a4, a5, a6, a7, a8⟩ := PlanW.cells9 (Stay.at hSw 1 rfl); have l1 := cell_keep E1.out hSw.b; have l3 := cell_keep E3.out hSw.b; go_simp; (try with_reducible rfl)))
    simp only [aput, lset]
    refine takeR 2 (some 82) ?_ ?_ ?_; rotate_left; (focus (intros; go_simp; (try with_reducible rfl)))
    simp only [aput, lset]
    refine takeR 3 (some 83) ?_ ?_ ?_; rotate_left; (focus (intro w hSw; (try dsimp only at hSw); obtain ⟨z0, z1, z2, z3, z4⟩ := cells5 (Stay.at hSw 0 rfl); obtain ⟨a0, a1, a2, a3, a4, a5, a6, a7, a8⟩ := PlanW.cells9 (Stay.at hSw 1 rfl); have l1 := cell_keep E1.out hSw.b; have l3 := cell_keep E3.out hSw.b; go_simp; (try with_reducible rfl)))
    simp only [aput, lset]
    refine takeR 4 (some 84) ?_ ?_ ?_; rotate_left; (focus (intros; go_simp; (try with_reducible rfl)))
    simp only [aput, lset]
    refine takeR 5 (some 85) ?_ ?_ ?_; rotate_left; (focus (intros; go_simp; (try with_reducible rfl)))
    simp only [aput, lset]
    refine takeR 6 (some 86) ?_ ?_ ?_; rotate_left; (focus (intros; go_simp; (try with_reducible rfl)))
    simp only [aput, lset]
    refine takeR 7 (some 87) ?_ ?_ ?_; rotate_left; (focus (intros; go_simp; (try with_reducible rfl)))
    simp only [aput, lset]
    refine takeR 8 (some 88) ?_ ?_ ?_; rotate_left; (focus (intro w hSw; (try dsimp only at hSw); obtain ⟨z0, z1, z2, z3, z4⟩ := cells5 (Stay.at hSw 0 rfl); obtain ⟨a0, a1, a2, a3, a4, a5, a6, a7, a8⟩ := PlanW.cells9 (Stay.at hSw 1 rfl); have l1 := cell_keep E1.out hSw.b; have l3 := cell_keep E3.out hSw.b; go_simp; (try with_reducible rfl)))
    simp only [aput, lset]
    refine takeR 9 (some 89) ?_ ?_ ?_; rotate_left; (focus (intros; go_simp; (try with_reducible rfl)))
    simp only [aput, lset]
    refine takeR 10 (some 90) ?_ ?_ ?_; rotate_left; (focus (intro w hSw; (try dsimp only at hSw); obtain ⟨z0, z1, z2, z3, z4⟩ := cells5 (Stay.at hSw 0 rfl); obtain ⟨a0, a1, a2, a3, a4, a5, a6, a7, a8⟩ := PlanW.cells9 (Stay.at hSw 1 rfl); have l1 := cell_keep E1.out hSw.b; have l3 := cell_keep E3.out hSw.b; go_simp; (try with_reducible rfl)))
    simp only [aput, lset]
    refine takeR 11 (some 91) ?_ ?_ ?_; rotate_left; (focus (intros; go_simp; (try with_reducible rfl)))
    simp only [aput, lset]
    refine takeR 12 (some 92) ?_ ?_ ?_; rotate_left; (focus (intros; go_simp; (try with_reducible rfl)))
    simp only [aput, lset]
    refine takeR 13 (some 93) ?_ ?_ ?_; rotate_left; (focus (intro w hSw; (try dsimp only at hSw); obtain ⟨z0, z1, z2, z3, z4⟩ := cells5 (Stay.at hSw 0 rfl); obtain ⟨a0, a1, a2, a3, a4, a5, a6, a7, a8⟩ := PlanW.cells9 (Stay.at hSw 1 rfl); have l1 := cell_keep E1.out hSw.b; have l3 := cell_keep E3.out hSw.b; go_simp; (try with_reducible rfl)))
    simp only [aput, lset]
    refine takeR 14 (some 94) ?_ ?_ ?_; rotate_left; (focus (intros; go_simp; (try with_reducible rfl)))
    simp only [aput, lset]
    refine wpAnyH_ready (rs := [15]) (by kernel_rfl) (by simp) ?_
    refine AllReadyH.cons (o := ⟨some 95, _, _, _, _, _⟩) rfl (fun K hK => ?_) AllReadyH.nil
    rw [if_pos (by kernel_rfl)]
    go_simp
    refine (HH.out _).mono ?_
    rintro r w9 ⟨rfl, hw9⟩
    obtain rfl := hw9.symm
    go_simp
    refine hK.out _ _ (by assumption) (fun hHeld => ?_)
    clear hK K
    refine takeR 16 (some 96) ?_ ?_ ?_; rotate_left; (focus (intros; go_simp; (try with_reducible rfl)))
    simp only [aput, lset]
    refine takeR 17 (some 97) ?_ ?_ ?_; rotate_left; (focus (intros; go_simp; (try with_reducible rfl)))
    simp only [aput, lset]
    refine takeR 18 (some 98) ?_ ?_ ?_; rotate_left; (focus (intros; go_simp; (try with_reducible rfl)))
    simp only [aput, lset]
    refine takeR 19 (some 99) ?_ ?_ ?_; rotate_left; (focus (intros; go_simp; (try with_reducible rfl)))
    simp only [aput, lset]
    refine takeR 20 (some 100) ?_ ?_ ?_; rotate_left; (focus (intro w hSw; (try dsimp only at hSw); obtain ⟨z0, z1, z2, z3, z4⟩ := cells5 (Stay.at hSw 0 rfl); obtain ⟨a0, a1, a2, a3, a4, a5, a6, a7, a8⟩ := PlanW.cells9 (Stay.at hSw 1 rfl); have l1 := cell_keep E1.out hSw.b; have l3 := cell_keep E3.out hSw.b; go_simp; (try with_reducible rfl)))
    simp only [aput, lset]
    refine takeR 21 (some 101) ?_ ?_ ?_; rotate_left; (focus (intros; go_simp; (try with_reducible rfl)))
    simp only [aput, lset]
    refine takeR 22 (some 102) ?_ ?_ ?_; rotate_left; (focus (intro w hSw; (try dsimp only at hSw); obtain ⟨z0, z1, z2, z3, z4⟩ := cells5 (Stay.at hSw 0 rfl); obtain ⟨a0, a1, a2, a3, a4, a5, a6, a7, a8⟩ := PlanW.cells9 (Stay.at hSw 1 rfl); have l1 := cell_keep E1.out hSw.b; have l3 := cell_keep E3.out hSw.b; go_simp; (try with_reducible rfl)))
    simp only [aput, lset]
    refine takeR 23 (some 103) ?_ ?_ ?_; rotate_left; (focus (intros; go_simp; (try with_reducible rfl)))
    simp only [aput, lset]
    refine takeR 24 (some 104) ?_ ?_ ?_; rotate_left; (focus (intros; go_simp; (try with_reducible rfl)))
    simp only [aput, lset]
    refine takeR 25 (some 105) ?_ ?_ ?_; rotate_left; (focus (intro w hSw; (try dsimp only at hSw); obtain ⟨z0, z1, z2, z3, z4⟩ := cells5 (Stay.at hSw 0 rfl); obtain ⟨a0, a1, a2, a3, a4, a5, a6, a7, a8⟩ := PlanW.cells9 (Stay.at hSw 1 rfl); have l1 := cell_keep E1.out hSw.b; have l3 := cell_keep E3.out hSw.b; go_simp; (try with_reducible rfl)))
    simp only [aput, lset]
    refine takeR 26 (some 106) ?_ ?_ ?_; rotate_left; (focus (intros; go_simp; (try with_reducible rfl)))
    simp only [aput, lset]
    refine takeR 27 (some 107) ?_ ?_ ?_; rotate_left; (focus (intro w hSw; (try dsimp only at hSw); obtain ⟨z0, z1, z2, z3, z4⟩ := cells5 (Stay.at hSw 0 rfl); obtain ⟨a0, a1, a2, a3, a4, a5, a6, a7, a8⟩ := PlanW.cells9 (Stay.at hSw 1 rfl); have l1 := cell_keep E1.out hSw.b; have l3 := cell_keep E3.out hSw.b; go_simp; (try with_reducible rfl)))
    simp only [aput, lset]
    refine takeR 28 (some 108) ?_ ?_ ?_; rotate_left; (focus (intros; go_simp; (try with_reducible rfl)))
    simp only [aput, lset]
    refine takeR 29 (some 109) ?_ ?_ ?_; rotate_left; (focus (intros; go_simp; (try with_reducible rfl)))
    simp only [aput, lset]
    refine wpAnyH_done (by kernel_rfl) ?_ _
    exact NoPanic.normal ⟨rfl, rfl, rfl⟩
  case hm =>
    have SL := Lib.hid (show Stay w [(g, gbx (⟨if tw (Lt.take 0) ⟨2, (n : Int), dn, dp, ds⟩ 0 = true then 3 else 0, 0⟩ : Vg) ⟨2, (n : Int), dn, dp, ds⟩ 43), (q, dbx ⟨2, (n : Int), dn, dp, ds⟩), (w.heap.size + 1, gbx ⟨0, 0⟩ d0 43), (w.heap.size, cbx c D E (some ⟨b, off, none⟩) nd cd ne ce nl cl)] w2.drew from S3.out.drew)
    go_wp2
    clear S3 SR
    generalize w2.drew = w4 at *
    go_loopw [16] (fun iv wr => ∃ (i : Nat), i ≤ Lt.length ∧ iv = .int .i64 i ∧ Hid (Stay w [(g, gbx (⟨if tw (Lt.take i) ⟨2, (n : Int), dn, dp, ds⟩ 0 = true then 3 else 0, 0⟩ : Vg) ⟨2, (n : Int), dn, dp, ds⟩ 43), (q, dbx ⟨2, (n : Int), dn, dp, ds⟩), (w.heap.size + 1, gbx ⟨0, 0⟩ d0 43), (w.heap.size, cbx c D E (some ⟨b, off, none⟩) nd cd ne ce nl cl)] wr)) (fun iv _ => Lt.length - (intOf iv).toNat)
    case atStart => exact ⟨0, Nat.zero_le _, rfl, SL⟩
    case round =>
      clear SL
      obtain ⟨i, hi, rfl, HS⟩ := hrel
      by_cases hlt : (i : Int) < (Lt.length : Int)
      · obtain ⟨x, hx⟩ : ∃ x, Lt[i]? = some x := ⟨_, List.getElem?_eq_getElem (by omega)⟩
        obtain ⟨vb, vo, rfl, -, hcs⟩ := (HSG.out.below HS.out.b) i x hx
        have r0 : wr.cell? ⟨vb, vo + i * 7, none⟩ = some (.int .i64 0) := hcs 0 _ rfl
        have r1 : wr.cell? ⟨vb, vo + i * 7 + 1, none⟩ = some (.int .i64 x.d.c) := hcs 1 _ rfl
        have r2 : wr.cell? ⟨vb, vo + i * 7 + 2, none⟩ = some (.int .i64 x.d.l) := hcs 2 _ rfl
        have r3 : wr.cell? ⟨vb, vo + i * 7 + 3, none⟩ = some (.int .i64 x.d.n) := hcs 3 _ rfl
        have r4 : wr.cell? ⟨vb, vo + i * 7 + 4, none⟩ = some (.string x.d.p) := hcs 4 _ rfl
        have r5 : wr.cell? ⟨vb, vo + i * 7 + 5, none⟩ = some (.int .i64 x.d.s) := hcs 5 _ rfl
        have r6 : wr.cell? ⟨vb, vo + i * 7 + 6, none⟩ = some (.int .i64 x.k) := hcs 6 _ rfl
        have HT := Lib.hid (show tw (Lt.take (i + 1)) ⟨2, (n : Int), dn, dp, ds⟩ 0 = (tw (Lt.take i) ⟨2, (n : Int), dn, dp, ds⟩ 0 || bars ⟨2, (n : Int), dn, dp, ds⟩ 0 x) by rw [List.take_add_one, hx]; exact tw_snoc _ _ _ _)
        have SX := Lib.hid (HS.out.alloc (gbx ⟨0, x.k⟩ x.d 43))
        have hX := Lib.hid hx
        clear hcs hx HS
        obtain ⟨xd, xk⟩ := x
        obtain ⟨xc, xl, xn, xp, xs⟩ := xd
        dsimp only at r0 r1 r2 r3 r4 r5 r6
        generalize hvw : (if tw (Lt.take i) ⟨2, (n : Int), dn, dp, ds⟩ 0 = true then (3 : Int) else 0) = vw at *
        obtain ⟨z0, z1, z2, z3, z4⟩ := cells5 (SX.out.at 2 rfl)
        obtain ⟨y0, y1, y2, y3, y4, y5, y6⟩ := cells7 (SX.out.at 1 rfl)
        obtain ⟨u0, u1, u2, u3, u4, u5, u6⟩ := cells7 (SX.out.at 0 rfl)
        have NO := Lib.hid (show bars ⟨2, (n : Int), dn, dp, ds⟩ 0 ⟨⟨xc, xl, xn, xp, xs⟩, xk⟩ = false → Stay w [(g, gbx (⟨if tw (Lt.take (i + 1)) ⟨2, (n : Int), dn, dp, ds⟩ 0 = true then 3 else 0, 0⟩ : Vg) ⟨2, (n : Int), dn, dp, ds⟩ 43), (q, dbx ⟨2, (n : Int), dn, dp, ds⟩), (w.heap.size + 1, gbx ⟨0, 0⟩ d0 43), (w.heap.size, cbx c D E (some ⟨b, off, none⟩) nd cd ne ce nl cl)] (wr.alloc (gbx ⟨0, xk⟩ ⟨xc, xl, xn, xp, xs⟩ 43)) from fun hb => by rw [HT.out, hb, Bool.or_false, hvw]; exact SX.out.drop)
        have YE := Lib.hid (show bars ⟨2, (n : Int), dn, dp, ds⟩ 0 ⟨⟨xc, xl, xn, xp, xs⟩, xk⟩ = true → Stay w [(g, gbx (⟨if tw (Lt.take (i + 1)) ⟨2, (n : Int), dn, dp, ds⟩ 0 = true then 3 else 0, 0⟩ : Vg) ⟨2, (n : Int), dn, dp, ds⟩ 43), (q, dbx ⟨2, (n : Int), dn, dp, ds⟩), (w.heap.size + 1, gbx ⟨0, 0⟩ d0 43), (w.heap.size, cbx c D E (some ⟨b, off, none⟩) nd cd ne ce nl cl)] ((wr.alloc (gbx ⟨0, xk⟩ ⟨xc, xl, xn, xp, xs⟩ 43)).setCell ⟨g, 0, none⟩ (.int .i64 3)) from fun hb => by
          rw [HT.out, hb, Bool.or_true, if_pos rfl]
          exact SX.out.drop.turn (kept1 _ g 0 _) (heap_setCell_same _ g 0 _ _ _ (SX.out.drop.at 0 rfl)) HGP.out.2 (fun z hz e => by
            have := HGP.out
            have := HGQ.out
            simp only [List.mem_cons, List.not_mem_nil, or_false] at hz
            rcases hz with rfl | rfl | rfl <;> dsimp only at e <;> omega))
        have fz := frozen7 (SX.out.at 1 rfl)
        obtain ⟨f0, f1, f2, f3, f4, f5, f6⟩ := fz
        clear SX HT hvw
        by_cases e1 : xc = 2
        case neg =>
          have b1 : (xc == 2) = false := by rw [beq_eq_false_iff_ne]; exact e1
          have HN := Lib.hid (NO.out (by unfold bars; simp [e1]))
          clear NO YE e1
          go_wp2
          go_roundw
          case rel => exact ⟨i + 1, by omega, by go_num, HN⟩
          case measure => simp [intOf]; omega
        subst e1
        by_cases e2 : xl = (n : Int)
        case neg =>
          have b1 : (xl == (n : Int)) = false := by rw [beq_eq_false_iff_ne]; exact e2
          have HN := Lib.hid (NO.out (by unfold bars; simp [e2]))
          clear NO YE e2
          go_wp2
          go_roundw
          case rel => exact ⟨i + 1, by omega, by go_num, HN⟩
          case measure => simp [intOf]; omega
        subst e2
        by_cases c3 : dn ≤ xn
        case neg =>
          have g9 : decide (dn ≤ xn) = false := decide_eq_false c3
          have g10 : ¬ xn ≥ dn := c3
          have HN := Lib.hid (NO.out (by unfold bars; simp [c3]))
          clear NO YE c3
          go_wp2
          go_roundw
          case rel => exact ⟨i + 1, by omega, by go_num, HN⟩
          case measure => simp [intOf]; omega
        have g9 : decide (dn ≤ xn) = true := decide_eq_true c3
        have g10 : xn ≥ dn := c3
        have HN := Lib.hid (YE.out (by unfold bars; simp [c3]))
        clear NO YE c3
        go_wp2
        go_roundw
        case rel => exact ⟨i + 1, by omega, by go_num, HN⟩
        case measure => simp [intOf]; omega
      · obtain rfl : Lt.length = i := by omega
        have SE := Lib.hid (show Stay w [(g, gbx (⟨if tw Lt ⟨2, (n : Int), dn, dp, ds⟩ 0 = true then 3 else 0, 0⟩ : Vg) ⟨2, (n : Int), dn, dp, ds⟩ 43), (q, dbx ⟨2, (n : Int), dn, dp, ds⟩), (w.heap.size + 1, gbx ⟨0, 0⟩ d0 43), (w.heap.size, cbx c D E (some ⟨b, off, none⟩) nd cd ne ce nl cl)] wr by have := HS.out; rwa [List.take_length] at this)
        clear HS
        rw [HVV.out] at SE
        clear HVV
        obtain ⟨y0, y1, y2, y3, y4, y5, y6⟩ := cells7 (SE.out.at 0 rfl)
        obtain ⟨x0, x1, x2, x3, x4, x5, x6⟩ := cells7 (SE.out.at 2 rfl)
        obtain ⟨e0, e1, e2, e3, e4, e5, e6⟩ := frozen7 (SE.out.at 2 rfl)
        go_wp2
        exact ret_g rfl rfl (put7 (SE.out.at 2 rfl) _ _ _ _ _ _ _) ⟨rfl, SE.out.b.trans ((kept7 _ _ _ _ _ _ _ _ _).below (Nat.le_succ _) SE.out.b.size)⟩
set_option maxHeartbeats 4000000 in
set_option maxRecDepth 100000 in
theorem re0 (c : Cfg) (D E L : Option Addr) (nd cd ne ce nl cl : Nat) (h t : Int) (Av : Option Addr) (Lt : List Tn) (cv : Nat) (A : Option Addr) (l : List Int) (cp : Nat) (w : World) (m : CM w c D E L nd cd ne ce nl cl) (hb : BL w A l) (hl : l.length ≤ 9223372036854775807) (hc : l.length ≤ cp) (d : Dt) (hd : dt l = d) (he : rdE l = 0) (hs : SG F19 w Av Lt) (h1 : d.c = 3) (h3 : d.l ≠ h) :
    Calls Try.prog 13 #[.agg #[.int .i64 c.hosts, .int .i64 c.cycle, .int .i64 c.delay, .int .i64 c.window, .int .i64 c.precision, .slice D nd cd, .slice E ne ce, .slice L nl cl, .int .i64 c.queue], .int .i64 h, .slice Av Lt.length cv, .int .i64 t, .slice A l.length cp] w fun r w' => r = .returned (gg d ⟨1, 0⟩) ∧ Below w.heap.size w w' := by
  have S0 := ((Stay.start w).alloc (cbx c D E L nd cd ne ce nl cl)).alloc (gbx ⟨0, 0⟩ d0 43)
  rw [World.size_alloc] at S0
  have S1 := Lib.hid S0
  have HR := Lib.hid (FrameW.refReadData_any A cp l _ (hb.below S0.b) hl hc)
  have ok := dt_ok he
  rw [rdV_dt, he, hd] at HR
  rw [hd] at ok
  have HM := Lib.hid m
  have HSG := Lib.hid hs
  have hnE : ne ≤ 9223372036854775807 := by have := m.mE; unfold maxLen at this; omega
  have hnL : nl ≤ 9223372036854775807 := by have := m.mL; unfold maxLen at this; omega
  obtain ⟨dc, dl, dn, dp, ds⟩ := d
  obtain rfl : dc = 3 := h1
  have g2 : (dl != h) = true := by rw [bne_iff_ne]; exact h3
  clear h3
  clear S0 hb hl hc hd he m ok hs
  go_enter Try.func13, Try.ntmps13
  go_wp2_with fail
  refine HR.out.mono ?_
  rintro r w1 ⟨rfl, b1⟩
  have S2 := Lib.hid ((S1.out.next b1).alloc (dbx ⟨3, dl, dn, dp, ds⟩))
  have s3 := S2.out.alloc (gbx ⟨0, 0⟩ ⟨3, dl, dn, dp, ds⟩ 43)
  rw [World.size_alloc] at s3
  have S3 := Lib.hid s3
  have HPQ := Lib.hid (show w.heap.size + 1 < w1.heap.size ∧ w.heap.size < w1.heap.size by
    have := lt_of_heap (S1.out.at 0 rfl)
    have := b1.size
    omega)
  clear b1 S1 HR s3
  obtain ⟨z0, z1, z2, z3, z4⟩ := cells5 (S2.out.at 0 rfl)
  obtain ⟨y0, y1, y2, y3, y4⟩ := cells5 (S3.out.at 1 rfl)
  obtain ⟨a0, a1, a2, a3, a4, a5, a6, a7, a8⟩ := PlanW.cells9 (S3.out.at 3 rfl)
  go_upto_region 20 with (fail)
  generalize (w1.alloc (dbx ⟨3, dl, dn, dp, ds⟩)).alloc (gbx ⟨0, 0⟩ ⟨3, dl, dn, dp, ds⟩ 43) = w2 at *
  generalize hgq : w1.heap.size + 1 = g at *
  have HGQ := Lib.hid hgq
  clear hgq
  generalize w1.heap.size = q at *
  have SR := Lib.hid (S3.out.sub (M := [(q, dbx ⟨3, dl, dn, dp, ds⟩), (w.heap.size, cbx c D E L nd cd ne ce nl cl)]) (by intro x hx; simp only [List.mem_cons, List.not_mem_nil, or_false] at hx ⊢; rcases hx with rfl | rfl <;> simp))
  have HGP := Lib.hid (show w.heap.size + 1 < g ∧ w.heap.size ≤ g by have := HPQ.out; have := HGQ.out; omega)
  clear SR
  have T := Lib.hid (why_end S3.out HGP.out 1)
  obtain ⟨t0, t1, t2, t3, t4, t5, t6⟩ := cells7 (S3.out.at 0 rfl)
  obtain ⟨f0, f1, f2, f3, f4, f5, f6⟩ := frozen7 (S3.out.at 0 rfl)
  obtain ⟨u0, u1, u2, u3, u4, u5, u6⟩ := cells7 T.out.1
  obtain ⟨x0, x1, x2, x3, x4, x5, x6⟩ := cells7 T.out.2.1
  obtain ⟨e0, e1, e2, e3, e4, e5, e6⟩ := frozen7 T.out.2.1
  go_wp2
  exact ret_g rfl rfl (put7 T.out.2.1 _ _ _ _ _ _ _) ⟨rfl, T.out.2.2.trans ((kept7 _ _ _ _ _ _ _ _ _).below (Nat.le_succ _) T.out.2.2.size)⟩
set_option maxHeartbeats 4000000 in
set_option maxRecDepth 100000 in
theorem re1 (c : Cfg) (D E L : Option Addr) (nd cd ne ce nl cl : Nat) (h t : Int) (Av : Option Addr) (Lt : List Tn) (cv : Nat) (A : Option Addr) (l : List Int) (cp : Nat) (w : World) (m : CM w c D E L nd cd ne ce nl cl) (hb : BL w A l) (hl : l.length ≤ 9223372036854775807) (hc : l.length ≤ cp) (d : Dt) (hd : dt l = d) (he : rdE l = 0) (hs : SG F19 w Av Lt) (h1 : d.c = 3) (h3 : d.l = h) :
    Calls Try.prog 13 #[.agg #[.int .i64 c.hosts, .int .i64 c.cycle, .int .i64 c.delay, .int .i64 c.window, .int .i64 c.precision, .slice D nd cd, .slice E ne ce, .slice L nl cl, .int .i64 c.queue], .int .i64 h, .slice Av Lt.length cv, .int .i64 t, .slice A l.length cp] w fun r w' => r = .returned (gg d ⟨0, 0⟩) ∧ Below w.heap.size w w' := by
  have S0 := ((Stay.start w).alloc (cbx c D E L nd cd ne ce nl cl)).alloc (gbx ⟨0, 0⟩ d0 43)
  rw [World.size_alloc] at S0
  have S1 := Lib.hid S0
  have HR := Lib.hid (FrameW.refReadData_any A cp l _ (hb.below S0.b) hl hc)
  have ok := dt_ok he
  rw [rdV_dt, he, hd] at HR
  rw [hd] at ok
  have HM := Lib.hid m
  have HSG := Lib.hid hs
  have hnE : ne ≤ 9223372036854775807 := by have := m.mE; unfold maxLen at this; omega
  have hnL : nl ≤ 9223372036854775807 := by have := m.mL; unfold maxLen at this; omega
  obtain ⟨dc, dl, dn, dp, ds⟩ := d
  obtain rfl : dc = 3 := h1
  have g2 : (dl != h) = false := by rw [bne_eq_false_iff_eq]; exact h3
  clear h3
  clear S0 hb hl hc hd he m ok hs
  go_enter Try.func13, Try.ntmps13
  go_wp2_with fail
  refine HR.out.mono ?_
  rintro r w1 ⟨rfl, b1⟩
  have S2 := Lib.hid ((S1.out.next b1).alloc (dbx ⟨3, dl, dn, dp, ds⟩))
  have s3 := S2.out.alloc (gbx ⟨0, 0⟩ ⟨3, dl, dn, dp, ds⟩ 43)
  rw [World.size_alloc] at s3
  have S3 := Lib.hid s3
  have HPQ := Lib.hid (show w.heap.size + 1 < w1.heap.size ∧ w.heap.size < w1.heap.size by
    have := lt_of_heap (S1.out.at 0 rfl)
    have := b1.size
    omega)
  clear b1 S1 HR s3
  obtain ⟨z0, z1, z2, z3, z4⟩ := cells5 (S2.out.at 0 rfl)
  obtain ⟨y0, y1, y2, y3, y4⟩ := cells5 (S3.out.at 1 rfl)
  obtain ⟨a0, a1, a2, a3, a4, a5, a6, a7, a8⟩ := PlanW.cells9 (S3.out.at 3 rfl)
  obtain ⟨t0, t1, t2, t3, t4, t5, t6⟩ := cells7 (S3.out.at 0 rfl)
  obtain ⟨x0, x1, x2, x3, x4, x5, x6⟩ := cells7 (S3.out.at 2 rfl)
  obtain ⟨e0, e1, e2, e3, e4, e5, e6⟩ := frozen7 (S3.out.at 2 rfl)
  go_wp2
  exact ret_g rfl rfl (put7 (S3.out.at 2 rfl) _ _ _ _ _ _ _) ⟨rfl, S3.out.b.trans ((kept7 _ _ _ _ _ _ _ _ _).below (Nat.le_succ _) S3.out.b.size)⟩
end Go.Proofs.Ytnlimdlmhfnkiaa.StationW
