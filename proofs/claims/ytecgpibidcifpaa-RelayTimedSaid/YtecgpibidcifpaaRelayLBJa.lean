/- The landed relay: rated frames. -/
import Derived.Test.YtecgpibidcifpaaTake
import Derived.Test.YtecgpibidcifpaaRelayKJa
namespace Go.Proofs.Ytecgpibidcifpaa.RelayW
open Shell (takeR skipR aput lset)
open Go.RowKit Shell
open ConfW (Cfg R4 CM ML chk)
open BucketW (Bk pas tk b0 fit bb)
open FrameW (BL rdE rdV)
theorem take_bk {k : Nat} {g j : Int} {s : Bk} {w : World} (t : Int) (hr : BucketW.rgt g j = true) (F : fit g j s) (h : w.heap[k]? = some (bb g j s)) (hs : s.n + s.r < 4611686018427387904) :
    Calls Try.prog 78 #[.pointer (some ⟨k, 0, none⟩), .int .i64 t] w fun e w' => e = .returned (.bool (pas j s t)) ∧ w'.heap[k]? = some (bb g j (tk g j s t)) ∧ Kept k w w' := by
  cases hp : pas j s t with
  | true =>
    rw [BucketW.tk_yes hp]
    exact BucketW.take_ok k g j s.n s.l s.m s.r t w hr F h (by omega) hp
  | false =>
    rw [BucketW.tk_no hp]
    exact BucketW.take_no k g j s.n s.l s.m s.r t w hr F h (by omega) hp
set_option maxHeartbeats 4000000 in
set_option maxRecDepth 100000 in
theorem rr0_any (c : Cfg) (D E L : Option Addr) (nd cd ne ce nl cl : Nat) (B : Option Addr) (nb cb : Nat) (x1 x2 x3 x4 x5 x6 x7 : Int) (g : Nat) (t fr : Int) (d : Dt) (ok : DOk d) (W : World) (h : W.heap[g]? = some (rbx c D E L nd cd ne ce nl cl B nb cb x1 x2 x3 x4 x5 x6 x7)) (m : CM W c D E L nd cd ne ce nl cl) (h2 : lnkAt c d.l = none) :
    Calls Try.prog 60 #[.pointer (some ⟨g, 0, none⟩), .int .i64 t, .int .i64 fr, .agg #[.int .i64 d.c, .int .i64 d.l, .int .i64 d.n, .string d.p, .int .i64 d.s]] W fun r W' => r = .returned (.tuple #[.int .u32 (0 : Int), .int .i64 1]) ∧ Below W.heap.size W W' := by
  have S1 := Lib.hid (((Stay.start W).add h).alloc (dbx d))
  have g0 := lnk_no h2 ok.l.1
  rw [← m.nL] at g0
  have hnE : nl ≤ 9223372036854775807 := by have := m.mL; unfold maxLen at this; omega
  obtain ⟨dc, dl, dn, dp, ds⟩ := d
  replace g0 : dl ≥ (nl : Int) := g0
  have g1 : decide ((nl : Int) ≤ dl) = true := decide_eq_true g0
  clear h ok m h2
  go_enter Try.func60, Try.ntmps60
  go_wp2
  generalize W.alloc (dbx ⟨dc, dl, dn, dp, ds⟩) = w2 at *
  apply wp_one
  case h =>
    refine wp_region_noPanic ?_
    refine wp_region_held_drew (S := fun Z : World => Stay W [(W.heap.size, dbx ⟨dc, dl, dn, dp, ds⟩), (g, rbx c D E L nd cd ne ce nl cl B nb cb x1 x2 x3 x4 x5 x6 x7)] Z) (by kernel_rfl) (S1.out.drew) (fun hHeld => ?_)
    refine takeR 0 (some 11) ?_ ?_ ?_; rotate_left; (focus (intros; go_simp; (try with_reducible rfl)))
    simp only [aput, lset]
    refine takeR 1 (some 12) ?_ ?_ ?_; rotate_left; (focus (intro w hSw; (try dsimp only at hSw); obtain ⟨z0, z1, z2, z3, z4⟩ := cells5 (Stay.at hSw 0 rfl); have a7 := cell_of_row _ g 7 _ _ _ (Stay.at hSw 1 rfl); go_simp; (try with_reducible rfl)))
    simp only [aput, lset]
    refine takeR 2 (some 13) ?_ ?_ ?_; rotate_left; (focus (intros; go_simp; (try with_reducible rfl)))
    simp only [aput, lset]
    refine takeR 3 (some 14) ?_ ?_ ?_; rotate_left; (focus (intros; go_simp; (try with_reducible rfl)))
    simp only [aput, lset]
    refine takeR 4 (some 15) ?_ ?_ ?_; rotate_left; (focus (intros; go_simp; (try with_reducible rfl)))
    simp only [aput, lset]
    refine takeR 5 (some 16) ?_ ?_ ?_; rotate_left; (focus (intros; go_simp; (try with_reducible rfl)))
    simp only [aput, lset]
    refine takeR 6 (some 17) ?_ ?_ ?_; rotate_left; (focus (intro w hSw; (try dsimp only at hSw); obtain ⟨z0, z1, z2, z3, z4⟩ := cells5 (Stay.at hSw 0 rfl); have a7 := cell_of_row _ g 7 _ _ _ (Stay.at hSw 1 rfl); go_simp; (try with_reducible rfl)))
    simp only [aput, lset]
    refine takeR 7 (some 18) ?_ ?_ ?_; rotate_left; (focus (intros; go_simp; (try with_reducible rfl)))
    simp only [aput, lset]
    refine takeR 8 (some 19) ?_ ?_ ?_; rotate_left; (focus (intros; go_simp; (try with_reducible rfl)))
    simp only [aput, lset]
    refine wpAnyH_done (by kernel_rfl) ?_ _
    exact NoPanic.normal ⟨rfl, rfl, rfl⟩
  case hm =>
    go_wp2
    go_ret2
    exact ⟨rfl, S1.out.b.drew⟩
set_option maxHeartbeats 4000000 in
set_option maxRecDepth 100000 in
theorem rr1_any (c : Cfg) (D E L : Option Addr) (nd cd ne ce nl cl : Nat) (B : Option Addr) (nb cb : Nat) (x1 x2 x3 x4 x5 x6 x7 : Int) (g : Nat) (t fr : Int) (d : Dt) (ok : DOk d) (W : World) (h : W.heap[g]? = some (rbx c D E L nd cd ne ce nl cl B nb cb x1 x2 x3 x4 x5 x6 x7)) (m : CM W c D E L nd cd ne ce nl cl) (e : R4) (h2 : lnkAt c d.l = some e) (h3 : e.a ≠ fr) :
    Calls Try.prog 60 #[.pointer (some ⟨g, 0, none⟩), .int .i64 t, .int .i64 fr, .agg #[.int .i64 d.c, .int .i64 d.l, .int .i64 d.n, .string d.p, .int .i64 d.s]] W fun r W' => r = .returned (.tuple #[.int .u32 (0 : Int), .int .i64 1]) ∧ Below W.heap.size W W' := by
  have S1 := Lib.hid (((Stay.start W).add h).alloc (dbx d))
  have HM := Lib.hid m
  have HN := Lib.hid (Nat.ne_of_lt (lt_of_heap h))
  obtain ⟨n, hn, hk, hlt⟩ := lnk_at h2 ok.l.1
  rw [← m.nL] at hlt
  have hnE : nl ≤ 9223372036854775807 := by have := m.mL; unfold maxLen at this; omega
  obtain ⟨dc, dl, dn, dp, ds⟩ := d
  obtain rfl : dl = (n : Int) := hn
  have g0 : (n : Int) < (nl : Int) := by omega
  have g1 : decide ((nl : Int) ≤ (n : Int)) = false := decide_eq_false (by omega)
  have g4 : decide (nl ≤ n) = false := decide_eq_false (by omega)
  obtain ⟨b, off, rfl, l0, l1, l2, l3⟩ := ml_at m.hl hk
  have E0 := Lib.hid l0
  have E1 := Lib.hid l1
  have E2 := Lib.hid l2
  have E3 := Lib.hid l3
  clear h ok m h2 l0 l1 l2 l3
  have g2 : (e.a != fr) = true := by rw [bne_iff_ne]; exact h3
  clear h3
  go_enter Try.func60, Try.ntmps60
  go_wp2
  generalize W.alloc (dbx ⟨dc, (n : Int), dn, dp, ds⟩) = w2 at *
  apply wp_one
  case h =>
    refine wp_region_noPanic ?_
    refine wp_region_held_drew (S := fun Z : World => Stay W [(W.heap.size, dbx ⟨dc, (n : Int), dn, dp, ds⟩), (g, rbx c D E (some ⟨b, off, none⟩) nd cd ne ce nl cl B nb cb x1 x2 x3 x4 x5 x6 x7)] Z) (by kernel_rfl) (S1.out.drew) (fun hHeld => ?_)
    refine takeR 0 (some 11) ?_ ?_ ?_; rotate_left; (focus (intros; go_simp; (try with_reducible rfl)))
    simp only [aput, lset]
    refine takeR 1 (some 12) ?_ ?_ ?_; rotate_left; (focus (intro w hSw; (try dsimp only at hSw); obtain ⟨z0, z1, z2, z3, z4⟩ := cells5 (Stay.at hSw 0 rfl); have a7 := cell_of_row _ g 7 _ _ _ (Stay.at hSw 1 rfl); go_simp; (try with_reducible rfl)))
    simp only [aput, lset]
    refine takeR 2 (some 13) ?_ ?_ ?_; rotate_left; (focus (intros; go_simp; (try with_reducible rfl)))
    simp only [aput, lset]
    refine takeR 3 (some 14) ?_ ?_ ?_; rotate_left; (focus (intros; go_simp; (try with_reducible rfl)))
    simp only [aput, lset]
    refine takeR 4 (some 15) ?_ ?_ ?_; rotate_left; (focus (intros; go_simp; (try with_reducible rfl)))
    simp only [aput, lset]
    refine takeR 5 (some 16) ?_ ?_ ?_; rotate_left; (focus (intros; go_simp; (try with_reducible rfl)))
    simp only [aput, lset]
    refine takeR 6 (some 17) ?_ ?_ ?_; rotate_left; (focus (intro w hSw; (try dsimp only at hSw); obtain ⟨z0, z1, z2, z3, z4⟩ := cells5 (Stay.at hSw 0 rfl); have a7 := cell_of_row _ g 7 _ _ _ (Stay.at hSw 1 rfl); go_simp; (try with_reducible rfl)))
    simp only [aput, lset]
    refine takeR 7 (some 18) ?_ ?_ ?_; rotate_left; (focus (intros; go_simp; (try with_reducible rfl)))
    simp only [aput, lset]
    refine takeR 8 (some 19) ?_ ?_ ?_; rotate_left; (focus (intros; go_simp; (try with_reducible rfl)))
    simp only [aput, lset]
    refine wpAnyH_done (by kernel_rfl) ?_ _
    exact NoPanic.normal ⟨rfl, rfl, rfl⟩
  case hm =>
    have S3 := Lib.hid S1.out.drew
    have GW := HN
    clear S1
    generalize w2.drew = w3 at *
    go_wp2
    apply wp_some (S := fun Z : World => Stay W [(w3.heap.size, ebx e 52), (W.heap.size, dbx ⟨dc, (n : Int), dn, dp, ds⟩), (g, rbx c D E (some ⟨b, off, none⟩) nd cd ne ce nl cl B nb cb x1 x2 x3 x4 x5 x6 x7)] Z)
    case h =>
      refine wp_region_noPanic ?_
      refine wp_region_held_drew (S := fun Z : World => Stay W [(W.heap.size, dbx ⟨dc, (n : Int), dn, dp, ds⟩), (g, rbx c D E (some ⟨b, off, none⟩) nd cd ne ce nl cl B nb cb x1 x2 x3 x4 x5 x6 x7)] Z) (by kernel_rfl) (S3.out.drew) (fun hHeld => ?_)
      refine takeR 0 (some 20) ?_ ?_ ?_; rotate_left; (focus (intros; go_simp; (try with_reducible rfl)))
      simp only [aput, lset]
      refine takeR 1 (some 21) ?_ ?_ ?_; rotate_left; (focus (intros; go_simp; (try with_reducible rfl)))
      simp only [aput, lset]
      refine takeR 2 (some 22) ?_ ?_ ?_; rotate_left; (focus (intros; go_simp; (try with_reducible rfl)))
      simp only [aput, lset]
      refine takeR 3 (some 23) ?_ ?_ ?_; rotate_left; (focus (intros; go_simp; (try with_reducible rfl)))
      simp only [aput, lset]
      refine takeR 4 (some 24) ?_ ?_ ?_; rotate_left; (focus (intro w hSw; (try dsimp only at hSw); obtain ⟨z0, z1, z2, z3, z4⟩ := cells5 (Stay.at hSw 0 rfl); have a7 := cell_of_row _ g 7 _ _ _ (Stay.at hSw 1 rfl); have l0 := cell_keep E0.out hSw.b; have l1 := cell_keep E1.out hSw.b; have l2 := cell_keep E2.out hSw.b; have l3 := cell_keep E3.out hSw.b; go_simp; (try with_reducible rfl)))
      simp only [aput, lset]
      refine takeR 5 (some 25) ?_ ?_ ?_; rotate_left; (focus (intros; go_simp; (try with_reducible rfl)))
      simp only [aput, lset]
      refine takeR 6 (some 26) ?_ ?_ ?_; rotate_left; (focus (intro w hSw; (try dsimp only at hSw); obtain ⟨z0, z1, z2, z3, z4⟩ := cells5 (Stay.at hSw 0 rfl); have a7 := cell_of_row _ g 7 _ _ _ (Stay.at hSw 1 rfl); have l0 := cell_keep E0.out hSw.b; have l1 := cell_keep E1.out hSw.b; have l2 := cell_keep E2.out hSw.b; have l3 := cell_keep E3.out hSw.b; go_simp; (try with_reducible rfl)))
      simp only [aput, lset]
      refine takeR 7 (some 27) ?_ ?_ ?_; rotate_left; (focus (intros; go_simp; (try with_reducible rfl)))
      simp only [aput, lset]
      refine takeR 8 (some 28) ?_ ?_ ?_; rotate_left; (focus (intro w hSw; (try dsimp only at hSw); obtain ⟨z0, z1, z2, z3, z4⟩ := cells5 (Stay.at hSw 0 rfl); have a7 := cell_of_row _ g 7 _ _ _ (Stay.at hSw 1 rfl); have l0 := cell_keep E0.out hSw.b; have l1 := cell_keep E1.out hSw.b; have l2 := cell_keep E2.out hSw.b; have l3 := cell_keep E3.out hSw.b; go_simp; (try with_reducible rfl)))
      simp only [aput, lset]
      refine wpAnyH_ready (rs := [9]) (by kernel_rfl) (by simp) ?_
      refine AllReadyH.cons (o := ⟨some 10, _, _, _, _, _⟩) rfl (fun K hK => ?_) AllReadyH.nil
      rw [if_pos (by kernel_rfl)]
      go_simp
      have hS9 := Stay.next hHeld (al (Below.refl _ _) (zbx 52))
      have B9 : (World.alloc w3.drew (zbx 52)).heap[w3.heap.size]? = some (zbx 52) := heap_alloc_new w3.drew (zbx 52)
      go_simp
      refine hK.out _ _ (by assumption) (fun hHeld => ?_)
      clear hK K
      refine wpAnyH_ready (rs := [10]) (by kernel_rfl) (by simp) ?_
      refine AllReadyH.cons (o := ⟨none, _, _, _, _, _⟩) rfl (fun K hK => ?_) AllReadyH.nil
      rw [if_pos (by kernel_rfl)]
      go_simp
      have HB := Lib.hid ((S3.out.alloc (ebx e 52)).drew)
      have hS10 := (S3.out.next (al (Below.refl _ _) (ebx e 52))).drew
      go_simp
      refine hK.out _ _ (by assumption) (fun hHeld => ?_)
      clear hK K
      refine wpAnyH_done (by kernel_rfl) ?_ _
      exact NoPanic.normal ⟨rfl, rfl, HB.out⟩
    case hm =>
      rintro w4 S4
      have S4 := Lib.hid S4
      have QW := Lib.hid (lt_of_heap (S3.out.at 0 rfl))
      generalize w3.heap.size = q at *
      obtain ⟨y0, y1, y2, y3⟩ := PlanW.cells4 (S4.out.at 0 rfl)
      obtain ⟨z0, z1, z2, z3, z4⟩ := cells5 (S4.out.at 1 rfl)
      go_wp2
      go_ret2
      exact ⟨rfl, S4.out.b⟩
set_option maxHeartbeats 4000000 in
set_option maxRecDepth 100000 in
theorem rr2_any (c : Cfg) (D E L : Option Addr) (nd cd ne ce nl cl : Nat) (B : Option Addr) (nb cb : Nat) (x1 x2 x3 x4 x5 x6 x7 : Int) (g : Nat) (t fr : Int) (d : Dt) (ok : DOk d) (W : World) (h : W.heap[g]? = some (rbx c D E L nd cd ne ce nl cl B nb cb x1 x2 x3 x4 x5 x6 x7)) (m : CM W c D E L nd cd ne ce nl cl) (e : R4) (h2 : lnkAt c d.l = some e) (h3 : e.a = fr) (h4 : e.d < d.s) :
    Calls Try.prog 60 #[.pointer (some ⟨g, 0, none⟩), .int .i64 t, .int .i64 fr, .agg #[.int .i64 d.c, .int .i64 d.l, .int .i64 d.n, .string d.p, .int .i64 d.s]] W fun r W' => r = .returned (.tuple #[.int .u32 (0 : Int), .int .i64 1]) ∧ Below W.heap.size W W' := by
  have S1 := Lib.hid (((Stay.start W).add h).alloc (dbx d))
  have HM := Lib.hid m
  have HN := Lib.hid (Nat.ne_of_lt (lt_of_heap h))
  obtain ⟨n, hn, hk, hlt⟩ := lnk_at h2 ok.l.1
  rw [← m.nL] at hlt
  have hnE : nl ≤ 9223372036854775807 := by have := m.mL; unfold maxLen at this; omega
  obtain ⟨dc, dl, dn, dp, ds⟩ := d
  obtain rfl : dl = (n : Int) := hn
  have g0 : (n : Int) < (nl : Int) := by omega
  have g1 : decide ((nl : Int) ≤ (n : Int)) = false := decide_eq_false (by omega)
  have g4 : decide (nl ≤ n) = false := decide_eq_false (by omega)
  obtain ⟨b, off, rfl, l0, l1, l2, l3⟩ := ml_at m.hl hk
  have E0 := Lib.hid l0
  have E1 := Lib.hid l1
  have E2 := Lib.hid l2
  have E3 := Lib.hid l3
  clear h ok m h2 l0 l1 l2 l3
  have g2 : (e.a != fr) = false := by rw [bne_eq_false_iff_eq]; exact h3
  have g3 : decide (e.d < ds) = true := decide_eq_true h4
  have g5 : ds > e.d := h4
  clear h3 h4
  go_enter Try.func60, Try.ntmps60
  go_wp2
  generalize W.alloc (dbx ⟨dc, (n : Int), dn, dp, ds⟩) = w2 at *
  apply wp_one
  case h =>
    refine wp_region_noPanic ?_
    refine wp_region_held_drew (S := fun Z : World => Stay W [(W.heap.size, dbx ⟨dc, (n : Int), dn, dp, ds⟩), (g, rbx c D E (some ⟨b, off, none⟩) nd cd ne ce nl cl B nb cb x1 x2 x3 x4 x5 x6 x7)] Z) (by kernel_rfl) (S1.out.drew) (fun hHeld => ?_)
    refine takeR 0 (some 11) ?_ ?_ ?_; rotate_left; (focus (intros; go_simp; (try with_reducible rfl)))
    simp only [aput, lset]
    refine takeR 1 (some 12) ?_ ?_ ?_; rotate_left; (focus (intro w hSw; (try dsimp only at hSw); obtain ⟨z0, z1, z2, z3, z4⟩ := cells5 (Stay.at hSw 0 rfl); have a7 := cell_of_row _ g 7 _ _ _ (Stay.at hSw 1 rfl); go_simp; (try with_reducible rfl)))
    simp only [aput, lset]
    refine takeR 2 (some 13) ?_ ?_ ?_; rotate_left; (focus (intros; go_simp; (try with_reducible rfl)))
    simp only [aput, lset]
    refine takeR 3 (some 14) ?_ ?_ ?_; rotate_left; (focus (intros; go_simp; (try with_reducible rfl)))
    simp only [aput, lset]
    refine takeR 4 (some 15) ?_ ?_ ?_; rotate_left; (focus (intros; go_simp; (try with_reducible rfl)))
    simp only [aput, lset]
    refine takeR 5 (some 16) ?_ ?_ ?_; rotate_left; (focus (intros; go_simp; (try with_reducible rfl)))
    simp only [aput, lset]
    refine takeR 6 (some 17) ?_ ?_ ?_; rotate_left; (focus (intro w hSw; (try dsimp only at hSw); obtain ⟨z0, z1, z2, z3, z4⟩ := cells5 (Stay.at hSw 0 rfl); have a7 := cell_of_row _ g 7 _ _ _ (Stay.at hSw 1 rfl); go_simp; (try with_reducible rfl)))
    simp only [aput, lset]
    refine takeR 7 (some 18) ?_ ?_ ?_; rotate_left; (focus (intros; go_simp; (try with_reducible rfl)))
    simp only [aput, lset]
    refine takeR 8 (some 19) ?_ ?_ ?_; rotate_left; (focus (intros; go_simp; (try with_reducible rfl)))
    simp only [aput, lset]
    refine wpAnyH_done (by kernel_rfl) ?_ _
    exact NoPanic.normal ⟨rfl, rfl, rfl⟩
  case hm =>
    have S3 := Lib.hid S1.out.drew
    have GW := HN
    clear S1
    generalize w2.drew = w3 at *
    go_wp2
    apply wp_some (S := fun Z : World => Stay W [(w3.heap.size, ebx e 52), (W.heap.size, dbx ⟨dc, (n : Int), dn, dp, ds⟩), (g, rbx c D E (some ⟨b, off, none⟩) nd cd ne ce nl cl B nb cb x1 x2 x3 x4 x5 x6 x7)] Z)
    case h =>
      refine wp_region_noPanic ?_
      refine wp_region_held_drew (S := fun Z : World => Stay W [(W.heap.size, dbx ⟨dc, (n : Int), dn, dp, ds⟩), (g, rbx c D E (some ⟨b, off, none⟩) nd cd ne ce nl cl B nb cb x1 x2 x3 x4 x5 x6 x7)] Z) (by kernel_rfl) (S3.out.drew) (fun hHeld => ?_)
      refine takeR 0 (some 20) ?_ ?_ ?_; rotate_left; (focus (intros; go_simp; (try with_reducible rfl)))
      simp only [aput, lset]
      refine takeR 1 (some 21) ?_ ?_ ?_; rotate_left; (focus (intros; go_simp; (try with_reducible rfl)))
      simp only [aput, lset]
      refine takeR 2 (some 22) ?_ ?_ ?_; rotate_left; (focus (intros; go_simp; (try with_reducible rfl)))
      simp only [aput, lset]
      refine takeR 3 (some 23) ?_ ?_ ?_; rotate_left; (focus (intros; go_simp; (try with_reducible rfl)))
      simp only [aput, lset]
      refine takeR 4 (some 24) ?_ ?_ ?_; rotate_left; (focus (intro w hSw; (try dsimp only at hSw); obtain ⟨z0, z1, z2, z3, z4⟩ := cells5 (Stay.at hSw 0 rfl); have a7 := cell_of_row _ g 7 _ _ _ (Stay.at hSw 1 rfl); have l0 := cell_keep E0.out hSw.b; have l1 := cell_keep E1.out hSw.b; have l2 := cell_keep E2.out hSw.b; have l3 := cell_keep E3.out hSw.b; go_simp; (try with_reducible rfl)))
      simp only [aput, lset]
      refine takeR 5 (some 25) ?_ ?_ ?_; rotate_left; (focus (intros; go_simp; (try with_reducible rfl)))
      simp only [aput, lset]
      refine takeR 6 (some 26) ?_ ?_ ?_; rotate_left; (focus (intro w hSw; (try dsimp only at hSw); obtain ⟨z0, z1, z2, z3, z4⟩ := cells5 (Stay.at hSw 0 rfl); have a7 := cell_of_row _ g 7 _ _ _ (Stay.at hSw 1 rfl); have l0 := cell_keep E0.out hSw.b; have l1 := cell_keep E1.out hSw.b; have l2 := cell_keep E2.out hSw.b; have l3 := cell_keep E3.out hSw.b; go_simp; (try with_reducible rfl)))
      simp only [aput, lset]
      refine takeR 7 (some 27) ?_ ?_ ?_; rotate_left; (focus (intros; go_simp; (try with_reducible rfl)))
      simp only [aput, lset]
      refine takeR 8 (some 28) ?_ ?_ ?_; rotate_left; (focus (intro w hSw; (try dsimp only at hSw); obtain ⟨z0, z1, z2, z3, z4⟩ := cells5 (Stay.at hSw 0 rfl); have a7 := cell_of_row _ g 7 _ _ _ (Stay.at hSw 1 rfl); have l0 := cell_keep E0.out hSw.b; have l1 := cell_keep E1.out hSw.b; have l2 := cell_keep E2.out hSw.b; have l3 := cell_keep E3.out hSw.b; go_simp; (try with_reducible rfl)))
      simp only [aput, lset]
      refine wpAnyH_ready (rs := [9]) (by kernel_rfl) (by simp) ?_
      refine AllReadyH.cons (o := ⟨some 10, _, _, _, _, _⟩) rfl (fun K hK => ?_) AllReadyH.nil
      rw [if_pos (by kernel_rfl)]
      go_simp
      have hS9 := Stay.next hHeld (al (Below.refl _ _) (zbx 52))
      have B9 : (World.alloc w3.drew (zbx 52)).heap[w3.heap.size]? = some (zbx 52) := heap_alloc_new w3.drew (zbx 52)
      go_simp
      refine hK.out _ _ (by assumption) (fun hHeld => ?_)
      clear hK K
      refine wpAnyH_ready (rs := [10]) (by kernel_rfl) (by simp) ?_
      refine AllReadyH.cons (o := ⟨none, _, _, _, _, _⟩) rfl (fun K hK => ?_) AllReadyH.nil
      rw [if_pos (by kernel_rfl)]
      go_simp
      have HB := Lib.hid ((S3.out.alloc (ebx e 52)).drew)
      have hS10 := (S3.out.next (al (Below.refl _ _) (ebx e 52))).drew
      go_simp
      refine hK.out _ _ (by assumption) (fun hHeld => ?_)
      clear hK K
      refine wpAnyH_done (by kernel_rfl) ?_ _
      exact NoPanic.normal ⟨rfl, rfl, HB.out⟩
    case hm =>
      rintro w4 S4
      have S4 := Lib.hid S4
      have QW := Lib.hid (lt_of_heap (S3.out.at 0 rfl))
      generalize w3.heap.size = q at *
      obtain ⟨y0, y1, y2, y3⟩ := PlanW.cells4 (S4.out.at 0 rfl)
      obtain ⟨z0, z1, z2, z3, z4⟩ := cells5 (S4.out.at 1 rfl)
      go_wp2
      go_ret2
      exact ⟨rfl, S4.out.b⟩
set_option maxHeartbeats 4000000 in
set_option maxRecDepth 100000 in
theorem rr3_any (c : Cfg) (D E L : Option Addr) (nd cd ne ce nl cl : Nat) (B : Option Addr) (cb : Nat) (x1 x2 x3 x4 x5 x6 x7 : Int) (g : Nat) (t fr : Int) (d : Dt) (ok : DOk d) (W : World) (h : W.heap[g]? = some (rbx c D E L nd cd ne ce nl cl B nl cb x1 x2 x3 x4 x5 x6 x7)) (m : CM W c D E L nd cd ne ce nl cl) (e : R4) (h2 : lnkAt c d.l = some e) (h3 : e.a = fr) (h4 : d.s ≤ e.d) (k : Nat) (s : Bk) (ks : List Nat) (hp : PR W B ks) (hks : ks[d.l.toNat]? = some k) (hk1 : W.heap[k]? = some (bb e.c c.delay s)) (hkg : k ≠ g) (hpk : ∀ a, B = some a → a.block ≠ k) (hr : BucketW.rgt e.c c.delay = true) (F : fit e.c c.delay s) (hs : s.n + s.r < 4611686018427387904) (h5 : pas c.delay s t = false) :
    Calls Try.prog 60 #[.pointer (some ⟨g, 0, none⟩), .int .i64 t, .int .i64 fr, .agg #[.int .i64 d.c, .int .i64 d.l, .int .i64 d.n, .string d.p, .int .i64 d.s]] W fun r W' => r = .returned (.tuple #[.int .u32 (0 : Int), .int .i64 4]) ∧ W'.heap[k]? = some (bb e.c c.delay (tk e.c c.delay s t)) ∧ Kept k W W' := by
  have S1 := Lib.hid (((Stay.start W).add h).alloc (dbx d))
  have HM := Lib.hid m
  have HN := Lib.hid (Nat.ne_of_lt (lt_of_heap h))
  obtain ⟨n, hn, hk, hlt⟩ := lnk_at h2 ok.l.1
  rw [← m.nL] at hlt
  have hnE : nl ≤ 9223372036854775807 := by have := m.mL; unfold maxLen at this; omega
  obtain ⟨dc, dl, dn, dp, ds⟩ := d
  obtain rfl : dl = (n : Int) := hn
  have g0 : (n : Int) < (nl : Int) := by omega
  have g1 : decide ((nl : Int) ≤ (n : Int)) = false := decide_eq_false (by omega)
  have g4 : decide (nl ≤ n) = false := decide_eq_false (by omega)
  obtain ⟨b, off, rfl, l0, l1, l2, l3⟩ := ml_at m.hl hk
  have E0 := Lib.hid l0
  have E1 := Lib.hid l1
  have E2 := Lib.hid l2
  have E3 := Lib.hid l3
  rw [Int.toNat_natCast] at hks
  obtain ⟨p, rfl, pc⟩ := hp n k hks
  have PC := Lib.hid pc
  have HT := Lib.hid (fun (w : World) (hw : w.heap[k]? = some (bb e.c c.delay s)) => take_bk t hr F hw hs)
  rw [h5] at HT
  have HK := Lib.hid hk1
  have HKL := Lib.hid (lt_of_heap hk1)
  have HKG := Lib.hid hkg
  have HPK := Lib.hid (show p ≠ k from hpk _ rfl)
  clear h ok m h2 l0 l1 l2 l3 hp hks pc hr F hs h5 hk1 hkg hpk
  have g2 : (e.a != fr) = false := by rw [bne_eq_false_iff_eq]; exact h3
  have g3 : decide (e.d < ds) = false := decide_eq_false (by show ¬ (e.d < ds); exact Int.not_lt.2 h4)
  have g5 : ¬ ds > e.d := Int.not_lt.2 h4
  clear h3 h4
  go_enter Try.func60, Try.ntmps60
  go_wp2
  generalize W.alloc (dbx ⟨dc, (n : Int), dn, dp, ds⟩) = w2 at *
  apply wp_one
  case h =>
    refine wp_region_noPanic ?_
    refine wp_region_held_drew (S := fun Z : World => Stay W [(W.heap.size, dbx ⟨dc, (n : Int), dn, dp, ds⟩), (g, rbx c D E (some ⟨b, off, none⟩) nd cd ne ce nl cl (some ⟨p, 0, none⟩) nl cb x1 x2 x3 x4 x5 x6 x7)] Z) (by kernel_rfl) (S1.out.drew) (fun hHeld => ?_)
    refine takeR 0 (some 11) ?_ ?_ ?_; rotate_left; (focus (intros; go_simp; (try with_reducible rfl)))
    simp only [aput, lset]
    refine takeR 1 (some 12) ?_ ?_ ?_; rotate_left; (focus (intro w hSw; (try dsimp only at hSw); obtain ⟨z0, z1, z2, z3, z4⟩ := cells5 (Stay.at hSw 0 rfl); have a7 := cell_of_row _ g 7 _ _ _ (Stay.at hSw 1 rfl); go_simp; (try with_reducible rfl)))
    simp only [aput, lset]
    refine takeR 2 (some 13) ?_ ?_ ?_; rotate_left; (focus (intros; go_simp; (try with_reducible rfl)))
    simp only [aput, lset]
    refine takeR 3 (some 14) ?_ ?_ ?_; rotate_left; (focus (intros; go_simp; (try with_reducible rfl)))
    simp only [aput, lset]
    refine takeR 4 (some 15) ?_ ?_ ?_; rotate_left; (focus (intros; go_simp; (try with_reducible rfl)))
    simp only [aput, lset]
    refine takeR 5 (some 16) ?_ ?_ ?_; rotate_left; (focus (intros; go_simp; (try with_reducible rfl)))
    simp only [aput, lset]
    refine takeR 6 (some 17) ?_ ?_ ?_; rotate_left; (focus (intro w hSw; (try dsimp only at hSw); obtain ⟨z0, z1, z2, z3, z4⟩ := cells5 (Stay.at hSw 0 rfl); have a7 := cell_of_row _ g 7 _ _ _ (Stay.at hSw 1 rfl); go_simp; (try with_reducible rfl)))
    simp only [aput, lset]
    refine takeR 7 (some 18) ?_ ?_ ?_; rotate_left; (focus (intros; go_simp; (try with_reducible rfl)))
    simp only [aput, lset]
    refine takeR 8 (some 19) ?_ ?_ ?_; rotate_left; (focus (intros; go_simp; (try with_reducible rfl)))
    simp only [aput, lset]
    refine wpAnyH_done (by kernel_rfl) ?_ _
    exact NoPanic.normal ⟨rfl, rfl, rfl⟩
  case hm =>
    have S3 := Lib.hid S1.out.drew
    have GW := HN
    clear S1
    generalize w2.drew = w3 at *
    go_wp2
    apply wp_some (S := fun Z : World => Stay W [(w3.heap.size, ebx e 52), (W.heap.size, dbx ⟨dc, (n : Int), dn, dp, ds⟩), (g, rbx c D E (some ⟨b, off, none⟩) nd cd ne ce nl cl (some ⟨p, 0, none⟩) nl cb x1 x2 x3 x4 x5 x6 x7)] Z)
    case h =>
      refine wp_region_noPanic ?_
      refine wp_region_held_drew (S := fun Z : World => Stay W [(W.heap.size, dbx ⟨dc, (n : Int), dn, dp, ds⟩), (g, rbx c D E (some ⟨b, off, none⟩) nd cd ne ce nl cl (some ⟨p, 0, none⟩) nl cb x1 x2 x3 x4 x5 x6 x7)] Z) (by kernel_rfl) (S3.out.drew) (fun hHeld => ?_)
      refine takeR 0 (some 20) ?_ ?_ ?_; rotate_left; (focus (intros; go_simp; (try with_reducible rfl)))
      simp only [aput, lset]
      refine takeR 1 (some 21) ?_ ?_ ?_; rotate_left; (focus (intros; go_simp; (try with_reducible rfl)))
      simp only [aput, lset]
      refine takeR 2 (some 22) ?_ ?_ ?_; rotate_left; (focus (intros; go_simp; (try with_reducible rfl)))
      simp only [aput, lset]
      refine takeR 3 (some 23) ?_ ?_ ?_; rotate_left; (focus (intros; go_simp; (try with_reducible rfl)))
      simp only [aput, lset]
      refine takeR 4 (some 24) ?_ ?_ ?_; rotate_left; (focus (intro w hSw; (try dsimp only at hSw); obtain ⟨z0, z1, z2, z3, z4⟩ := cells5 (Stay.at hSw 0 rfl); have a7 := cell_of_row _ g 7 _ _ _ (Stay.at hSw 1 rfl); have l0 := cell_keep E0.out hSw.b; have l1 := cell_keep E1.out hSw.b; have l2 := cell_keep E2.out hSw.b; have l3 := cell_keep E3.out hSw.b; go_simp; (try with_reducible rfl)))
      simp only [aput, lset]
      refine takeR 5 (some 25) ?_ ?_ ?_; rotate_left; (focus (intros; go_simp; (try with_reducible rfl)))
      simp only [aput, lset]
      refine takeR 6 (some 26) ?_ ?_ ?_; rotate_left; (focus (intro w hSw; (try dsimp only at hSw); obtain ⟨z0, z1, z2, z3, z4⟩ := cells5 (Stay.at hSw 0 rfl); have a7 := cell_of_row _ g 7 _ _ _ (Stay.at hSw 1 rfl); have l0 := cell_keep E0.out hSw.b; have l1 := cell_keep E1.out hSw.b; have l2 := cell_keep E2.out hSw.b; have l3 := cell_keep E3.out hSw.b; go_simp; (try with_reducible rfl)))
      simp only [aput, lset]
      refine takeR 7 (some 27) ?_ ?_ ?_; rotate_left; (focus (intros; go_simp; (try with_reducible rfl)))
      simp only [aput, lset]
      refine takeR 8 (some 28) ?_ ?_ ?_; rotate_left; (focus (intro w hSw; (try dsimp only at hSw); obtain ⟨z0, z1, z2, z3, z4⟩ := cells5 (Stay.at hSw 0 rfl); have a7 := cell_of_row _ g 7 _ _ _ (Stay.at hSw 1 rfl); have l0 := cell_keep E0.out hSw.b; have l1 := cell_keep E1.out hSw.b; have l2 := cell_keep E2.out hSw.b; have l3 := cell_keep E3.out hSw.b; go_simp; (try with_reducible rfl)))
      simp only [aput, lset]
      refine wpAnyH_ready (rs := [9]) (by kernel_rfl) (by simp) ?_
      refine AllReadyH.cons (o := ⟨some 10, _, _, _, _, _⟩) rfl (fun K hK => ?_) AllReadyH.nil
      rw [if_pos (by kernel_rfl)]
      go_simp
      have hS9 := Stay.next hHeld (al (Below.refl _ _) (zbx 52))
      have B9 : (World.alloc w3.drew (zbx 52)).heap[w3.heap.size]? = some (zbx 52) := heap_alloc_new w3.drew (zbx 52)
      go_simp
      refine hK.out _ _ (by assumption) (fun hHeld => ?_)
      clear hK K
      refine wpAnyH_ready (rs := [10]) (by kernel_rfl) (by simp) ?_
      refine AllReadyH.cons (o := ⟨none, _, _, _, _, _⟩) rfl (fun K hK => ?_) AllReadyH.nil
      rw [if_pos (by kernel_rfl)]
      go_simp
      have HB := Lib.hid ((S3.out.alloc (ebx e 52)).drew)
      have hS10 := (S3.out.next (al (Below.refl _ _) (ebx e 52))).drew
      go_simp
      refine hK.out _ _ (by assumption) (fun hHeld => ?_)
      clear hK K
      refine wpAnyH_done (by kernel_rfl) ?_ _
      exact NoPanic.normal ⟨rfl, rfl, HB.out⟩
    case hm =>
      rintro w4 S4
      have S4 := Lib.hid S4
      have QW := Lib.hid (lt_of_heap (S3.out.at 0 rfl))
      generalize w3.heap.size = q at *
      obtain ⟨y0, y1, y2, y3⟩ := PlanW.cells4 (S4.out.at 0 rfl)
      obtain ⟨z0, z1, z2, z3, z4⟩ := cells5 (S4.out.at 1 rfl)
      have HK4 := Lib.hid (at_drew (row_below S4.out.b HK.out))
      have PC4 := Lib.hid (cell_keep PC.out S4.out.b)
      go_wp2
      apply wp_some (S := fun Z : World => Z.heap[k]? = some (bb e.c c.delay (tk e.c c.delay s t)) ∧ Kept k w4 Z)
      case h =>
        refine wp_region_noPanic ?_
        refine wp_region_held_drew (S := fun Z : World => Kept k w4 Z) (by kernel_rfl) (Kept.of (Below.refl _ _).drew) (fun hHeld => ?_)
        refine takeR 0 (some 40) ?_ ?_ ?_; rotate_left; (focus (intros; go_simp; (try with_reducible rfl)))
        simp only [aput, lset]
        refine takeR 1 (some 41) ?_ ?_ ?_; rotate_left; (focus (intros; go_simp; (try with_reducible rfl)))
        simp only [aput, lset]
        refine takeR 2 (some 42) ?_ ?_ ?_; rotate_left; (focus (intros; go_simp; (try with_reducible rfl)))
        simp only [aput, lset]
        refine takeR 3 (some 43) ?_ ?_ ?_; rotate_left; (focus (intro w hSw; (try dsimp only at hSw); obtain ⟨z0, z1, z2, z3, z4⟩ := cells5 ((hSw.block W.heap.size (Nat.ne_of_gt HKL.out) (lt_of_heap (S4.out.at 1 rfl))).trans (S4.out.at 1 rfl)); have a9 := cell_of_row _ g 9 _ _ _ ((hSw.block g (fun e => HKG.out e.symm) (lt_of_heap (S4.out.at 2 rfl))).trans (S4.out.at 2 rfl)); have pc := (World.cell?_of_block (hSw.block p HPK.out (Lib.lt_of_cell PC4.out))).trans PC4.out; go_simp; (try with_reducible rfl)))
        simp only [aput, lset]
        refine takeR 4 (some 44) ?_ ?_ ?_; rotate_left; (focus (intros; go_simp; (try with_reducible rfl)))
        simp only [aput, lset]
        refine takeR 5 (some 45) ?_ ?_ ?_; rotate_left; (focus (intro w hSw; (try dsimp only at hSw); obtain ⟨z0, z1, z2, z3, z4⟩ := cells5 ((hSw.block W.heap.size (Nat.ne_of_gt HKL.out) (lt_of_heap (S4.out.at 1 rfl))).trans (S4.out.at 1 rfl)); have a9 := cell_of_row _ g 9 _ _ _ ((hSw.block g (fun e => HKG.out e.symm) (lt_of_heap (S4.out.at 2 rfl))).trans (S4.out.at 2 rfl)); have pc := (World.cell?_of_block (hSw.block p HPK.out (Lib.lt_of_cell PC4.out))).trans PC4.out; go_simp; (try with_reducible rfl)))
        simp only [aput, lset]
        refine takeR 6 (some 46) ?_ ?_ ?_; rotate_left; (focus (intros; go_simp; (try with_reducible rfl)))
        simp only [aput, lset]
        refine takeR 7 (some 47) ?_ ?_ ?_; rotate_left; (focus (intro w hSw; (try dsimp only at hSw); obtain ⟨z0, z1, z2, z3, z4⟩ := cells5 ((hSw.block W.heap.size (Nat.ne_of_gt HKL.out) (lt_of_heap (S4.out.at 1 rfl))).trans (S4.out.at 1 rfl)); have a9 := cell_of_row _ g 9 _ _ _ ((hSw.block g (fun e => HKG.out e.symm) (lt_of_heap (S4.out.at 2 rfl))).trans (S4.out.at 2 rfl)); have pc := (World.cell?_of_block (hSw.block p HPK.out (Lib.lt_of_cell PC4.out))).trans PC4.out; go_simp; (try with_reducible rfl)))
        simp only [aput, lset]
        refine takeR 8 (some 48) ?_ ?_ ?_; rotate_left; (focus (intros; go_simp; (try with_reducible rfl)))
        simp only [aput, lset]
        refine wpAnyH_ready (rs := [9]) (by kernel_rfl) (by simp) ?_
        refine AllReadyH.cons (o := ⟨some 49, _, _, _, _, _⟩) rfl (fun K hK => ?_) AllReadyH.nil
        rw [if_pos (by kernel_rfl)]
        go_simp
        refine (HT.out _ HK4.out).mono ?_
        rintro r w9 ⟨rfl, hb9, k9⟩
        have hS9 : Kept k w4 w9 := (Kept.of (Below.refl _ _).drew).trans k9
        have hB9 := hb9
        go_simp
        refine hK.out _ _ (by assumption) (fun hHeld => ?_)
        clear hK K
        refine takeR 10 (some 50) ?_ ?_ ?_; rotate_left; (focus (intros; go_simp; (try with_reducible rfl)))
        simp only [aput, lset]
        refine wpAnyH_done (by kernel_rfl) ?_ _
        exact NoPanic.normal ⟨rfl, rfl, ⟨hB9, hS9⟩⟩
      case hm =>
        rintro w5 ⟨hb5, k5⟩
        have KP := Lib.hid (And.intro hb5 ((Kept.of S4.out.b).trans k5))
        obtain ⟨y0, y1, y2, y3⟩ := PlanW.cells4 ((k5.block q (by have := HKL.out; have := QW.out; omega) (lt_of_heap (S4.out.at 0 rfl))).trans (S4.out.at 0 rfl))
        clear hb5 k5 z0 z1 z2 z3 z4
        go_wp2
        go_ret2
        exact ⟨rfl, KP.out⟩
set_option maxHeartbeats 4000000 in
set_option maxRecDepth 100000 in
theorem rr4_any (c : Cfg) (D E L : Option Addr) (nd cd ne ce nl cl : Nat) (B : Option Addr) (cb : Nat) (x1 x2 x3 x4 x5 x6 x7 : Int) (g : Nat) (t fr : Int) (d : Dt) (ok : DOk d) (W : World) (h : W.heap[g]? = some (rbx c D E L nd cd ne ce nl cl B nl cb x1 x2 x3 x4 x5 x6 x7)) (m : CM W c D E L nd cd ne ce nl cl) (e : R4) (h2 : lnkAt c d.l = some e) (h3 : e.a = fr) (h4 : d.s ≤ e.d) (k : Nat) (s : Bk) (ks : List Nat) (hp : PR W B ks) (hks : ks[d.l.toNat]? = some k) (hk1 : W.heap[k]? = some (bb e.c c.delay s)) (hkg : k ≠ g) (hpk : ∀ a, B = some a → a.block ≠ k) (hr : BucketW.rgt e.c c.delay = true) (F : fit e.c c.delay s) (hs : s.n + s.r < 4611686018427387904) (h5 : pas c.delay s t = true) :
    Calls Try.prog 60 #[.pointer (some ⟨g, 0, none⟩), .int .i64 t, .int .i64 fr, .agg #[.int .i64 d.c, .int .i64 d.l, .int .i64 d.n, .string d.p, .int .i64 d.s]] W fun r W' => r = .returned (.tuple #[.int .u32 (e.b : Int), .int .i64 0]) ∧ W'.heap[k]? = some (bb e.c c.delay (tk e.c c.delay s t)) ∧ Kept k W W' := by
  have S1 := Lib.hid (((Stay.start W).add h).alloc (dbx d))
  have HM := Lib.hid m
  have HN := Lib.hid (Nat.ne_of_lt (lt_of_heap h))
  obtain ⟨n, hn, hk, hlt⟩ := lnk_at h2 ok.l.1
  rw [← m.nL] at hlt
  have hnE : nl ≤ 9223372036854775807 := by have := m.mL; unfold maxLen at this; omega
  obtain ⟨dc, dl, dn, dp, ds⟩ := d
  obtain rfl : dl = (n : Int) := hn
  have g0 : (n : Int) < (nl : Int) := by omega
  have g1 : decide ((nl : Int) ≤ (n : Int)) = false := decide_eq_false (by omega)
  have g4 : decide (nl ≤ n) = false := decide_eq_false (by omega)
  obtain ⟨b, off, rfl, l0, l1, l2, l3⟩ := ml_at m.hl hk
  have E0 := Lib.hid l0
  have E1 := Lib.hid l1
  have E2 := Lib.hid l2
  have E3 := Lib.hid l3
  rw [Int.toNat_natCast] at hks
  obtain ⟨p, rfl, pc⟩ := hp n k hks
  have PC := Lib.hid pc
  have HT := Lib.hid (fun (w : World) (hw : w.heap[k]? = some (bb e.c c.delay s)) => take_bk t hr F hw hs)
  rw [h5] at HT
  have HK := Lib.hid hk1
  have HKL := Lib.hid (lt_of_heap hk1)
  have HKG := Lib.hid hkg
  have HPK := Lib.hid (show p ≠ k from hpk _ rfl)
  clear h ok m h2 l0 l1 l2 l3 hp hks pc hr F hs h5 hk1 hkg hpk
  have g2 : (e.a != fr) = false := by rw [bne_eq_false_iff_eq]; exact h3
  have g3 : decide (e.d < ds) = false := decide_eq_false (by show ¬ (e.d < ds); exact Int.not_lt.2 h4)
  have g5 : ¬ ds > e.d := Int.not_lt.2 h4
  clear h3 h4
  go_enter Try.func60, Try.ntmps60
  go_wp2
  generalize W.alloc (dbx ⟨dc, (n : Int), dn, dp, ds⟩) = w2 at *
  apply wp_one
  case h =>
    refine wp_region_noPanic ?_
    refine wp_region_held_drew (S := fun Z : World => Stay W [(W.heap.size, dbx ⟨dc, (n : Int), dn, dp, ds⟩), (g, rbx c D E (some ⟨b, off, none⟩) nd cd ne ce nl cl (some ⟨p, 0, none⟩) nl cb x1 x2 x3 x4 x5 x6 x7)] Z) (by kernel_rfl) (S1.out.drew) (fun hHeld => ?_)
    refine takeR 0 (some 11) ?_ ?_ ?_; rotate_left; (focus (intros; go_simp; (try with_reducible rfl)))
    simp only [aput, lset]
    refine takeR 1 (some 12) ?_ ?_ ?_; rotate_left; (focus (intro w hSw; (try dsimp only at hSw); obtain ⟨z0, z1, z2, z3, z4⟩ := cells5 (Stay.at hSw 0 rfl); have a7 := cell_of_row _ g 7 _ _ _ (Stay.at hSw 1 rfl); go_simp; (try with_reducible rfl)))
    simp only [aput, lset]
    refine takeR 2 (some 13) ?_ ?_ ?_; rotate_left; (focus (intros; go_simp; (try with_reducible rfl)))
    simp only [aput, lset]
    refine takeR 3 (some 14) ?_ ?_ ?_; rotate_left; (focus (intros; go_simp; (try with_reducible rfl)))
    simp only [aput, lset]
    refine takeR 4 (some 15) ?_ ?_ ?_; rotate_left; (focus (intros; go_simp; (try with_reducible rfl)))
    simp only [aput, lset]
    refine takeR 5 (some 16) ?_ ?_ ?_; rotate_left; (focus (intros; go_simp; (try with_reducible rfl)))
    simp only [aput, lset]
    refine takeR 6 (some 17) ?_ ?_ ?_; rotate_left; (focus (intro w hSw; (try dsimp only at hSw); obtain ⟨z0, z1, z2, z3, z4⟩ := cells5 (Stay.at hSw 0 rfl); have a7 := cell_of_row _ g 7 _ _ _ (Stay.at hSw 1 rfl); go_simp; (try with_reducible rfl)))
    simp only [aput, lset]
    refine takeR 7 (some 18) ?_ ?_ ?_; rotate_left; (focus (intros; go_simp; (try with_reducible rfl)))
    simp only [aput, lset]
    refine takeR 8 (some 19) ?_ ?_ ?_; rotate_left; (focus (intros; go_simp; (try with_reducible rfl)))
    simp only [aput, lset]
    refine wpAnyH_done (by kernel_rfl) ?_ _
    exact NoPanic.normal ⟨rfl, rfl, rfl⟩
  case hm =>
    have S3 := Lib.hid S1.out.drew
    have GW := HN
    clear S1
    generalize w2.drew = w3 at *
    go_wp2
    apply wp_some (S := fun Z : World => Stay W [(w3.heap.size, ebx e 52), (W.heap.size, dbx ⟨dc, (n : Int), dn, dp, ds⟩), (g, rbx c D E (some ⟨b, off, none⟩) nd cd ne ce nl cl (some ⟨p, 0, none⟩) nl cb x1 x2 x3 x4 x5 x6 x7)] Z)
    case h =>
      refine wp_region_noPanic ?_
      refine wp_region_held_drew (S := fun Z : World => Stay W [(W.heap.size, dbx ⟨dc, (n : Int), dn, dp, ds⟩), (g, rbx c D E (some ⟨b, off, none⟩) nd cd ne ce nl cl (some ⟨p, 0, none⟩) nl cb x1 x2 x3 x4 x5 x6 x7)] Z) (by kernel_rfl) (S3.out.drew) (fun hHeld => ?_)
      refine takeR 0 (some 20) ?_ ?_ ?_; rotate_left; (focus (intros; go_simp; (try with_reducible rfl)))
      simp only [aput, lset]
      refine takeR 1 (some 21) ?_ ?_ ?_; rotate_left; (focus (intros; go_simp; (try with_reducible rfl)))
      simp only [aput, lset]
      refine takeR 2 (some 22) ?_ ?_ ?_; rotate_left; (focus (intros; go_simp; (try with_reducible rfl)))
      simp only [aput, lset]
      refine takeR 3 (some 23) ?_ ?_ ?_; rotate_left; (focus (intros; go_simp; (try with_reducible rfl)))
      simp only [aput, lset]
      refine takeR 4 (some 24) ?_ ?_ ?_; rotate_left; (focus (intro w hSw; (try dsimp only at hSw); obtain ⟨z0, z1, z2, z3, z4⟩ := cells5 (Stay.at hSw 0 rfl); have a7 := cell_of_row _ g 7 _ _ _ (Stay.at hSw 1 rfl); have l0 := cell_keep E0.out hSw.b; have l1 := cell_keep E1.out hSw.b; have l2 := cell_keep E2.out hSw.b; have l3 := cell_keep E3.out hSw.b; go_simp; (try with_reducible rfl)))
      simp only [aput, lset]
      refine takeR 5 (some 25) ?_ ?_ ?_; rotate_left; (focus (intros; go_simp; (try with_reducible rfl)))
      simp only [aput, lset]
      refine takeR 6 (some 26) ?_ ?_ ?_; rotate_left; (focus (intro w hSw; (try dsimp only at hSw); obtain ⟨z0, z1, z2, z3, z4⟩ := cells5 (Stay.at hSw 0 rfl); have a7 := cell_of_row _ g 7 _ _ _ (Stay.at hSw 1 rfl); have l0 := cell_keep E0.out hSw.b; have l1 := cell_keep E1.out hSw.b; have l2 := cell_keep E2.out hSw.b; have l3 := cell_keep E3.out hSw.b; go_simp; (try with_reducible rfl)))
      simp only [aput, lset]
      refine takeR 7 (some 27) ?_ ?_ ?_; rotate_left; (focus (intros; go_simp; (try with_reducible rfl)))
      simp only [aput, lset]
      refine takeR 8 (some 28) ?_ ?_ ?_; rotate_left; (focus (intro w hSw; (try dsimp only at hSw); obtain ⟨z0, z1, z2, z3, z4⟩ := cells5 (Stay.at hSw 0 rfl); have a7 := cell_of_row _ g 7 _ _ _ (Stay.at hSw 1 rfl); have l0 := cell_keep E0.out hSw.b; have l1 := cell_keep E1.out hSw.b; have l2 := cell_keep E2.out hSw.b; have l3 := cell_keep E3.out hSw.b; go_simp; (try with_reducible rfl)))
      simp only [aput, lset]
      refine wpAnyH_ready (rs := [9]) (by kernel_rfl) (by simp) ?_
      refine AllReadyH.cons (o := ⟨some 10, _, _, _, _, _⟩) rfl (fun K hK => ?_) AllReadyH.nil
      rw [if_pos (by kernel_rfl)]
      go_simp
      have hS9 := Stay.next hHeld (al (Below.refl _ _) (zbx 52))
      have B9 : (World.alloc w3.drew (zbx 52)).heap[w3.heap.size]? = some (zbx 52) := heap_alloc_new w3.drew (zbx 52)
      go_simp
      refine hK.out _ _ (by assumption) (fun hHeld => ?_)
      clear hK K
      refine wpAnyH_ready (rs := [10]) (by kernel_rfl) (by simp) ?_
      refine AllReadyH.cons (o := ⟨none, _, _, _, _, _⟩) rfl (fun K hK => ?_) AllReadyH.nil
      rw [if_pos (by kernel_rfl)]
      go_simp
      have HB := Lib.hid ((S3.out.alloc (ebx e 52)).drew)
      have hS10 := (S3.out.next (al (Below.refl _ _) (ebx e 52))).drew
      go_simp
      refine hK.out _ _ (by assumption) (fun hHeld => ?_)
      clear hK K
      refine wpAnyH_done (by kernel_rfl) ?_ _
      exact NoPanic.normal ⟨rfl, rfl, HB.out⟩
    case hm =>
      rintro w4 S4
      have S4 := Lib.hid S4
      have QW := Lib.hid (lt_of_heap (S3.out.at 0 rfl))
      generalize w3.heap.size = q at *
      obtain ⟨y0, y1, y2, y3⟩ := PlanW.cells4 (S4.out.at 0 rfl)
      obtain ⟨z0, z1, z2, z3, z4⟩ := cells5 (S4.out.at 1 rfl)
      have HK4 := Lib.hid (at_drew (row_below S4.out.b HK.out))
      have PC4 := Lib.hid (cell_keep PC.out S4.out.b)
      go_wp2
      apply wp_some (S := fun Z : World => Z.heap[k]? = some (bb e.c c.delay (tk e.c c.delay s t)) ∧ Kept k w4 Z)
      case h =>
        refine wp_region_noPanic ?_
        refine wp_region_held_drew (S := fun Z : World => Kept k w4 Z) (by kernel_rfl) (Kept.of (Below.refl _ _).drew) (fun hHeld => ?_)
        refine takeR 0 (some 40) ?_ ?_ ?_; rotate_left; (focus (intros; go_simp; (try with_reducible rfl)))
        simp only [aput, lset]
        refine takeR 1 (some 41) ?_ ?_ ?_; rotate_left; (focus (intros; go_simp; (try with_reducible rfl)))
        simp only [aput, lset]
        refine takeR 2 (some 42) ?_ ?_ ?_; rotate_left; (focus (intros; go_simp; (try with_reducible rfl)))
        simp only [aput, lset]
        refine takeR 3 (some 43) ?_ ?_ ?_; rotate_left; (focus (intro w hSw; (try dsimp only at hSw); obtain ⟨z0, z1, z2, z3, z4⟩ := cells5 ((hSw.block W.heap.size (Nat.ne_of_gt HKL.out) (lt_of_heap (S4.out.at 1 rfl))).trans (S4.out.at 1 rfl)); have a9 := cell_of_row _ g 9 _ _ _ ((hSw.block g (fun e => HKG.out e.symm) (lt_of_heap (S4.out.at 2 rfl))).trans (S4.out.at 2 rfl)); have pc := (World.cell?_of_block (hSw.block p HPK.out (Lib.lt_of_cell PC4.out))).trans PC4.out; go_simp; (try with_reducible rfl)))
        simp only [aput, lset]
        refine takeR 4 (some 44) ?_ ?_ ?_; rotate_left; (focus (intros; go_simp; (try with_reducible rfl)))
        simp only [aput, lset]
        refine takeR 5 (some 45) ?_ ?_ ?_; rotate_left; (focus (intro w hSw; (try dsimp only at hSw); obtain ⟨z0, z1, z2, z3, z4⟩ := cells5 ((hSw.block W.heap.size (Nat.ne_of_gt HKL.out) (lt_of_heap (S4.out.at 1 rfl))).trans (S4.out.at 1 rfl)); have a9 := cell_of_row _ g 9 _ _ _ ((hSw.block g (fun e => HKG.out e.symm) (lt_of_heap (S4.out.at 2 rfl))).trans (S4.out.at 2 rfl)); have pc := (World.cell?_of_block (hSw.block p HPK.out (Lib.lt_of_cell PC4.out))).trans PC4.out; go_simp; (try with_reducible rfl)))
        simp only [aput, lset]
        refine takeR 6 (some 46) ?_ ?_ ?_; rotate_left; (focus (intros; go_simp; (try with_reducible rfl)))
        simp only [aput, lset]
        refine takeR 7 (some 47) ?_ ?_ ?_; rotate_left; (focus (intro w hSw; (try dsimp only at hSw); obtain ⟨z0, z1, z2, z3, z4⟩ := cells5 ((hSw.block W.heap.size (Nat.ne_of_gt HKL.out) (lt_of_heap (S4.out.at 1 rfl))).trans (S4.out.at 1 rfl)); have a9 := cell_of_row _ g 9 _ _ _ ((hSw.block g (fun e => HKG.out e.symm) (lt_of_heap (S4.out.at 2 rfl))).trans (S4.out.at 2 rfl)); have pc := (World.cell?_of_block (hSw.block p HPK.out (Lib.lt_of_cell PC4.out))).trans PC4.out; go_simp; (try with_reducible rfl)))
        simp only [aput, lset]
        refine takeR 8 (some 48) ?_ ?_ ?_; rotate_left; (focus (intros; go_simp; (try with_reducible rfl)))
        simp only [aput, lset]
        refine wpAnyH_ready (rs := [9]) (by kernel_rfl) (by simp) ?_
        refine AllReadyH.cons (o := ⟨some 49, _, _, _, _, _⟩) rfl (fun K hK => ?_) AllReadyH.nil
        rw [if_pos (by kernel_rfl)]
        go_simp
        refine (HT.out _ HK4.out).mono ?_
        rintro r w9 ⟨rfl, hb9, k9⟩
        have hS9 : Kept k w4 w9 := (Kept.of (Below.refl _ _).drew).trans k9
        have hB9 := hb9
        go_simp
        refine hK.out _ _ (by assumption) (fun hHeld => ?_)
        clear hK K
        refine takeR 10 (some 50) ?_ ?_ ?_; rotate_left; (focus (intros; go_simp; (try with_reducible rfl)))
        simp only [aput, lset]
        refine wpAnyH_done (by kernel_rfl) ?_ _
        exact NoPanic.normal ⟨rfl, rfl, ⟨hB9, hS9⟩⟩
      case hm =>
        rintro w5 ⟨hb5, k5⟩
        have KP := Lib.hid (And.intro hb5 ((Kept.of S4.out.b).trans k5))
        obtain ⟨y0, y1, y2, y3⟩ := PlanW.cells4 ((k5.block q (by have := HKL.out; have := QW.out; omega) (lt_of_heap (S4.out.at 0 rfl))).trans (S4.out.at 0 rfl))
        clear hb5 k5 z0 z1 z2 z3 z4
        go_wp2
        go_ret2
        exact ⟨rfl, KP.out⟩
end Go.Proofs.Ytecgpibidcifpaa.RelayW

/- The landed relay: what becomes of any frame, not yet counted. -/
namespace Go.Proofs.Ytecgpibidcifpaa.RelayW
open Go.RowKit Shell
open ConfW (Cfg R4 CM ML chk)
open BucketW (Bk pas tk b0 fit bb)
open FrameW (BL rdE rdV)
/-- Nothing has turned but, perhaps, one block. -/
def KB (o : Option (Nat × Obj)) (w w' : World) : Prop :=
  match o with
  | none => Below w.heap.size w w'
  | some (k, ob) => Kept k w w' ∧ w'.heap[k]? = some ob
/-- Where that block lies. -/
def KL (o : Option (Nat × Obj)) (W : World) : Prop := ∀ k ob, o = some (k, ob) → k < W.heap.size
section
variable {o : Option (Nat × Obj)} {W w w' : World}
theorem KB.block (h : KB o w w') (hl : KL o W) {j : Nat} {ob : Obj} (hj : w.heap[j]? = some ob) (hw : W.heap.size ≤ j) : w'.heap[j]? = some ob := by
  cases o with
  | none => exact row_below h hj
  | some x => exact (h.1.block j (fun e => by have := hl x.1 x.2 rfl; omega) (lt_of_heap hj)).trans hj
theorem KB.pre (b : Below W.heap.size W w) (h : KB o w w') : KB o W w' := by
  cases o with
  | none => exact Below.trans b (Below.mono h b.size)
  | some x => exact ⟨(Kept.of b).trans h.1, h.2⟩
theorem KB.set {a : Addr} {v : Value} (h : KB o W w) (hl : KL o W) (ha : W.heap.size ≤ a.block) : KB o W (w.setCell a v) := by
  cases o with
  | none => exact Below.setCell h ha v
  | some x =>
    have hx := hl x.1 x.2 rfl
    exact ⟨⟨h.1.os, h.1.tape, h.1.output, by simp only [World.size_setCell]; exact h.1.size, fun j hj hs => by rw [heap_setCell_other _ _ _ _ (by omega)]; exact h.1.block j hj hs⟩, by rw [heap_setCell_other _ _ _ _ (by omega)]; exact h.2⟩
end
theorem results_w {fn : Func} {p : Tmp} (h : fn.results = #[.cell p 44]) (tmps : Array Value) (w : World) (g : Nat) (t : TypeId) (x0 x1 x2 x3 x4 x5 x6 x7 : Value) (fr : Nat × Nat)
    (hp : tmps.getD p undef = .pointer (some ⟨g, 0, none⟩)) (hg : w.heap[g]? = some (.cells #[x0, x1, x2, x3, x4, x5, x6, x7] t fr)) :
    (results fn tmps).run Try.prog w = .ok (.agg #[x0, x1, x2, x3, x4, x5, x6, x7]) w := by
  have hp' : tmps[p]?.getD undef = .pointer (some ⟨g, 0, none⟩) := by simpa using hp
  simp [results, h, hp', asAddr, run_loadVar_row w g t 44 #[x0, x1, x2, x3, x4, x5, x6, x7] fr _ hg Try.underlying44 rfl (by kernel_rfl)]
theorem ret_w {fn : Func} {R : Ending → World → Prop} {p : Tmp} (h : fn.results = #[.cell p 44]) {tmps : Array Value} {w : World} {g : Nat} {x0 x1 x2 x3 x4 x5 x6 x7 : Value} {t : TypeId} {fr : Nat × Nat}
    (hp : tmps.getD p undef = .pointer (some ⟨g, 0, none⟩)) (hg : w.heap[g]? = some (.cells #[x0, x1, x2, x3, x4, x5, x6, x7] t fr)) (hR : R (.returned (.agg #[x0, x1, x2, x3, x4, x5, x6, x7])) w) :
    bodyPost Try.prog fn R .ret { tmps := tmps, defers := [] } w :=
  bodyPost_ret (results_w h tmps w g t x0 x1 x2 x3 x4 x5 x6 x7 fr hp hg) rfl hR
theorem KB.set8 {o : Option (Nat × Obj)} {W w : World} {k : Nat} {x0 x1 x2 x3 x4 x5 x6 x7 : Value} (h : KB o W w) (hl : KL o W) (hk : W.heap.size ≤ k) : KB o W (RelayW.set8 w k x0 x1 x2 x3 x4 x5 x6 x7) :=
  (((((((h.set hl hk).set hl hk).set hl hk).set hl hk).set hl hk).set hl hk).set hl hk).set hl hk
/-- Three cells of the verdict's box written. -/
theorem vd3 {w : World} {q : Nat} {d : Dt} (h : w.heap[q]? = some (vby v0 d)) (v : Vd) : (((w.setCell ⟨q, 6, none⟩ (.int .u32 (v.u : Int))).setCell ⟨q, 7, none⟩ (.int .i64 v.a)).setCell ⟨q, 0, none⟩ (.int .i64 v.w)).heap[q]? = some (vby v d) := by
  have h1 := heap_setCell_same w q 6 _ _ (.int .u32 (v.u : Int)) h
  have h2 := heap_setCell_same _ q 7 _ _ (.int .i64 v.a) h1
  exact heap_setCell_same _ q 0 _ _ (.int .i64 v.w) h2
theorem vd2 {w : World} {q : Nat} {d : Dt} (h : w.heap[q]? = some (vby v0 d)) (v : Vd) (hv : v.a = 0) : ((w.setCell ⟨q, 6, none⟩ (.int .u32 (v.u : Int))).setCell ⟨q, 0, none⟩ (.int .i64 v.w)).heap[q]? = some (vby v d) := by
  have h1 := heap_setCell_same w q 6 _ _ (.int .u32 (v.u : Int)) h
  have h2 := heap_setCell_same _ q 0 _ _ (.int .i64 v.w) h1
  obtain ⟨vw, vu, va⟩ := v
  obtain rfl : va = 0 := hv
  exact h2
set_option maxHeartbeats 4000000 in
set_option maxRecDepth 100000 in
theorem vd_bad (g : Nat) (t lo fr : Int) (A : Option Addr) (l : List Int) (cp : Nat) (W : World) (hb : BL W A l) (hl : l.length ≤ 9223372036854775807) (hc : l.length ≤ cp) (he : rdE l ≠ 0) :
    Calls Try.prog 27 #[.pointer (some ⟨g, 0, none⟩), .int .i64 t, .int .i64 lo, .int .i64 fr, .slice A l.length cp] W fun r W' => r = .returned (vv d0 ⟨1, 0, 0⟩) ∧ Below W.heap.size W W' := by
  have S1 := Lib.hid ((Stay.start W).alloc (vby v0 d0))
  have HR := Lib.hid (FrameW.readData_any A cp l _ (hb.below S1.out.b) hl hc)
  rw [rdV_dt] at HR
  have hz : dt l = d0 := by unfold dt; rw [if_neg he]; rfl
  rw [hz] at HR
  have q1 : (rdE l != 0) = true := by rw [bne_iff_ne]; exact he
  clear hb hl hc hz
  generalize rdE l = e at *
  go_enter Try.func27, Try.ntmps27
  go_wp2_with fail
  refine HR.out.mono ?_
  rintro r w1 ⟨rfl, b1⟩
  have S2 := Lib.hid ((S1.out.next b1).alloc (dbx d0))
  clear b1 S1 HR
  obtain ⟨y0, y1, y2, y3, y4, y5, y6, y7⟩ := cells8 (S2.out.at 1 rfl)
  obtain ⟨f0, f1, f2, f3, f4, f5, f6, f7⟩ := frozen8 (S2.out.at 1 rfl)
  go_wp2
  exact ret_w rfl rfl (put8 (S2.out.at 1 rfl) _ _ _ _ _ _ _ _) ⟨rfl, S2.out.b.trans ((kept8 _ _ _ _ _ _ _ _ _ _).below (Nat.le_refl _) S2.out.b.size)⟩
set_option maxHeartbeats 4000000 in
set_option maxRecDepth 100000 in
theorem vd_t (g : Nat) (t lo fr : Int) (A : Option Addr) (l : List Int) (cp : Nat) (W : World) (hb : BL W A l) (hl : l.length ≤ 9223372036854775807) (hc : l.length ≤ cp) (d : Dt) (hd : dt l = d) (he : rdE l = 0) (h1 : d.c = 1) (v : Vd) (o : Option (Nat × Obj)) (ho : KL o W)
    (HT : ∀ w : World, Below W.heap.size W w → Calls Try.prog 59 #[.pointer (some ⟨g, 0, none⟩), .int .i64 lo, .int .i64 fr, .agg #[.int .i64 d.c, .int .i64 d.l, .int .i64 d.n, .string d.p, .int .i64 d.s]] w fun r w' => r = .returned (.tuple #[.int .u32 (v.u : Int), .int .i64 v.a, .int .i64 v.w]) ∧ KB o w w') :
    Calls Try.prog 27 #[.pointer (some ⟨g, 0, none⟩), .int .i64 t, .int .i64 lo, .int .i64 fr, .slice A l.length cp] W fun r W' => r = .returned (vv d v) ∧ KB o W W' := by
  have S1 := Lib.hid ((Stay.start W).alloc (vby v0 d0))
  have HR := Lib.hid (FrameW.readData_any A cp l _ (hb.below S1.out.b) hl hc)
  rw [rdV_dt, he, hd] at HR
  obtain ⟨dc, dl, dn, dp, ds⟩ := d
  obtain rfl : dc = 1 := h1
  have HTT := Lib.hid HT
  have HL := Lib.hid ho
  clear hb hl hc hd he HT ho
  go_enter Try.func27, Try.ntmps27
  go_wp2_with fail
  refine HR.out.mono ?_
  rintro r w1 ⟨rfl, b1⟩
  have S2 := Lib.hid ((S1.out.next b1).alloc (dbx ⟨1, dl, dn, dp, ds⟩))
  have S3 := Lib.hid (S2.out.alloc (vby v0 ⟨1, dl, dn, dp, ds⟩))
  have HG := Lib.hid (show W.heap.size ≤ (w1.alloc (dbx ⟨1, dl, dn, dp, ds⟩)).heap.size ∧ W.heap.size ≠ (w1.alloc (dbx ⟨1, dl, dn, dp, ds⟩)).heap.size from ⟨S2.out.b.size, Nat.ne_of_lt (lt_of_heap (S2.out.at 1 rfl))⟩)
  clear b1 S1 HR
  obtain ⟨z0, z1, z2, z3, z4⟩ := cells5 (S2.out.at 0 rfl)
  obtain ⟨y0, y1, y2, y3, y4⟩ := cells5 (S3.out.at 1 rfl)
  go_wp2_with fail
  refine (HTT.out _ S3.out.b).mono ?_
  rintro r w4 ⟨rfl, k4⟩
  have HQ := Lib.hid (k4.block HL.out (S3.out.at 0 rfl) HG.out.1)
  have HP := Lib.hid (k4.block HL.out (S3.out.at 2 rfl) (Nat.le_refl _))
  have K4 := Lib.hid (KB.pre S3.out.b k4)
  clear k4 S3 S2 z0 z1 z2 z3 z4 y0 y1 y2 y3 y4
  try rw [World.size_alloc] at HG HQ
  generalize hq : w1.heap.size + 1 = q at *
  obtain ⟨y0, y1, y2, y3, y4, y5, y6, y7⟩ := cells8 HQ.out
  obtain ⟨f0, f1, f2, f3, f4, f5, f6, f7⟩ := frozen8 HQ.out
  have UQ := Lib.hid (vd3 HQ.out v)
  have UP := Lib.hid (show (((w4.setCell ⟨q, 6, none⟩ (.int .u32 (v.u : Int))).setCell ⟨q, 7, none⟩ (.int .i64 v.a)).setCell ⟨q, 0, none⟩ (.int .i64 v.w)).heap[W.heap.size]? = some (vby v0 d0) by
    repeat rw [heap_setCell_other _ _ _ _ HG.out.2]
    exact HP.out)
  have UK := Lib.hid (show KB o W (((w4.setCell ⟨q, 6, none⟩ (.int .u32 (v.u : Int))).setCell ⟨q, 7, none⟩ (.int .i64 v.a)).setCell ⟨q, 0, none⟩ (.int .i64 v.w)) from (KB.set (KB.set (KB.set K4.out HL.out HG.out.1) HL.out HG.out.1) HL.out HG.out.1))
  obtain ⟨u0, u1, u2, u3, u4, u5, u6, u7⟩ := cells8 UQ.out
  obtain ⟨s0, s1, s2, s3, s4, s5, s6, s7⟩ := cells8 UP.out
  obtain ⟨e0, e1, e2, e3, e4, e5, e6, e7⟩ := frozen8 UP.out
  clear HQ HP K4
  go_wp2
  exact ret_w rfl rfl (put8 UP.out _ _ _ _ _ _ _ _) ⟨rfl, KB.set8 UK.out HL.out (Nat.le_refl _)⟩
set_option maxHeartbeats 4000000 in
set_option maxRecDepth 100000 in
theorem vd_r (g : Nat) (t lo fr : Int) (A : Option Addr) (l : List Int) (cp : Nat) (W : World) (hb : BL W A l) (hl : l.length ≤ 9223372036854775807) (hc : l.length ≤ cp) (d : Dt) (hd : dt l = d) (he : rdE l = 0) (h1 : d.c = 2) (v : Vd) (va : v.a = 0) (o : Option (Nat × Obj)) (ho : KL o W)
    (HT : ∀ w : World, Below W.heap.size W w → Calls Try.prog 60 #[.pointer (some ⟨g, 0, none⟩), .int .i64 t, .int .i64 fr, .agg #[.int .i64 d.c, .int .i64 d.l, .int .i64 d.n, .string d.p, .int .i64 d.s]] w fun r w' => r = .returned (.tuple #[.int .u32 (v.u : Int), .int .i64 v.w]) ∧ KB o w w') :
    Calls Try.prog 27 #[.pointer (some ⟨g, 0, none⟩), .int .i64 t, .int .i64 lo, .int .i64 fr, .slice A l.length cp] W fun r W' => r = .returned (vv d v) ∧ KB o W W' := by
  have S1 := Lib.hid ((Stay.start W).alloc (vby v0 d0))
  have HR := Lib.hid (FrameW.readData_any A cp l _ (hb.below S1.out.b) hl hc)
  rw [rdV_dt, he, hd] at HR
  obtain ⟨dc, dl, dn, dp, ds⟩ := d
  obtain rfl : dc = 2 := h1
  have HTT := Lib.hid HT
  have HL := Lib.hid ho
  clear hb hl hc hd he HT ho
  go_enter Try.func27, Try.ntmps27
  go_wp2_with fail
  refine HR.out.mono ?_
  rintro r w1 ⟨rfl, b1⟩
  have S2 := Lib.hid ((S1.out.next b1).alloc (dbx ⟨2, dl, dn, dp, ds⟩))
  have S3 := Lib.hid (S2.out.alloc (vby v0 ⟨2, dl, dn, dp, ds⟩))
  have HG := Lib.hid (show W.heap.size ≤ (w1.alloc (dbx ⟨2, dl, dn, dp, ds⟩)).heap.size ∧ W.heap.size ≠ (w1.alloc (dbx ⟨2, dl, dn, dp, ds⟩)).heap.size from ⟨S2.out.b.size, Nat.ne_of_lt (lt_of_heap (S2.out.at 1 rfl))⟩)
  clear b1 S1 HR
  obtain ⟨z0, z1, z2, z3, z4⟩ := cells5 (S2.out.at 0 rfl)
  obtain ⟨y0, y1, y2, y3, y4⟩ := cells5 (S3.out.at 1 rfl)
  go_wp2_with fail
  refine (HTT.out _ S3.out.b).mono ?_
  rintro r w4 ⟨rfl, k4⟩
  have HQ := Lib.hid (k4.block HL.out (S3.out.at 0 rfl) HG.out.1)
  have HP := Lib.hid (k4.block HL.out (S3.out.at 2 rfl) (Nat.le_refl _))
  have K4 := Lib.hid (KB.pre S3.out.b k4)
  clear k4 S3 S2 z0 z1 z2 z3 z4 y0 y1 y2 y3 y4
  try rw [World.size_alloc] at HG HQ
  generalize hq : w1.heap.size + 1 = q at *
  obtain ⟨y0, y1, y2, y3, y4, y5, y6, y7⟩ := cells8 HQ.out
  obtain ⟨f0, f1, f2, f3, f4, f5, f6, f7⟩ := frozen8 HQ.out
  have UQ := Lib.hid (vd2 HQ.out v va)
  have UP := Lib.hid (show ((w4.setCell ⟨q, 6, none⟩ (.int .u32 (v.u : Int))).setCell ⟨q, 0, none⟩ (.int .i64 v.w)).heap[W.heap.size]? = some (vby v0 d0) by
    repeat rw [heap_setCell_other _ _ _ _ HG.out.2]
    exact HP.out)
  have UK := Lib.hid (show KB o W ((w4.setCell ⟨q, 6, none⟩ (.int .u32 (v.u : Int))).setCell ⟨q, 0, none⟩ (.int .i64 v.w)) from (KB.set (KB.set K4.out HL.out HG.out.1) HL.out HG.out.1))
  obtain ⟨u0, u1, u2, u3, u4, u5, u6, u7⟩ := cells8 UQ.out
  obtain ⟨s0, s1, s2, s3, s4, s5, s6, s7⟩ := cells8 UP.out
  obtain ⟨e0, e1, e2, e3, e4, e5, e6, e7⟩ := frozen8 UP.out
  clear HQ HP K4
  go_wp2
  exact ret_w rfl rfl (put8 UP.out _ _ _ _ _ _ _ _) ⟨(by simp only [vv, va]), KB.set8 UK.out HL.out (Nat.le_refl _)⟩
set_option maxHeartbeats 4000000 in
set_option maxRecDepth 100000 in
theorem vd_e (g : Nat) (t lo fr : Int) (A : Option Addr) (l : List Int) (cp : Nat) (W : World) (hb : BL W A l) (hl : l.length ≤ 9223372036854775807) (hc : l.length ≤ cp) (d : Dt) (hd : dt l = d) (he : rdE l = 0) (h1 : d.c = 3) (v : Vd) (va : v.a = 0) (o : Option (Nat × Obj)) (ho : KL o W)
    (HT : ∀ w : World, Below W.heap.size W w → Calls Try.prog 61 #[.pointer (some ⟨g, 0, none⟩), .int .i64 fr, .agg #[.int .i64 d.c, .int .i64 d.l, .int .i64 d.n, .string d.p, .int .i64 d.s]] w fun r w' => r = .returned (.tuple #[.int .u32 (v.u : Int), .int .i64 v.w]) ∧ KB o w w') :
    Calls Try.prog 27 #[.pointer (some ⟨g, 0, none⟩), .int .i64 t, .int .i64 lo, .int .i64 fr, .slice A l.length cp] W fun r W' => r = .returned (vv d v) ∧ KB o W W' := by
  have S1 := Lib.hid ((Stay.start W).alloc (vby v0 d0))
  have HR := Lib.hid (FrameW.readData_any A cp l _ (hb.below S1.out.b) hl hc)
  rw [rdV_dt, he, hd] at HR
  obtain ⟨dc, dl, dn, dp, ds⟩ := d
  obtain rfl : dc = 3 := h1
  have HTT := Lib.hid HT
  have HL := Lib.hid ho
  clear hb hl hc hd he HT ho
  go_enter Try.func27, Try.ntmps27
  go_wp2_with fail
  refine HR.out.mono ?_
  rintro r w1 ⟨rfl, b1⟩
  have S2 := Lib.hid ((S1.out.next b1).alloc (dbx ⟨3, dl, dn, dp, ds⟩))
  have S3 := Lib.hid (S2.out.alloc (vby v0 ⟨3, dl, dn, dp, ds⟩))
  have HG := Lib.hid (show W.heap.size ≤ (w1.alloc (dbx ⟨3, dl, dn, dp, ds⟩)).heap.size ∧ W.heap.size ≠ (w1.alloc (dbx ⟨3, dl, dn, dp, ds⟩)).heap.size from ⟨S2.out.b.size, Nat.ne_of_lt (lt_of_heap (S2.out.at 1 rfl))⟩)
  clear b1 S1 HR
  obtain ⟨z0, z1, z2, z3, z4⟩ := cells5 (S2.out.at 0 rfl)
  obtain ⟨y0, y1, y2, y3, y4⟩ := cells5 (S3.out.at 1 rfl)
  go_wp2_with fail
  refine (HTT.out _ S3.out.b).mono ?_
  rintro r w4 ⟨rfl, k4⟩
  have HQ := Lib.hid (k4.block HL.out (S3.out.at 0 rfl) HG.out.1)
  have HP := Lib.hid (k4.block HL.out (S3.out.at 2 rfl) (Nat.le_refl _))
  have K4 := Lib.hid (KB.pre S3.out.b k4)
  clear k4 S3 S2 z0 z1 z2 z3 z4 y0 y1 y2 y3 y4
  try rw [World.size_alloc] at HG HQ
  generalize hq : w1.heap.size + 1 = q at *
  obtain ⟨y0, y1, y2, y3, y4, y5, y6, y7⟩ := cells8 HQ.out
  obtain ⟨f0, f1, f2, f3, f4, f5, f6, f7⟩ := frozen8 HQ.out
  have UQ := Lib.hid (vd2 HQ.out v va)
  have UP := Lib.hid (show ((w4.setCell ⟨q, 6, none⟩ (.int .u32 (v.u : Int))).setCell ⟨q, 0, none⟩ (.int .i64 v.w)).heap[W.heap.size]? = some (vby v0 d0) by
    repeat rw [heap_setCell_other _ _ _ _ HG.out.2]
    exact HP.out)
  have UK := Lib.hid (show KB o W ((w4.setCell ⟨q, 6, none⟩ (.int .u32 (v.u : Int))).setCell ⟨q, 0, none⟩ (.int .i64 v.w)) from (KB.set (KB.set K4.out HL.out HG.out.1) HL.out HG.out.1))
  obtain ⟨u0, u1, u2, u3, u4, u5, u6, u7⟩ := cells8 UQ.out
  obtain ⟨s0, s1, s2, s3, s4, s5, s6, s7⟩ := cells8 UP.out
  obtain ⟨e0, e1, e2, e3, e4, e5, e6, e7⟩ := frozen8 UP.out
  clear HQ HP K4
  go_wp2
  exact ret_w rfl rfl (put8 UP.out _ _ _ _ _ _ _ _) ⟨(by simp only [vv, va]), KB.set8 UK.out HL.out (Nat.le_refl _)⟩
end Go.Proofs.Ytecgpibidcifpaa.RelayW

/- The landed relay: what becomes of any frame, and of the relay. -/
namespace Go.Proofs.Ytecgpibidcifpaa.RelayW
open Go.RowKit Shell
open ConfW (Cfg R4 CM ML chk)
open BucketW (Bk pas tk b0 fit bb)
open FrameW (BL rdE rdV)
open PlanW (relayV)
section
variable {lo g N : Nat} {X : Nat → Prop} {c : Cfg} {bs : List Bk} {D E L : Option Addr} {nd cd ne ce nl cl : Nat} {B : Option Addr} {nb cb : Nat} {ks : List Nat} {Y : Nat → Prop} {x1 x2 x3 x4 x5 x6 x7 : Int} {W : World}
theorem timed_any (t fr : Int) (d : Dt) (ok : DOk d) (h : W.heap[g]? = some (rbx c D E L nd cd ne ce nl cl B nb cb x1 x2 x3 x4 x5 x6 x7)) (m : CM W c D E L nd cd ne ce nl cl) :
    Calls Try.prog 59 #[.pointer (some ⟨g, 0, none⟩), .int .i64 t, .int .i64 fr, .agg #[.int .i64 d.c, .int .i64 d.l, .int .i64 d.n, .string d.p, .int .i64 d.s]] W fun r W' => r = .returned (.tuple #[.int .u32 ((vT c t fr d).u : Int), .int .i64 (vT c t fr d).a, .int .i64 (vT c t fr d).w]) ∧ Below W.heap.size W W' := by
  cases h2 : entAt c d.l with
  | none =>
    have e1 : vT c t fr d = ⟨1, 0, 0⟩ := by unfold vT; rw [h2]
    rw [e1]
    exact rt0_any c D E L nd cd ne ce nl cl B nb cb x1 x2 x3 x4 x5 x6 x7 g t fr d ok W h m h2
  | some e =>
    by_cases h3 : e.a = fr
    case neg =>
      have e1 : vT c t fr d = ⟨1, 0, 0⟩ := by unfold vT; rw [h2]; dsimp only; rw [if_neg (fun hh => h3 hh.1)]
      rw [e1]
      exact rt1_any c D E L nd cd ne ce nl cl B nb cb x1 x2 x3 x4 x5 x6 x7 g t fr d ok W h m e h2 h3
    by_cases h4 : e.d = d.s
    case neg =>
      have e1 : vT c t fr d = ⟨1, 0, 0⟩ := by unfold vT; rw [h2]; dsimp only; rw [if_neg (fun hh => h4 hh.2)]
      rw [e1]
      exact rt2_any c D E L nd cd ne ce nl cl B nb cb x1 x2 x3 x4 x5 x6 x7 g t fr d ok W h m e h2 h3 h4
    obtain ⟨x, b, h5⟩ : ∃ x b, relayV c d.l t = (x, b) := ⟨_, _, rfl⟩
    cases b with
    | true =>
      have e1 : vT c t fr d = ⟨0, e.b, x⟩ := by unfold vT; rw [h2]; dsimp only; rw [if_pos ⟨h3, h4⟩, h5]; rfl
      rw [e1]
      exact rt4_any c D E L nd cd ne ce nl cl B nb cb x1 x2 x3 x4 x5 x6 x7 g t fr d ok W h m e x h2 h3 h4 h5
    | false =>
      have e1 : vT c t fr d = ⟨2, 0, 0⟩ := by unfold vT; rw [h2]; dsimp only; rw [if_pos ⟨h3, h4⟩, h5]; rfl
      rw [e1]
      exact rt3_any c D E L nd cd ne ce nl cl B nb cb x1 x2 x3 x4 x5 x6 x7 g t fr d ok W h m e x h2 h3 h4 h5
theorem asks_none {c : Cfg} {fr : Int} {d : Dt} (h : asks c fr d = none) : lnkAt c d.l = none ∨ ∃ e, lnkAt c d.l = some e ∧ (e.a ≠ fr ∨ e.a = fr ∧ e.d < d.s) := by
  unfold asks at h
  cases h2 : lnkAt c d.l with
  | none => exact Or.inl rfl
  | some e =>
    rw [h2] at h
    dsimp only at h
    refine Or.inr ⟨e, rfl, ?_⟩
    by_cases h3 : e.a = fr
    · by_cases h4 : d.s ≤ e.d
      · rw [if_pos ⟨h3, h4⟩] at h; cases h
      · exact Or.inr ⟨h3, Int.not_le.1 h4⟩
    · exact Or.inl h3
theorem rated_no (t fr : Int) (d : Dt) (ok : DOk d) (h : W.heap[g]? = some (rbx c D E L nd cd ne ce nl cl B nb cb x1 x2 x3 x4 x5 x6 x7)) (m : CM W c D E L nd cd ne ce nl cl) (ha : asks c fr d = none) :
    Calls Try.prog 60 #[.pointer (some ⟨g, 0, none⟩), .int .i64 t, .int .i64 fr, .agg #[.int .i64 d.c, .int .i64 d.l, .int .i64 d.n, .string d.p, .int .i64 d.s]] W fun r W' => r = .returned (.tuple #[.int .u32 0, .int .i64 1]) ∧ Below W.heap.size W W' := by
  rcases asks_none ha with h2 | ⟨e, h2, h3 | ⟨h3, h4⟩⟩
  · exact rr0_any c D E L nd cd ne ce nl cl B nb cb x1 x2 x3 x4 x5 x6 x7 g t fr d ok W h m h2
  · exact rr1_any c D E L nd cd ne ce nl cl B nb cb x1 x2 x3 x4 x5 x6 x7 g t fr d ok W h m e h2 h3
  · exact rr2_any c D E L nd cd ne ce nl cl B nb cb x1 x2 x3 x4 x5 x6 x7 g t fr d ok W h m e h2 h3 h4
theorem verdict_any (t lc fr : Int) (A : Option Addr) (l : List Int) (cp : Nat) (h : RM lo X g c bs N D E L nd cd ne ce nl cl B cb ks Y x1 x2 x3 x4 x5 x6 x7 W) (hN : N ≤ 17592186044000) (hb : BL W A l) (hl : l.length ≤ 9223372036854775807) (hc : l.length ≤ cp) :
    Calls Try.prog 27 #[.pointer (some ⟨g, 0, none⟩), .int .i64 t, .int .i64 lc, .int .i64 fr, .slice A l.length cp] W fun r W' => r = .returned (vv (dt l) (jd c bs t lc fr l)) ∧ RM lo X g c (jb c bs t fr l) (N + 1) D E L nd cd ne ce nl cl B cb ks Y x1 x2 x3 x4 x5 x6 x7 W' ∧ Turn X X W W' := by
  have keep : ∀ (v : Vd), jd c bs t lc fr l = v → jb c bs t fr l = bs → (Calls Try.prog 27 #[.pointer (some ⟨g, 0, none⟩), .int .i64 t, .int .i64 lc, .int .i64 fr, .slice A l.length cp] W fun r W' => r = .returned (vv (dt l) v) ∧ Below W.heap.size W W') →
      Calls Try.prog 27 #[.pointer (some ⟨g, 0, none⟩), .int .i64 t, .int .i64 lc, .int .i64 fr, .slice A l.length cp] W fun r W' => r = .returned (vv (dt l) (jd c bs t lc fr l)) ∧ RM lo X g c (jb c bs t fr l) (N + 1) D E L nd cd ne ce nl cl B cb ks Y x1 x2 x3 x4 x5 x6 x7 W' ∧ Turn X X W W' := by
    intro v e1 e2 hh
    rw [e1, e2]
    exact hh.mono fun r W' ⟨h1, h2⟩ => ⟨h1, (h.next h2).up (Nat.le_succ _), Turn.of h2⟩
  have k0 : KL none W := fun k ob e => by cases e
  by_cases he : rdE l = 0
  case neg =>
    have hd : dt l = d0 := by unfold dt; rw [if_neg he]; rfl
    refine keep ⟨1, 0, 0⟩ (by unfold jd jv; rw [if_neg he]) (by unfold jb jbv askv; rw [if_neg he]) ?_
    rw [hd]
    exact vd_bad g t lc fr A l cp W hb hl hc he
  have ok := dt_ok he
  obtain ⟨d, hd⟩ : ∃ d, dt l = d := ⟨_, rfl⟩
  have ejd : jd c bs t lc fr l = jv c bs t lc fr 0 d := by unfold jd; rw [he, hd]
  have ejb : jb c bs t fr l = jbv c bs t fr 0 d := by unfold jb; rw [he, hd]
  rw [ejd, ejb, hd] at keep ⊢
  rw [hd] at ok
  by_cases c1 : d.c = 1
  · have a0 : jbv c bs t fr 0 d = bs := by unfold jbv askv; rw [if_pos rfl, if_pos c1]
    have a1 : jv c bs t lc fr 0 d = vT c lc fr d := by unfold jv; rw [if_pos rfl, if_pos c1]
    exact keep _ a1 a0 (vd_t g t lc fr A l cp W hb hl hc d hd he c1 _ none k0 (fun w b => timed_any lc fr d ok (row_below b h.box) (h.cm.below b)))
  by_cases c3 : d.c = 3
  · have a0 : jbv c bs t fr 0 d = bs := by unfold jbv askv; rw [if_pos rfl, if_neg c1, if_pos c3]
    have a1 : jv c bs t lc fr 0 d = vE c fr d := by unfold jv; rw [if_pos rfl, if_neg c1, if_pos c3]
    have va : (vE c fr d).a = 0 := by unfold vE; split <;> rfl
    exact keep _ a1 a0 (vd_e g t lc fr A l cp W hb hl hc d hd he c3 _ va none k0 (fun w b => eff_any c D E L nd cd ne ce nl cl B nl cb x1 x2 x3 x4 x5 x6 x7 g fr d ok w (row_below b h.box)))
  have c2 : d.c = 2 := by have := ok.c; omega
  have a1 : jv c bs t lc fr 0 d = vR c bs t fr d := by unfold jv; rw [if_pos rfl, if_neg c1, if_neg c3]
  have a2 : askv c fr 0 d = asks c fr d := by unfold askv; rw [if_pos rfl, if_neg c1, if_neg c3]
  cases ha : asks c fr d with
  | none =>
    exact keep ⟨1, 0, 0⟩ (by rw [a1]; unfold vR; rw [ha]) (by unfold jbv; rw [a2, ha]) (vd_r g t lc fr A l cp W hb hl hc d hd he c2 ⟨1, 0, 0⟩ rfl none k0 (fun w b => rated_no t fr d ok (row_below b h.box) (h.cm.below b) ha))
  | some e =>
    obtain ⟨-, -, -, h2, h3, h4⟩ := asked (a2.trans ha)
    have hk : c.links[d.l.toNat]? = some e := h2
    have hin : d.l.toNat < bs.length := by rw [h.gd.len]; exact lt_of_get hk
    obtain ⟨s, hs⟩ : ∃ s, bs[d.l.toNat]? = some s := ⟨_, List.getElem?_eq_getElem hin⟩
    obtain ⟨k, hks⟩ : ∃ k, ks[d.l.toNat]? = some k := ⟨_, List.getElem?_eq_getElem (by rw [h.kl, h.cm.nL]; exact lt_of_get hk)⟩
    have eb : bkt bs d = s := bkt_at hs
    have hbk := h.bk _ k s e hks hs hk
    have hkl := lt_of_heap hbk
    obtain ⟨ky, kg, kx⟩ := h.yk _ k hks
    have hfew := h.gd.few _ s hs
    have hrg := lnk_rgt h.z (List.mem_of_getElem? hk)
    have hft := h.gd.ft _ s e hs hk
    have G := h.gd.next h.z t fr 0 d
    have e2 : jbv c bs t fr 0 d = bs.set d.l.toNat (tk e.c c.delay s t) := by unfold jbv; rw [a2, ha]; dsimp only; rw [eb]
    rw [e2] at G
    have fin : ∀ v : Vd, vR c bs t fr d = v → v.a = 0 → (∀ w : World, Below W.heap.size W w → Calls Try.prog 60 #[.pointer (some ⟨g, 0, none⟩), .int .i64 t, .int .i64 fr, .agg #[.int .i64 d.c, .int .i64 d.l, .int .i64 d.n, .string d.p, .int .i64 d.s]] w fun r w' => r = .returned (.tuple #[.int .u32 (v.u : Int), .int .i64 v.w]) ∧ KB (some (k, bb e.c c.delay (tk e.c c.delay s t))) w w') →
        Calls Try.prog 27 #[.pointer (some ⟨g, 0, none⟩), .int .i64 t, .int .i64 lc, .int .i64 fr, .slice A l.length cp] W fun r W' => r = .returned (vv d (jv c bs t lc fr 0 d)) ∧ RM lo X g c (jbv c bs t fr 0 d) (N + 1) D E L nd cd ne ce nl cl B cb ks Y x1 x2 x3 x4 x5 x6 x7 W' ∧ Turn X X W W' := by
      intro v e1 va hh
      rw [a1, e1, e2]
      refine (vd_r g t lc fr A l cp W hb hl hc d hd he c2 v va (some (k, bb e.c c.delay (tk e.c c.delay s t))) (fun k' ob e => by cases e; exact hkl) hh).mono fun r W' ⟨r1, r2⟩ => ⟨r1, ?_⟩
      exact h.took hks hs hk r2.1 r2.2 G
    have base := fun (w : World) (b : Below W.heap.size W w) => h.next b
    cases hp : pas c.delay s t with
    | true =>
      refine fin ⟨0, e.b, 0⟩ (by unfold vR; rw [ha]; dsimp only; rw [eb, hp]; rfl) rfl (fun w b => ?_)
      have q := base w b
      exact (rr4_any c D E L nd cd ne ce nl cl B cb x1 x2 x3 x4 x5 x6 x7 g t fr d ok w q.box q.cm e h2 h3 h4 k s ks q.pr hks (row_below b hbk) kg (fun a ha e => ky (e ▸ h.py a ha)) hrg hft (by omega) hp).mono fun r w' ⟨r1, r2, r3⟩ => ⟨r1, r3, r2⟩
    | false =>
      refine fin ⟨4, 0, 0⟩ (by unfold vR; rw [ha]; dsimp only; rw [eb, hp]; rfl) rfl (fun w b => ?_)
      have q := base w b
      exact (rr3_any c D E L nd cd ne ce nl cl B cb x1 x2 x3 x4 x5 x6 x7 g t fr d ok w q.box q.cm e h2 h3 h4 k s ks q.pr hks (row_below b hbk) kg (fun a ha e => ky (e ▸ h.py a ha)) hrg hft (by omega) hp).mono fun r w' ⟨r1, r2, r3⟩ => ⟨r1, r3, r2⟩
end
end Go.Proofs.Ytecgpibidcifpaa.RelayW

/- The landed relay: Judge, Dropped. -/
namespace Go.Proofs.Ytecgpibidcifpaa.RelayW
open Go.RowKit Shell
open ConfW (Cfg R4 CM ML chk)
open BucketW (Bk pas tk b0 fit bb)
open FrameW (BL rdE rdV)
section
variable {lo g N : Nat} {X : Nat → Prop} {c : Cfg} {bs : List Bk} {D E L : Option Addr} {nd cd ne ce nl cl : Nat} {B : Option Addr} {cb : Nat} {ks : List Nat} {Y : Nat → Prop} {x1 x2 x3 x4 x5 x6 x7 : Int} {W : World}
theorem RM.off (h : RM lo X g c bs N D E L nd cd ne ce nl cl B cb ks Y x1 x2 x3 x4 x5 x6 x7 W) {W0 W1 : World} {k : Nat} (t : Turn X X W0 W) (hk : W0.heap.size ≤ k) (hx : ¬ X k) (kp : Kept k W W1) : RM lo X g c bs N D E L nd cd ne ce nl cl B cb ks Y x1 x2 x3 x4 x5 x6 x7 W1 ∧ Turn X X W0 W1 :=
  ⟨h.frame kp.size (fun j hj => kp.block j (fun e => hx (e ▸ hj)) (h.bx j hj).2), t.kept kp hk⟩
set_option maxHeartbeats 4000000 in
set_option maxRecDepth 100000 in
theorem judge0 (t lc fr : Int) (A : Option Addr) (l : List Int) (cp : Nat) (h : RM lo X g c bs N D E L nd cd ne ce nl cl B cb ks Y x1 x2 x3 x4 x5 x6 x7 W) (hN : N ≤ 17592186044000) (hb : BL W A l) (hl : l.length ≤ 9223372036854775807) (hc : l.length ≤ cp) (vu : Nat) (va : Int) (hv : jd c bs t lc fr l = ⟨0, vu, va⟩) :
    Calls Try.prog 12 #[.pointer (some ⟨g, 0, none⟩), .int .i64 t, .int .i64 lc, .int .i64 fr, .slice A l.length cp] W fun r W' => r = .returned (vv (dt l) ⟨0, vu, va⟩) ∧ RM lo X g c (jb c bs t fr l) (N + 1) D E L nd cd ne ce nl cl B cb ks Y x1 x2 x3 x4 x5 x6 x7 W' ∧ Turn X X W W' := by
  have S0 := Lib.hid ((Stay.start W).alloc (vby v0 d0))
  have h0 := h.next (al (Below.refl _ _) (vby v0 d0))
  have HV := Lib.hid (verdict_any t lc fr A l cp h0 hN (hb.below S0.out.b) hl hc)
  rw [hv] at HV
  have HX := Lib.hid (show ¬ X W.heap.size from fun hx => absurd (h.bx _ hx).2 (Nat.lt_irrefl _))
  have HG := Lib.hid (show W.heap.size ≠ g from fun e => HX.out (e ▸ h.xg))
  generalize dt l = d at *
  obtain ⟨dc, dl, dn, dp, ds⟩ := d
  clear h h0 hb hl hc hN hv
  go_enter Try.func12, Try.ntmps12
  go_wp2_with fail
  refine HV.out.mono ?_
  rintro r w1 ⟨rfl, h1, u1⟩
  have H1 := Lib.hid h1
  have U1 := Lib.hid ((Turn.of (X := X) S0.out.b).trans u1)
  have P1 := Lib.hid (u1.bx (S0.out.at 0 rfl) HX.out).1
  clear h1 u1 HV S0
  have H2 := Lib.hid (H1.out.next (al (Below.refl _ _) (vby ⟨0, vu, va⟩ ⟨dc, dl, dn, dp, ds⟩)))
  have U2 := Lib.hid (U1.out.trans (Turn.of (al (Below.refl _ _) (vby ⟨0, vu, va⟩ ⟨dc, dl, dn, dp, ds⟩))))
  have P2 := Lib.hid (row_below (al (Below.refl _ _) (vby ⟨0, vu, va⟩ ⟨dc, dl, dn, dp, ds⟩)) P1.out)
  have Q2 := Lib.hid (heap_alloc_new w1 (vby ⟨0, vu, va⟩ ⟨dc, dl, dn, dp, ds⟩))
  have PQ := Lib.hid (show W.heap.size ≠ w1.heap.size ∧ w1.heap.size ≠ g from ⟨Nat.ne_of_lt (lt_of_heap P1.out), fun e => absurd (H1.out.bx _ (e ▸ H1.out.xg : X w1.heap.size)).2 (Nat.lt_irrefl _)⟩)
  clear H1 U1 P1
  have H3 := H2
  have U3 := U2
  have P3 := P2
  have Q3 := Q2
  clear H2 U2 P2 Q2
  obtain ⟨y0, y1, y2, y3, y4, y5, y6, y7⟩ := cells8 Q3.out
  obtain ⟨s0, s1, s2, s3, s4, s5, s6, s7⟩ := cells8 P3.out
  obtain ⟨e0, e1, e2, e3, e4, e5, e6, e7⟩ := frozen8 P3.out
  go_wp2
  exact ret_w rfl rfl (put8 P3.out _ _ _ _ _ _ _ _) ⟨rfl, H3.out.off U3.out (Nat.le_refl _) HX.out (kept8 _ _ _ _ _ _ _ _ _ _)⟩
set_option maxHeartbeats 4000000 in
set_option maxRecDepth 100000 in
theorem judge1 (t lc fr : Int) (A : Option Addr) (l : List Int) (cp : Nat) (h : RM lo X g c bs N D E L nd cd ne ce nl cl B cb ks Y x1 x2 x3 x4 x5 x6 x7 W) (hN : N ≤ 17592186044000) (hb : BL W A l) (hl : l.length ≤ 9223372036854775807) (hc : l.length ≤ cp) (vu : Nat) (va : Int) (hz : x1 + 1 ≤ 9223372036854775807 ∧ 0 ≤ x1) (hv : jd c bs t lc fr l = ⟨1, vu, va⟩) :
    Calls Try.prog 12 #[.pointer (some ⟨g, 0, none⟩), .int .i64 t, .int .i64 lc, .int .i64 fr, .slice A l.length cp] W fun r W' => r = .returned (vv (dt l) ⟨1, vu, va⟩) ∧ RM lo X g c (jb c bs t fr l) (N + 1) D E L nd cd ne ce nl cl B cb ks Y (x1 + 1) x2 x3 x4 x5 x6 x7 W' ∧ Turn X X W W' := by
  have S0 := Lib.hid ((Stay.start W).alloc (vby v0 d0))
  have h0 := h.next (al (Below.refl _ _) (vby v0 d0))
  have HV := Lib.hid (verdict_any t lc fr A l cp h0 hN (hb.below S0.out.b) hl hc)
  rw [hv] at HV
  have HX := Lib.hid (show ¬ X W.heap.size from fun hx => absurd (h.bx _ hx).2 (Nat.lt_irrefl _))
  have HG := Lib.hid (show W.heap.size ≠ g from fun e => HX.out (e ▸ h.xg))
  generalize dt l = d at *
  obtain ⟨dc, dl, dn, dp, ds⟩ := d
  clear h h0 hb hl hc hN hv
  go_enter Try.func12, Try.ntmps12
  go_wp2_with fail
  refine HV.out.mono ?_
  rintro r w1 ⟨rfl, h1, u1⟩
  have H1 := Lib.hid h1
  have U1 := Lib.hid ((Turn.of (X := X) S0.out.b).trans u1)
  have P1 := Lib.hid (u1.bx (S0.out.at 0 rfl) HX.out).1
  clear h1 u1 HV S0
  have H2 := Lib.hid (H1.out.next (al (Below.refl _ _) (vby ⟨1, vu, va⟩ ⟨dc, dl, dn, dp, ds⟩)))
  have U2 := Lib.hid (U1.out.trans (Turn.of (al (Below.refl _ _) (vby ⟨1, vu, va⟩ ⟨dc, dl, dn, dp, ds⟩))))
  have P2 := Lib.hid (row_below (al (Below.refl _ _) (vby ⟨1, vu, va⟩ ⟨dc, dl, dn, dp, ds⟩)) P1.out)
  have Q2 := Lib.hid (heap_alloc_new w1 (vby ⟨1, vu, va⟩ ⟨dc, dl, dn, dp, ds⟩))
  have PQ := Lib.hid (show W.heap.size ≠ w1.heap.size ∧ w1.heap.size ≠ g from ⟨Nat.ne_of_lt (lt_of_heap P1.out), fun e => absurd (H1.out.bx _ (e ▸ H1.out.xg : X w1.heap.size)).2 (Nat.lt_irrefl _)⟩)
  clear H1 U1 P1
  obtain ⟨wz1, wz2⟩ : IntKind.i64.wrap (x1 + 1) = x1 + 1 ∧ wrap64 (x1 + 1) = x1 + 1 := ⟨by rw [IntKind.wrap_i64]; omega, by unfold wrap64; omega⟩
  have y0 := cell_of_row _ w1.heap.size 0 _ _ _ Q2.out
  go_wp2
  generalize w1.alloc (vby ⟨1, vu, va⟩ ⟨dc, dl, dn, dp, ds⟩) = w2 at *
  have BX := Lib.hid (at_drew (heap_setCell_same w2 g 11 _ _ (.int .i64 (x1 + 1)) H2.out.box))
  have KP := Lib.hid (Kept.drew (kept1 w2 g 11 (.int .i64 (x1 + 1))))
  have H3 := Lib.hid (H2.out.count KP.out BX.out)
  have P3 := Lib.hid ((KP.out.block _ HG.out (lt_of_heap P2.out)).trans P2.out)
  have Q3 := Lib.hid ((KP.out.block _ PQ.out.2 (lt_of_heap Q2.out)).trans Q2.out)
  have U3 := Lib.hid (U2.out.trans H3.out.2)
  obtain ⟨y0, y1, y2, y3, y4, y5, y6, y7⟩ := cells8 Q2.out
  have a9 := cell_of_row _ g 11 _ _ _ H2.out.box
  have f9 := frozen_of_row _ g 11 _ _ H2.out.box
  go_region
  clear y0 y1 y2 y3 y4 y5 y6 y7 a9 f9 BX KP
  generalize (w2.setCell ⟨g, 11, none⟩ (.int .i64 (x1 + 1))).drew = w3 at *
  obtain ⟨y0, y1, y2, y3, y4, y5, y6, y7⟩ := cells8 Q3.out
  obtain ⟨s0, s1, s2, s3, s4, s5, s6, s7⟩ := cells8 P3.out
  obtain ⟨e0, e1, e2, e3, e4, e5, e6, e7⟩ := frozen8 P3.out
  clear Q3 H2 U2 P2 Q2
  go_wp2
  exact ret_w rfl rfl (put8 P3.out _ _ _ _ _ _ _ _) ⟨rfl, H3.out.1.off U3.out (Nat.le_refl _) HX.out (kept8 _ _ _ _ _ _ _ _ _ _)⟩
set_option maxHeartbeats 4000000 in
set_option maxRecDepth 100000 in
theorem judge2 (t lc fr : Int) (A : Option Addr) (l : List Int) (cp : Nat) (h : RM lo X g c bs N D E L nd cd ne ce nl cl B cb ks Y x1 x2 x3 x4 x5 x6 x7 W) (hN : N ≤ 17592186044000) (hb : BL W A l) (hl : l.length ≤ 9223372036854775807) (hc : l.length ≤ cp) (vu : Nat) (va : Int) (hz : x2 + 1 ≤ 9223372036854775807 ∧ 0 ≤ x2) (hv : jd c bs t lc fr l = ⟨2, vu, va⟩) :
    Calls Try.prog 12 #[.pointer (some ⟨g, 0, none⟩), .int .i64 t, .int .i64 lc, .int .i64 fr, .slice A l.length cp] W fun r W' => r = .returned (vv (dt l) ⟨2, vu, va⟩) ∧ RM lo X g c (jb c bs t fr l) (N + 1) D E L nd cd ne ce nl cl B cb ks Y x1 (x2 + 1) x3 x4 x5 x6 x7 W' ∧ Turn X X W W' := by
  have S0 := Lib.hid ((Stay.start W).alloc (vby v0 d0))
  have h0 := h.next (al (Below.refl _ _) (vby v0 d0))
  have HV := Lib.hid (verdict_any t lc fr A l cp h0 hN (hb.below S0.out.b) hl hc)
  rw [hv] at HV
  have HX := Lib.hid (show ¬ X W.heap.size from fun hx => absurd (h.bx _ hx).2 (Nat.lt_irrefl _))
  have HG := Lib.hid (show W.heap.size ≠ g from fun e => HX.out (e ▸ h.xg))
  generalize dt l = d at *
  obtain ⟨dc, dl, dn, dp, ds⟩ := d
  clear h h0 hb hl hc hN hv
  go_enter Try.func12, Try.ntmps12
  go_wp2_with fail
  refine HV.out.mono ?_
  rintro r w1 ⟨rfl, h1, u1⟩
  have H1 := Lib.hid h1
  have U1 := Lib.hid ((Turn.of (X := X) S0.out.b).trans u1)
  have P1 := Lib.hid (u1.bx (S0.out.at 0 rfl) HX.out).1
  clear h1 u1 HV S0
  have H2 := Lib.hid (H1.out.next (al (Below.refl _ _) (vby ⟨2, vu, va⟩ ⟨dc, dl, dn, dp, ds⟩)))
  have U2 := Lib.hid (U1.out.trans (Turn.of (al (Below.refl _ _) (vby ⟨2, vu, va⟩ ⟨dc, dl, dn, dp, ds⟩))))
  have P2 := Lib.hid (row_below (al (Below.refl _ _) (vby ⟨2, vu, va⟩ ⟨dc, dl, dn, dp, ds⟩)) P1.out)
  have Q2 := Lib.hid (heap_alloc_new w1 (vby ⟨2, vu, va⟩ ⟨dc, dl, dn, dp, ds⟩))
  have PQ := Lib.hid (show W.heap.size ≠ w1.heap.size ∧ w1.heap.size ≠ g from ⟨Nat.ne_of_lt (lt_of_heap P1.out), fun e => absurd (H1.out.bx _ (e ▸ H1.out.xg : X w1.heap.size)).2 (Nat.lt_irrefl _)⟩)
  clear H1 U1 P1
  obtain ⟨wz1, wz2⟩ : IntKind.i64.wrap (x2 + 1) = x2 + 1 ∧ wrap64 (x2 + 1) = x2 + 1 := ⟨by rw [IntKind.wrap_i64]; omega, by unfold wrap64; omega⟩
  have y0 := cell_of_row _ w1.heap.size 0 _ _ _ Q2.out
  go_wp2
  generalize w1.alloc (vby ⟨2, vu, va⟩ ⟨dc, dl, dn, dp, ds⟩) = w2 at *
  have BX := Lib.hid (at_drew (heap_setCell_same w2 g 12 _ _ (.int .i64 (x2 + 1)) H2.out.box))
  have KP := Lib.hid (Kept.drew (kept1 w2 g 12 (.int .i64 (x2 + 1))))
  have H3 := Lib.hid (H2.out.count KP.out BX.out)
  have P3 := Lib.hid ((KP.out.block _ HG.out (lt_of_heap P2.out)).trans P2.out)
  have Q3 := Lib.hid ((KP.out.block _ PQ.out.2 (lt_of_heap Q2.out)).trans Q2.out)
  have U3 := Lib.hid (U2.out.trans H3.out.2)
  obtain ⟨y0, y1, y2, y3, y4, y5, y6, y7⟩ := cells8 Q2.out
  have a9 := cell_of_row _ g 12 _ _ _ H2.out.box
  have f9 := frozen_of_row _ g 12 _ _ H2.out.box
  go_region
  clear y0 y1 y2 y3 y4 y5 y6 y7 a9 f9 BX KP
  generalize (w2.setCell ⟨g, 12, none⟩ (.int .i64 (x2 + 1))).drew = w3 at *
  obtain ⟨y0, y1, y2, y3, y4, y5, y6, y7⟩ := cells8 Q3.out
  obtain ⟨s0, s1, s2, s3, s4, s5, s6, s7⟩ := cells8 P3.out
  obtain ⟨e0, e1, e2, e3, e4, e5, e6, e7⟩ := frozen8 P3.out
  clear Q3 H2 U2 P2 Q2
  go_wp2
  exact ret_w rfl rfl (put8 P3.out _ _ _ _ _ _ _ _) ⟨rfl, H3.out.1.off U3.out (Nat.le_refl _) HX.out (kept8 _ _ _ _ _ _ _ _ _ _)⟩
set_option maxHeartbeats 4000000 in
set_option maxRecDepth 100000 in
theorem judge4 (t lc fr : Int) (A : Option Addr) (l : List Int) (cp : Nat) (h : RM lo X g c bs N D E L nd cd ne ce nl cl B cb ks Y x1 x2 x3 x4 x5 x6 x7 W) (hN : N ≤ 17592186044000) (hb : BL W A l) (hl : l.length ≤ 9223372036854775807) (hc : l.length ≤ cp) (vu : Nat) (va : Int) (hz : x4 + 1 ≤ 9223372036854775807 ∧ 0 ≤ x4) (hv : jd c bs t lc fr l = ⟨4, vu, va⟩) :
    Calls Try.prog 12 #[.pointer (some ⟨g, 0, none⟩), .int .i64 t, .int .i64 lc, .int .i64 fr, .slice A l.length cp] W fun r W' => r = .returned (vv (dt l) ⟨4, vu, va⟩) ∧ RM lo X g c (jb c bs t fr l) (N + 1) D E L nd cd ne ce nl cl B cb ks Y x1 x2 x3 (x4 + 1) x5 x6 x7 W' ∧ Turn X X W W' := by
  have S0 := Lib.hid ((Stay.start W).alloc (vby v0 d0))
  have h0 := h.next (al (Below.refl _ _) (vby v0 d0))
  have HV := Lib.hid (verdict_any t lc fr A l cp h0 hN (hb.below S0.out.b) hl hc)
  rw [hv] at HV
  have HX := Lib.hid (show ¬ X W.heap.size from fun hx => absurd (h.bx _ hx).2 (Nat.lt_irrefl _))
  have HG := Lib.hid (show W.heap.size ≠ g from fun e => HX.out (e ▸ h.xg))
  generalize dt l = d at *
  obtain ⟨dc, dl, dn, dp, ds⟩ := d
  clear h h0 hb hl hc hN hv
  go_enter Try.func12, Try.ntmps12
  go_wp2_with fail
  refine HV.out.mono ?_
  rintro r w1 ⟨rfl, h1, u1⟩
  have H1 := Lib.hid h1
  have U1 := Lib.hid ((Turn.of (X := X) S0.out.b).trans u1)
  have P1 := Lib.hid (u1.bx (S0.out.at 0 rfl) HX.out).1
  clear h1 u1 HV S0
  have H2 := Lib.hid (H1.out.next (al (Below.refl _ _) (vby ⟨4, vu, va⟩ ⟨dc, dl, dn, dp, ds⟩)))
  have U2 := Lib.hid (U1.out.trans (Turn.of (al (Below.refl _ _) (vby ⟨4, vu, va⟩ ⟨dc, dl, dn, dp, ds⟩))))
  have P2 := Lib.hid (row_below (al (Below.refl _ _) (vby ⟨4, vu, va⟩ ⟨dc, dl, dn, dp, ds⟩)) P1.out)
  have Q2 := Lib.hid (heap_alloc_new w1 (vby ⟨4, vu, va⟩ ⟨dc, dl, dn, dp, ds⟩))
  have PQ := Lib.hid (show W.heap.size ≠ w1.heap.size ∧ w1.heap.size ≠ g from ⟨Nat.ne_of_lt (lt_of_heap P1.out), fun e => absurd (H1.out.bx _ (e ▸ H1.out.xg : X w1.heap.size)).2 (Nat.lt_irrefl _)⟩)
  clear H1 U1 P1
  obtain ⟨wz1, wz2⟩ : IntKind.i64.wrap (x4 + 1) = x4 + 1 ∧ wrap64 (x4 + 1) = x4 + 1 := ⟨by rw [IntKind.wrap_i64]; omega, by unfold wrap64; omega⟩
  have y0 := cell_of_row _ w1.heap.size 0 _ _ _ Q2.out
  go_wp2
  generalize w1.alloc (vby ⟨4, vu, va⟩ ⟨dc, dl, dn, dp, ds⟩) = w2 at *
  have BX := Lib.hid (at_drew (heap_setCell_same w2 g 14 _ _ (.int .i64 (x4 + 1)) H2.out.box))
  have KP := Lib.hid (Kept.drew (kept1 w2 g 14 (.int .i64 (x4 + 1))))
  have H3 := Lib.hid (H2.out.count KP.out BX.out)
  have P3 := Lib.hid ((KP.out.block _ HG.out (lt_of_heap P2.out)).trans P2.out)
  have Q3 := Lib.hid ((KP.out.block _ PQ.out.2 (lt_of_heap Q2.out)).trans Q2.out)
  have U3 := Lib.hid (U2.out.trans H3.out.2)
  obtain ⟨y0, y1, y2, y3, y4, y5, y6, y7⟩ := cells8 Q2.out
  have a9 := cell_of_row _ g 14 _ _ _ H2.out.box
  have f9 := frozen_of_row _ g 14 _ _ H2.out.box
  go_region
  clear y0 y1 y2 y3 y4 y5 y6 y7 a9 f9 BX KP
  generalize (w2.setCell ⟨g, 14, none⟩ (.int .i64 (x4 + 1))).drew = w3 at *
  obtain ⟨y0, y1, y2, y3, y4, y5, y6, y7⟩ := cells8 Q3.out
  obtain ⟨s0, s1, s2, s3, s4, s5, s6, s7⟩ := cells8 P3.out
  obtain ⟨e0, e1, e2, e3, e4, e5, e6, e7⟩ := frozen8 P3.out
  clear Q3 H2 U2 P2 Q2
  go_wp2
  exact ret_w rfl rfl (put8 P3.out _ _ _ _ _ _ _ _) ⟨rfl, H3.out.1.off U3.out (Nat.le_refl _) HX.out (kept8 _ _ _ _ _ _ _ _ _ _)⟩
end
end Go.Proofs.Ytecgpibidcifpaa.RelayW

/- The landed relay: the nil one, Dropped; a relay that is made. -/
namespace Go.Proofs.Ytecgpibidcifpaa.RelayW
open Go.RowKit Shell
open ConfW (Cfg R4 CM ML chk Dup Up own_up)
open BucketW (Bk pas tk b0 fit bb)
open FrameW (BL rdE rdV)
set_option maxHeartbeats 4000000 in
set_option maxRecDepth 100000 in
theorem judge_nil0 (t lc fr : Int) (A : Option Addr) (n cp : Nat) (W : World) : Calls Try.prog 12 #[.pointer none, .int .i64 t, .int .i64 lc, .int .i64 fr, .slice A n cp] W fun r W' => r = .returned (vv d0 ⟨1, 0, 0⟩) ∧ Below W.heap.size W W' := by
  go_enter Try.func12, Try.ntmps12
  go_wp2
  exact ret_w rfl rfl (heap_alloc_new W (vby ⟨1, 0, 0⟩ d0)) ⟨rfl, al (Below.refl _ _) _⟩
set_option maxRecDepth 100000 in
theorem dropped_nil0 (y : Int) (W : World) : Calls Try.prog 14 #[.pointer none, .int .i64 y] W fun r W' => r = .returned (.int .i64 0) ∧ Below W.heap.size W W' := by
  go_enter Try.func14, Try.ntmps14
  go_wp2
  go_ret
  exact ⟨rfl, Below.refl _ _⟩
set_option maxHeartbeats 2000000 in
set_option maxRecDepth 100000 in
theorem dropped_m (c : Cfg) (D E L : Option Addr) (nd cd ne ce nl cl : Nat) (B : Option Addr) (nb cb : Nat) (x0 x1 x2 x3 x4 x5 x6 x7 : Int) (g : Nat) (y : Int) (W : World) (h : W.heap[g]? = some (rbx c D E L nd cd ne ce nl cl B nb cb x1 x2 x3 x4 x5 x6 x7)) :
    Calls Try.prog 14 #[.pointer (some ⟨g, 0, none⟩), .int .i64 y] W fun r W' => r = .returned (.int .i64 (drp (dsl x0 x1 x2 x3 x4 x5 x6 x7) y)) ∧ Below W.heap.size W W' := by
  by_cases h1 : y < 0
  · rw [show drp (dsl x0 x1 x2 x3 x4 x5 x6 x7) y = 0 by unfold drp; rw [if_neg (by omega)]]
    clear h
    go_enter Try.func14, Try.ntmps14
    go_wp2
    go_ret
    exact ⟨rfl, Below.refl _ _⟩
  by_cases h2 : 8 ≤ y
  · have e : drp (dsl x0 x1 x2 x3 x4 x5 x6 x7) y = 0 := by
      unfold drp
      split
      · obtain rfl : y = 8 := by omega
        rfl
      · rfl
    rw [e]
    have h3 : y ≥ 8 := h2
    have h4 : (y < 0) = False := eq_false h1
    clear h
    go_enter Try.func14, Try.ntmps14
    go_wp2
    go_ret
    exact ⟨rfl, Below.refl _ _⟩
  obtain ⟨n, rfl⟩ := Int.eq_ofNat_of_zero_le (Int.not_lt.1 h1)
  have hn : n = 0 ∨ n = 1 ∨ n = 2 ∨ n = 3 ∨ n = 4 ∨ n = 5 ∨ n = 6 ∨ n = 7 := by omega
  clear h1 h2
  rcases hn with rfl | rfl | rfl | rfl | rfl | rfl | rfl | rfl
  all_goals
    have a0 := cell_of_row _ g 10 _ _ _ h
    have a1 := cell_of_row _ g 11 _ _ _ h
    have a2 := cell_of_row _ g 12 _ _ _ h
    have a3 := cell_of_row _ g 13 _ _ _ h
    have a4 := cell_of_row _ g 14 _ _ _ h
    have a5 := cell_of_row _ g 15 _ _ _ h
    have a6 := cell_of_row _ g 16 _ _ _ h
    have a7 := cell_of_row _ g 17 _ _ _ h
    clear h
    go_enter Try.func14, Try.ntmps14
    go_wp2
    go_ret
    exact ⟨rfl, Below.refl _ _⟩
/-- Numbers that a configuration that may be keeps a copy's sizes by. -/
theorem chk_small {c : Cfg} (h : chk c = 0) : c.delays.length ≤ 6 ∧ (∀ r ∈ c.delays, r.length = 2) ∧ c.entries.length ≤ 16 ∧ c.links.length ≤ 16 := by
  obtain ⟨h1, -, -, h2, h3, -, -⟩ := ConfW.chk_ok h
  rw [ConfW.btw_iff] at h1
  unfold ConfW.rowsOk at h2
  unfold ConfW.entOk at h3
  rw [Bool.and_eq_true, decide_eq_true_eq, List.all_eq_true] at h2
  rw [Bool.and_eq_true, decide_eq_true_eq] at h3
  refine ⟨by omega, fun r hr => ?_, h3.1, lnk_len h⟩
  have h4 := h2.2 r hr
  unfold ConfW.rowOk at h4
  rw [Bool.and_eq_true, decide_eq_true_eq] at h4
  exact h4.1
/-- Pointers in a row of one's own. -/
def FP : Flat Nat where
  n := 1
  cs k := [.pointer (some ⟨k, 0, none⟩)]
  len _ := rfl
  one x u hu := by
    simp only [List.mem_cons, List.not_mem_nil, or_false] at hu
    subst hu
    rfl
  pos := by decide
theorem oneP : OneG Try.prog 65 69 FP.n 8 := oneG_of Try.underlying65 (by kernel_rfl)
theorem og_pr {w : World} {base : Nat} {e : TypeId} {B : Option Addr} {n cb : Nat} {ks : List Nat} (h : OG FP w base e (.slice B n cb) ks) : PR w B ks := by
  intro i k hk
  obtain ⟨A, c, hv, hs, -, -, ha⟩ := h.form
  injection hv with e1
  subst e1
  obtain ⟨b, off, hA, -, hc⟩ := hs i k hk
  obtain ⟨h1, -⟩ := ha _ hA
  have h1' : off = 0 := h1
  subst h1'
  refine ⟨b, hA, ?_⟩
  have h2 := hc 0 (.pointer (some ⟨k, 0, none⟩)) rfl
  rw [show 0 + i * FP.n + 0 = i by show 0 + i * 1 + 0 = i; omega] at h2
  exact h2
/-- New's loop: i buckets are made. -/
structure NX (W w3 : World) (g : Nat) (c : Cfg) (D E L : Option Addr) (nd cd ne ce nl cl : Nat) (D2 E2 L2 : Option Addr) (cd2 ce2 cl2 : Nat) (i : Nat) (B : Option Addr) (cb : Nat) (ks : List Nat) (w : World) : Prop where
  b : Below W.heap.size W w
  pb : w.heap[W.heap.size]? = some (cbx c D E L nd cd ne ce nl cl)
  box : w.heap[g]? = some (rbx c D2 E2 L2 nd cd2 ne ce2 nl cl2 B i cb 0 0 0 0 0 0 0)
  cf : ∀ j, W.heap.size ≤ j → j < g → w.heap[j]? = w3.heap[j]?
  og : OG FP w (g + 1) 69 (.slice B i cb) ks
  len : ks.length = i
  bk : ∀ (n k : Nat) (r : R4), ks[n]? = some k → c.links[n]? = some r → w.heap[k]? = some (bb r.c c.delay b0)
  lt : ∀ (n k : Nat), ks[n]? = some k → g < k ∧ k < w.heap.size
  dj : ∀ (n m k : Nat), ks[n]? = some k → ks[m]? = some k → n = m
  ro : ∀ (n k : Nat), ks[n]? = some k → (Value.slice B i cb).ownBlock ≠ some k
theorem NX.step {W w3 w w2 w7 : World} {g : Nat} {c : Cfg} {D E L : Option Addr} {nd cd ne ce nl cl : Nat} {D2 E2 L2 : Option Addr} {cd2 ce2 cl2 i : Nat} {B : Option Addr} {cb : Nat} {ks : List Nat} {v7 : Value} {k : Nat} {r : R4} (h : NX W w3 g c D E L nd cd ne ce nl cl D2 E2 L2 cd2 ce2 cl2 i B cb ks w)
    (hg : W.heap.size < g) (b2 : Below w.heap.size w w2) (hk : w2.heap[k]? = some (bb r.c c.delay b0)) (hkw : w.heap.size ≤ k) (hr : c.links[i]? = some r) (o7 : OG FP w7 (g + 1) 69 v7 (ks ++ [k])) (s7 : Step w2 (.slice B i cb) w7 v7) :
    ∃ B' cb', v7 = .slice B' (i + 1) cb' ∧ NX W w3 g c D E L nd cd ne ce nl cl D2 E2 L2 cd2 ce2 cl2 (i + 1) B' cb' (ks ++ [k]) (w7.setCell ⟨g, 9, none⟩ v7) := by
  obtain ⟨B', cb', rfl, -, -, -, -⟩ := o7.form
  rw [List.length_append, h.len, List.length_singleton] at o7 s7 ⊢
  refine ⟨B', cb', rfl, ?_⟩
  have gl : g < w.heap.size := lt_of_heap h.box
  have own7 : ∀ j, (Value.slice B' (i + 1) cb').ownBlock = some j → g + 1 ≤ j ∧ ((Value.slice B i cb).ownBlock = some j ∨ w2.heap.size ≤ j) := fun j hj => ⟨(o7.lt j hj).1, by
    rcases s7.m with e | ⟨x, e, hx⟩
    · exact Or.inl (e.symm.trans hj)
    · rw [hj] at e; cases e; exact Or.inr hx⟩
  have keep : ∀ (j : Nat) (ob : Obj), w2.heap[j]? = some ob → (Value.slice B i cb).ownBlock ≠ some j → j ≠ g → (w7.setCell ⟨g, 9, none⟩ (.slice B' (i + 1) cb')).heap[j]? = some ob := fun j ob hj hn hjg => by
    rw [heap_setCell_other _ _ _ _ hjg]
    exact (s7.g.block j (lt_of_heap hj) (fun e => hn e.symm)).trans hj
  have nol : ∀ j, j ≤ g → (Value.slice B i cb).ownBlock ≠ some j := fun j hj e => by have := (h.og.lt j e).1; omega
  have hki : ∀ n, (ks ++ [k])[n]? = some k → n = i := fun n hn => by
    rcases Nat.lt_or_ge n ks.length with hl | hl
    · rw [List.getElem?_append_left hl] at hn
      have := (h.lt n k hn).2; omega
    · rw [List.getElem?_append_right hl] at hn
      have := lt_of_get hn
      rw [List.length_singleton] at this
      have := h.len
      omega
  have get : ∀ (n x : Nat), (ks ++ [k])[n]? = some x → ks[n]? = some x ∨ (n = i ∧ x = k) := fun n x hn => by
    rcases Nat.lt_or_ge n ks.length with hl | hl
    · rw [List.getElem?_append_left hl] at hn
      exact Or.inl hn
    · rw [List.getElem?_append_right hl] at hn
      have h1 := lt_of_get hn
      rw [List.length_singleton] at h1
      have h2 : n - ks.length = 0 := by omega
      rw [h2] at hn
      have h3 : k = x := Option.some.inj hn
      exact Or.inr ⟨by have := h.len; omega, h3.symm⟩
  have sz : w2.heap.size ≤ w7.heap.size := s7.g.size
  refine ⟨?_, ?_, ?_, fun j hj hjg => ?_, ?_, by rw [List.length_append, h.len, List.length_singleton], fun n x r' hn hr' => ?_, fun n x hn => ?_, fun n m x hn hm => ?_, fun n x hn => ?_⟩
  · exact ((h.b.trans (b2.mono h.b.size)).trans (s7.belowG (h.og.below b2) (by have := b2.size; omega) |>.mono (by omega))).setCell (Nat.le_of_lt hg) _
  · exact keep _ _ (row_below b2 h.pb) (nol _ (Nat.le_of_lt hg)) (Nat.ne_of_lt hg)
  · exact heap_setCell_same w7 g 9 _ _ _ ((s7.g.block g (by have := b2.size; omega) (fun e => nol g (Nat.le_refl _) e.symm)).trans (row_below b2 h.box))
  · rw [heap_setCell_other _ _ _ _ (Nat.ne_of_lt hjg)]
    exact ((s7.g.block j (by have := b2.size; omega) (fun e => nol j (Nat.le_of_lt hjg) e.symm)).trans (b2.block j (by omega))).trans (h.cf j hj hjg)
  · exact o7.kept (kept1 w7 g 9 _) (fun e => by have := (o7.lt g e).1; omega)
  · rcases get n x hn with h1 | ⟨rfl, rfl⟩
    · exact keep _ _ (row_below b2 (h.bk n x r' h1 hr')) (h.ro n x h1) (by have := (h.lt n x h1).1; omega)
    · rw [hr] at hr'
      cases hr'
      exact keep _ _ hk (fun e => by have := (h.og.lt _ e).2; omega) (by omega)
  · have e : (w7.setCell ⟨g, 9, none⟩ (.slice B' (i + 1) cb')).heap.size = w7.heap.size := World.size_setCell _ _ _
    rw [e]
    rcases get n x hn with h1 | ⟨rfl, rfl⟩
    · have := h.lt n x h1; have := b2.size; omega
    · have := lt_of_heap hk; omega
  · rcases get n x hn with h1 | ⟨rfl, rfl⟩
    · rcases get m x hm with h2 | ⟨rfl, rfl⟩
      · exact h.dj n m x h1 h2
      · have := (h.lt n _ h1).2; omega
    · exact (hki m hm).symm
  · intro e
    obtain ⟨h1, h2⟩ := own7 x e
    rcases get n x hn with h3 | ⟨rfl, rfl⟩
    · rcases h2 with h2 | h2
      · exact h.ro n x h3 h2
      · have := (h.lt n x h3).2; have := b2.size; omega
    · rcases h2 with h2 | h2
      · have := (h.og.lt _ h2).2; omega
      · have := lt_of_heap hk; omega
end Go.Proofs.Ytecgpibidcifpaa.RelayW

/- The landed relay is what a law asks of one. -/
namespace Go.Proofs.Ytecgpibidcifpaa.RelayW
open Go.RowKit Shell
open ConfW (Cfg R4 CM ML chk Dup Up own_up)
open BucketW (Bk pas tk b0 fit bb)
open FrameW (BL rdE rdV)
theorem bs0_get {c : Cfg} {i : Nat} {s : Bk} (hs : (bs0 c)[i]? = some s) : s = b0 := by
  unfold bs0 at hs
  rw [List.getElem?_map, Option.map_eq_some_iff] at hs
  obtain ⟨_, _, h⟩ := hs
  exact h.symm
/-- A relay that was made. -/
theorem nx_rm {W w2 w3 w : World} {g lo1 gd : Nat} {vs : List Value} {c : Cfg} {D E L : Option Addr} {nd cd ne ce nl cl : Nat} {E2 L2 : Option Addr} {ce2 cl2 : Nat} {B : Option Addr} {cb : Nat} {ks : List Nat} (h : NX W w3 g c D E L nd cd ne ce nl cl (some ⟨gd, 0, none⟩) E2 L2 nd ce2 cl2 nl B cb ks w) (m : CM W c D E L nd cd ne ce nl cl) (hz : chk c = 0)
    (du : Dup w2 lo1 c gd vs (.slice E2 ne ce2) (.slice L2 nl cl2)) (hW : W.heap.size ≤ lo1) (hg : g = w2.heap.size) (hW2 : W.heap.size ≤ g) (h3 : ∀ j, j < g → w3.heap[j]? = w2.heap[j]?) :
    RM W.heap.size (fun j => W.heap.size ≤ j ∧ j < w.heap.size) g c (bs0 c) 0 (some ⟨gd, 0, none⟩) E2 L2 nd nd ne ce2 nl cl2 B cb ks (fun j => (lo1 ≤ j ∧ j < g) ∨ (Value.slice B nl cb).ownBlock = some j) 0 0 0 0 0 0 0 w := by
  have gl : g < w.heap.size := lt_of_heap h.box
  refine ⟨hz, gd_zero c, h.len, h.box, fun W1 hs hy => ?_, fun i k s r h1 h2 h4 => ?_, h.dj, ?_, fun i k hk => ?_, fun j hj => ?_, ⟨hW2, gl⟩, fun j hj => hj, fun a ha => ?_⟩
  · have u : Up lo1 w2 W1 := ⟨by omega, fun j hj hjs => ((hy j (Or.inl ⟨hj, by omega⟩)).trans (h.cf j (by omega) (by omega))).trans (h3 j (by omega))⟩
    obtain ⟨E', L', ce', cl', e1, e2, m1⟩ := (dup_up du u).mem (CM.wf c D E L nd cd ne ce nl cl m) m.he.u32 m.hl.u32 (by rw [← m.nD]; exact m.mD)
    rw [← m.nE] at e1
    rw [← m.nL] at e2
    rw [← m.nD, ← m.nE, ← m.nL] at m1
    injection e1 with q1 _ q3
    injection e2 with p1 _ p3
    subst q1; subst q3; subst p1; subst p3
    exact ⟨m1, og_pr (h.og.block (fun k hk => hy k (Or.inr hk)))⟩
  · rw [bs0_get h2]
    exact h.bk i k r h1 h4
  · rintro (h1 | h1)
    · omega
    · have := (h.og.lt g h1).1; omega
  · have h1 := h.lt i k hk
    refine ⟨?_, by omega, by omega, h1.2⟩
    rintro (h2 | h2)
    · omega
    · exact h.ro i k hk h2
  · rcases hj with h1 | h1
    · exact ⟨by omega, by omega⟩
    · have := h.og.lt j h1
      exact ⟨by omega, this.2⟩
  · subst ha
    obtain ⟨A, c', hv, -, -, -, hf⟩ := h.og.form
    injection hv with e1
    subst e1
    obtain ⟨b, off, sp⟩ := a
    obtain ⟨o1, o2, -, -⟩ := hf _ rfl
    obtain rfl : off = 0 := o1
    obtain rfl : sp = none := o2
    exact Or.inr rfl
set_option maxHeartbeats 8000000 in
set_option maxRecDepth 100000 in
theorem new_no (c : Cfg) (D E L : Option Addr) (nd cd ne ce nl cl : Nat) (W : World) (m : CM W c D E L nd cd ne ce nl cl) (hz : chk c ≠ 0) : Calls Try.prog 9 #[.agg #[.int .i64 c.hosts, .int .i64 c.cycle, .int .i64 c.delay, .int .i64 c.window, .int .i64 c.precision, .slice D nd cd, .slice E ne ce, .slice L nl cl, .int .i64 c.queue]] W fun r W' => r = .returned (.tuple #[.pointer none, .int .i64 1]) ∧ Below W.heap.size W W' := by
  have S1 := Lib.hid ((Stay.start W).alloc (cbx c D E L nd cd ne ce nl cl))
  have HC := Lib.hid (ConfW.check_any c D E L nd cd ne ce nl cl _ (m.below S1.out.b))
  obtain ⟨a0, a1, a2, a3, a4, a5, a6, a7, a8⟩ := PlanW.cells9 (S1.out.at 0 rfl)
  generalize chk c = z at *
  have q1 : (z != 0) = true := by rw [bne_iff_ne]; exact hz
  clear m hz
  go_enter Try.func9, Try.ntmps9
  go_wp2_with fail
  refine HC.out.mono ?_
  rintro r w1 ⟨rfl, b1⟩
  have S2 := Lib.hid (S1.out.next b1)
  clear b1 a0 a1 a2 a3 a4 a5 a6 a7 a8 S1 HC
  go_wp2
  go_ret2
  exact ⟨rfl, S2.out.b⟩
/-- A relay was made. -/
def MadeEnd (c : Cfg) (W : World) (r : Ending) (W' : World) : Prop := ∃ g D2 E2 L2 nd2 cd2 ne2 ce2 nl2 cl2 B cb ks Y, r = .returned (.tuple #[.pointer (some ⟨g, 0, none⟩), .int .i64 0]) ∧ RM W.heap.size (fun j => W.heap.size ≤ j ∧ j < W'.heap.size) g c (bs0 c) 0 D2 E2 L2 nd2 cd2 ne2 ce2 nl2 cl2 B cb ks Y 0 0 0 0 0 0 0 W' ∧ Below W.heap.size W W'
set_option maxHeartbeats 16000000 in
set_option maxRecDepth 100000 in
theorem new_yes (c : Cfg) (D E L : Option Addr) (nd cd ne ce nl cl : Nat) (W : World) (m : CM W c D E L nd cd ne ce nl cl) (hz : chk c = 0) : Calls Try.prog 9 #[.agg #[.int .i64 c.hosts, .int .i64 c.cycle, .int .i64 c.delay, .int .i64 c.window, .int .i64 c.precision, .slice D nd cd, .slice E ne ce, .slice L nl cl, .int .i64 c.queue]] W fun r W' => MadeEnd c W r W' := by
  obtain ⟨k1, k2, k3, k4⟩ := chk_small hz
  have S1 := Lib.hid ((Stay.start W).alloc (cbx c D E L nd cd ne ce nl cl))
  have HC := Lib.hid (ConfW.check_any c D E L nd cd ne ce nl cl _ (m.below S1.out.b))
  rw [hz] at HC
  have HCP := Lib.hid (fun w (hw : CM w c D E L nd cd ne ce nl cl) => ConfW.copy_any c D E L nd cd ne ce nl cl w hw (by rw [hw.nD]; omega) (fun r hr => by rw [k2 r hr]; decide) (by rw [hw.nE]; omega) (by rw [hw.nL]; omega))
  have HM := Lib.hid m
  have HZ := Lib.hid hz
  have HNL := Lib.hid (show nl ≤ 16 by rw [m.nL]; exact k4)
  have hnL : nl ≤ 9223372036854775807 := by have := HNL.out; omega
  obtain ⟨a0, a1, a2, a3, a4, a5, a6, a7, a8⟩ := PlanW.cells9 (S1.out.at 0 rfl)
  clear m hz k1 k2 k3 k4
  go_enter Try.func9, Try.ntmps9
  go_wp2_with fail
  refine HC.out.mono ?_
  rintro r w1 ⟨rfl, b1⟩
  have S2 := Lib.hid (S1.out.next b1)
  clear b1 a0 a1 a2 a3 a4 a5 a6 a7 a8 S1 HC
  obtain ⟨a0, a1, a2, a3, a4, a5, a6, a7, a8⟩ := PlanW.cells9 (S2.out.at 0 rfl)
  go_wp2_with fail
  refine (HCP.out _ (HM.out.below S2.out.b)).mono ?_
  rintro r w2 ⟨gd, vs, vE, vL, rfl, b2, du⟩
  obtain ⟨E2, L2, ce2, cl2, e1, e2, -⟩ := du.mem (CM.wf c D E L nd cd ne ce nl cl HM.out) HM.out.he.u32 HM.out.hl.u32 (by rw [← HM.out.nD]; exact HM.out.mD)
  rw [← HM.out.nE] at e1
  rw [← HM.out.nL] at e2
  subst e1
  subst e2
  have DU := Lib.hid du
  have S3 := Lib.hid (S2.out.next b2)
  have L1 := Lib.hid (show W.heap.size ≤ w1.heap.size ∧ W.heap.size < w2.heap.size from ⟨S2.out.b.size, lt_of_heap (S3.out.at 0 rfl)⟩)
  clear b2 du S2 HCP a0 a1 a2 a3 a4 a5 a6 a7 a8
  have S4 := Lib.hid (S3.out.next (al (Below.refl _ _) (rbx c (some ⟨gd, 0, none⟩) E2 L2 nd nd ne ce2 nl cl2 none 0 0 0 0 0 0 0 0 0)))
  have N0 := Lib.hid (show NX W (w2.alloc (rbx c (some ⟨gd, 0, none⟩) E2 L2 nd nd ne ce2 nl cl2 none 0 0 0 0 0 0 0 0 0)) w2.heap.size c D E L nd cd ne ce nl cl (some ⟨gd, 0, none⟩) E2 L2 nd ce2 cl2 0 none 0 [] (w2.alloc (rbx c (some ⟨gd, 0, none⟩) E2 L2 nd nd ne ce2 nl cl2 none 0 0 0 0 0 0 0 0 0)) from
    ⟨S4.out.b, S4.out.at 0 rfl, heap_alloc_new _ _, fun _ _ _ => rfl, OG.nil _ _ _, rfl, fun n k r h => by simp at h, fun n k h => by simp at h, fun n m k h => by simp at h, fun n k h => by simp at h⟩)
  have H3 := Lib.hid (show ∀ j, j < w2.heap.size → (w2.alloc (rbx c (some ⟨gd, 0, none⟩) E2 L2 nd nd ne ce2 nl cl2 none 0 0 0 0 0 0 0 0 0)).heap[j]? = w2.heap[j]? from fun j hj => (al (Below.refl _ _) (rbx c (some ⟨gd, 0, none⟩) E2 L2 nd nd ne ce2 nl cl2 none 0 0 0 0 0 0 0 0 0)).block j hj)
  obtain ⟨a0, a1, a2, a3, a4, a5, a6, a7, a8⟩ := PlanW.cells9 (S4.out.at 0 rfl)
  go_wp2
  generalize hw3 : w2.alloc (rbx c (some ⟨gd, 0, none⟩) E2 L2 nd nd ne ce2 nl cl2 none 0 0 0 0 0 0 0 0 0) = w3 at *
  generalize hgg : w2.heap.size = g at *
  clear a0 a1 a2 a3 a4 a5 a6 a7 a8
  go_loopw [19] (fun iv wr => ∃ (i : Nat), i ≤ nl ∧ iv = .int .i64 i ∧ Hid (∃ B cb ks, NX W w3 g c D E L nd cd ne ce nl cl (some ⟨gd, 0, none⟩) E2 L2 nd ce2 cl2 i B cb ks wr)) (fun iv _ => nl - (intOf iv).toNat)
  case atStart => exact ⟨0, Nat.zero_le _, rfl, Lib.hid ⟨_, _, _, N0.out⟩⟩
  case round =>
    clear N0
    obtain ⟨i, hi, rfl, HD⟩ := hrel
    obtain ⟨B, cb, ks, hx⟩ := HD.out
    have X := Lib.hid hx
    clear HD hx
    by_cases hlt : (i : Int) < (nl : Int)
    · obtain ⟨r, hr⟩ : ∃ r, c.links[i]? = some r := ⟨_, List.getElem?_eq_getElem (by rw [← HM.out.nL]; omega)⟩
      obtain ⟨b, off, rfl, l0, l1, l2, l3⟩ := ml_at (HM.out.hl.below X.out.b) hr
      have HR := Lib.hid hr
      have RG := Lib.hid (lnk_rgt HZ.out (List.mem_of_getElem? hr))
      have B1 := Lib.hid (al (Below.refl _ wr) (ebx r 52))
      have S5 := Lib.hid (heap_alloc_new wr (ebx r 52))
      have G1 := Lib.hid (row_below B1.out X.out.pb)
      obtain ⟨y0, y1, y2, y3⟩ := PlanW.cells4 S5.out
      obtain ⟨a0, a1, a2, a3, a4, a5, a6, a7, a8⟩ := PlanW.cells9 G1.out
      clear hr
      go_wp2_with fail
      refine (BucketW.new_ok r.c c.delay RG.out _).mono ?_
      rintro e w5 ⟨rfl, hw5⟩
      have hw6 : w5 = (wr.alloc (ebx r 52)).alloc (bb r.c c.delay b0) := hw5
      clear hw5
      have B2 := Lib.hid (show Below wr.heap.size wr w5 by rw [hw6]; exact B1.out.trans ((al (Below.refl _ (wr.alloc (ebx r 52))) (bb r.c c.delay b0)).mono B1.out.size))
      have BK := Lib.hid (show w5.heap[(wr.alloc (ebx r 52)).heap.size]? = some (bb r.c c.delay b0) by rw [hw6]; exact heap_alloc_new _ _)
      have KW := Lib.hid B1.out.size
      generalize (wr.alloc (ebx r 52)).heap.size = k at *
      have G2 := Lib.hid (row_below B2.out X.out.box)
      have O2 := Lib.hid (X.out.og.below B2.out)
      have a9 := cell_of_row _ g 9 _ _ _ G2.out
      have BA := Lib.hid (al (Below.refl _ w5) (.cells #[.pointer (some ⟨k, 0, none⟩)] 69))
      clear y0 y1 y2 y3 a0 a1 a2 a3 a4 a5 a6 a7 a8 l0 l1 l2 l3 B1 S5 G1 hw6
      go_wp2_with (at_builtin; refine wpList_append_one oneP _ rfl _ _ rfl (g + 1) _ ks rfl (O2.out.alloc _) k _ rfl (heap_at rfl _) ?c1 (by decide) ?c2 ?_)
      case c1 =>
        have := X.out.len
        have := HNL.out
        omega
      case c2 =>
        have := lt_of_heap G2.out
        rw [World.size_alloc]
        omega
      intro v7 w7 o7 s7
      have LG := Lib.hid (lt_of_heap X.out.box)
      obtain ⟨B', cb', hv7, x8⟩ := X.out.step L1.out.2 (B2.out.trans (BA.out.mono B2.out.size)) (row_below BA.out BK.out) KW.out HR.out o7 s7
      have G7 := Lib.hid ((s7.g.block g (by have := lt_of_heap G2.out; rw [World.size_alloc]; omega) (fun e => by have := (X.out.og.lt g e.symm).1; omega)).trans (row_below BA.out G2.out))
      have a8 := cell_of_row _ g 9 _ _ _ G7.out
      have f8 := frozen_of_row _ g 9 _ _ G7.out
      have X8 := Lib.hid x8
      subst hv7
      clear x8 o7 s7 a9 G2 O2 BK B2 KW
      go_wp2
      go_roundw
      case rel => exact ⟨i + 1, by omega, by go_num, Lib.hid ⟨_, _, _, X8.out⟩⟩
      case measure => simp [intOf]; omega
    · obtain rfl : nl = i := by omega
      go_wp2
      go_ret2
      exact ⟨g, _, _, _, _, _, _, _, _, _, _, _, _, _, rfl, nx_rm X.out HM.out HZ.out DU.out L1.out.1 hgg.symm (Nat.le_of_lt L1.out.2) H3.out, X.out.b⟩
theorem ds_tally (x0 x1 x2 x3 x4 x5 x6 x7 : Int) : tally (dsl x0 x1 x2 x3 x4 x5 x6 x7) 0 = dsl (x0 + 1) x1 x2 x3 x4 x5 x6 x7 ∧ tally (dsl x0 x1 x2 x3 x4 x5 x6 x7) 1 = dsl x0 (x1 + 1) x2 x3 x4 x5 x6 x7 ∧ tally (dsl x0 x1 x2 x3 x4 x5 x6 x7) 2 = dsl x0 x1 (x2 + 1) x3 x4 x5 x6 x7 ∧ tally (dsl x0 x1 x2 x3 x4 x5 x6 x7) 4 = dsl x0 x1 x2 x3 (x4 + 1) x5 x6 x7 := ⟨rfl, rfl, rfl, rfl⟩
theorem landed : Spec RI0 where
  frame := fun ⟨D, E, L, nd, cd, ne, ce, nl, cl, B, cb, ks, Y, x0, x1, x2, x3, x4, x5, x6, x7, h, hd, hx⟩ hs hk => ⟨D, E, L, nd, cd, ne, ce, nl, cl, B, cb, ks, Y, x0, x1, x2, x3, x4, x5, x6, x7, h.frame hs hk, hd, hx⟩
  foot := fun ⟨_, _, _, _, _, _, _, _, _, _, _, _, _, _, _, _, _, _, _, _, _, h, _, _⟩ => h.bx
  lower := fun ⟨D, E, L, nd, cd, ne, ce, nl, cl, B, cb, ks, Y, x0, x1, x2, x3, x4, x5, x6, x7, h, hd, hx⟩ hl => ⟨D, E, L, nd, cd, ne, ce, nl, cl, B, cb, ks, Y, x0, x1, x2, x3, x4, x5, x6, x7, { h with bx := fun j hj => ⟨Nat.le_trans hl (h.bx j hj).1, (h.bx j hj).2⟩ }, hd, hx⟩
  bad := fun c D E L nd cd ne ce nl cl W m hz => new_no c D E L nd cd ne ce nl cl W m hz
  new := fun c D E L nd cd ne ce nl cl W m hz => (new_yes c D E L nd cd ne ce nl cl W m hz).mono fun r W' ⟨g, D2, E2, L2, nd2, cd2, ne2, ce2, nl2, cl2, B, cb, ks, Y, h1, h2, h3⟩ => ⟨g, _, h1, ⟨D2, E2, L2, nd2, cd2, ne2, ce2, nl2, cl2, B, cb, ks, Y, 0, 0, 0, 0, 0, 0, 0, 0, h2, rfl, show ∀ x ∈ ds0, 0 ≤ x ∧ x ≤ ((0 : Nat) : Int) by decide⟩, h3⟩
  judge := by
    intro lo X g c bs ds N W t lc fr A l cp ⟨D, E, L, nd, cd, ne, ce, nl, cl, B, cb, ks, Y, x0, x1, x2, x3, x4, x5, x6, x7, h, hd, hx⟩ hN hb hl hc
    subst hd
    have up : ∀ w : Int, ∀ x ∈ tally (dsl x0 x1 x2 x3 x4 x5 x6 x7) w, 0 ≤ x ∧ x ≤ ((N + 1 : Nat) : Int) := by
      intro w x hxm
      unfold tally at hxm
      rcases List.mem_or_eq_of_mem_set hxm with h3 | h3
      · have := hx x h3; omega
      · have h4 : 0 ≤ ((dsl x0 x1 x2 x3 x4 x5 x6 x7)[w.toNat]?).getD 0 ∧ ((dsl x0 x1 x2 x3 x4 x5 x6 x7)[w.toNat]?).getD 0 ≤ N := by
          cases hq : (dsl x0 x1 x2 x3 x4 x5 x6 x7)[w.toNat]? with
          | none => exact ⟨by decide, by simp⟩
          | some y => exact hx y (List.mem_of_getElem? hq)
        omega
    have b1 := hx x1 (by simp)
    have b2 := hx x2 (by simp)
    have b4 := hx x4 (by simp)
    obtain ⟨t0, t1, t2, t4⟩ := ds_tally x0 x1 x2 x3 x4 x5 x6 x7
    have hw := jd_why c bs t lc fr l
    obtain ⟨v, hv⟩ : ∃ v, jd c bs t lc fr l = v := ⟨_, rfl⟩
    obtain ⟨vw, vu, va⟩ := v
    rw [hv] at hw ⊢
    dsimp only at hw ⊢
    rcases hw with rfl | rfl | rfl | rfl
    · exact (judge0 t lc fr A l cp h hN hb hl hc vu va hv).mono fun r W' ⟨r1, r2, r3⟩ => ⟨X, r1, ⟨D, E, L, nd, cd, ne, ce, nl, cl, B, cb, ks, Y, _, _, _, _, _, _, _, _, r2, t0, up 0⟩, r3⟩
    · exact (judge1 t lc fr A l cp h hN hb hl hc vu va ⟨by omega, b1.1⟩ hv).mono fun r W' ⟨r1, r2, r3⟩ => ⟨X, r1, ⟨D, E, L, nd, cd, ne, ce, nl, cl, B, cb, ks, Y, x0, _, _, _, _, _, _, _, r2, t1, up 1⟩, r3⟩
    · exact (judge2 t lc fr A l cp h hN hb hl hc vu va ⟨by omega, b2.1⟩ hv).mono fun r W' ⟨r1, r2, r3⟩ => ⟨X, r1, ⟨D, E, L, nd, cd, ne, ce, nl, cl, B, cb, ks, Y, x0, _, _, _, _, _, _, _, r2, t2, up 2⟩, r3⟩
    · exact (judge4 t lc fr A l cp h hN hb hl hc vu va ⟨by omega, b4.1⟩ hv).mono fun r W' ⟨r1, r2, r3⟩ => ⟨X, r1, ⟨D, E, L, nd, cd, ne, ce, nl, cl, B, cb, ks, Y, x0, _, _, _, _, _, _, _, r2, t4, up 4⟩, r3⟩
  dropped := by
    intro lo X g c bs ds N W y ⟨D, E, L, nd, cd, ne, ce, nl, cl, B, cb, ks, Y, x0, x1, x2, x3, x4, x5, x6, x7, h, hd, hx⟩
    subst hd
    exact (dropped_m c D E L nd cd ne ce nl cl B nl cb x0 x1 x2 x3 x4 x5 x6 x7 g y W h.box).mono fun r W' ⟨r1, r2⟩ => ⟨r1, X, ⟨D, E, L, nd, cd, ne, ce, nl, cl, B, cb, ks, Y, x0, x1, x2, x3, x4, x5, x6, x7, h.next r2, rfl, hx⟩, Turn.of r2⟩
  judge_nil := judge_nil0
  dropped_nil := dropped_nil0
end Go.Proofs.Ytecgpibidcifpaa.RelayW
