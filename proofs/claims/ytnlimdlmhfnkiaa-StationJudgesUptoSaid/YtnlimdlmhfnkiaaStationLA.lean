/- The landed station: its maps asked; timed frames, rated ones, those of effort. -/
import Derived.Test.YtnlimdlmhfnkiaaTake
import Derived.Test.YtnlimdlmhfnkiaaStationO
import Derived.Test.YtnlimdlmhfnkiaaPlanB
namespace Go.Proofs.Ytnlimdlmhfnkiaa.StationW
open Shell (takeR skipR aput lset)
open Go.RowKit Shell
open ConfW (Cfg R4 CM ML chk)
open FrameW (BL rdE rdV)
open PlanW (landV)
/-- An entry's, or a link's, own box. -/
abbrev ebx (e : R4) (t : TypeId) : Obj := .cells #[.int .i64 e.a, .int .u32 (e.b : Int), .int .i64 e.c, .int .i64 e.d] t (0, 0)
abbrev zbx (t : TypeId) : Obj := .cells #[.int .i64 0, .int .u32 0, .int .i64 0, .int .i64 0] t (0, 0)
set_option maxHeartbeats 2000000 in
set_option maxRecDepth 100000 in
theorem rise_no {b n k : Nat} {f : Nat → Option Int} {x : Int} (W : World) (h : MP W b n f) (hk : k ≤ 255) (hs : stops f k x = true) : Calls Try.prog 74 #[.map (some b), .int .i64 (k : Int), .int .i64 x] W fun r W' => r = .returned (.bool false) ∧ W' = W := by
  unfold stops at hs
  rw [Bool.and_eq_true, decide_eq_true_eq] at hs
  have H := h.look hk
  obtain ⟨y, hy⟩ : ∃ y, (f k).getD 0 = y := ⟨_, rfl⟩
  rw [hs.1, hy] at H
  rw [hy] at hs
  have g1 : x ≤ y := hs.2
  clear hs hy h
  go_enter Try.func74, Try.ntmps74
  go_wp2
  go_ret
  exact ⟨rfl, rfl⟩
set_option maxHeartbeats 2000000 in
set_option maxRecDepth 100000 in
theorem rise_yes {b n k : Nat} {f : Nat → Option Int} {x : Int} (W : World) (h : MP W b n f) (hn : n < maxLen) (hk : k ≤ 255) (hx : (Lit.int .i64 x).wf = true) (hs : stops f k x = false) : Calls Try.prog 74 #[.map (some b), .int .i64 (k : Int), .int .i64 x] W fun r W' => r = .returned (.bool true) ∧ MP W' b (n + 1) (MP.upd f k x) ∧ Kept b W W' := by
  unfold stops at hs
  have H := h.look hk
  obtain ⟨w1, HU, h1, k1⟩ := h.store hn hk hx
  have R := Lib.hid (And.intro h1 k1)
  obtain ⟨y, hy⟩ : ∃ y, (f k).getD 0 = y := ⟨_, rfl⟩
  obtain ⟨s, hz⟩ : ∃ s, (f k).isSome = s := ⟨_, rfl⟩
  rw [hz, hy] at H
  rw [hy, hz] at hs
  clear hy hz h hx h1 k1 hn hk
  cases s with
  | false =>
    clear hs
    go_enter Try.func74, Try.ntmps74
    go_wp2
    go_ret
    exact ⟨rfl, R.out⟩
  | true =>
    rw [Bool.true_and, decide_eq_false_iff_not] at hs
    have g1 : (x ≤ y) = False := eq_false hs
    clear hs
    go_enter Try.func74, Try.ntmps74
    go_wp2
    go_ret
    exact ⟨rfl, R.out⟩
set_option maxHeartbeats 4000000 in
set_option maxRecDepth 100000 in
theorem eff_any (c : Cfg) (D E L : Option Addr) (nd cd ne ce nl cl : Nat) (h : Int) (me ml : Nat) (xa xb : Int) (g : Nat) (d : Dt) (W : World) (hx : W.heap[g]? = some (sbx c D E L nd cd ne ce nl cl h me ml xa xb)) :
    Calls Try.prog 57 #[.pointer (some ⟨g, 0, none⟩), .agg #[.int .i64 d.c, .int .i64 d.l, .int .i64 d.n, .string d.p, .int .i64 d.s]] W fun r W' => r = .returned (.int .i64 (vE h d).w) ∧ Below W.heap.size W W' := by
  have S1 := Lib.hid (((Stay.start W).add hx).alloc (dbx d))
  obtain ⟨v, hv⟩ : ∃ v, vE h d = v := ⟨_, rfl⟩
  rw [hv]
  unfold vE at hv
  obtain ⟨dc, dl, dn, dp, ds⟩ := d
  dsimp only at hv
  clear hx
  by_cases h1 : dl = h
  case neg =>
    rw [if_neg h1] at hv
    subst hv
    have g1 : (dl != h) = true := by rw [bne_iff_ne]; exact h1
    clear h1
    go_enter Try.func57, Try.ntmps57
    go_wp2
    generalize W.alloc (dbx ⟨dc, dl, dn, dp, ds⟩) = w2 at *
    apply wp_one
    case h =>
      refine wp_region_noPanic ?_
      refine wp_region_held_drew (S := fun Z : World => Stay W [(W.heap.size, dbx ⟨dc, dl, dn, dp, ds⟩), (g, sbx c D E L nd cd ne ce nl cl h me ml xa xb)] Z) (by kernel_rfl) (S1.out.drew) (fun hHeld => ?_)
      refine takeR 0 (some 5) ?_ ?_ ?_; rotate_left; (focus (intros; go_simp; (try with_reducible rfl)))
      simp only [aput, lset]
      refine takeR 1 (some 6) ?_ ?_ ?_; rotate_left; (focus (intro w hSw; (try dsimp only at hSw); obtain ⟨z0, z1, z2, z3, z4⟩ := cells5 (Stay.at hSw 0 rfl); have a9 := cell_of_row _ g 9 _ _ _ (Stay.at hSw 1 rfl); go_simp; (try with_reducible rfl)))
      simp only [aput, lset]
      refine takeR 2 (some 7) ?_ ?_ ?_; rotate_left; (focus (intros; go_simp; (try with_reducible rfl)))
      simp only [aput, lset]
      refine takeR 3 (some 8) ?_ ?_ ?_; rotate_left; (focus (intros; go_simp; (try with_reducible rfl)))
      simp only [aput, lset]
      refine takeR 4 (some 9) ?_ ?_ ?_; rotate_left; (focus (intros; go_simp; (try with_reducible rfl)))
      simp only [aput, lset]
      refine takeR 5 (some 10) ?_ ?_ ?_; rotate_left; (focus (intro w hSw; (try dsimp only at hSw); obtain ⟨z0, z1, z2, z3, z4⟩ := cells5 (Stay.at hSw 0 rfl); have a9 := cell_of_row _ g 9 _ _ _ (Stay.at hSw 1 rfl); go_simp; (try with_reducible rfl)))
      simp only [aput, lset]
      refine takeR 6 (some 11) ?_ ?_ ?_; rotate_left; (focus (intros; go_simp; (try with_reducible rfl)))
      simp only [aput, lset]
      refine wpAnyH_done (by kernel_rfl) ?_ _
      exact NoPanic.normal ⟨rfl, rfl, rfl⟩
    case hm =>
      go_wp2
      go_ret
      exact ⟨rfl, S1.out.b.drew⟩
  rw [if_pos h1] at hv
  subst hv
  have g1 : (dl != h) = false := by rw [bne_eq_false_iff_eq]; exact h1
  clear h1
  go_enter Try.func57, Try.ntmps57
  go_wp2
  generalize W.alloc (dbx ⟨dc, dl, dn, dp, ds⟩) = w2 at *
  apply wp_one
  case h =>
    refine wp_region_noPanic ?_
    refine wp_region_held_drew (S := fun Z : World => Stay W [(W.heap.size, dbx ⟨dc, dl, dn, dp, ds⟩), (g, sbx c D E L nd cd ne ce nl cl h me ml xa xb)] Z) (by kernel_rfl) (S1.out.drew) (fun hHeld => ?_)
    refine takeR 0 (some 5) ?_ ?_ ?_; rotate_left; (focus (intros; go_simp; (try with_reducible rfl)))
    simp only [aput, lset]
    refine takeR 1 (some 6) ?_ ?_ ?_; rotate_left; (focus (intro w hSw; (try dsimp only at hSw); obtain ⟨z0, z1, z2, z3, z4⟩ := cells5 (Stay.at hSw 0 rfl); have a9 := cell_of_row _ g 9 _ _ _ (Stay.at hSw 1 rfl); go_simp; (try with_reducible rfl)))
    simp only [aput, lset]
    refine takeR 2 (some 7) ?_ ?_ ?_; rotate_left; (focus (intros; go_simp; (try with_reducible rfl)))
    simp only [aput, lset]
    refine takeR 3 (some 8) ?_ ?_ ?_; rotate_left; (focus (intros; go_simp; (try with_reducible rfl)))
    simp only [aput, lset]
    refine takeR 4 (some 9) ?_ ?_ ?_; rotate_left; (focus (intros; go_simp; (try with_reducible rfl)))
    simp only [aput, lset]
    refine takeR 5 (some 10) ?_ ?_ ?_; rotate_left; (focus (intro w hSw; (try dsimp only at hSw); obtain ⟨z0, z1, z2, z3, z4⟩ := cells5 (Stay.at hSw 0 rfl); have a9 := cell_of_row _ g 9 _ _ _ (Stay.at hSw 1 rfl); go_simp; (try with_reducible rfl)))
    simp only [aput, lset]
    refine takeR 6 (some 11) ?_ ?_ ?_; rotate_left; (focus (intros; go_simp; (try with_reducible rfl)))
    simp only [aput, lset]
    refine wpAnyH_done (by kernel_rfl) ?_ _
    exact NoPanic.normal ⟨rfl, rfl, rfl⟩
  case hm =>
    go_wp2
    go_ret
    exact ⟨rfl, S1.out.b.drew⟩
set_option maxHeartbeats 4000000 in
set_option maxRecDepth 100000 in
theorem te0 (c : Cfg) (D E L : Option Addr) (nd cd ne ce nl cl : Nat) (h : Int) (me ml : Nat) (xa xb : Int) (g : Nat) (t : Int) (d : Dt) (ok : DOk d) (W : World) (hx : W.heap[g]? = some (sbx c D E L nd cd ne ce nl cl h me ml xa xb)) (m : CM W c D E L nd cd ne ce nl cl) (h2 : entAt c d.l = none) :
    Calls Try.prog 55 #[.pointer (some ⟨g, 0, none⟩), .int .i64 t, .agg #[.int .i64 d.c, .int .i64 d.l, .int .i64 d.n, .string d.p, .int .i64 d.s]] W fun r W' => r = .returned (.tuple #[.int .i64 0, .int .i64 1]) ∧ Below W.heap.size W W' := by
  have S1 := Lib.hid (((Stay.start W).add hx).alloc (dbx d))
  have g0 := ent_no h2 ok.l.1
  rw [← m.nE] at g0
  have hnE : ne ≤ 9223372036854775807 := by have := m.mE; unfold maxLen at this; omega
  obtain ⟨dc, dl, dn, dp, ds⟩ := d
  replace g0 : dl ≥ (ne : Int) := g0
  have g1 : decide ((ne : Int) ≤ dl) = true := decide_eq_true g0
  clear hx ok m h2
  go_enter Try.func55, Try.ntmps55
  go_wp2
  generalize W.alloc (dbx ⟨dc, dl, dn, dp, ds⟩) = w2 at *
  apply wp_one
  case h =>
    refine wp_region_noPanic ?_
    refine wp_region_held_drew (S := fun Z : World => Stay W [(W.heap.size, dbx ⟨dc, dl, dn, dp, ds⟩), (g, sbx c D E L nd cd ne ce nl cl h me ml xa xb)] Z) (by kernel_rfl) (S1.out.drew) (fun hHeld => ?_)
    refine takeR 0 (some 10) ?_ ?_ ?_; rotate_left; (focus (intros; go_simp; (try with_reducible rfl)))
    simp only [aput, lset]
    refine takeR 1 (some 11) ?_ ?_ ?_; rotate_left; (focus (intro w hSw; (try dsimp only at hSw); obtain ⟨z0, z1, z2, z3, z4⟩ := cells5 (Stay.at hSw 0 rfl); have a6 := cell_of_row _ g 6 _ _ _ (Stay.at hSw 1 rfl); go_simp; (try with_reducible rfl)))
    simp only [aput, lset]
    refine takeR 2 (some 12) ?_ ?_ ?_; rotate_left; (focus (intros; go_simp; (try with_reducible rfl)))
    simp only [aput, lset]
    refine takeR 3 (some 13) ?_ ?_ ?_; rotate_left; (focus (intros; go_simp; (try with_reducible rfl)))
    simp only [aput, lset]
    refine takeR 4 (some 14) ?_ ?_ ?_; rotate_left; (focus (intros; go_simp; (try with_reducible rfl)))
    simp only [aput, lset]
    refine takeR 5 (some 15) ?_ ?_ ?_; rotate_left; (focus (intros; go_simp; (try with_reducible rfl)))
    simp only [aput, lset]
    refine takeR 6 (some 16) ?_ ?_ ?_; rotate_left; (focus (intro w hSw; (try dsimp only at hSw); obtain ⟨z0, z1, z2, z3, z4⟩ := cells5 (Stay.at hSw 0 rfl); have a6 := cell_of_row _ g 6 _ _ _ (Stay.at hSw 1 rfl); go_simp; (try with_reducible rfl)))
    simp only [aput, lset]
    refine takeR 7 (some 17) ?_ ?_ ?_; rotate_left; (focus (intros; go_simp; (try with_reducible rfl)))
    simp only [aput, lset]
    refine takeR 8 (some 18) ?_ ?_ ?_; rotate_left; (focus (intros; go_simp; (try with_reducible rfl)))
    simp only [aput, lset]
    refine wpAnyH_done (by kernel_rfl) ?_ _
    exact NoPanic.normal ⟨rfl, rfl, rfl⟩
  case hm =>
    go_wp2
    go_ret2
    exact ⟨rfl, S1.out.b.drew⟩
set_option maxHeartbeats 4000000 in
set_option maxRecDepth 100000 in
theorem tl0 (c : Cfg) (D E L : Option Addr) (nd cd ne ce nl cl : Nat) (h : Int) (me ml : Nat) (xa xb : Int) (g : Nat) (d : Dt) (ok : DOk d) (W : World) (hx : W.heap[g]? = some (sbx c D E L nd cd ne ce nl cl h me ml xa xb)) (m : CM W c D E L nd cd ne ce nl cl) (h2 : lnkAt c d.l = none) :
    Calls Try.prog 56 #[.pointer (some ⟨g, 0, none⟩), .agg #[.int .i64 d.c, .int .i64 d.l, .int .i64 d.n, .string d.p, .int .i64 d.s]] W fun r W' => r = .returned (.int .i64 1) ∧ Below W.heap.size W W' := by
  have S1 := Lib.hid (((Stay.start W).add hx).alloc (dbx d))
  have g0 := lnk_no h2 ok.l.1
  rw [← m.nL] at g0
  have hnE : nl ≤ 9223372036854775807 := by have := m.mL; unfold maxLen at this; omega
  obtain ⟨dc, dl, dn, dp, ds⟩ := d
  replace g0 : dl ≥ (nl : Int) := g0
  have g1 : decide ((nl : Int) ≤ dl) = true := decide_eq_true g0
  clear hx ok m h2
  go_enter Try.func56, Try.ntmps56
  go_wp2
  generalize W.alloc (dbx ⟨dc, dl, dn, dp, ds⟩) = w2 at *
  apply wp_one
  case h =>
    refine wp_region_noPanic ?_
    refine wp_region_held_drew (S := fun Z : World => Stay W [(W.heap.size, dbx ⟨dc, dl, dn, dp, ds⟩), (g, sbx c D E L nd cd ne ce nl cl h me ml xa xb)] Z) (by kernel_rfl) (S1.out.drew) (fun hHeld => ?_)
    refine takeR 0 (some 6) ?_ ?_ ?_; rotate_left; (focus (intros; go_simp; (try with_reducible rfl)))
    simp only [aput, lset]
    refine takeR 1 (some 7) ?_ ?_ ?_; rotate_left; (focus (intro w hSw; (try dsimp only at hSw); obtain ⟨z0, z1, z2, z3, z4⟩ := cells5 (Stay.at hSw 0 rfl); have a7 := cell_of_row _ g 7 _ _ _ (Stay.at hSw 1 rfl); go_simp; (try with_reducible rfl)))
    simp only [aput, lset]
    refine takeR 2 (some 8) ?_ ?_ ?_; rotate_left; (focus (intros; go_simp; (try with_reducible rfl)))
    simp only [aput, lset]
    refine takeR 3 (some 9) ?_ ?_ ?_; rotate_left; (focus (intros; go_simp; (try with_reducible rfl)))
    simp only [aput, lset]
    refine takeR 4 (some 10) ?_ ?_ ?_; rotate_left; (focus (intros; go_simp; (try with_reducible rfl)))
    simp only [aput, lset]
    refine takeR 5 (some 11) ?_ ?_ ?_; rotate_left; (focus (intros; go_simp; (try with_reducible rfl)))
    simp only [aput, lset]
    refine takeR 6 (some 12) ?_ ?_ ?_; rotate_left; (focus (intro w hSw; (try dsimp only at hSw); obtain ⟨z0, z1, z2, z3, z4⟩ := cells5 (Stay.at hSw 0 rfl); have a7 := cell_of_row _ g 7 _ _ _ (Stay.at hSw 1 rfl); go_simp; (try with_reducible rfl)))
    simp only [aput, lset]
    refine takeR 7 (some 13) ?_ ?_ ?_; rotate_left; (focus (intros; go_simp; (try with_reducible rfl)))
    simp only [aput, lset]
    refine takeR 8 (some 14) ?_ ?_ ?_; rotate_left; (focus (intros; go_simp; (try with_reducible rfl)))
    simp only [aput, lset]
    refine wpAnyH_done (by kernel_rfl) ?_ _
    exact NoPanic.normal ⟨rfl, rfl, rfl⟩
  case hm =>
    go_wp2
    go_ret
    exact ⟨rfl, S1.out.b.drew⟩
set_option maxHeartbeats 4000000 in
set_option maxRecDepth 100000 in
theorem te1 (c : Cfg) (D E L : Option Addr) (nd cd ne ce nl cl : Nat) (h : Int) (me ml : Nat) (xa xb : Int) (g : Nat) (t : Int) (d : Dt) (ok : DOk d) (W : World) (hx : W.heap[g]? = some (sbx c D E L nd cd ne ce nl cl h me ml xa xb)) (m : CM W c D E L nd cd ne ce nl cl) (e : R4) (h2 : entAt c d.l = some e) (h3 : CrewW.has e.b h = false) :
    Calls Try.prog 55 #[.pointer (some ⟨g, 0, none⟩), .int .i64 t, .agg #[.int .i64 d.c, .int .i64 d.l, .int .i64 d.n, .string d.p, .int .i64 d.s]] W fun r W' => r = .returned (.tuple #[.int .i64 0, .int .i64 1]) ∧ Below W.heap.size W W' := by
  have S1 := Lib.hid (((Stay.start W).add hx).alloc (dbx d))
  have HM := Lib.hid m
  have HN := Lib.hid (Nat.ne_of_lt (lt_of_heap hx))
  obtain ⟨n, hn, hk, hlt⟩ := ent_at h2 ok.l.1
  rw [← m.nE] at hlt
  have hnE : ne ≤ 9223372036854775807 := by have := m.mE; unfold maxLen at this; omega
  obtain ⟨dc, dl, dn, dp, ds⟩ := d
  obtain rfl : dl = (n : Int) := hn
  have HN2 := Lib.hid (show n ≤ 255 by have : (n : Int) ≤ 255 := ok.l.2; omega)
  have HDN := Lib.hid (show 0 ≤ dn ∧ dn ≤ 2147483647 from ok.n)
  have g0 : (n : Int) < (ne : Int) := by omega
  have g1 : decide ((ne : Int) ≤ (n : Int)) = false := decide_eq_false (by omega)
  have g4 : decide (ne ≤ n) = false := decide_eq_false (by omega)
  obtain ⟨b, off, rfl, l0, l1, l2, l3⟩ := ml_at m.he hk
  have E0 := Lib.hid l0
  have E1 := Lib.hid l1
  have E2 := Lib.hid l2
  have E3 := Lib.hid l3
  have HB := Lib.hid (m.he.u32 e (List.mem_of_getElem? hk))
  have HH := Lib.hid (fun W => CrewW.has_any e.b h W HB.out)
  rw [h3] at HH
  clear hx ok m h2 h3 l0 l1 l2 l3
  go_enter Try.func55, Try.ntmps55
  go_wp2
  generalize W.alloc (dbx ⟨dc, (n : Int), dn, dp, ds⟩) = w2 at *
  apply wp_one
  case h =>
    refine wp_region_noPanic ?_
    refine wp_region_held_drew (S := fun Z : World => Stay W [(W.heap.size, dbx ⟨dc, (n : Int), dn, dp, ds⟩), (g, sbx c D (some ⟨b, off, none⟩) L nd cd ne ce nl cl h me ml xa xb)] Z) (by kernel_rfl) (S1.out.drew) (fun hHeld => ?_)
    refine takeR 0 (some 10) ?_ ?_ ?_; rotate_left; (focus (intros; go_simp; (try with_reducible rfl)))
    simp only [aput, lset]
    refine takeR 1 (some 11) ?_ ?_ ?_; rotate_left; (focus (intro w hSw; (try dsimp only at hSw); obtain ⟨z0, z1, z2, z3, z4⟩ := cells5 (Stay.at hSw 0 rfl); have a6 := cell_of_row _ g 6 _ _ _ (Stay.at hSw 1 rfl); go_simp; (try with_reducible rfl)))
    simp only [aput, lset]
    refine takeR 2 (some 12) ?_ ?_ ?_; rotate_left; (focus (intros; go_simp; (try with_reducible rfl)))
    simp only [aput, lset]
    refine takeR 3 (some 13) ?_ ?_ ?_; rotate_left; (focus (intros; go_simp; (try with_reducible rfl)))
    simp only [aput, lset]
    refine takeR 4 (some 14) ?_ ?_ ?_; rotate_left; (focus (intros; go_simp; (try with_reducible rfl)))
    simp only [aput, lset]
    refine takeR 5 (some 15) ?_ ?_ ?_; rotate_left; (focus (intros; go_simp; (try with_reducible rfl)))
    simp only [aput, lset]
    refine takeR 6 (some 16) ?_ ?_ ?_; rotate_left; (focus (intro w hSw; (try dsimp only at hSw); obtain ⟨z0, z1, z2, z3, z4⟩ := cells5 (Stay.at hSw 0 rfl); have a6 := cell_of_row _ g 6 _ _ _ (Stay.at hSw 1 rfl); go_simp; (try with_reducible rfl)))
    simp only [aput, lset]
    refine takeR 7 (some 17) ?_ ?_ ?_; rotate_left; (focus (intros; go_simp; (try with_reducible rfl)))
    simp only [aput, lset]
    refine takeR 8 (some 18) ?_ ?_ ?_; rotate_left; (focus (intros; go_simp; (try with_reducible rfl)))
    simp only [aput, lset]
    refine wpAnyH_done (by kernel_rfl) ?_ _
    exact NoPanic.normal ⟨rfl, rfl, rfl⟩
  case hm =>
    have S3 := Lib.hid S1.out.drew
    have GW := HN
    clear S1
    generalize w2.drew = w3 at *
    go_wp2
    apply wp_some (S := fun Z : World => Stay W [(w3.heap.size, ebx e 56), (W.heap.size, dbx ⟨dc, (n : Int), dn, dp, ds⟩), (g, sbx c D (some ⟨b, off, none⟩) L nd cd ne ce nl cl h me ml xa xb)] Z)
    case h =>
      refine wp_region_noPanic ?_
      refine wp_region_held_drew (S := fun Z : World => Stay W [(W.heap.size, dbx ⟨dc, (n : Int), dn, dp, ds⟩), (g, sbx c D (some ⟨b, off, none⟩) L nd cd ne ce nl cl h me ml xa xb)] Z) (by kernel_rfl) (S3.out.drew) (fun hHeld => ?_)
      refine takeR 0 (some 19) ?_ ?_ ?_; rotate_left; (focus (intros; go_simp; (try with_reducible rfl)))
      simp only [aput, lset]
      refine takeR 1 (some 20) ?_ ?_ ?_; rotate_left; (focus (intros; go_simp; (try with_reducible rfl)))
      simp only [aput, lset]
      refine takeR 2 (some 21) ?_ ?_ ?_; rotate_left; (focus (intros; go_simp; (try with_reducible rfl)))
      simp only [aput, lset]
      refine takeR 3 (some 22) ?_ ?_ ?_; rotate_left; (focus (intros; go_simp; (try with_reducible rfl)))
      simp only [aput, lset]
      refine takeR 4 (some 23) ?_ ?_ ?_; rotate_left; (focus (intro w hSw; (try dsimp only at hSw); obtain ⟨z0, z1, z2, z3, z4⟩ := cells5 (Stay.at hSw 0 rfl); have a6 := cell_of_row _ g 6 _ _ _ (Stay.at hSw 1 rfl); have l0 := cell_keep E0.out hSw.b; have l1 := cell_keep E1.out hSw.b; have l2 := cell_keep E2.out hSw.b; have l3 := cell_keep E3.out hSw.b; go_simp; (try with_reducible rfl)))
      simp only [aput, lset]
      refine takeR 5 (some 24) ?_ ?_ ?_; rotate_left; (focus (intros; go_simp; (try with_reducible rfl)))
      simp only [aput, lset]
      refine takeR 6 (some 25) ?_ ?_ ?_; rotate_left; (focus (intro w hSw; (try dsimp only at hSw); obtain ⟨z0, z1, z2, z3, z4⟩ := cells5 (Stay.at hSw 0 rfl); have a6 := cell_of_row _ g 6 _ _ _ (Stay.at hSw 1 rfl); have l0 := cell_keep E0.out hSw.b; have l1 := cell_keep E1.out hSw.b; have l2 := cell_keep E2.out hSw.b; have l3 := cell_keep E3.out hSw.b; go_simp; (try with_reducible rfl)))
      simp only [aput, lset]
      refine takeR 7 (some 26) ?_ ?_ ?_; rotate_left; (focus (intros; go_simp; (try with_reducible rfl)))
      simp only [aput, lset]
      refine takeR 8 (some 27) ?_ ?_ ?_; rotate_left; (focus (intro w hSw; (try dsimp only at hSw); obtain ⟨z0, z1, z2, z3, z4⟩ := cells5 (Stay.at hSw 0 rfl); have a6 := cell_of_row _ g 6 _ _ _ (Stay.at hSw 1 rfl); have l0 := cell_keep E0.out hSw.b; have l1 := cell_keep E1.out hSw.b; have l2 := cell_keep E2.out hSw.b; have l3 := cell_keep E3.out hSw.b; go_simp; (try with_reducible rfl)))
      simp only [aput, lset]
      refine wpAnyH_ready (rs := [9]) (by kernel_rfl) (by simp) ?_
      refine AllReadyH.cons (o := ⟨some 8, _, _, _, _, _⟩) rfl (fun K hK => ?_) AllReadyH.nil
      rw [if_pos (by kernel_rfl)]
      go_simp
      have hS9 := Stay.next hHeld (al (Below.refl _ _) (zbx 56))
      have B9 : (World.alloc w3.drew (zbx 56)).heap[w3.heap.size]? = some (zbx 56) := heap_alloc_new w3.drew (zbx 56)
      go_simp
      refine hK.out _ _ (by assumption) (fun hHeld => ?_)
      clear hK K
      refine wpAnyH_ready (rs := [10]) (by kernel_rfl) (by simp) ?_
      refine AllReadyH.cons (o := ⟨none, _, _, _, _, _⟩) rfl (fun K hK => ?_) AllReadyH.nil
      rw [if_pos (by kernel_rfl)]
      go_simp
      have HB := Lib.hid ((S3.out.alloc (ebx e 56)).drew)
      have hS10 := (S3.out.next (al (Below.refl _ _) (ebx e 56))).drew
      go_simp
      refine hK.out _ _ (by assumption) (fun hHeld => ?_)
      clear hK K
      refine wpAnyH_done (by kernel_rfl) ?_ _
      exact NoPanic.normal ⟨rfl, rfl, HB.out⟩
    case hm =>
      rintro w4 S4
      have S4 := Lib.hid S4
      generalize w3.heap.size = q at *
      obtain ⟨y0, y1, y2, y3⟩ := PlanW.cells4 (S4.out.at 0 rfl)
      obtain ⟨z0, z1, z2, z3, z4⟩ := cells5 (S4.out.at 1 rfl)
      go_wp2
      apply wp_one
      case h =>
        refine wp_region_noPanic ?_
        refine wp_region_held_drew (S := fun Z : World => Stay W [(q, ebx e 56), (W.heap.size, dbx ⟨dc, (n : Int), dn, dp, ds⟩), (g, sbx c D (some ⟨b, off, none⟩) L nd cd ne ce nl cl h me ml xa xb)] Z) (by kernel_rfl) (S4.out.drew) (fun hHeld => ?_)
        refine takeR 0 (some 28) ?_ ?_ ?_; rotate_left; (focus (intros; go_simp; (try with_reducible rfl)))
        simp only [aput, lset]
        refine takeR 1 (some 29) ?_ ?_ ?_; rotate_left; (focus (intro w hSw; (try dsimp only at hSw); obtain ⟨y0, y1, y2, y3⟩ := PlanW.cells4 (Stay.at hSw 0 rfl); obtain ⟨z0, z1, z2, z3, z4⟩ := cells5 (Stay.at hSw 1 rfl); have a9 := cell_of_row _ g 9 _ _ _ (Stay.at hSw 2 rfl); go_simp; (try with_reducible rfl)))
        simp only [aput, lset]
        refine takeR 2 (some 30) ?_ ?_ ?_; rotate_left; (focus (intros; go_simp; (try with_reducible rfl)))
        simp only [aput, lset]
        refine takeR 3 (some 31) ?_ ?_ ?_; rotate_left; (focus (intros; go_simp; (try with_reducible rfl)))
        simp only [aput, lset]
        refine takeR 4 (some 32) ?_ ?_ ?_; rotate_left; (focus (intros; go_simp; (try with_reducible rfl)))
        simp only [aput, lset]
        refine takeR 5 (some 33) ?_ ?_ ?_; rotate_left; (focus (intro w hSw; (try dsimp only at hSw); obtain ⟨y0, y1, y2, y3⟩ := PlanW.cells4 (Stay.at hSw 0 rfl); obtain ⟨z0, z1, z2, z3, z4⟩ := cells5 (Stay.at hSw 1 rfl); have a9 := cell_of_row _ g 9 _ _ _ (Stay.at hSw 2 rfl); go_simp; (try with_reducible rfl)))
        simp only [aput, lset]
        refine wpAnyH_ready (rs := [6]) (by kernel_rfl) (by simp) ?_
        refine AllReadyH.cons (o := ⟨some 34, _, _, _, _, _⟩) rfl (fun K hK => ?_) AllReadyH.nil
        rw [if_pos (by kernel_rfl)]
        go_simp
        refine (HH.out _).mono ?_
        rintro r w9 ⟨rfl, hw9⟩
        obtain rfl := hw9.symm
        go_simp
        refine hK.out _ _ (by assumption) (fun hHeld => ?_)
        clear hK K
        refine takeR 7 (some 35) ?_ ?_ ?_; rotate_left; (focus (intros; go_simp; (try with_reducible rfl)))
        simp only [aput, lset]
        refine takeR 8 (some 36) ?_ ?_ ?_; rotate_left; (focus (intros; go_simp; (try with_reducible rfl)))
        simp only [aput, lset]
        refine skipR 9 (some 37) ?_
        simp only [aput, lset]
        refine skipR 10 (some 38) ?_
        simp only [aput, lset]
        refine skipR 11 (some 39) ?_
        simp only [aput, lset]
        refine skipR 12 (some 40) ?_
        simp only [aput, lset]
        refine skipR 13 (some 41) ?_
        simp only [aput, lset]
        refine takeR 14 (some 42) ?_ ?_ ?_; rotate_left; (focus (intros; go_simp; (try with_reducible rfl)))
        simp only [aput, lset]
        refine wpAnyH_done (by kernel_rfl) ?_ _
        exact NoPanic.normal ⟨rfl, rfl, rfl⟩
      case hm =>
        go_wp2
        go_ret2
        exact ⟨rfl, S4.out.b.drew⟩
set_option maxHeartbeats 4000000 in
set_option maxRecDepth 100000 in
theorem tl1 (c : Cfg) (D E L : Option Addr) (nd cd ne ce nl cl : Nat) (h : Int) (me ml : Nat) (xa xb : Int) (g : Nat) (d : Dt) (ok : DOk d) (W : World) (hx : W.heap[g]? = some (sbx c D E L nd cd ne ce nl cl h me ml xa xb)) (m : CM W c D E L nd cd ne ce nl cl) (e : R4) (h2 : lnkAt c d.l = some e) (h3 : CrewW.has e.b h = false) :
    Calls Try.prog 56 #[.pointer (some ⟨g, 0, none⟩), .agg #[.int .i64 d.c, .int .i64 d.l, .int .i64 d.n, .string d.p, .int .i64 d.s]] W fun r W' => r = .returned (.int .i64 1) ∧ Below W.heap.size W W' := by
  have S1 := Lib.hid (((Stay.start W).add hx).alloc (dbx d))
  have HM := Lib.hid m
  have HN := Lib.hid (Nat.ne_of_lt (lt_of_heap hx))
  obtain ⟨n, hn, hk, hlt⟩ := lnk_at h2 ok.l.1
  rw [← m.nL] at hlt
  have hnE : nl ≤ 9223372036854775807 := by have := m.mL; unfold maxLen at this; omega
  obtain ⟨dc, dl, dn, dp, ds⟩ := d
  obtain rfl : dl = (n : Int) := hn
  have HN2 := Lib.hid (show n ≤ 255 by have : (n : Int) ≤ 255 := ok.l.2; omega)
  have HDN := Lib.hid (show 0 ≤ dn ∧ dn ≤ 2147483647 from ok.n)
  have g0 : (n : Int) < (nl : Int) := by omega
  have g1 : decide ((nl : Int) ≤ (n : Int)) = false := decide_eq_false (by omega)
  have g4 : decide (nl ≤ n) = false := decide_eq_false (by omega)
  obtain ⟨b, off, rfl, l0, l1, l2, l3⟩ := ml_at m.hl hk
  have E0 := Lib.hid l0
  have E1 := Lib.hid l1
  have E2 := Lib.hid l2
  have E3 := Lib.hid l3
  have HB := Lib.hid (m.hl.u32 e (List.mem_of_getElem? hk))
  have HH := Lib.hid (fun W => CrewW.has_any e.b h W HB.out)
  rw [h3] at HH
  clear hx ok m h2 h3 l0 l1 l2 l3
  go_enter Try.func56, Try.ntmps56
  go_wp2
  generalize W.alloc (dbx ⟨dc, (n : Int), dn, dp, ds⟩) = w2 at *
  apply wp_one
  case h =>
    refine wp_region_noPanic ?_
    refine wp_region_held_drew (S := fun Z : World => Stay W [(W.heap.size, dbx ⟨dc, (n : Int), dn, dp, ds⟩), (g, sbx c D E (some ⟨b, off, none⟩) nd cd ne ce nl cl h me ml xa xb)] Z) (by kernel_rfl) (S1.out.drew) (fun hHeld => ?_)
    refine takeR 0 (some 6) ?_ ?_ ?_; rotate_left; (focus (intros; go_simp; (try with_reducible rfl)))
    simp only [aput, lset]
    refine takeR 1 (some 7) ?_ ?_ ?_; rotate_left; (focus (intro w hSw; (try dsimp only at hSw); obtain ⟨z0, z1, z2, z3, z4⟩ := cells5 (Stay.at hSw 0 rfl); have a7 := cell_of_row _ g 7 _ _ _ (Stay.at hSw 1 rfl); go_simp; (try with_reducible rfl)))
    simp only [aput, lset]
    refine takeR 2 (some 8) ?_ ?_ ?_; rotate_left; (focus (intros; go_simp; (try with_reducible rfl)))
    simp only [aput, lset]
    refine takeR 3 (some 9) ?_ ?_ ?_; rotate_left; (focus (intros; go_simp; (try with_reducible rfl)))
    simp only [aput, lset]
    refine takeR 4 (some 10) ?_ ?_ ?_; rotate_left; (focus (intros; go_simp; (try with_reducible rfl)))
    simp only [aput, lset]
    refine takeR 5 (some 11) ?_ ?_ ?_; rotate_left; (focus (intros; go_simp; (try with_reducible rfl)))
    simp only [aput, lset]
    refine takeR 6 (some 12) ?_ ?_ ?_; rotate_left; (focus (intro w hSw; (try dsimp only at hSw); obtain ⟨z0, z1, z2, z3, z4⟩ := cells5 (Stay.at hSw 0 rfl); have a7 := cell_of_row _ g 7 _ _ _ (Stay.at hSw 1 rfl); go_simp; (try with_reducible rfl)))
    simp only [aput, lset]
    refine takeR 7 (some 13) ?_ ?_ ?_; rotate_left; (focus (intros; go_simp; (try with_reducible rfl)))
    simp only [aput, lset]
    refine takeR 8 (some 14) ?_ ?_ ?_; rotate_left; (focus (intros; go_simp; (try with_reducible rfl)))
    simp only [aput, lset]
    refine wpAnyH_done (by kernel_rfl) ?_ _
    exact NoPanic.normal ⟨rfl, rfl, rfl⟩
  case hm =>
    have S3 := Lib.hid S1.out.drew
    have GW := HN
    clear S1
    generalize w2.drew = w3 at *
    go_wp2
    apply wp_some (S := fun Z : World => Stay W [(w3.heap.size, ebx e 64), (W.heap.size, dbx ⟨dc, (n : Int), dn, dp, ds⟩), (g, sbx c D E (some ⟨b, off, none⟩) nd cd ne ce nl cl h me ml xa xb)] Z)
    case h =>
      refine wp_region_noPanic ?_
      refine wp_region_held_drew (S := fun Z : World => Stay W [(W.heap.size, dbx ⟨dc, (n : Int), dn, dp, ds⟩), (g, sbx c D E (some ⟨b, off, none⟩) nd cd ne ce nl cl h me ml xa xb)] Z) (by kernel_rfl) (S3.out.drew) (fun hHeld => ?_)
      refine takeR 0 (some 15) ?_ ?_ ?_; rotate_left; (focus (intros; go_simp; (try with_reducible rfl)))
      simp only [aput, lset]
      refine takeR 1 (some 16) ?_ ?_ ?_; rotate_left; (focus (intros; go_simp; (try with_reducible rfl)))
      simp only [aput, lset]
      refine takeR 2 (some 17) ?_ ?_ ?_; rotate_left; (focus (intros; go_simp; (try with_reducible rfl)))
      simp only [aput, lset]
      refine takeR 3 (some 18) ?_ ?_ ?_; rotate_left; (focus (intros; go_simp; (try with_reducible rfl)))
      simp only [aput, lset]
      refine takeR 4 (some 19) ?_ ?_ ?_; rotate_left; (focus (intro w hSw; (try dsimp only at hSw); obtain ⟨z0, z1, z2, z3, z4⟩ := cells5 (Stay.at hSw 0 rfl); have a7 := cell_of_row _ g 7 _ _ _ (Stay.at hSw 1 rfl); have l0 := cell_keep E0.out hSw.b; have l1 := cell_keep E1.out hSw.b; have l2 := cell_keep E2.out hSw.b; have l3 := cell_keep E3.out hSw.b; go_simp; (try with_reducible rfl)))
      simp only [aput, lset]
      refine takeR 5 (some 20) ?_ ?_ ?_; rotate_left; (focus (intros; go_simp; (try with_reducible rfl)))
      simp only [aput, lset]
      refine takeR 6 (some 21) ?_ ?_ ?_; rotate_left; (focus (intro w hSw; (try dsimp only at hSw); obtain ⟨z0, z1, z2, z3, z4⟩ := cells5 (Stay.at hSw 0 rfl); have a7 := cell_of_row _ g 7 _ _ _ (Stay.at hSw 1 rfl); have l0 := cell_keep E0.out hSw.b; have l1 := cell_keep E1.out hSw.b; have l2 := cell_keep E2.out hSw.b; have l3 := cell_keep E3.out hSw.b; go_simp; (try with_reducible rfl)))
      simp only [aput, lset]
      refine takeR 7 (some 22) ?_ ?_ ?_; rotate_left; (focus (intros; go_simp; (try with_reducible rfl)))
      simp only [aput, lset]
      refine takeR 8 (some 23) ?_ ?_ ?_; rotate_left; (focus (intro w hSw; (try dsimp only at hSw); obtain ⟨z0, z1, z2, z3, z4⟩ := cells5 (Stay.at hSw 0 rfl); have a7 := cell_of_row _ g 7 _ _ _ (Stay.at hSw 1 rfl); have l0 := cell_keep E0.out hSw.b; have l1 := cell_keep E1.out hSw.b; have l2 := cell_keep E2.out hSw.b; have l3 := cell_keep E3.out hSw.b; go_simp; (try with_reducible rfl)))
      simp only [aput, lset]
      refine wpAnyH_ready (rs := [9]) (by kernel_rfl) (by simp) ?_
      refine AllReadyH.cons (o := ⟨some 5, _, _, _, _, _⟩) rfl (fun K hK => ?_) AllReadyH.nil
      rw [if_pos (by kernel_rfl)]
      go_simp
      have hS9 := Stay.next hHeld (al (Below.refl _ _) (zbx 64))
      have B9 : (World.alloc w3.drew (zbx 64)).heap[w3.heap.size]? = some (zbx 64) := heap_alloc_new w3.drew (zbx 64)
      go_simp
      refine hK.out _ _ (by assumption) (fun hHeld => ?_)
      clear hK K
      refine wpAnyH_ready (rs := [10]) (by kernel_rfl) (by simp) ?_
      refine AllReadyH.cons (o := ⟨none, _, _, _, _, _⟩) rfl (fun K hK => ?_) AllReadyH.nil
      rw [if_pos (by kernel_rfl)]
      go_simp
      have HB := Lib.hid ((S3.out.alloc (ebx e 64)).drew)
      have hS10 := (S3.out.next (al (Below.refl _ _) (ebx e 64))).drew
      go_simp
      refine hK.out _ _ (by assumption) (fun hHeld => ?_)
      clear hK K
      refine wpAnyH_done (by kernel_rfl) ?_ _
      exact NoPanic.normal ⟨rfl, rfl, HB.out⟩
    case hm =>
      rintro w4 S4
      have S4 := Lib.hid S4
      generalize w3.heap.size = q at *
      obtain ⟨y0, y1, y2, y3⟩ := PlanW.cells4 (S4.out.at 0 rfl)
      obtain ⟨z0, z1, z2, z3, z4⟩ := cells5 (S4.out.at 1 rfl)
      go_wp2
      apply wp_one
      case h =>
        refine wp_region_noPanic ?_
        refine wp_region_held_drew (S := fun Z : World => Stay W [(q, ebx e 64), (W.heap.size, dbx ⟨dc, (n : Int), dn, dp, ds⟩), (g, sbx c D E (some ⟨b, off, none⟩) nd cd ne ce nl cl h me ml xa xb)] Z) (by kernel_rfl) (S4.out.drew) (fun hHeld => ?_)
        refine takeR 0 (some 24) ?_ ?_ ?_; rotate_left; (focus (intros; go_simp; (try with_reducible rfl)))
        simp only [aput, lset]
        refine takeR 1 (some 25) ?_ ?_ ?_; rotate_left; (focus (intro w hSw; (try dsimp only at hSw); obtain ⟨y0, y1, y2, y3⟩ := PlanW.cells4 (Stay.at hSw 0 rfl); obtain ⟨z0, z1, z2, z3, z4⟩ := cells5 (Stay.at hSw 1 rfl); have a9 := cell_of_row _ g 9 _ _ _ (Stay.at hSw 2 rfl); go_simp; (try with_reducible rfl)))
        simp only [aput, lset]
        refine takeR 2 (some 26) ?_ ?_ ?_; rotate_left; (focus (intros; go_simp; (try with_reducible rfl)))
        simp only [aput, lset]
        refine takeR 3 (some 27) ?_ ?_ ?_; rotate_left; (focus (intros; go_simp; (try with_reducible rfl)))
        simp only [aput, lset]
        refine takeR 4 (some 28) ?_ ?_ ?_; rotate_left; (focus (intros; go_simp; (try with_reducible rfl)))
        simp only [aput, lset]
        refine takeR 5 (some 29) ?_ ?_ ?_; rotate_left; (focus (intro w hSw; (try dsimp only at hSw); obtain ⟨y0, y1, y2, y3⟩ := PlanW.cells4 (Stay.at hSw 0 rfl); obtain ⟨z0, z1, z2, z3, z4⟩ := cells5 (Stay.at hSw 1 rfl); have a9 := cell_of_row _ g 9 _ _ _ (Stay.at hSw 2 rfl); go_simp; (try with_reducible rfl)))
        simp only [aput, lset]
        refine wpAnyH_ready (rs := [6]) (by kernel_rfl) (by simp) ?_
        refine AllReadyH.cons (o := ⟨some 30, _, _, _, _, _⟩) rfl (fun K hK => ?_) AllReadyH.nil
        rw [if_pos (by kernel_rfl)]
        go_simp
        refine (HH.out _).mono ?_
        rintro r w9 ⟨rfl, hw9⟩
        obtain rfl := hw9.symm
        go_simp
        refine hK.out _ _ (by assumption) (fun hHeld => ?_)
        clear hK K
        refine takeR 7 (some 31) ?_ ?_ ?_; rotate_left; (focus (intros; go_simp; (try with_reducible rfl)))
        simp only [aput, lset]
        refine takeR 8 (some 32) ?_ ?_ ?_; rotate_left; (focus (intros; go_simp; (try with_reducible rfl)))
        simp only [aput, lset]
        refine skipR 9 (some 33) ?_
        simp only [aput, lset]
        refine skipR 10 (some 34) ?_
        simp only [aput, lset]
        refine skipR 11 (some 35) ?_
        simp only [aput, lset]
        refine skipR 12 (some 36) ?_
        simp only [aput, lset]
        refine skipR 13 (some 37) ?_
        simp only [aput, lset]
        refine takeR 14 (some 38) ?_ ?_ ?_; rotate_left; (focus (intros; go_simp; (try with_reducible rfl)))
        simp only [aput, lset]
        refine wpAnyH_done (by kernel_rfl) ?_ _
        exact NoPanic.normal ⟨rfl, rfl, rfl⟩
      case hm =>
        go_wp2
        go_ret
        exact ⟨rfl, S4.out.b.drew⟩
set_option maxHeartbeats 4000000 in
set_option maxRecDepth 100000 in
theorem te2 (c : Cfg) (D E L : Option Addr) (nd cd ne ce nl cl : Nat) (h : Int) (me ml : Nat) (xa xb : Int) (g : Nat) (t : Int) (d : Dt) (ok : DOk d) (W : World) (hx : W.heap[g]? = some (sbx c D E L nd cd ne ce nl cl h me ml xa xb)) (m : CM W c D E L nd cd ne ce nl cl) (e : R4) (h2 : entAt c d.l = some e) (h3 : CrewW.has e.b h = true) (h4 : e.d ≠ d.s) :
    Calls Try.prog 55 #[.pointer (some ⟨g, 0, none⟩), .int .i64 t, .agg #[.int .i64 d.c, .int .i64 d.l, .int .i64 d.n, .string d.p, .int .i64 d.s]] W fun r W' => r = .returned (.tuple #[.int .i64 0, .int .i64 1]) ∧ Below W.heap.size W W' := by
  have S1 := Lib.hid (((Stay.start W).add hx).alloc (dbx d))
  have HM := Lib.hid m
  have HN := Lib.hid (Nat.ne_of_lt (lt_of_heap hx))
  obtain ⟨n, hn, hk, hlt⟩ := ent_at h2 ok.l.1
  rw [← m.nE] at hlt
  have hnE : ne ≤ 9223372036854775807 := by have := m.mE; unfold maxLen at this; omega
  obtain ⟨dc, dl, dn, dp, ds⟩ := d
  obtain rfl : dl = (n : Int) := hn
  have HN2 := Lib.hid (show n ≤ 255 by have : (n : Int) ≤ 255 := ok.l.2; omega)
  have HDN := Lib.hid (show 0 ≤ dn ∧ dn ≤ 2147483647 from ok.n)
  have g0 : (n : Int) < (ne : Int) := by omega
  have g1 : decide ((ne : Int) ≤ (n : Int)) = false := decide_eq_false (by omega)
  have g4 : decide (ne ≤ n) = false := decide_eq_false (by omega)
  obtain ⟨b, off, rfl, l0, l1, l2, l3⟩ := ml_at m.he hk
  have E0 := Lib.hid l0
  have E1 := Lib.hid l1
  have E2 := Lib.hid l2
  have E3 := Lib.hid l3
  have HB := Lib.hid (m.he.u32 e (List.mem_of_getElem? hk))
  have HH := Lib.hid (fun W => CrewW.has_any e.b h W HB.out)
  rw [h3] at HH
  have g2 : (e.d != ds) = true := by rw [bne_iff_ne]; exact h4
  clear h4
  clear hx ok m h2 h3 l0 l1 l2 l3
  go_enter Try.func55, Try.ntmps55
  go_wp2
  generalize W.alloc (dbx ⟨dc, (n : Int), dn, dp, ds⟩) = w2 at *
  apply wp_one
  case h =>
    refine wp_region_noPanic ?_
    refine wp_region_held_drew (S := fun Z : World => Stay W [(W.heap.size, dbx ⟨dc, (n : Int), dn, dp, ds⟩), (g, sbx c D (some ⟨b, off, none⟩) L nd cd ne ce nl cl h me ml xa xb)] Z) (by kernel_rfl) (S1.out.drew) (fun hHeld => ?_)
    refine takeR 0 (some 10) ?_ ?_ ?_; rotate_left; (focus (intros; go_simp; (try with_reducible rfl)))
    simp only [aput, lset]
    refine takeR 1 (some 11) ?_ ?_ ?_; rotate_left; (focus (intro w hSw; (try dsimp only at hSw); obtain ⟨z0, z1, z2, z3, z4⟩ := cells5 (Stay.at hSw 0 rfl); have a6 := cell_of_row _ g 6 _ _ _ (Stay.at hSw 1 rfl); go_simp; (try with_reducible rfl)))
    simp only [aput, lset]
    refine takeR 2 (some 12) ?_ ?_ ?_; rotate_left; (focus (intros; go_simp; (try with_reducible rfl)))
    simp only [aput, lset]
    refine takeR 3 (some 13) ?_ ?_ ?_; rotate_left; (focus (intros; go_simp; (try with_reducible rfl)))
    simp only [aput, lset]
    refine takeR 4 (some 14) ?_ ?_ ?_; rotate_left; (focus (intros; go_simp; (try with_reducible rfl)))
    simp only [aput, lset]
    refine takeR 5 (some 15) ?_ ?_ ?_; rotate_left; (focus (intros; go_simp; (try with_reducible rfl)))
    simp only [aput, lset]
    refine takeR 6 (some 16) ?_ ?_ ?_; rotate_left; (focus (intro w hSw; (try dsimp only at hSw); obtain ⟨z0, z1, z2, z3, z4⟩ := cells5 (Stay.at hSw 0 rfl); have a6 := cell_of_row _ g 6 _ _ _ (Stay.at hSw 1 rfl); go_simp; (try with_reducible rfl)))
    simp only [aput, lset]
    refine takeR 7 (some 17) ?_ ?_ ?_; rotate_left; (focus (intros; go_simp; (try with_reducible rfl)))
    simp only [aput, lset]
    refine takeR 8 (some 18) ?_ ?_ ?_; rotate_left; (focus (intros; go_simp; (try with_reducible rfl)))
    simp only [aput, lset]
    refine wpAnyH_done (by kernel_rfl) ?_ _
    exact NoPanic.normal ⟨rfl, rfl, rfl⟩
  case hm =>
    have S3 := Lib.hid S1.out.drew
    have GW := HN
    clear S1
    generalize w2.drew = w3 at *
    go_wp2
    apply wp_some (S := fun Z : World => Stay W [(w3.heap.size, ebx e 56), (W.heap.size, dbx ⟨dc, (n : Int), dn, dp, ds⟩), (g, sbx c D (some ⟨b, off, none⟩) L nd cd ne ce nl cl h me ml xa xb)] Z)
    case h =>
      refine wp_region_noPanic ?_
      refine wp_region_held_drew (S := fun Z : World => Stay W [(W.heap.size, dbx ⟨dc, (n : Int), dn, dp, ds⟩), (g, sbx c D (some ⟨b, off, none⟩) L nd cd ne ce nl cl h me ml xa xb)] Z) (by kernel_rfl) (S3.out.drew) (fun hHeld => ?_)
      refine takeR 0 (some 19) ?_ ?_ ?_; rotate_left; (focus (intros; go_simp; (try with_reducible rfl)))
      simp only [aput, lset]
      refine takeR 1 (some 20) ?_ ?_ ?_; rotate_left; (focus (intros; go_simp; (try with_reducible rfl)))
      simp only [aput, lset]
      refine takeR 2 (some 21) ?_ ?_ ?_; rotate_left; (focus (intros; go_simp; (try with_reducible rfl)))
      simp only [aput, lset]
      refine takeR 3 (some 22) ?_ ?_ ?_; rotate_left; (focus (intros; go_simp; (try with_reducible rfl)))
      simp only [aput, lset]
      refine takeR 4 (some 23) ?_ ?_ ?_; rotate_left; (focus (intro w hSw; (try dsimp only at hSw); obtain ⟨z0, z1, z2, z3, z4⟩ := cells5 (Stay.at hSw 0 rfl); have a6 := cell_of_row _ g 6 _ _ _ (Stay.at hSw 1 rfl); have l0 := cell_keep E0.out hSw.b; have l1 := cell_keep E1.out hSw.b; have l2 := cell_keep E2.out hSw.b; have l3 := cell_keep E3.out hSw.b; go_simp; (try with_reducible rfl)))
      simp only [aput, lset]
      refine takeR 5 (some 24) ?_ ?_ ?_; rotate_left; (focus (intros; go_simp; (try with_reducible rfl)))
      simp only [aput, lset]
      refine takeR 6 (some 25) ?_ ?_ ?_; rotate_left; (focus (intro w hSw; (try dsimp only at hSw); obtain ⟨z0, z1, z2, z3, z4⟩ := cells5 (Stay.at hSw 0 rfl); have a6 := cell_of_row _ g 6 _ _ _ (Stay.at hSw 1 rfl); have l0 := cell_keep E0.out hSw.b; have l1 := cell_keep E1.out hSw.b; have l2 := cell_keep E2.out hSw.b; have l3 := cell_keep E3.out hSw.b; go_simp; (try with_reducible rfl)))
      simp only [aput, lset]
      refine takeR 7 (some 26) ?_ ?_ ?_; rotate_left; (focus (intros; go_simp; (try with_reducible rfl)))
      simp only [aput, lset]
      refine takeR 8 (some 27) ?_ ?_ ?_; rotate_left; (focus (intro w hSw; (try dsimp only at hSw); obtain ⟨z0, z1, z2, z3, z4⟩ := cells5 (Stay.at hSw 0 rfl); have a6 := cell_of_row _ g 6 _ _ _ (Stay.at hSw 1 rfl); have l0 := cell_keep E0.out hSw.b; have l1 := cell_keep E1.out hSw.b; have l2 := cell_keep E2.out hSw.b; have l3 := cell_keep E3.out hSw.b; go_simp; (try with_reducible rfl)))
      simp only [aput, lset]
      refine wpAnyH_ready (rs := [9]) (by kernel_rfl) (by simp) ?_
      refine AllReadyH.cons (o := ⟨some 8, _, _, _, _, _⟩) rfl (fun K hK => ?_) AllReadyH.nil
      rw [if_pos (by kernel_rfl)]
      go_simp
      have hS9 := Stay.next hHeld (al (Below.refl _ _) (zbx 56))
      have B9 : (World.alloc w3.drew (zbx 56)).heap[w3.heap.size]? = some (zbx 56) := heap_alloc_new w3.drew (zbx 56)
      go_simp
      refine hK.out _ _ (by assumption) (fun hHeld => ?_)
      clear hK K
      refine wpAnyH_ready (rs := [10]) (by kernel_rfl) (by simp) ?_
      refine AllReadyH.cons (o := ⟨none, _, _, _, _, _⟩) rfl (fun K hK => ?_) AllReadyH.nil
      rw [if_pos (by kernel_rfl)]
      go_simp
      have HB := Lib.hid ((S3.out.alloc (ebx e 56)).drew)
      have hS10 := (S3.out.next (al (Below.refl _ _) (ebx e 56))).drew
      go_simp
      refine hK.out _ _ (by assumption) (fun hHeld => ?_)
      clear hK K
      refine wpAnyH_done (by kernel_rfl) ?_ _
      exact NoPanic.normal ⟨rfl, rfl, HB.out⟩
    case hm =>
      rintro w4 S4
      have S4 := Lib.hid S4
      generalize w3.heap.size = q at *
      obtain ⟨y0, y1, y2, y3⟩ := PlanW.cells4 (S4.out.at 0 rfl)
      obtain ⟨z0, z1, z2, z3, z4⟩ := cells5 (S4.out.at 1 rfl)
      go_wp2
      apply wp_one
      case h =>
        refine wp_region_noPanic ?_
        refine wp_region_held_drew (S := fun Z : World => Stay W [(q, ebx e 56), (W.heap.size, dbx ⟨dc, (n : Int), dn, dp, ds⟩), (g, sbx c D (some ⟨b, off, none⟩) L nd cd ne ce nl cl h me ml xa xb)] Z) (by kernel_rfl) (S4.out.drew) (fun hHeld => ?_)
        refine takeR 0 (some 28) ?_ ?_ ?_; rotate_left; (focus (intros; go_simp; (try with_reducible rfl)))
        simp only [aput, lset]
        refine takeR 1 (some 29) ?_ ?_ ?_; rotate_left; (focus (intro w hSw; (try dsimp only at hSw); obtain ⟨y0, y1, y2, y3⟩ := PlanW.cells4 (Stay.at hSw 0 rfl); obtain ⟨z0, z1, z2, z3, z4⟩ := cells5 (Stay.at hSw 1 rfl); have a9 := cell_of_row _ g 9 _ _ _ (Stay.at hSw 2 rfl); go_simp; (try with_reducible rfl)))
        simp only [aput, lset]
        refine takeR 2 (some 30) ?_ ?_ ?_; rotate_left; (focus (intros; go_simp; (try with_reducible rfl)))
        simp only [aput, lset]
        refine takeR 3 (some 31) ?_ ?_ ?_; rotate_left; (focus (intros; go_simp; (try with_reducible rfl)))
        simp only [aput, lset]
        refine takeR 4 (some 32) ?_ ?_ ?_; rotate_left; (focus (intros; go_simp; (try with_reducible rfl)))
        simp only [aput, lset]
        refine takeR 5 (some 33) ?_ ?_ ?_; rotate_left; (focus (intro w hSw; (try dsimp only at hSw); obtain ⟨y0, y1, y2, y3⟩ := PlanW.cells4 (Stay.at hSw 0 rfl); obtain ⟨z0, z1, z2, z3, z4⟩ := cells5 (Stay.at hSw 1 rfl); have a9 := cell_of_row _ g 9 _ _ _ (Stay.at hSw 2 rfl); go_simp; (try with_reducible rfl)))
        simp only [aput, lset]
        refine wpAnyH_ready (rs := [6]) (by kernel_rfl) (by simp) ?_
        refine AllReadyH.cons (o := ⟨some 34, _, _, _, _, _⟩) rfl (fun K hK => ?_) AllReadyH.nil
        rw [if_pos (by kernel_rfl)]
        go_simp
        refine (HH.out _).mono ?_
        rintro r w9 ⟨rfl, hw9⟩
        obtain rfl := hw9.symm
        go_simp
        refine hK.out _ _ (by assumption) (fun hHeld => ?_)
        clear hK K
        refine takeR 7 (some 35) ?_ ?_ ?_; rotate_left; (focus (intros; go_simp; (try with_reducible rfl)))
        simp only [aput, lset]
        refine takeR 8 (some 36) ?_ ?_ ?_; rotate_left; (focus (intros; go_simp; (try with_reducible rfl)))
        simp only [aput, lset]
        refine takeR 9 (some 37) ?_ ?_ ?_; rotate_left; (focus (intros; go_simp; (try with_reducible rfl)))
        simp only [aput, lset]
        refine takeR 10 (some 38) ?_ ?_ ?_; rotate_left; (focus (intro w hSw; (try dsimp only at hSw); obtain ⟨y0, y1, y2, y3⟩ := PlanW.cells4 (Stay.at hSw 0 rfl); obtain ⟨z0, z1, z2, z3, z4⟩ := cells5 (Stay.at hSw 1 rfl); have a9 := cell_of_row _ g 9 _ _ _ (Stay.at hSw 2 rfl); go_simp; (try with_reducible rfl)))
        simp only [aput, lset]
        refine takeR 11 (some 39) ?_ ?_ ?_; rotate_left; (focus (intros; go_simp; (try with_reducible rfl)))
        simp only [aput, lset]
        refine takeR 12 (some 40) ?_ ?_ ?_; rotate_left; (focus (intro w hSw; (try dsimp only at hSw); obtain ⟨y0, y1, y2, y3⟩ := PlanW.cells4 (Stay.at hSw 0 rfl); obtain ⟨z0, z1, z2, z3, z4⟩ := cells5 (Stay.at hSw 1 rfl); have a9 := cell_of_row _ g 9 _ _ _ (Stay.at hSw 2 rfl); go_simp; (try with_reducible rfl)))
        simp only [aput, lset]
        refine takeR 13 (some 41) ?_ ?_ ?_; rotate_left; (focus (intros; go_simp; (try with_reducible rfl)))
        simp only [aput, lset]
        refine takeR 14 (some 42) ?_ ?_ ?_; rotate_left; (focus (intros; go_simp; (try with_reducible rfl)))
        simp only [aput, lset]
        refine wpAnyH_done (by kernel_rfl) ?_ _
        exact NoPanic.normal ⟨rfl, rfl, rfl⟩
      case hm =>
        go_wp2
        go_ret2
        exact ⟨rfl, S4.out.b.drew⟩
set_option maxHeartbeats 4000000 in
set_option maxRecDepth 100000 in
theorem tl2 (c : Cfg) (D E L : Option Addr) (nd cd ne ce nl cl : Nat) (h : Int) (me ml : Nat) (xa xb : Int) (g : Nat) (d : Dt) (ok : DOk d) (W : World) (hx : W.heap[g]? = some (sbx c D E L nd cd ne ce nl cl h me ml xa xb)) (m : CM W c D E L nd cd ne ce nl cl) (e : R4) (h2 : lnkAt c d.l = some e) (h3 : CrewW.has e.b h = true) (h4 : e.d < d.s) :
    Calls Try.prog 56 #[.pointer (some ⟨g, 0, none⟩), .agg #[.int .i64 d.c, .int .i64 d.l, .int .i64 d.n, .string d.p, .int .i64 d.s]] W fun r W' => r = .returned (.int .i64 1) ∧ Below W.heap.size W W' := by
  have S1 := Lib.hid (((Stay.start W).add hx).alloc (dbx d))
  have HM := Lib.hid m
  have HN := Lib.hid (Nat.ne_of_lt (lt_of_heap hx))
  obtain ⟨n, hn, hk, hlt⟩ := lnk_at h2 ok.l.1
  rw [← m.nL] at hlt
  have hnE : nl ≤ 9223372036854775807 := by have := m.mL; unfold maxLen at this; omega
  obtain ⟨dc, dl, dn, dp, ds⟩ := d
  obtain rfl : dl = (n : Int) := hn
  have HN2 := Lib.hid (show n ≤ 255 by have : (n : Int) ≤ 255 := ok.l.2; omega)
  have HDN := Lib.hid (show 0 ≤ dn ∧ dn ≤ 2147483647 from ok.n)
  have g0 : (n : Int) < (nl : Int) := by omega
  have g1 : decide ((nl : Int) ≤ (n : Int)) = false := decide_eq_false (by omega)
  have g4 : decide (nl ≤ n) = false := decide_eq_false (by omega)
  obtain ⟨b, off, rfl, l0, l1, l2, l3⟩ := ml_at m.hl hk
  have E0 := Lib.hid l0
  have E1 := Lib.hid l1
  have E2 := Lib.hid l2
  have E3 := Lib.hid l3
  have HB := Lib.hid (m.hl.u32 e (List.mem_of_getElem? hk))
  have HH := Lib.hid (fun W => CrewW.has_any e.b h W HB.out)
  rw [h3] at HH
  have g2 : decide (e.d < ds) = true := decide_eq_true h4
  have g5 : ds > e.d := h4
  clear h4
  clear hx ok m h2 h3 l0 l1 l2 l3
  go_enter Try.func56, Try.ntmps56
  go_wp2
  generalize W.alloc (dbx ⟨dc, (n : Int), dn, dp, ds⟩) = w2 at *
  apply wp_one
  case h =>
    refine wp_region_noPanic ?_
    refine wp_region_held_drew (S := fun Z : World => Stay W [(W.heap.size, dbx ⟨dc, (n : Int), dn, dp, ds⟩), (g, sbx c D E (some ⟨b, off, none⟩) nd cd ne ce nl cl h me ml xa xb)] Z) (by kernel_rfl) (S1.out.drew) (fun hHeld => ?_)
    refine takeR 0 (some 6) ?_ ?_ ?_; rotate_left; (focus (intros; go_simp; (try with_reducible rfl)))
    simp only [aput, lset]
    refine takeR 1 (some 7) ?_ ?_ ?_; rotate_left; (focus (intro w hSw; (try dsimp only at hSw); obtain ⟨z0, z1, z2, z3, z4⟩ := cells5 (Stay.at hSw 0 rfl); have a7 := cell_of_row _ g 7 _ _ _ (Stay.at hSw 1 rfl); go_simp; (try with_reducible rfl)))
    simp only [aput, lset]
    refine takeR 2 (some 8) ?_ ?_ ?_; rotate_left; (focus (intros; go_simp; (try with_reducible rfl)))
    simp only [aput, lset]
    refine takeR 3 (some 9) ?_ ?_ ?_; rotate_left; (focus (intros; go_simp; (try with_reducible rfl)))
    simp only [aput, lset]
    refine takeR 4 (some 10) ?_ ?_ ?_; rotate_left; (focus (intros; go_simp; (try with_reducible rfl)))
    simp only [aput, lset]
    refine takeR 5 (some 11) ?_ ?_ ?_; rotate_left; (focus (intros; go_simp; (try with_reducible rfl)))
    simp only [aput, lset]
    refine takeR 6 (some 12) ?_ ?_ ?_; rotate_left; (focus (intro w hSw; (try dsimp only at hSw); obtain ⟨z0, z1, z2, z3, z4⟩ := cells5 (Stay.at hSw 0 rfl); have a7 := cell_of_row _ g 7 _ _ _ (Stay.at hSw 1 rfl); go_simp; (try with_reducible rfl)))
    simp only [aput, lset]
    refine takeR 7 (some 13) ?_ ?_ ?_; rotate_left; (focus (intros; go_simp; (try with_reducible rfl)))
    simp only [aput, lset]
    refine takeR 8 (some 14) ?_ ?_ ?_; rotate_left; (focus (intros; go_simp; (try with_reducible rfl)))
    simp only [aput, lset]
    refine wpAnyH_done (by kernel_rfl) ?_ _
    exact NoPanic.normal ⟨rfl, rfl, rfl⟩
  case hm =>
    have S3 := Lib.hid S1.out.drew
    have GW := HN
    clear S1
    generalize w2.drew = w3 at *
    go_wp2
    apply wp_some (S := fun Z : World => Stay W [(w3.heap.size, ebx e 64), (W.heap.size, dbx ⟨dc, (n : Int), dn, dp, ds⟩), (g, sbx c D E (some ⟨b, off, none⟩) nd cd ne ce nl cl h me ml xa xb)] Z)
    case h =>
      refine wp_region_noPanic ?_
      refine wp_region_held_drew (S := fun Z : World => Stay W [(W.heap.size, dbx ⟨dc, (n : Int), dn, dp, ds⟩), (g, sbx c D E (some ⟨b, off, none⟩) nd cd ne ce nl cl h me ml xa xb)] Z) (by kernel_rfl) (S3.out.drew) (fun hHeld => ?_)
      refine takeR 0 (some 15) ?_ ?_ ?_; rotate_left; (focus (intros; go_simp; (try with_reducible rfl)))
      simp only [aput, lset]
      refine takeR 1 (some 16) ?_ ?_ ?_; rotate_left; (focus (intros; go_simp; (try with_reducible rfl)))
      simp only [aput, lset]
      refine takeR 2 (some 17) ?_ ?_ ?_; rotate_left; (focus (intros; go_simp; (try with_reducible rfl)))
      simp only [aput, lset]
      refine takeR 3 (some 18) ?_ ?_ ?_; rotate_left; (focus (intros; go_simp; (try with_reducible rfl)))
      simp only [aput, lset]
      refine takeR 4 (some 19) ?_ ?_ ?_; rotate_left; (focus (intro w hSw; (try dsimp only at hSw); obtain ⟨z0, z1, z2, z3, z4⟩ := cells5 (Stay.at hSw 0 rfl); have a7 := cell_of_row _ g 7 _ _ _ (Stay.at hSw 1 rfl); have l0 := cell_keep E0.out hSw.b; have l1 := cell_keep E1.out hSw.b; have l2 := cell_keep E2.out hSw.b; have l3 := cell_keep E3.out hSw.b; go_simp; (try with_reducible rfl)))
      simp only [aput, lset]
      refine takeR 5 (some 20) ?_ ?_ ?_; rotate_left; (focus (intros; go_simp; (try with_reducible rfl)))
      simp only [aput, lset]
      refine takeR 6 (some 21) ?_ ?_ ?_; rotate_left; (focus (intro w hSw; (try dsimp only at hSw); obtain ⟨z0, z1, z2, z3, z4⟩ := cells5 (Stay.at hSw 0 rfl); have a7 := cell_of_row _ g 7 _ _ _ (Stay.at hSw 1 rfl); have l0 := cell_keep E0.out hSw.b; have l1 := cell_keep E1.out hSw.b; have l2 := cell_keep E2.out hSw.b; have l3 := cell_keep E3.out hSw.b; go_simp; (try with_reducible rfl)))
      simp only [aput, lset]
      refine takeR 7 (some 22) ?_ ?_ ?_; rotate_left; (focus (intros; go_simp; (try with_reducible rfl)))
      simp only [aput, lset]
      refine takeR 8 (some 23) ?_ ?_ ?_; rotate_left; (focus (intro w hSw; (try dsimp only at hSw); obtain ⟨z0, z1, z2, z3, z4⟩ := cells5 (Stay.at hSw 0 rfl); have a7 := cell_of_row _ g 7 _ _ _ (Stay.at hSw 1 rfl); have l0 := cell_keep E0.out hSw.b; have l1 := cell_keep E1.out hSw.b; have l2 := cell_keep E2.out hSw.b; have l3 := cell_keep E3.out hSw.b; go_simp; (try with_reducible rfl)))
      simp only [aput, lset]
      refine wpAnyH_ready (rs := [9]) (by kernel_rfl) (by simp) ?_
      refine AllReadyH.cons (o := ⟨some 5, _, _, _, _, _⟩) rfl (fun K hK => ?_) AllReadyH.nil
      rw [if_pos (by kernel_rfl)]
      go_simp
      have hS9 := Stay.next hHeld (al (Below.refl _ _) (zbx 64))
      have B9 : (World.alloc w3.drew (zbx 64)).heap[w3.heap.size]? = some (zbx 64) := heap_alloc_new w3.drew (zbx 64)
      go_simp
      refine hK.out _ _ (by assumption) (fun hHeld => ?_)
      clear hK K
      refine wpAnyH_ready (rs := [10]) (by kernel_rfl) (by simp) ?_
      refine AllReadyH.cons (o := ⟨none, _, _, _, _, _⟩) rfl (fun K hK => ?_) AllReadyH.nil
      rw [if_pos (by kernel_rfl)]
      go_simp
      have HB := Lib.hid ((S3.out.alloc (ebx e 64)).drew)
      have hS10 := (S3.out.next (al (Below.refl _ _) (ebx e 64))).drew
      go_simp
      refine hK.out _ _ (by assumption) (fun hHeld => ?_)
      clear hK K
      refine wpAnyH_done (by kernel_rfl) ?_ _
      exact NoPanic.normal ⟨rfl, rfl, HB.out⟩
    case hm =>
      rintro w4 S4
      have S4 := Lib.hid S4
      generalize w3.heap.size = q at *
      obtain ⟨y0, y1, y2, y3⟩ := PlanW.cells4 (S4.out.at 0 rfl)
      obtain ⟨z0, z1, z2, z3, z4⟩ := cells5 (S4.out.at 1 rfl)
      go_wp2
      apply wp_one
      case h =>
        refine wp_region_noPanic ?_
        refine wp_region_held_drew (S := fun Z : World => Stay W [(q, ebx e 64), (W.heap.size, dbx ⟨dc, (n : Int), dn, dp, ds⟩), (g, sbx c D E (some ⟨b, off, none⟩) nd cd ne ce nl cl h me ml xa xb)] Z) (by kernel_rfl) (S4.out.drew) (fun hHeld => ?_)
        refine takeR 0 (some 24) ?_ ?_ ?_; rotate_left; (focus (intros; go_simp; (try with_reducible rfl)))
        simp only [aput, lset]
        refine takeR 1 (some 25) ?_ ?_ ?_; rotate_left; (focus (intro w hSw; (try dsimp only at hSw); obtain ⟨y0, y1, y2, y3⟩ := PlanW.cells4 (Stay.at hSw 0 rfl); obtain ⟨z0, z1, z2, z3, z4⟩ := cells5 (Stay.at hSw 1 rfl); have a9 := cell_of_row _ g 9 _ _ _ (Stay.at hSw 2 rfl); go_simp; (try with_reducible rfl)))
        simp only [aput, lset]
        refine takeR 2 (some 26) ?_ ?_ ?_; rotate_left; (focus (intros; go_simp; (try with_reducible rfl)))
        simp only [aput, lset]
        refine takeR 3 (some 27) ?_ ?_ ?_; rotate_left; (focus (intros; go_simp; (try with_reducible rfl)))
        simp only [aput, lset]
        refine takeR 4 (some 28) ?_ ?_ ?_; rotate_left; (focus (intros; go_simp; (try with_reducible rfl)))
        simp only [aput, lset]
        refine takeR 5 (some 29) ?_ ?_ ?_; rotate_left; (focus (intro w hSw; (try dsimp only at hSw); obtain ⟨y0, y1, y2, y3⟩ := PlanW.cells4 (Stay.at hSw 0 rfl); obtain ⟨z0, z1, z2, z3, z4⟩ := cells5 (Stay.at hSw 1 rfl); have a9 := cell_of_row _ g 9 _ _ _ (Stay.at hSw 2 rfl); go_simp; (try with_reducible rfl)))
        simp only [aput, lset]
        refine wpAnyH_ready (rs := [6]) (by kernel_rfl) (by simp) ?_
        refine AllReadyH.cons (o := ⟨some 30, _, _, _, _, _⟩) rfl (fun K hK => ?_) AllReadyH.nil
        rw [if_pos (by kernel_rfl)]
        go_simp
        refine (HH.out _).mono ?_
        rintro r w9 ⟨rfl, hw9⟩
        obtain rfl := hw9.symm
        go_simp
        refine hK.out _ _ (by assumption) (fun hHeld => ?_)
        clear hK K
        refine takeR 7 (some 31) ?_ ?_ ?_; rotate_left; (focus (intros; go_simp; (try with_reducible rfl)))
        simp only [aput, lset]
        refine takeR 8 (some 32) ?_ ?_ ?_; rotate_left; (focus (intros; go_simp; (try with_reducible rfl)))
        simp only [aput, lset]
        refine takeR 9 (some 33) ?_ ?_ ?_; rotate_left; (focus (intros; go_simp; (try with_reducible rfl)))
        simp only [aput, lset]
        refine takeR 10 (some 34) ?_ ?_ ?_; rotate_left; (focus (intro w hSw; (try dsimp only at hSw); obtain ⟨y0, y1, y2, y3⟩ := PlanW.cells4 (Stay.at hSw 0 rfl); obtain ⟨z0, z1, z2, z3, z4⟩ := cells5 (Stay.at hSw 1 rfl); have a9 := cell_of_row _ g 9 _ _ _ (Stay.at hSw 2 rfl); go_simp; (try with_reducible rfl)))
        simp only [aput, lset]
        refine takeR 11 (some 35) ?_ ?_ ?_; rotate_left; (focus (intros; go_simp; (try with_reducible rfl)))
        simp only [aput, lset]
        refine takeR 12 (some 36) ?_ ?_ ?_; rotate_left; (focus (intro w hSw; (try dsimp only at hSw); obtain ⟨y0, y1, y2, y3⟩ := PlanW.cells4 (Stay.at hSw 0 rfl); obtain ⟨z0, z1, z2, z3, z4⟩ := cells5 (Stay.at hSw 1 rfl); have a9 := cell_of_row _ g 9 _ _ _ (Stay.at hSw 2 rfl); go_simp; (try with_reducible rfl)))
        simp only [aput, lset]
        refine takeR 13 (some 37) ?_ ?_ ?_; rotate_left; (focus (intros; go_simp; (try with_reducible rfl)))
        simp only [aput, lset]
        refine takeR 14 (some 38) ?_ ?_ ?_; rotate_left; (focus (intros; go_simp; (try with_reducible rfl)))
        simp only [aput, lset]
        refine wpAnyH_done (by kernel_rfl) ?_ _
        exact NoPanic.normal ⟨rfl, rfl, rfl⟩
      case hm =>
        go_wp2
        go_ret
        exact ⟨rfl, S4.out.b.drew⟩
set_option maxHeartbeats 4000000 in
set_option maxRecDepth 100000 in
theorem te3 (c : Cfg) (D E L : Option Addr) (nd cd ne ce nl cl : Nat) (h : Int) (me ml : Nat) (xa xb : Int) (g : Nat) (t : Int) (d : Dt) (ok : DOk d) (W : World) (hx : W.heap[g]? = some (sbx c D E L nd cd ne ce nl cl h me ml xa xb)) (m : CM W c D E L nd cd ne ce nl cl) (e : R4) (h2 : entAt c d.l = some e) (h3 : CrewW.has e.b h = true) (x : Int) (h4 : e.d = d.s) (h5 : landV c d.l t = (x, false)) :
    Calls Try.prog 55 #[.pointer (some ⟨g, 0, none⟩), .int .i64 t, .agg #[.int .i64 d.c, .int .i64 d.l, .int .i64 d.n, .string d.p, .int .i64 d.s]] W fun r W' => r = .returned (.tuple #[.int .i64 0, .int .i64 2]) ∧ Below W.heap.size W W' := by
  have S1 := Lib.hid (((Stay.start W).add hx).alloc (dbx d))
  have HM := Lib.hid m
  have HN := Lib.hid (Nat.ne_of_lt (lt_of_heap hx))
  obtain ⟨n, hn, hk, hlt⟩ := ent_at h2 ok.l.1
  rw [← m.nE] at hlt
  have hnE : ne ≤ 9223372036854775807 := by have := m.mE; unfold maxLen at this; omega
  obtain ⟨dc, dl, dn, dp, ds⟩ := d
  obtain rfl : dl = (n : Int) := hn
  have HN2 := Lib.hid (show n ≤ 255 by have : (n : Int) ≤ 255 := ok.l.2; omega)
  have HDN := Lib.hid (show 0 ≤ dn ∧ dn ≤ 2147483647 from ok.n)
  have g0 : (n : Int) < (ne : Int) := by omega
  have g1 : decide ((ne : Int) ≤ (n : Int)) = false := decide_eq_false (by omega)
  have g4 : decide (ne ≤ n) = false := decide_eq_false (by omega)
  obtain ⟨b, off, rfl, l0, l1, l2, l3⟩ := ml_at m.he hk
  have E0 := Lib.hid l0
  have E1 := Lib.hid l1
  have E2 := Lib.hid l2
  have E3 := Lib.hid l3
  have HB := Lib.hid (m.he.u32 e (List.mem_of_getElem? hk))
  have HH := Lib.hid (fun W => CrewW.has_any e.b h W HB.out)
  rw [h3] at HH
  have g2 : (e.d != ds) = false := by rw [bne_eq_false_iff_eq]; exact h4
  have HP := Lib.hid (fun W (hW : CM W c D (some ⟨b, off, none⟩) L nd cd ne ce nl cl) => PlanW.land_any c D (some ⟨b, off, none⟩) L nd cd ne ce nl cl (n : Int) t W hW)
  rw [show landV c (n : Int) t = (x, false) from h5] at HP
  clear h4 h5
  clear hx ok m h2 h3 l0 l1 l2 l3
  go_enter Try.func55, Try.ntmps55
  go_wp2
  generalize W.alloc (dbx ⟨dc, (n : Int), dn, dp, ds⟩) = w2 at *
  apply wp_one
  case h =>
    refine wp_region_noPanic ?_
    refine wp_region_held_drew (S := fun Z : World => Stay W [(W.heap.size, dbx ⟨dc, (n : Int), dn, dp, ds⟩), (g, sbx c D (some ⟨b, off, none⟩) L nd cd ne ce nl cl h me ml xa xb)] Z) (by kernel_rfl) (S1.out.drew) (fun hHeld => ?_)
    refine takeR 0 (some 10) ?_ ?_ ?_; rotate_left; (focus (intros; go_simp; (try with_reducible rfl)))
    simp only [aput, lset]
    refine takeR 1 (some 11) ?_ ?_ ?_; rotate_left; (focus (intro w hSw; (try dsimp only at hSw); obtain ⟨z0, z1, z2, z3, z4⟩ := cells5 (Stay.at hSw 0 rfl); have a6 := cell_of_row _ g 6 _ _ _ (Stay.at hSw 1 rfl); go_simp; (try with_reducible rfl)))
    simp only [aput, lset]
    refine takeR 2 (some 12) ?_ ?_ ?_; rotate_left; (focus (intros; go_simp; (try with_reducible rfl)))
    simp only [aput, lset]
    refine takeR 3 (some 13) ?_ ?_ ?_; rotate_left; (focus (intros; go_simp; (try with_reducible rfl)))
    simp only [aput, lset]
    refine takeR 4 (some 14) ?_ ?_ ?_; rotate_left; (focus (intros; go_simp; (try with_reducible rfl)))
    simp only [aput, lset]
    refine takeR 5 (some 15) ?_ ?_ ?_; rotate_left; (focus (intros; go_simp; (try with_reducible rfl)))
    simp only [aput, lset]
    refine takeR 6 (some 16) ?_ ?_ ?_; rotate_left; (focus (intro w hSw; (try dsimp only at hSw); obtain ⟨z0, z1, z2, z3, z4⟩ := cells5 (Stay.at hSw 0 rfl); have a6 := cell_of_row _ g 6 _ _ _ (Stay.at hSw 1 rfl); go_simp; (try with_reducible rfl)))
    simp only [aput, lset]
    refine takeR 7 (some 17) ?_ ?_ ?_; rotate_left; (focus (intros; go_simp; (try with_reducible rfl)))
    simp only [aput, lset]
    refine takeR 8 (some 18) ?_ ?_ ?_; rotate_left; (focus (intros; go_simp; (try with_reducible rfl)))
    simp only [aput, lset]
    refine wpAnyH_done (by kernel_rfl) ?_ _
    exact NoPanic.normal ⟨rfl, rfl, rfl⟩
  case hm =>
    have S3 := Lib.hid S1.out.drew
    have GW := HN
    clear S1
    generalize w2.drew = w3 at *
    go_wp2
    apply wp_some (S := fun Z : World => Stay W [(w3.heap.size, ebx e 56), (W.heap.size, dbx ⟨dc, (n : Int), dn, dp, ds⟩), (g, sbx c D (some ⟨b, off, none⟩) L nd cd ne ce nl cl h me ml xa xb)] Z)
    case h =>
      refine wp_region_noPanic ?_
      refine wp_region_held_drew (S := fun Z : World => Stay W [(W.heap.size, dbx ⟨dc, (n : Int), dn, dp, ds⟩), (g, sbx c D (some ⟨b, off, none⟩) L nd cd ne ce nl cl h me ml xa xb)] Z) (by kernel_rfl) (S3.out.drew) (fun hHeld => ?_)
      refine takeR 0 (some 19) ?_ ?_ ?_; rotate_left; (focus (intros; go_simp; (try with_reducible rfl)))
      simp only [aput, lset]
      refine takeR 1 (some 20) ?_ ?_ ?_; rotate_left; (focus (intros; go_simp; (try with_reducible rfl)))
      simp only [aput, lset]
      refine takeR 2 (some 21) ?_ ?_ ?_; rotate_left; (focus (intros; go_simp; (try with_reducible rfl)))
      simp only [aput, lset]
      refine takeR 3 (some 22) ?_ ?_ ?_; rotate_left; (focus (intros; go_simp; (try with_reducible rfl)))
      simp only [aput, lset]
      refine takeR 4 (some 23) ?_ ?_ ?_; rotate_left; (focus (intro w hSw; (try dsimp only at hSw); obtain ⟨z0, z1, z2, z3, z4⟩ := cells5 (Stay.at hSw 0 rfl); have a6 := cell_of_row _ g 6 _ _ _ (Stay.at hSw 1 rfl); have l0 := cell_keep E0.out hSw.b; have l1 := cell_keep E1.out hSw.b; have l2 := cell_keep E2.out hSw.b; have l3 := cell_keep E3.out hSw.b; go_simp; (try with_reducible rfl)))
      simp only [aput, lset]
      refine takeR 5 (some 24) ?_ ?_ ?_; rotate_left; (focus (intros; go_simp; (try with_reducible rfl)))
      simp only [aput, lset]
      refine takeR 6 (some 25) ?_ ?_ ?_; rotate_left; (focus (intro w hSw; (try dsimp only at hSw); obtain ⟨z0, z1, z2, z3, z4⟩ := cells5 (Stay.at hSw 0 rfl); have a6 := cell_of_row _ g 6 _ _ _ (Stay.at hSw 1 rfl); have l0 := cell_keep E0.out hSw.b; have l1 := cell_keep E1.out hSw.b; have l2 := cell_keep E2.out hSw.b; have l3 := cell_keep E3.out hSw.b; go_simp; (try with_reducible rfl)))
      simp only [aput, lset]
      refine takeR 7 (some 26) ?_ ?_ ?_; rotate_left; (focus (intros; go_simp; (try with_reducible rfl)))
      simp only [aput, lset]
      refine takeR 8 (some 27) ?_ ?_ ?_; rotate_left; (focus (intro w hSw; (try dsimp only at hSw); obtain ⟨z0, z1, z2, z3, z4⟩ := cells5 (Stay.at hSw 0 rfl); have a6 := cell_of_row _ g 6 _ _ _ (Stay.at hSw 1 rfl); have l0 := cell_keep E0.out hSw.b; have l1 := cell_keep E1.out hSw.b; have l2 := cell_keep E2.out hSw.b; have l3 := cell_keep E3.out hSw.b; go_simp; (try with_reducible rfl)))
      simp only [aput, lset]
      refine wpAnyH_ready (rs := [9]) (by kernel_rfl) (by simp) ?_
      refine AllReadyH.cons (o := ⟨some 8, _, _, _, _, _⟩) rfl (fun K hK => ?_) AllReadyH.nil
      rw [if_pos (by kernel_rfl)]
      go_simp
      have hS9 := Stay.next hHeld (al (Below.refl _ _) (zbx 56))
      have B9 : (World.alloc w3.drew (zbx 56)).heap[w3.heap.size]? = some (zbx 56) := heap_alloc_new w3.drew (zbx 56)
      go_simp
      refine hK.out _ _ (by assumption) (fun hHeld => ?_)
      clear hK K
      refine wpAnyH_ready (rs := [10]) (by kernel_rfl) (by simp) ?_
      refine AllReadyH.cons (o := ⟨none, _, _, _, _, _⟩) rfl (fun K hK => ?_) AllReadyH.nil
      rw [if_pos (by kernel_rfl)]
      go_simp
      have HB := Lib.hid ((S3.out.alloc (ebx e 56)).drew)
      have hS10 := (S3.out.next (al (Below.refl _ _) (ebx e 56))).drew
      go_simp
      refine hK.out _ _ (by assumption) (fun hHeld => ?_)
      clear hK K
      refine wpAnyH_done (by kernel_rfl) ?_ _
      exact NoPanic.normal ⟨rfl, rfl, HB.out⟩
    case hm =>
      rintro w4 S4
      have S4 := Lib.hid S4
      generalize w3.heap.size = q at *
      obtain ⟨y0, y1, y2, y3⟩ := PlanW.cells4 (S4.out.at 0 rfl)
      obtain ⟨z0, z1, z2, z3, z4⟩ := cells5 (S4.out.at 1 rfl)
      go_wp2
      apply wp_one
      case h =>
        refine wp_region_noPanic ?_
        refine wp_region_held_drew (S := fun Z : World => Stay W [(q, ebx e 56), (W.heap.size, dbx ⟨dc, (n : Int), dn, dp, ds⟩), (g, sbx c D (some ⟨b, off, none⟩) L nd cd ne ce nl cl h me ml xa xb)] Z) (by kernel_rfl) (S4.out.drew) (fun hHeld => ?_)
        refine takeR 0 (some 28) ?_ ?_ ?_; rotate_left; (focus (intros; go_simp; (try with_reducible rfl)))
        simp only [aput, lset]
        refine takeR 1 (some 29) ?_ ?_ ?_; rotate_left; (focus (intro w hSw; (try dsimp only at hSw); obtain ⟨y0, y1, y2, y3⟩ := PlanW.cells4 (Stay.at hSw 0 rfl); obtain ⟨z0, z1, z2, z3, z4⟩ := cells5 (Stay.at hSw 1 rfl); have a9 := cell_of_row _ g 9 _ _ _ (Stay.at hSw 2 rfl); go_simp; (try with_reducible rfl)))
        simp only [aput, lset]
        refine takeR 2 (some 30) ?_ ?_ ?_; rotate_left; (focus (intros; go_simp; (try with_reducible rfl)))
        simp only [aput, lset]
        refine takeR 3 (some 31) ?_ ?_ ?_; rotate_left; (focus (intros; go_simp; (try with_reducible rfl)))
        simp only [aput, lset]
        refine takeR 4 (some 32) ?_ ?_ ?_; rotate_left; (focus (intros; go_simp; (try with_reducible rfl)))
        simp only [aput, lset]
        refine takeR 5 (some 33) ?_ ?_ ?_; rotate_left; (focus (intro w hSw; (try dsimp only at hSw); obtain ⟨y0, y1, y2, y3⟩ := PlanW.cells4 (Stay.at hSw 0 rfl); obtain ⟨z0, z1, z2, z3, z4⟩ := cells5 (Stay.at hSw 1 rfl); have a9 := cell_of_row _ g 9 _ _ _ (Stay.at hSw 2 rfl); go_simp; (try with_reducible rfl)))
        simp only [aput, lset]
        refine wpAnyH_ready (rs := [6]) (by kernel_rfl) (by simp) ?_
        refine AllReadyH.cons (o := ⟨some 34, _, _, _, _, _⟩) rfl (fun K hK => ?_) AllReadyH.nil
        rw [if_pos (by kernel_rfl)]
        go_simp
        refine (HH.out _).mono ?_
        rintro r w9 ⟨rfl, hw9⟩
        obtain rfl := hw9.symm
        go_simp
        refine hK.out _ _ (by assumption) (fun hHeld => ?_)
        clear hK K
        refine takeR 7 (some 35) ?_ ?_ ?_; rotate_left; (focus (intros; go_simp; (try with_reducible rfl)))
        simp only [aput, lset]
        refine takeR 8 (some 36) ?_ ?_ ?_; rotate_left; (focus (intros; go_simp; (try with_reducible rfl)))
        simp only [aput, lset]
        refine takeR 9 (some 37) ?_ ?_ ?_; rotate_left; (focus (intros; go_simp; (try with_reducible rfl)))
        simp only [aput, lset]
        refine takeR 10 (some 38) ?_ ?_ ?_; rotate_left; (focus (intro w hSw; (try dsimp only at hSw); obtain ⟨y0, y1, y2, y3⟩ := PlanW.cells4 (Stay.at hSw 0 rfl); obtain ⟨z0, z1, z2, z3, z4⟩ := cells5 (Stay.at hSw 1 rfl); have a9 := cell_of_row _ g 9 _ _ _ (Stay.at hSw 2 rfl); go_simp; (try with_reducible rfl)))
        simp only [aput, lset]
        refine takeR 11 (some 39) ?_ ?_ ?_; rotate_left; (focus (intros; go_simp; (try with_reducible rfl)))
        simp only [aput, lset]
        refine takeR 12 (some 40) ?_ ?_ ?_; rotate_left; (focus (intro w hSw; (try dsimp only at hSw); obtain ⟨y0, y1, y2, y3⟩ := PlanW.cells4 (Stay.at hSw 0 rfl); obtain ⟨z0, z1, z2, z3, z4⟩ := cells5 (Stay.at hSw 1 rfl); have a9 := cell_of_row _ g 9 _ _ _ (Stay.at hSw 2 rfl); go_simp; (try with_reducible rfl)))
        simp only [aput, lset]
        refine takeR 13 (some 41) ?_ ?_ ?_; rotate_left; (focus (intros; go_simp; (try with_reducible rfl)))
        simp only [aput, lset]
        refine takeR 14 (some 42) ?_ ?_ ?_; rotate_left; (focus (intros; go_simp; (try with_reducible rfl)))
        simp only [aput, lset]
        refine wpAnyH_done (by kernel_rfl) ?_ _
        exact NoPanic.normal ⟨rfl, rfl, rfl⟩
      case hm =>
        clear y0 y1 y2 y3 z0 z1 z2 z3 z4
        have S5 := Lib.hid S4.out.drew
        clear S4
        generalize w4.drew = w5 at *
        go_wp2
        apply wp_some (S := fun Z : World => Stay W [(q, ebx e 56), (W.heap.size, dbx ⟨dc, (n : Int), dn, dp, ds⟩), (g, sbx c D (some ⟨b, off, none⟩) L nd cd ne ce nl cl h me ml xa xb)] Z)
        case h =>
          refine wp_region_noPanic ?_
          refine wp_region_held_drew (S := fun Z : World => Stay W [(q, ebx e 56), (W.heap.size, dbx ⟨dc, (n : Int), dn, dp, ds⟩), (g, sbx c D (some ⟨b, off, none⟩) L nd cd ne ce nl cl h me ml xa xb)] Z) (by kernel_rfl) (S5.out.drew) (fun hHeld => ?_)
          refine takeR 0 (some 44) ?_ ?_ ?_; rotate_left; (focus (intros; go_simp; (try with_reducible rfl)))
          simp only [aput, lset]
          refine takeR 1 (some 45) ?_ ?_ ?_; rotate_left; (focus (intros; go_simp; (try with_reducible rfl)))
          simp only [aput, lset]
          refine takeR 2 (some 46) ?_ ?_ ?_; rotate_left; (focus (intros; go_simp; (try with_reducible rfl)))
          simp only [aput, lset]
          refine takeR 3 (some 47) ?_ ?_ ?_; rotate_left; (focus (intro w hSw; (try dsimp only at hSw); obtain ⟨z0, z1, z2, z3, z4⟩ := cells5 (Stay.at hSw 1 rfl); have a0 := cell_of_row _ g 0 _ _ _ (Stay.at hSw 2 rfl); have a1 := cell_of_row _ g 1 _ _ _ (Stay.at hSw 2 rfl); have a2 := cell_of_row _ g 2 _ _ _ (Stay.at hSw 2 rfl); have a3 := cell_of_row _ g 3 _ _ _ (Stay.at hSw 2 rfl); have a4 := cell_of_row _ g 4 _ _ _ (Stay.at hSw 2 rfl); have a5 := cell_of_row _ g 5 _ _ _ (Stay.at hSw 2 rfl); have a6 := cell_of_row _ g 6 _ _ _ (Stay.at hSw 2 rfl); have a7 := cell_of_row _ g 7 _ _ _ (Stay.at hSw 2 rfl); have a8 := cell_of_row _ g 8 _ _ _ (Stay.at hSw 2 rfl); go_simp; (try with_reducible rfl)))
          simp only [aput, lset]
          refine takeR 4 (some 48) ?_ ?_ ?_; rotate_left; (focus (intros; go_simp; (try with_reducible rfl)))
          simp only [aput, lset]
          refine takeR 5 (some 49) ?_ ?_ ?_; rotate_left; (focus (intro w hSw; (try dsimp only at hSw); obtain ⟨z0, z1, z2, z3, z4⟩ := cells5 (Stay.at hSw 1 rfl); have a0 := cell_of_row _ g 0 _ _ _ (Stay.at hSw 2 rfl); have a1 := cell_of_row _ g 1 _ _ _ (Stay.at hSw 2 rfl); have a2 := cell_of_row _ g 2 _ _ _ (Stay.at hSw 2 rfl); have a3 := cell_of_row _ g 3 _ _ _ (Stay.at hSw 2 rfl); have a4 := cell_of_row _ g 4 _ _ _ (Stay.at hSw 2 rfl); have a5 := cell_of_row _ g 5 _ _ _ (Stay.at hSw 2 rfl); have a6 := cell_of_row _ g 6 _ _ _ (Stay.at hSw 2 rfl); have a7 := cell_of_row _ g 7 _ _ _ (Stay.at hSw 2 rfl); have a8 := cell_of_row _ g 8 _ _ _ (Stay.at hSw 2 rfl); go_simp; (try with_reducible rfl)))
          simp only [aput, lset]
          refine takeR 6 (some 50) ?_ ?_ ?_; rotate_left; (focus (intros; go_simp; (try with_reducible rfl)))
          simp only [aput, lset]
          refine wpAnyH_ready (rs := [7]) (by kernel_rfl) (by simp) ?_
          refine AllReadyH.cons (o := ⟨some 51, _, _, _, _, _⟩) rfl (fun K hK => ?_) AllReadyH.nil
          rw [if_pos (by kernel_rfl)]
          go_simp
          refine (HP.out _ (HM.out.below (Stay.b hHeld))).mono ?_
          rintro r w9 ⟨rfl, b9⟩
          have hS9 := Stay.next hHeld b9
          clear b9
          go_simp
          refine hK.out _ _ (by assumption) (fun hHeld => ?_)
          clear hK K
          refine takeR 8 (some 43) ?_ ?_ ?_; rotate_left; (focus (intros; go_simp; (try with_reducible rfl)))
          simp only [aput, lset]
          refine takeR 9 (some 52) ?_ ?_ ?_; rotate_left; (focus (intros; go_simp; (try with_reducible rfl)))
          simp only [aput, lset]
          refine takeR 10 (some 53) ?_ ?_ ?_; rotate_left; (focus (intros; go_simp; (try with_reducible rfl)))
          simp only [aput, lset]
          refine takeR 11 (some 6) ?_ ?_ ?_; rotate_left; (focus (intros; go_simp; (try with_reducible rfl)))
          simp only [aput, lset]
          refine takeR 12 (some 9) ?_ ?_ ?_; rotate_left; (focus (intros; go_simp; (try with_reducible rfl)))
          simp only [aput, lset]
          refine wpAnyH_done (by kernel_rfl) ?_ _
          exact NoPanic.normal ⟨rfl, rfl, hS9⟩
        case hm =>
          rintro w6 S6
          have S6 := Lib.hid S6
          clear S5 HP
          go_wp2
          go_ret2
          exact ⟨rfl, S6.out.b⟩
set_option maxHeartbeats 4000000 in
set_option maxRecDepth 100000 in
theorem te4 (c : Cfg) (D E L : Option Addr) (nd cd ne ce nl cl : Nat) (h : Int) (me ml : Nat) (xa xb : Int) (g : Nat) (t : Int) (d : Dt) (ok : DOk d) (W : World) (hx : W.heap[g]? = some (sbx c D E L nd cd ne ce nl cl h me ml xa xb)) (m : CM W c D E L nd cd ne ce nl cl) (e : R4) (h2 : entAt c d.l = some e) (h3 : CrewW.has e.b h = true) (x : Int) (h4 : e.d = d.s) (h5 : landV c d.l t = (x, true)) (N : Nat) (f : Nat → Option Int) (hp : MP W me N f) (h6 : stops f d.l.toNat x = true) :
    Calls Try.prog 55 #[.pointer (some ⟨g, 0, none⟩), .int .i64 t, .agg #[.int .i64 d.c, .int .i64 d.l, .int .i64 d.n, .string d.p, .int .i64 d.s]] W fun r W' => r = .returned (.tuple #[.int .i64 x, .int .i64 3]) ∧ Below W.heap.size W W' := by
  have S1 := Lib.hid (((Stay.start W).add hx).alloc (dbx d))
  have HM := Lib.hid m
  have HN := Lib.hid (Nat.ne_of_lt (lt_of_heap hx))
  obtain ⟨n, hn, hk, hlt⟩ := ent_at h2 ok.l.1
  rw [← m.nE] at hlt
  have hnE : ne ≤ 9223372036854775807 := by have := m.mE; unfold maxLen at this; omega
  obtain ⟨dc, dl, dn, dp, ds⟩ := d
  obtain rfl : dl = (n : Int) := hn
  have HN2 := Lib.hid (show n ≤ 255 by have : (n : Int) ≤ 255 := ok.l.2; omega)
  have HDN := Lib.hid (show 0 ≤ dn ∧ dn ≤ 2147483647 from ok.n)
  have g0 : (n : Int) < (ne : Int) := by omega
  have g1 : decide ((ne : Int) ≤ (n : Int)) = false := decide_eq_false (by omega)
  have g4 : decide (ne ≤ n) = false := decide_eq_false (by omega)
  obtain ⟨b, off, rfl, l0, l1, l2, l3⟩ := ml_at m.he hk
  have E0 := Lib.hid l0
  have E1 := Lib.hid l1
  have E2 := Lib.hid l2
  have E3 := Lib.hid l3
  have HB := Lib.hid (m.he.u32 e (List.mem_of_getElem? hk))
  have HH := Lib.hid (fun W => CrewW.has_any e.b h W HB.out)
  rw [h3] at HH
  have g2 : (e.d != ds) = false := by rw [bne_eq_false_iff_eq]; exact h4
  have HP := Lib.hid (fun W (hW : CM W c D (some ⟨b, off, none⟩) L nd cd ne ce nl cl) => PlanW.land_any c D (some ⟨b, off, none⟩) L nd cd ne ce nl cl (n : Int) t W hW)
  rw [show landV c (n : Int) t = (x, true) from h5] at HP
  have HR := Lib.hid (fun (W' : World) (b' : Below W.heap.size W W') => rise_no W' (hp.block (b'.block me hp.lt)) HN2.out h6)
  clear h4 h5 h6 hp
  clear hx ok m h2 h3 l0 l1 l2 l3
  go_enter Try.func55, Try.ntmps55
  go_wp2
  generalize W.alloc (dbx ⟨dc, (n : Int), dn, dp, ds⟩) = w2 at *
  apply wp_one
  case h =>
    refine wp_region_noPanic ?_
    refine wp_region_held_drew (S := fun Z : World => Stay W [(W.heap.size, dbx ⟨dc, (n : Int), dn, dp, ds⟩), (g, sbx c D (some ⟨b, off, none⟩) L nd cd ne ce nl cl h me ml xa xb)] Z) (by kernel_rfl) (S1.out.drew) (fun hHeld => ?_)
    refine takeR 0 (some 10) ?_ ?_ ?_; rotate_left; (focus (intros; go_simp; (try with_reducible rfl)))
    simp only [aput, lset]
    refine takeR 1 (some 11) ?_ ?_ ?_; rotate_left; (focus (intro w hSw; (try dsimp only at hSw); obtain ⟨z0, z1, z2, z3, z4⟩ := cells5 (Stay.at hSw 0 rfl); have a6 := cell_of_row _ g 6 _ _ _ (Stay.at hSw 1 rfl); go_simp; (try with_reducible rfl)))
    simp only [aput, lset]
    refine takeR 2 (some 12) ?_ ?_ ?_; rotate_left; (focus (intros; go_simp; (try with_reducible rfl)))
    simp only [aput, lset]
    refine takeR 3 (some 13) ?_ ?_ ?_; rotate_left; (focus (intros; go_simp; (try with_reducible rfl)))
    simp only [aput, lset]
    refine takeR 4 (some 14) ?_ ?_ ?_; rotate_left; (focus (intros; go_simp; (try with_reducible rfl)))
    simp only [aput, lset]
    refine takeR 5 (some 15) ?_ ?_ ?_; rotate_left; (focus (intros; go_simp; (try with_reducible rfl)))
    simp only [aput, lset]
    refine takeR 6 (some 16) ?_ ?_ ?_; rotate_left; (focus (intro w hSw; (try dsimp only at hSw); obtain ⟨z0, z1, z2, z3, z4⟩ := cells5 (Stay.at hSw 0 rfl); have a6 := cell_of_row _ g 6 _ _ _ (Stay.at hSw 1 rfl); go_simp; (try with_reducible rfl)))
    simp only [aput, lset]
    refine takeR 7 (some 17) ?_ ?_ ?_; rotate_left; (focus (intros; go_simp; (try with_reducible rfl)))
    simp only [aput, lset]
    refine takeR 8 (some 18) ?_ ?_ ?_; rotate_left; (focus (intros; go_simp; (try with_reducible rfl)))
    simp only [aput, lset]
    refine wpAnyH_done (by kernel_rfl) ?_ _
    exact NoPanic.normal ⟨rfl, rfl, rfl⟩
  case hm =>
    have S3 := Lib.hid S1.out.drew
    have GW := HN
    clear S1
    generalize w2.drew = w3 at *
    go_wp2
    apply wp_some (S := fun Z : World => Stay W [(w3.heap.size, ebx e 56), (W.heap.size, dbx ⟨dc, (n : Int), dn, dp, ds⟩), (g, sbx c D (some ⟨b, off, none⟩) L nd cd ne ce nl cl h me ml xa xb)] Z)
    case h =>
      refine wp_region_noPanic ?_
      refine wp_region_held_drew (S := fun Z : World => Stay W [(W.heap.size, dbx ⟨dc, (n : Int), dn, dp, ds⟩), (g, sbx c D (some ⟨b, off, none⟩) L nd cd ne ce nl cl h me ml xa xb)] Z) (by kernel_rfl) (S3.out.drew) (fun hHeld => ?_)
      refine takeR 0 (some 19) ?_ ?_ ?_; rotate_left; (focus (intros; go_simp; (try with_reducible rfl)))
      simp only [aput, lset]
      refine takeR 1 (some 20) ?_ ?_ ?_; rotate_left; (focus (intros; go_simp; (try with_reducible rfl)))
      simp only [aput, lset]
      refine takeR 2 (some 21) ?_ ?_ ?_; rotate_left; (focus (intros; go_simp; (try with_reducible rfl)))
      simp only [aput, lset]
      refine takeR 3 (some 22) ?_ ?_ ?_; rotate_left; (focus (intros; go_simp; (try with_reducible rfl)))
      simp only [aput, lset]
      refine takeR 4 (some 23) ?_ ?_ ?_; rotate_left; (focus (intro w hSw; (try dsimp only at hSw); obtain ⟨z0, z1, z2, z3, z4⟩ := cells5 (Stay.at hSw 0 rfl); have a6 := cell_of_row _ g 6 _ _ _ (Stay.at hSw 1 rfl); have l0 := cell_keep E0.out hSw.b; have l1 := cell_keep E1.out hSw.b; have l2 := cell_keep E2.out hSw.b; have l3 := cell_keep E3.out hSw.b; go_simp; (try with_reducible rfl)))
      simp only [aput, lset]
      refine takeR 5 (some 24) ?_ ?_ ?_; rotate_left; (focus (intros; go_simp; (try with_reducible rfl)))
      simp only [aput, lset]
      refine takeR 6 (some 25) ?_ ?_ ?_; rotate_left; (focus (intro w hSw; (try dsimp only at hSw); obtain ⟨z0, z1, z2, z3, z4⟩ := cells5 (Stay.at hSw 0 rfl); have a6 := cell_of_row _ g 6 _ _ _ (Stay.at hSw 1 rfl); have l0 := cell_keep E0.out hSw.b; have l1 := cell_keep E1.out hSw.b; have l2 := cell_keep E2.out hSw.b; have l3 := cell_keep E3.out hSw.b; go_simp; (try with_reducible rfl)))
      simp only [aput, lset]
      refine takeR 7 (some 26) ?_ ?_ ?_; rotate_left; (focus (intros; go_simp; (try with_reducible rfl)))
      simp only [aput, lset]
      refine takeR 8 (some 27) ?_ ?_ ?_; rotate_left; (focus (intro w hSw; (try dsimp only at hSw); obtain ⟨z0, z1, z2, z3, z4⟩ := cells5 (Stay.at hSw 0 rfl); have a6 := cell_of_row _ g 6 _ _ _ (Stay.at hSw 1 rfl); have l0 := cell_keep E0.out hSw.b; have l1 := cell_keep E1.out hSw.b; have l2 := cell_keep E2.out hSw.b; have l3 := cell_keep E3.out hSw.b; go_simp; (try with_reducible rfl)))
      simp only [aput, lset]
      refine wpAnyH_ready (rs := [9]) (by kernel_rfl) (by simp) ?_
      refine AllReadyH.cons (o := ⟨some 8, _, _, _, _, _⟩) rfl (fun K hK => ?_) AllReadyH.nil
      rw [if_pos (by kernel_rfl)]
      go_simp
      have hS9 := Stay.next hHeld (al (Below.refl _ _) (zbx 56))
      have B9 : (World.alloc w3.drew (zbx 56)).heap[w3.heap.size]? = some (zbx 56) := heap_alloc_new w3.drew (zbx 56)
      go_simp
      refine hK.out _ _ (by assumption) (fun hHeld => ?_)
      clear hK K
      refine wpAnyH_ready (rs := [10]) (by kernel_rfl) (by simp) ?_
      refine AllReadyH.cons (o := ⟨none, _, _, _, _, _⟩) rfl (fun K hK => ?_) AllReadyH.nil
      rw [if_pos (by kernel_rfl)]
      go_simp
      have HB := Lib.hid ((S3.out.alloc (ebx e 56)).drew)
      have hS10 := (S3.out.next (al (Below.refl _ _) (ebx e 56))).drew
      go_simp
      refine hK.out _ _ (by assumption) (fun hHeld => ?_)
      clear hK K
      refine wpAnyH_done (by kernel_rfl) ?_ _
      exact NoPanic.normal ⟨rfl, rfl, HB.out⟩
    case hm =>
      rintro w4 S4
      have S4 := Lib.hid S4
      generalize w3.heap.size = q at *
      obtain ⟨y0, y1, y2, y3⟩ := PlanW.cells4 (S4.out.at 0 rfl)
      obtain ⟨z0, z1, z2, z3, z4⟩ := cells5 (S4.out.at 1 rfl)
      go_wp2
      apply wp_one
      case h =>
        refine wp_region_noPanic ?_
        refine wp_region_held_drew (S := fun Z : World => Stay W [(q, ebx e 56), (W.heap.size, dbx ⟨dc, (n : Int), dn, dp, ds⟩), (g, sbx c D (some ⟨b, off, none⟩) L nd cd ne ce nl cl h me ml xa xb)] Z) (by kernel_rfl) (S4.out.drew) (fun hHeld => ?_)
        refine takeR 0 (some 28) ?_ ?_ ?_; rotate_left; (focus (intros; go_simp; (try with_reducible rfl)))
        simp only [aput, lset]
        refine takeR 1 (some 29) ?_ ?_ ?_; rotate_left; (focus (intro w hSw; (try dsimp only at hSw); obtain ⟨y0, y1, y2, y3⟩ := PlanW.cells4 (Stay.at hSw 0 rfl); obtain ⟨z0, z1, z2, z3, z4⟩ := cells5 (Stay.at hSw 1 rfl); have a9 := cell_of_row _ g 9 _ _ _ (Stay.at hSw 2 rfl); go_simp; (try with_reducible rfl)))
        simp only [aput, lset]
        refine takeR 2 (some 30) ?_ ?_ ?_; rotate_left; (focus (intros; go_simp; (try with_reducible rfl)))
        simp only [aput, lset]
        refine takeR 3 (some 31) ?_ ?_ ?_; rotate_left; (focus (intros; go_simp; (try with_reducible rfl)))
        simp only [aput, lset]
        refine takeR 4 (some 32) ?_ ?_ ?_; rotate_left; (focus (intros; go_simp; (try with_reducible rfl)))
        simp only [aput, lset]
        refine takeR 5 (some 33) ?_ ?_ ?_; rotate_left; (focus (intro w hSw; (try dsimp only at hSw); obtain ⟨y0, y1, y2, y3⟩ := PlanW.cells4 (Stay.at hSw 0 rfl); obtain ⟨z0, z1, z2, z3, z4⟩ := cells5 (Stay.at hSw 1 rfl); have a9 := cell_of_row _ g 9 _ _ _ (Stay.at hSw 2 rfl); go_simp; (try with_reducible rfl)))
        simp only [aput, lset]
        refine wpAnyH_ready (rs := [6]) (by kernel_rfl) (by simp) ?_
        refine AllReadyH.cons (o := ⟨some 34, _, _, _, _, _⟩) rfl (fun K hK => ?_) AllReadyH.nil
        rw [if_pos (by kernel_rfl)]
        go_simp
        refine (HH.out _).mono ?_
        rintro r w9 ⟨rfl, hw9⟩
        obtain rfl := hw9.symm
        go_simp
        refine hK.out _ _ (by assumption) (fun hHeld => ?_)
        clear hK K
        refine takeR 7 (some 35) ?_ ?_ ?_; rotate_left; (focus (intros; go_simp; (try with_reducible rfl)))
        simp only [aput, lset]
        refine takeR 8 (some 36) ?_ ?_ ?_; rotate_left; (focus (intros; go_simp; (try with_reducible rfl)))
        simp only [aput, lset]
        refine takeR 9 (some 37) ?_ ?_ ?_; rotate_left; (focus (intros; go_simp; (try with_reducible rfl)))
        simp only [aput, lset]
        refine takeR 10 (some 38) ?_ ?_ ?_; rotate_left; (focus (intro w hSw; (try dsimp only at hSw); obtain ⟨y0, y1, y2, y3⟩ := PlanW.cells4 (Stay.at hSw 0 rfl); obtain ⟨z0, z1, z2, z3, z4⟩ := cells5 (Stay.at hSw 1 rfl); have a9 := cell_of_row _ g 9 _ _ _ (Stay.at hSw 2 rfl); go_simp; (try with_reducible rfl)))
        simp only [aput, lset]
        refine takeR 11 (some 39) ?_ ?_ ?_; rotate_left; (focus (intros; go_simp; (try with_reducible rfl)))
        simp only [aput, lset]
        refine takeR 12 (some 40) ?_ ?_ ?_; rotate_left; (focus (intro w hSw; (try dsimp only at hSw); obtain ⟨y0, y1, y2, y3⟩ := PlanW.cells4 (Stay.at hSw 0 rfl); obtain ⟨z0, z1, z2, z3, z4⟩ := cells5 (Stay.at hSw 1 rfl); have a9 := cell_of_row _ g 9 _ _ _ (Stay.at hSw 2 rfl); go_simp; (try with_reducible rfl)))
        simp only [aput, lset]
        refine takeR 13 (some 41) ?_ ?_ ?_; rotate_left; (focus (intros; go_simp; (try with_reducible rfl)))
        simp only [aput, lset]
        refine takeR 14 (some 42) ?_ ?_ ?_; rotate_left; (focus (intros; go_simp; (try with_reducible rfl)))
        simp only [aput, lset]
        refine wpAnyH_done (by kernel_rfl) ?_ _
        exact NoPanic.normal ⟨rfl, rfl, rfl⟩
      case hm =>
        clear y0 y1 y2 y3 z0 z1 z2 z3 z4
        have S5 := Lib.hid S4.out.drew
        clear S4
        generalize w4.drew = w5 at *
        go_wp2
        apply wp_some (S := fun Z : World => Stay W [(q, ebx e 56), (W.heap.size, dbx ⟨dc, (n : Int), dn, dp, ds⟩), (g, sbx c D (some ⟨b, off, none⟩) L nd cd ne ce nl cl h me ml xa xb)] Z)
        case h =>
          refine wp_region_noPanic ?_
          refine wp_region_held_drew (S := fun Z : World => Stay W [(q, ebx e 56), (W.heap.size, dbx ⟨dc, (n : Int), dn, dp, ds⟩), (g, sbx c D (some ⟨b, off, none⟩) L nd cd ne ce nl cl h me ml xa xb)] Z) (by kernel_rfl) (S5.out.drew) (fun hHeld => ?_)
          refine takeR 0 (some 44) ?_ ?_ ?_; rotate_left; (focus (intros; go_simp; (try with_reducible rfl)))
          simp only [aput, lset]
          refine takeR 1 (some 45) ?_ ?_ ?_; rotate_left; (focus (intros; go_simp; (try with_reducible rfl)))
          simp only [aput, lset]
          refine takeR 2 (some 46) ?_ ?_ ?_; rotate_left; (focus (intros; go_simp; (try with_reducible rfl)))
          simp only [aput, lset]
          refine takeR 3 (some 47) ?_ ?_ ?_; rotate_left; (focus (intro w hSw; (try dsimp only at hSw); obtain ⟨z0, z1, z2, z3, z4⟩ := cells5 (Stay.at hSw 1 rfl); have a0 := cell_of_row _ g 0 _ _ _ (Stay.at hSw 2 rfl); have a1 := cell_of_row _ g 1 _ _ _ (Stay.at hSw 2 rfl); have a2 := cell_of_row _ g 2 _ _ _ (Stay.at hSw 2 rfl); have a3 := cell_of_row _ g 3 _ _ _ (Stay.at hSw 2 rfl); have a4 := cell_of_row _ g 4 _ _ _ (Stay.at hSw 2 rfl); have a5 := cell_of_row _ g 5 _ _ _ (Stay.at hSw 2 rfl); have a6 := cell_of_row _ g 6 _ _ _ (Stay.at hSw 2 rfl); have a7 := cell_of_row _ g 7 _ _ _ (Stay.at hSw 2 rfl); have a8 := cell_of_row _ g 8 _ _ _ (Stay.at hSw 2 rfl); go_simp; (try with_reducible rfl)))
          simp only [aput, lset]
          refine takeR 4 (some 48) ?_ ?_ ?_; rotate_left; (focus (intros; go_simp; (try with_reducible rfl)))
          simp only [aput, lset]
          refine takeR 5 (some 49) ?_ ?_ ?_; rotate_left; (focus (intro w hSw; (try dsimp only at hSw); obtain ⟨z0, z1, z2, z3, z4⟩ := cells5 (Stay.at hSw 1 rfl); have a0 := cell_of_row _ g 0 _ _ _ (Stay.at hSw 2 rfl); have a1 := cell_of_row _ g 1 _ _ _ (Stay.at hSw 2 rfl); have a2 := cell_of_row _ g 2 _ _ _ (Stay.at hSw 2 rfl); have a3 := cell_of_row _ g 3 _ _ _ (Stay.at hSw 2 rfl); have a4 := cell_of_row _ g 4 _ _ _ (Stay.at hSw 2 rfl); have a5 := cell_of_row _ g 5 _ _ _ (Stay.at hSw 2 rfl); have a6 := cell_of_row _ g 6 _ _ _ (Stay.at hSw 2 rfl); have a7 := cell_of_row _ g 7 _ _ _ (Stay.at hSw 2 rfl); have a8 := cell_of_row _ g 8 _ _ _ (Stay.at hSw 2 rfl); go_simp; (try with_reducible rfl)))
          simp only [aput, lset]
          refine takeR 6 (some 50) ?_ ?_ ?_; rotate_left; (focus (intros; go_simp; (try with_reducible rfl)))
          simp only [aput, lset]
          refine wpAnyH_ready (rs := [7]) (by kernel_rfl) (by simp) ?_
          refine AllReadyH.cons (o := ⟨some 51, _, _, _, _, _⟩) rfl (fun K hK => ?_) AllReadyH.nil
          rw [if_pos (by kernel_rfl)]
          go_simp
          refine (HP.out _ (HM.out.below (Stay.b hHeld))).mono ?_
          rintro r w9 ⟨rfl, b9⟩
          have hS9 := Stay.next hHeld b9
          clear b9
          go_simp
          refine hK.out _ _ (by assumption) (fun hHeld => ?_)
          clear hK K
          refine takeR 8 (some 43) ?_ ?_ ?_; rotate_left; (focus (intros; go_simp; (try with_reducible rfl)))
          simp only [aput, lset]
          refine takeR 9 (some 52) ?_ ?_ ?_; rotate_left; (focus (intros; go_simp; (try with_reducible rfl)))
          simp only [aput, lset]
          refine takeR 10 (some 53) ?_ ?_ ?_; rotate_left; (focus (intros; go_simp; (try with_reducible rfl)))
          simp only [aput, lset]
          refine takeR 11 (some 6) ?_ ?_ ?_; rotate_left; (focus (intros; go_simp; (try with_reducible rfl)))
          simp only [aput, lset]
          refine takeR 12 (some 9) ?_ ?_ ?_; rotate_left; (focus (intros; go_simp; (try with_reducible rfl)))
          simp only [aput, lset]
          refine wpAnyH_done (by kernel_rfl) ?_ _
          exact NoPanic.normal ⟨rfl, rfl, hS9⟩
        case hm =>
          rintro w6 S6
          have S6 := Lib.hid S6
          clear S5 HP
          go_wp2
          apply wp_one
          case h =>
            refine wp_region_noPanic ?_
            refine wp_region_held_drew (S := fun Z : World => Stay W [(q, ebx e 56), (W.heap.size, dbx ⟨dc, (n : Int), dn, dp, ds⟩), (g, sbx c D (some ⟨b, off, none⟩) L nd cd ne ce nl cl h me ml xa xb)] Z) (by kernel_rfl) (S6.out.drew) (fun hHeld => ?_)
            refine takeR 0 (some 56) ?_ ?_ ?_; rotate_left; (focus (intros; go_simp; (try with_reducible rfl)))
            simp only [aput, lset]
            refine takeR 1 (some 57) ?_ ?_ ?_; rotate_left; (focus (intros; go_simp; (try with_reducible rfl)))
            simp only [aput, lset]
            refine takeR 2 (some 58) ?_ ?_ ?_; rotate_left; (focus (intros; go_simp; (try with_reducible rfl)))
            simp only [aput, lset]
            refine takeR 3 (some 59) ?_ ?_ ?_; rotate_left; (focus (intro w hSw; (try dsimp only at hSw); obtain ⟨z0, z1, z2, z3, z4⟩ := cells5 (Stay.at hSw 1 rfl); have a10 := cell_of_row _ g 10 _ _ _ (Stay.at hSw 2 rfl); go_simp; (try with_reducible rfl)))
            simp only [aput, lset]
            refine takeR 4 (some 60) ?_ ?_ ?_; rotate_left; (focus (intros; go_simp; (try with_reducible rfl)))
            simp only [aput, lset]
            refine takeR 5 (some 61) ?_ ?_ ?_; rotate_left; (focus (intro w hSw; (try dsimp only at hSw); obtain ⟨z0, z1, z2, z3, z4⟩ := cells5 (Stay.at hSw 1 rfl); have a10 := cell_of_row _ g 10 _ _ _ (Stay.at hSw 2 rfl); go_simp; (try with_reducible rfl)))
            simp only [aput, lset]
            refine takeR 6 (some 62) ?_ ?_ ?_; rotate_left; (focus (intros; go_simp; (try with_reducible rfl)))
            simp only [aput, lset]
            refine wpAnyH_ready (rs := [7]) (by kernel_rfl) (by simp) ?_
            refine AllReadyH.cons (o := ⟨some 63, _, _, _, _, _⟩) rfl (fun K hK => ?_) AllReadyH.nil
            rw [if_pos (by kernel_rfl)]
            go_simp
            refine (HR.out _ (Stay.b hHeld)).mono ?_
            rintro r w9 ⟨rfl, hw9⟩
            obtain rfl := hw9.symm
            go_simp
            refine hK.out _ _ (by assumption) (fun hHeld => ?_)
            clear hK K
            refine takeR 8 (some 64) ?_ ?_ ?_; rotate_left; (focus (intros; go_simp; (try with_reducible rfl)))
            simp only [aput, lset]
            refine wpAnyH_done (by kernel_rfl) ?_ _
            exact NoPanic.normal ⟨rfl, rfl, rfl⟩
          case hm =>
            go_wp2
            go_ret2
            exact ⟨rfl, S6.out.b.drew⟩
set_option maxHeartbeats 4000000 in
set_option maxRecDepth 100000 in
theorem te5 (c : Cfg) (D E L : Option Addr) (nd cd ne ce nl cl : Nat) (h : Int) (me ml : Nat) (xa xb : Int) (g : Nat) (t : Int) (d : Dt) (ok : DOk d) (W : World) (hx : W.heap[g]? = some (sbx c D E L nd cd ne ce nl cl h me ml xa xb)) (m : CM W c D E L nd cd ne ce nl cl) (e : R4) (h2 : entAt c d.l = some e) (h3 : CrewW.has e.b h = true) (x : Int) (h4 : e.d = d.s) (h5 : landV c d.l t = (x, true)) (N : Nat) (f : Nat → Option Int) (hp : MP W me N f) (hN : N < maxLen) (hg : me ≠ g) (hw : (Lit.int .i64 x).wf = true) (h6 : stops f d.l.toNat x = false) :
    Calls Try.prog 55 #[.pointer (some ⟨g, 0, none⟩), .int .i64 t, .agg #[.int .i64 d.c, .int .i64 d.l, .int .i64 d.n, .string d.p, .int .i64 d.s]] W fun r W' => r = .returned (.tuple #[.int .i64 x, .int .i64 0]) ∧ MP W' me (N + 1) (MP.upd f d.l.toNat x) ∧ Kept me W W' := by
  have S1 := Lib.hid (((Stay.start W).add hx).alloc (dbx d))
  have HM := Lib.hid m
  have HN := Lib.hid (Nat.ne_of_lt (lt_of_heap hx))
  obtain ⟨n, hn, hk, hlt⟩ := ent_at h2 ok.l.1
  rw [← m.nE] at hlt
  have hnE : ne ≤ 9223372036854775807 := by have := m.mE; unfold maxLen at this; omega
  obtain ⟨dc, dl, dn, dp, ds⟩ := d
  obtain rfl : dl = (n : Int) := hn
  have HN2 := Lib.hid (show n ≤ 255 by have : (n : Int) ≤ 255 := ok.l.2; omega)
  have HDN := Lib.hid (show 0 ≤ dn ∧ dn ≤ 2147483647 from ok.n)
  have g0 : (n : Int) < (ne : Int) := by omega
  have g1 : decide ((ne : Int) ≤ (n : Int)) = false := decide_eq_false (by omega)
  have g4 : decide (ne ≤ n) = false := decide_eq_false (by omega)
  obtain ⟨b, off, rfl, l0, l1, l2, l3⟩ := ml_at m.he hk
  have E0 := Lib.hid l0
  have E1 := Lib.hid l1
  have E2 := Lib.hid l2
  have E3 := Lib.hid l3
  have HB := Lib.hid (m.he.u32 e (List.mem_of_getElem? hk))
  have HH := Lib.hid (fun W => CrewW.has_any e.b h W HB.out)
  rw [h3] at HH
  have g2 : (e.d != ds) = false := by rw [bne_eq_false_iff_eq]; exact h4
  have HP := Lib.hid (fun W (hW : CM W c D (some ⟨b, off, none⟩) L nd cd ne ce nl cl) => PlanW.land_any c D (some ⟨b, off, none⟩) L nd cd ne ce nl cl (n : Int) t W hW)
  rw [show landV c (n : Int) t = (x, true) from h5] at HP
  have HR := Lib.hid (fun (W' : World) (b' : Below W.heap.size W W') => rise_yes W' (hp.block (b'.block me hp.lt)) hN HN2.out hw h6)
  have HL := Lib.hid (show me < W.heap.size ∧ me ≠ g from ⟨hp.lt, hg⟩)
  clear h4 h5 h6 hp hw hN hg
  clear hx ok m h2 h3 l0 l1 l2 l3
  go_enter Try.func55, Try.ntmps55
  go_wp2
  generalize W.alloc (dbx ⟨dc, (n : Int), dn, dp, ds⟩) = w2 at *
  apply wp_one
  case h =>
    refine wp_region_noPanic ?_
    refine wp_region_held_drew (S := fun Z : World => Stay W [(W.heap.size, dbx ⟨dc, (n : Int), dn, dp, ds⟩), (g, sbx c D (some ⟨b, off, none⟩) L nd cd ne ce nl cl h me ml xa xb)] Z) (by kernel_rfl) (S1.out.drew) (fun hHeld => ?_)
    refine takeR 0 (some 10) ?_ ?_ ?_; rotate_left; (focus (intros; go_simp; (try with_reducible rfl)))
    simp only [aput, lset]
    refine takeR 1 (some 11) ?_ ?_ ?_; rotate_left; (focus (intro w hSw; (try dsimp only at hSw); obtain ⟨z0, z1, z2, z3, z4⟩ := cells5 (Stay.at hSw 0 rfl); have a6 := cell_of_row _ g 6 _ _ _ (Stay.at hSw 1 rfl); go_simp; (try with_reducible rfl)))
    simp only [aput, lset]
    refine takeR 2 (some 12) ?_ ?_ ?_; rotate_left; (focus (intros; go_simp; (try with_reducible rfl)))
    simp only [aput, lset]
    refine takeR 3 (some 13) ?_ ?_ ?_; rotate_left; (focus (intros; go_simp; (try with_reducible rfl)))
    simp only [aput, lset]
    refine takeR 4 (some 14) ?_ ?_ ?_; rotate_left; (focus (intros; go_simp; (try with_reducible rfl)))
    simp only [aput, lset]
    refine takeR 5 (some 15) ?_ ?_ ?_; rotate_left; (focus (intros; go_simp; (try with_reducible rfl)))
    simp only [aput, lset]
    refine takeR 6 (some 16) ?_ ?_ ?_; rotate_left; (focus (intro w hSw; (try dsimp only at hSw); obtain ⟨z0, z1, z2, z3, z4⟩ := cells5 (Stay.at hSw 0 rfl); have a6 := cell_of_row _ g 6 _ _ _ (Stay.at hSw 1 rfl); go_simp; (try with_reducible rfl)))
    simp only [aput, lset]
    refine takeR 7 (some 17) ?_ ?_ ?_; rotate_left; (focus (intros; go_simp; (try with_reducible rfl)))
    simp only [aput, lset]
    refine takeR 8 (some 18) ?_ ?_ ?_; rotate_left; (focus (intros; go_simp; (try with_reducible rfl)))
    simp only [aput, lset]
    refine wpAnyH_done (by kernel_rfl) ?_ _
    exact NoPanic.normal ⟨rfl, rfl, rfl⟩
  case hm =>
    have S3 := Lib.hid S1.out.drew
    have GW := HN
    clear S1
    generalize w2.drew = w3 at *
    go_wp2
    apply wp_some (S := fun Z : World => Stay W [(w3.heap.size, ebx e 56), (W.heap.size, dbx ⟨dc, (n : Int), dn, dp, ds⟩), (g, sbx c D (some ⟨b, off, none⟩) L nd cd ne ce nl cl h me ml xa xb)] Z)
    case h =>
      refine wp_region_noPanic ?_
      refine wp_region_held_drew (S := fun Z : World => Stay W [(W.heap.size, dbx ⟨dc, (n : Int), dn, dp, ds⟩), (g, sbx c D (some ⟨b, off, none⟩) L nd cd ne ce nl cl h me ml xa xb)] Z) (by kernel_rfl) (S3.out.drew) (fun hHeld => ?_)
      refine takeR 0 (some 19) ?_ ?_ ?_; rotate_left; (focus (intros; go_simp; (try with_reducible rfl)))
      simp only [aput, lset]
      refine takeR 1 (some 20) ?_ ?_ ?_; rotate_left; (focus (intros; go_simp; (try with_reducible rfl)))
      simp only [aput, lset]
      refine takeR 2 (some 21) ?_ ?_ ?_; rotate_left; (focus (intros; go_simp; (try with_reducible rfl)))
      simp only [aput, lset]
      refine takeR 3 (some 22) ?_ ?_ ?_; rotate_left; (focus (intros; go_simp; (try with_reducible rfl)))
      simp only [aput, lset]
      refine takeR 4 (some 23) ?_ ?_ ?_; rotate_left; (focus (intro w hSw; (try dsimp only at hSw); obtain ⟨z0, z1, z2, z3, z4⟩ := cells5 (Stay.at hSw 0 rfl); have a6 := cell_of_row _ g 6 _ _ _ (Stay.at hSw 1 rfl); have l0 := cell_keep E0.out hSw.b; have l1 := cell_keep E1.out hSw.b; have l2 := cell_keep E2.out hSw.b; have l3 := cell_keep E3.out hSw.b; go_simp; (try with_reducible rfl)))
      simp only [aput, lset]
      refine takeR 5 (some 24) ?_ ?_ ?_; rotate_left; (focus (intros; go_simp; (try with_reducible rfl)))
      simp only [aput, lset]
      refine takeR 6 (some 25) ?_ ?_ ?_; rotate_left; (focus (intro w hSw; (try dsimp only at hSw); obtain ⟨z0, z1, z2, z3, z4⟩ := cells5 (Stay.at hSw 0 rfl); have a6 := cell_of_row _ g 6 _ _ _ (Stay.at hSw 1 rfl); have l0 := cell_keep E0.out hSw.b; have l1 := cell_keep E1.out hSw.b; have l2 := cell_keep E2.out hSw.b; have l3 := cell_keep E3.out hSw.b; go_simp; (try with_reducible rfl)))
      simp only [aput, lset]
      refine takeR 7 (some 26) ?_ ?_ ?_; rotate_left; (focus (intros; go_simp; (try with_reducible rfl)))
      simp only [aput, lset]
      refine takeR 8 (some 27) ?_ ?_ ?_; rotate_left; (focus (intro w hSw; (try dsimp only at hSw); obtain ⟨z0, z1, z2, z3, z4⟩ := cells5 (Stay.at hSw 0 rfl); have a6 := cell_of_row _ g 6 _ _ _ (Stay.at hSw 1 rfl); have l0 := cell_keep E0.out hSw.b; have l1 := cell_keep E1.out hSw.b; have l2 := cell_keep E2.out hSw.b; have l3 := cell_keep E3.out hSw.b; go_simp; (try with_reducible rfl)))
      simp only [aput, lset]
      refine wpAnyH_ready (rs := [9]) (by kernel_rfl) (by simp) ?_
      refine AllReadyH.cons (o := ⟨some 8, _, _, _, _, _⟩) rfl (fun K hK => ?_) AllReadyH.nil
      rw [if_pos (by kernel_rfl)]
      go_simp
      have hS9 := Stay.next hHeld (al (Below.refl _ _) (zbx 56))
      have B9 : (World.alloc w3.drew (zbx 56)).heap[w3.heap.size]? = some (zbx 56) := heap_alloc_new w3.drew (zbx 56)
      go_simp
      refine hK.out _ _ (by assumption) (fun hHeld => ?_)
      clear hK K
      refine wpAnyH_ready (rs := [10]) (by kernel_rfl) (by simp) ?_
      refine AllReadyH.cons (o := ⟨none, _, _, _, _, _⟩) rfl (fun K hK => ?_) AllReadyH.nil
      rw [if_pos (by kernel_rfl)]
      go_simp
      have HB := Lib.hid ((S3.out.alloc (ebx e 56)).drew)
      have hS10 := (S3.out.next (al (Below.refl _ _) (ebx e 56))).drew
      go_simp
      refine hK.out _ _ (by assumption) (fun hHeld => ?_)
      clear hK K
      refine wpAnyH_done (by kernel_rfl) ?_ _
      exact NoPanic.normal ⟨rfl, rfl, HB.out⟩
    case hm =>
      rintro w4 S4
      have S4 := Lib.hid S4
      generalize w3.heap.size = q at *
      obtain ⟨y0, y1, y2, y3⟩ := PlanW.cells4 (S4.out.at 0 rfl)
      obtain ⟨z0, z1, z2, z3, z4⟩ := cells5 (S4.out.at 1 rfl)
      go_wp2
      apply wp_one
      case h =>
        refine wp_region_noPanic ?_
        refine wp_region_held_drew (S := fun Z : World => Stay W [(q, ebx e 56), (W.heap.size, dbx ⟨dc, (n : Int), dn, dp, ds⟩), (g, sbx c D (some ⟨b, off, none⟩) L nd cd ne ce nl cl h me ml xa xb)] Z) (by kernel_rfl) (S4.out.drew) (fun hHeld => ?_)
        refine takeR 0 (some 28) ?_ ?_ ?_; rotate_left; (focus (intros; go_simp; (try with_reducible rfl)))
        simp only [aput, lset]
        refine takeR 1 (some 29) ?_ ?_ ?_; rotate_left; (focus (intro w hSw; (try dsimp only at hSw); obtain ⟨y0, y1, y2, y3⟩ := PlanW.cells4 (Stay.at hSw 0 rfl); obtain ⟨z0, z1, z2, z3, z4⟩ := cells5 (Stay.at hSw 1 rfl); have a9 := cell_of_row _ g 9 _ _ _ (Stay.at hSw 2 rfl); go_simp; (try with_reducible rfl)))
        simp only [aput, lset]
        refine takeR 2 (some 30) ?_ ?_ ?_; rotate_left; (focus (intros; go_simp; (try with_reducible rfl)))
        simp only [aput, lset]
        refine takeR 3 (some 31) ?_ ?_ ?_; rotate_left; (focus (intros; go_simp; (try with_reducible rfl)))
        simp only [aput, lset]
        refine takeR 4 (some 32) ?_ ?_ ?_; rotate_left; (focus (intros; go_simp; (try with_reducible rfl)))
        simp only [aput, lset]
        refine takeR 5 (some 33) ?_ ?_ ?_; rotate_left; (focus (intro w hSw; (try dsimp only at hSw); obtain ⟨y0, y1, y2, y3⟩ := PlanW.cells4 (Stay.at hSw 0 rfl); obtain ⟨z0, z1, z2, z3, z4⟩ := cells5 (Stay.at hSw 1 rfl); have a9 := cell_of_row _ g 9 _ _ _ (Stay.at hSw 2 rfl); go_simp; (try with_reducible rfl)))
        simp only [aput, lset]
        refine wpAnyH_ready (rs := [6]) (by kernel_rfl) (by simp) ?_
        refine AllReadyH.cons (o := ⟨some 34, _, _, _, _, _⟩) rfl (fun K hK => ?_) AllReadyH.nil
        rw [if_pos (by kernel_rfl)]
        go_simp
        refine (HH.out _).mono ?_
        rintro r w9 ⟨rfl, hw9⟩
        obtain rfl := hw9.symm
        go_simp
        refine hK.out _ _ (by assumption) (fun hHeld => ?_)
        clear hK K
        refine takeR 7 (some 35) ?_ ?_ ?_; rotate_left; (focus (intros; go_simp; (try with_reducible rfl)))
        simp only [aput, lset]
        refine takeR 8 (some 36) ?_ ?_ ?_; rotate_left; (focus (intros; go_simp; (try with_reducible rfl)))
        simp only [aput, lset]
        refine takeR 9 (some 37) ?_ ?_ ?_; rotate_left; (focus (intros; go_simp; (try with_reducible rfl)))
        simp only [aput, lset]
        refine takeR 10 (some 38) ?_ ?_ ?_; rotate_left; (focus (intro w hSw; (try dsimp only at hSw); obtain ⟨y0, y1, y2, y3⟩ := PlanW.cells4 (Stay.at hSw 0 rfl); obtain ⟨z0, z1, z2, z3, z4⟩ := cells5 (Stay.at hSw 1 rfl); have a9 := cell_of_row _ g 9 _ _ _ (Stay.at hSw 2 rfl); go_simp; (try with_reducible rfl)))
        simp only [aput, lset]
        refine takeR 11 (some 39) ?_ ?_ ?_; rotate_left; (focus (intros; go_simp; (try with_reducible rfl)))
        simp only [aput, lset]
        refine takeR 12 (some 40) ?_ ?_ ?_; rotate_left; (focus (intro w hSw; (try dsimp only at hSw); obtain ⟨y0, y1, y2, y3⟩ := PlanW.cells4 (Stay.at hSw 0 rfl); obtain ⟨z0, z1, z2, z3, z4⟩ := cells5 (Stay.at hSw 1 rfl); have a9 := cell_of_row _ g 9 _ _ _ (Stay.at hSw 2 rfl); go_simp; (try with_reducible rfl)))
        simp only [aput, lset]
        refine takeR 13 (some 41) ?_ ?_ ?_; rotate_left; (focus (intros; go_simp; (try with_reducible rfl)))
        simp only [aput, lset]
        refine takeR 14 (some 42) ?_ ?_ ?_; rotate_left; (focus (intros; go_simp; (try with_reducible rfl)))
        simp only [aput, lset]
        refine wpAnyH_done (by kernel_rfl) ?_ _
        exact NoPanic.normal ⟨rfl, rfl, rfl⟩
      case hm =>
        clear y0 y1 y2 y3 z0 z1 z2 z3 z4
        have S5 := Lib.hid S4.out.drew
        clear S4
        generalize w4.drew = w5 at *
        go_wp2
        apply wp_some (S := fun Z : World => Stay W [(q, ebx e 56), (W.heap.size, dbx ⟨dc, (n : Int), dn, dp, ds⟩), (g, sbx c D (some ⟨b, off, none⟩) L nd cd ne ce nl cl h me ml xa xb)] Z)
        case h =>
          refine wp_region_noPanic ?_
          refine wp_region_held_drew (S := fun Z : World => Stay W [(q, ebx e 56), (W.heap.size, dbx ⟨dc, (n : Int), dn, dp, ds⟩), (g, sbx c D (some ⟨b, off, none⟩) L nd cd ne ce nl cl h me ml xa xb)] Z) (by kernel_rfl) (S5.out.drew) (fun hHeld => ?_)
          refine takeR 0 (some 44) ?_ ?_ ?_; rotate_left; (focus (intros; go_simp; (try with_reducible rfl)))
          simp only [aput, lset]
          refine takeR 1 (some 45) ?_ ?_ ?_; rotate_left; (focus (intros; go_simp; (try with_reducible rfl)))
          simp only [aput, lset]
          refine takeR 2 (some 46) ?_ ?_ ?_; rotate_left; (focus (intros; go_simp; (try with_reducible rfl)))
          simp only [aput, lset]
          refine takeR 3 (some 47) ?_ ?_ ?_; rotate_left; (focus (intro w hSw; (try dsimp only at hSw); obtain ⟨z0, z1, z2, z3, z4⟩ := cells5 (Stay.at hSw 1 rfl); have a0 := cell_of_row _ g 0 _ _ _ (Stay.at hSw 2 rfl); have a1 := cell_of_row _ g 1 _ _ _ (Stay.at hSw 2 rfl); have a2 := cell_of_row _ g 2 _ _ _ (Stay.at hSw 2 rfl); have a3 := cell_of_row _ g 3 _ _ _ (Stay.at hSw 2 rfl); have a4 := cell_of_row _ g 4 _ _ _ (Stay.at hSw 2 rfl); have a5 := cell_of_row _ g 5 _ _ _ (Stay.at hSw 2 rfl); have a6 := cell_of_row _ g 6 _ _ _ (Stay.at hSw 2 rfl); have a7 := cell_of_row _ g 7 _ _ _ (Stay.at hSw 2 rfl); have a8 := cell_of_row _ g 8 _ _ _ (Stay.at hSw 2 rfl); go_simp; (try with_reducible rfl)))
          simp only [aput, lset]
          refine takeR 4 (some 48) ?_ ?_ ?_; rotate_left; (focus (intros; go_simp; (try with_reducible rfl)))
          simp only [aput, lset]
          refine takeR 5 (some 49) ?_ ?_ ?_; rotate_left; (focus (intro w hSw; (try dsimp only at hSw); obtain ⟨z0, z1, z2, z3, z4⟩ := cells5 (Stay.at hSw 1 rfl); have a0 := cell_of_row _ g 0 _ _ _ (Stay.at hSw 2 rfl); have a1 := cell_of_row _ g 1 _ _ _ (Stay.at hSw 2 rfl); have a2 := cell_of_row _ g 2 _ _ _ (Stay.at hSw 2 rfl); have a3 := cell_of_row _ g 3 _ _ _ (Stay.at hSw 2 rfl); have a4 := cell_of_row _ g 4 _ _ _ (Stay.at hSw 2 rfl); have a5 := cell_of_row _ g 5 _ _ _ (Stay.at hSw 2 rfl); have a6 := cell_of_row _ g 6 _ _ _ (Stay.at hSw 2 rfl); have a7 := cell_of_row _ g 7 _ _ _ (Stay.at hSw 2 rfl); have a8 := cell_of_row _ g 8 _ _ _ (Stay.at hSw 2 rfl); go_simp; (try with_reducible rfl)))
          simp only [aput, lset]
          refine takeR 6 (some 50) ?_ ?_ ?_; rotate_left; (focus (intros; go_simp; (try with_reducible rfl)))
          simp only [aput, lset]
          refine wpAnyH_ready (rs := [7]) (by kernel_rfl) (by simp) ?_
          refine AllReadyH.cons (o := ⟨some 51, _, _, _, _, _⟩) rfl (fun K hK => ?_) AllReadyH.nil
          rw [if_pos (by kernel_rfl)]
          go_simp
          refine (HP.out _ (HM.out.below (Stay.b hHeld))).mono ?_
          rintro r w9 ⟨rfl, b9⟩
          have hS9 := Stay.next hHeld b9
          clear b9
          go_simp
          refine hK.out _ _ (by assumption) (fun hHeld => ?_)
          clear hK K
          refine takeR 8 (some 43) ?_ ?_ ?_; rotate_left; (focus (intros; go_simp; (try with_reducible rfl)))
          simp only [aput, lset]
          refine takeR 9 (some 52) ?_ ?_ ?_; rotate_left; (focus (intros; go_simp; (try with_reducible rfl)))
          simp only [aput, lset]
          refine takeR 10 (some 53) ?_ ?_ ?_; rotate_left; (focus (intros; go_simp; (try with_reducible rfl)))
          simp only [aput, lset]
          refine takeR 11 (some 6) ?_ ?_ ?_; rotate_left; (focus (intros; go_simp; (try with_reducible rfl)))
          simp only [aput, lset]
          refine takeR 12 (some 9) ?_ ?_ ?_; rotate_left; (focus (intros; go_simp; (try with_reducible rfl)))
          simp only [aput, lset]
          refine wpAnyH_done (by kernel_rfl) ?_ _
          exact NoPanic.normal ⟨rfl, rfl, hS9⟩
        case hm =>
          rintro w6 S6
          have S6 := Lib.hid S6
          clear S5 HP
          go_wp2
          apply wp_some (S := fun Z : World => MP Z me (N + 1) (MP.upd f n x) ∧ Kept me w6 Z)
          case h =>
            refine wp_region_noPanic ?_
            refine wp_region_held_drew (S := fun Z : World => Kept me w6 Z) (by kernel_rfl) (Kept.of (Below.refl _ _).drew) (fun hHeld => ?_)
            refine takeR 0 (some 56) ?_ ?_ ?_; rotate_left; (focus (intros; go_simp; (try with_reducible rfl)))
            simp only [aput, lset]
            refine takeR 1 (some 57) ?_ ?_ ?_; rotate_left; (focus (intros; go_simp; (try with_reducible rfl)))
            simp only [aput, lset]
            refine takeR 2 (some 58) ?_ ?_ ?_; rotate_left; (focus (intros; go_simp; (try with_reducible rfl)))
            simp only [aput, lset]
            refine takeR 3 (some 59) ?_ ?_ ?_; rotate_left; (focus (intro w hSw; (try dsimp only at hSw); obtain ⟨z0, z1, z2, z3, z4⟩ := cells5 ((hSw.block W.heap.size (Nat.ne_of_gt HL.out.1) (lt_of_heap (S6.out.at 1 rfl))).trans (S6.out.at 1 rfl)); have a10 := cell_of_row _ g 10 _ _ _ ((hSw.block g (fun e => HL.out.2 e.symm) (lt_of_heap (S6.out.at 2 rfl))).trans (S6.out.at 2 rfl)); go_simp; (try with_reducible rfl)))
            simp only [aput, lset]
            refine takeR 4 (some 60) ?_ ?_ ?_; rotate_left; (focus (intros; go_simp; (try with_reducible rfl)))
            simp only [aput, lset]
            refine takeR 5 (some 61) ?_ ?_ ?_; rotate_left; (focus (intro w hSw; (try dsimp only at hSw); obtain ⟨z0, z1, z2, z3, z4⟩ := cells5 ((hSw.block W.heap.size (Nat.ne_of_gt HL.out.1) (lt_of_heap (S6.out.at 1 rfl))).trans (S6.out.at 1 rfl)); have a10 := cell_of_row _ g 10 _ _ _ ((hSw.block g (fun e => HL.out.2 e.symm) (lt_of_heap (S6.out.at 2 rfl))).trans (S6.out.at 2 rfl)); go_simp; (try with_reducible rfl)))
            simp only [aput, lset]
            refine takeR 6 (some 62) ?_ ?_ ?_; rotate_left; (focus (intros; go_simp; (try with_reducible rfl)))
            simp only [aput, lset]
            refine wpAnyH_ready (rs := [7]) (by kernel_rfl) (by simp) ?_
            refine AllReadyH.cons (o := ⟨some 63, _, _, _, _, _⟩) rfl (fun K hK => ?_) AllReadyH.nil
            rw [if_pos (by kernel_rfl)]
            go_simp
            refine (HR.out _ (Below.drew S6.out.b)).mono ?_
            rintro r w9 ⟨rfl, hm9, k9⟩
            have hS9 : Kept me w6 w9 := (Kept.of (Below.refl _ _).drew).trans k9
            have hB9 := hm9
            go_simp
            refine hK.out _ _ (by assumption) (fun hHeld => ?_)
            clear hK K
            refine takeR 8 (some 64) ?_ ?_ ?_; rotate_left; (focus (intros; go_simp; (try with_reducible rfl)))
            simp only [aput, lset]
            refine wpAnyH_done (by kernel_rfl) ?_ _
            exact NoPanic.normal ⟨rfl, rfl, ⟨hB9, hS9⟩⟩
          case hm =>
            rintro w7 ⟨h7, k7⟩
            have R := Lib.hid (And.intro h7 ((Kept.of S6.out.b).trans k7))
            clear h7 k7 S6
            go_wp2
            go_ret2
            exact ⟨rfl, R.out⟩
set_option maxHeartbeats 4000000 in
set_option maxRecDepth 100000 in
theorem tl3 (c : Cfg) (D E L : Option Addr) (nd cd ne ce nl cl : Nat) (h : Int) (me ml : Nat) (xa xb : Int) (g : Nat) (d : Dt) (ok : DOk d) (W : World) (hx : W.heap[g]? = some (sbx c D E L nd cd ne ce nl cl h me ml xa xb)) (m : CM W c D E L nd cd ne ce nl cl) (e : R4) (h2 : lnkAt c d.l = some e) (h3 : CrewW.has e.b h = true) (h4 : d.s ≤ e.d) (N : Nat) (f : Nat → Option Int) (hp : MP W ml N f) (h6 : stops f d.l.toNat d.n = true) :
    Calls Try.prog 56 #[.pointer (some ⟨g, 0, none⟩), .agg #[.int .i64 d.c, .int .i64 d.l, .int .i64 d.n, .string d.p, .int .i64 d.s]] W fun r W' => r = .returned (.int .i64 3) ∧ Below W.heap.size W W' := by
  have S1 := Lib.hid (((Stay.start W).add hx).alloc (dbx d))
  have HM := Lib.hid m
  have HN := Lib.hid (Nat.ne_of_lt (lt_of_heap hx))
  obtain ⟨n, hn, hk, hlt⟩ := lnk_at h2 ok.l.1
  rw [← m.nL] at hlt
  have hnE : nl ≤ 9223372036854775807 := by have := m.mL; unfold maxLen at this; omega
  obtain ⟨dc, dl, dn, dp, ds⟩ := d
  obtain rfl : dl = (n : Int) := hn
  have HN2 := Lib.hid (show n ≤ 255 by have : (n : Int) ≤ 255 := ok.l.2; omega)
  have HDN := Lib.hid (show 0 ≤ dn ∧ dn ≤ 2147483647 from ok.n)
  have g0 : (n : Int) < (nl : Int) := by omega
  have g1 : decide ((nl : Int) ≤ (n : Int)) = false := decide_eq_false (by omega)
  have g4 : decide (nl ≤ n) = false := decide_eq_false (by omega)
  obtain ⟨b, off, rfl, l0, l1, l2, l3⟩ := ml_at m.hl hk
  have E0 := Lib.hid l0
  have E1 := Lib.hid l1
  have E2 := Lib.hid l2
  have E3 := Lib.hid l3
  have HB := Lib.hid (m.hl.u32 e (List.mem_of_getElem? hk))
  have HH := Lib.hid (fun W => CrewW.has_any e.b h W HB.out)
  rw [h3] at HH
  have g5 : ¬ ds > e.d := Int.not_lt.2 h4
  have g2 : decide (e.d < ds) = false := decide_eq_false g5
  have HR := Lib.hid (fun (W' : World) (b' : Below W.heap.size W W') => rise_no W' (hp.block (b'.block ml hp.lt)) HN2.out h6)
  clear h4 h6 hp
  clear hx ok m h2 h3 l0 l1 l2 l3
  go_enter Try.func56, Try.ntmps56
  go_wp2
  generalize W.alloc (dbx ⟨dc, (n : Int), dn, dp, ds⟩) = w2 at *
  apply wp_one
  case h =>
    refine wp_region_noPanic ?_
    refine wp_region_held_drew (S := fun Z : World => Stay W [(W.heap.size, dbx ⟨dc, (n : Int), dn, dp, ds⟩), (g, sbx c D E (some ⟨b, off, none⟩) nd cd ne ce nl cl h me ml xa xb)] Z) (by kernel_rfl) (S1.out.drew) (fun hHeld => ?_)
    refine takeR 0 (some 6) ?_ ?_ ?_; rotate_left; (focus (intros; go_simp; (try with_reducible rfl)))
    simp only [aput, lset]
    refine takeR 1 (some 7) ?_ ?_ ?_; rotate_left; (focus (intro w hSw; (try dsimp only at hSw); obtain ⟨z0, z1, z2, z3, z4⟩ := cells5 (Stay.at hSw 0 rfl); have a7 := cell_of_row _ g 7 _ _ _ (Stay.at hSw 1 rfl); go_simp; (try with_reducible rfl)))
    simp only [aput, lset]
    refine takeR 2 (some 8) ?_ ?_ ?_; rotate_left; (focus (intros; go_simp; (try with_reducible rfl)))
    simp only [aput, lset]
    refine takeR 3 (some 9) ?_ ?_ ?_; rotate_left; (focus (intros; go_simp; (try with_reducible rfl)))
    simp only [aput, lset]
    refine takeR 4 (some 10) ?_ ?_ ?_; rotate_left; (focus (intros; go_simp; (try with_reducible rfl)))
    simp only [aput, lset]
    refine takeR 5 (some 11) ?_ ?_ ?_; rotate_left; (focus (intros; go_simp; (try with_reducible rfl)))
    simp only [aput, lset]
    refine takeR 6 (some 12) ?_ ?_ ?_; rotate_left; (focus (intro w hSw; (try dsimp only at hSw); obtain ⟨z0, z1, z2, z3, z4⟩ := cells5 (Stay.at hSw 0 rfl); have a7 := cell_of_row _ g 7 _ _ _ (Stay.at hSw 1 rfl); go_simp; (try with_reducible rfl)))
    simp only [aput, lset]
    refine takeR 7 (some 13) ?_ ?_ ?_; rotate_left; (focus (intros; go_simp; (try with_reducible rfl)))
    simp only [aput, lset]
    refine takeR 8 (some 14) ?_ ?_ ?_; rotate_left; (focus (intros; go_simp; (try with_reducible rfl)))
    simp only [aput, lset]
    refine wpAnyH_done (by kernel_rfl) ?_ _
    exact NoPanic.normal ⟨rfl, rfl, rfl⟩
  case hm =>
    have S3 := Lib.hid S1.out.drew
    have GW := HN
    clear S1
    generalize w2.drew = w3 at *
    go_wp2
    apply wp_some (S := fun Z : World => Stay W [(w3.heap.size, ebx e 64), (W.heap.size, dbx ⟨dc, (n : Int), dn, dp, ds⟩), (g, sbx c D E (some ⟨b, off, none⟩) nd cd ne ce nl cl h me ml xa xb)] Z)
    case h =>
      refine wp_region_noPanic ?_
      refine wp_region_held_drew (S := fun Z : World => Stay W [(W.heap.size, dbx ⟨dc, (n : Int), dn, dp, ds⟩), (g, sbx c D E (some ⟨b, off, none⟩) nd cd ne ce nl cl h me ml xa xb)] Z) (by kernel_rfl) (S3.out.drew) (fun hHeld => ?_)
      refine takeR 0 (some 15) ?_ ?_ ?_; rotate_left; (focus (intros; go_simp; (try with_reducible rfl)))
      simp only [aput, lset]
      refine takeR 1 (some 16) ?_ ?_ ?_; rotate_left; (focus (intros; go_simp; (try with_reducible rfl)))
      simp only [aput, lset]
      refine takeR 2 (some 17) ?_ ?_ ?_; rotate_left; (focus (intros; go_simp; (try with_reducible rfl)))
      simp only [aput, lset]
      refine takeR 3 (some 18) ?_ ?_ ?_; rotate_left; (focus (intros; go_simp; (try with_reducible rfl)))
      simp only [aput, lset]
      refine takeR 4 (some 19) ?_ ?_ ?_; rotate_left; (focus (intro w hSw; (try dsimp only at hSw); obtain ⟨z0, z1, z2, z3, z4⟩ := cells5 (Stay.at hSw 0 rfl); have a7 := cell_of_row _ g 7 _ _ _ (Stay.at hSw 1 rfl); have l0 := cell_keep E0.out hSw.b; have l1 := cell_keep E1.out hSw.b; have l2 := cell_keep E2.out hSw.b; have l3 := cell_keep E3.out hSw.b; go_simp; (try with_reducible rfl)))
      simp only [aput, lset]
      refine takeR 5 (some 20) ?_ ?_ ?_; rotate_left; (focus (intros; go_simp; (try with_reducible rfl)))
      simp only [aput, lset]
      refine takeR 6 (some 21) ?_ ?_ ?_; rotate_left; (focus (intro w hSw; (try dsimp only at hSw); obtain ⟨z0, z1, z2, z3, z4⟩ := cells5 (Stay.at hSw 0 rfl); have a7 := cell_of_row _ g 7 _ _ _ (Stay.at hSw 1 rfl); have l0 := cell_keep E0.out hSw.b; have l1 := cell_keep E1.out hSw.b; have l2 := cell_keep E2.out hSw.b; have l3 := cell_keep E3.out hSw.b; go_simp; (try with_reducible rfl)))
      simp only [aput, lset]
      refine takeR 7 (some 22) ?_ ?_ ?_; rotate_left; (focus (intros; go_simp; (try with_reducible rfl)))
      simp only [aput, lset]
      refine takeR 8 (some 23) ?_ ?_ ?_; rotate_left; (focus (intro w hSw; (try dsimp only at hSw); obtain ⟨z0, z1, z2, z3, z4⟩ := cells5 (Stay.at hSw 0 rfl); have a7 := cell_of_row _ g 7 _ _ _ (Stay.at hSw 1 rfl); have l0 := cell_keep E0.out hSw.b; have l1 := cell_keep E1.out hSw.b; have l2 := cell_keep E2.out hSw.b; have l3 := cell_keep E3.out hSw.b; go_simp; (try with_reducible rfl)))
      simp only [aput, lset]
      refine wpAnyH_ready (rs := [9]) (by kernel_rfl) (by simp) ?_
      refine AllReadyH.cons (o := ⟨some 5, _, _, _, _, _⟩) rfl (fun K hK => ?_) AllReadyH.nil
      rw [if_pos (by kernel_rfl)]
      go_simp
      have hS9 := Stay.next hHeld (al (Below.refl _ _) (zbx 64))
      have B9 : (World.alloc w3.drew (zbx 64)).heap[w3.heap.size]? = some (zbx 64) := heap_alloc_new w3.drew (zbx 64)
      go_simp
      refine hK.out _ _ (by assumption) (fun hHeld => ?_)
      clear hK K
      refine wpAnyH_ready (rs := [10]) (by kernel_rfl) (by simp) ?_
      refine AllReadyH.cons (o := ⟨none, _, _, _, _, _⟩) rfl (fun K hK => ?_) AllReadyH.nil
      rw [if_pos (by kernel_rfl)]
      go_simp
      have HB := Lib.hid ((S3.out.alloc (ebx e 64)).drew)
      have hS10 := (S3.out.next (al (Below.refl _ _) (ebx e 64))).drew
      go_simp
      refine hK.out _ _ (by assumption) (fun hHeld => ?_)
      clear hK K
      refine wpAnyH_done (by kernel_rfl) ?_ _
      exact NoPanic.normal ⟨rfl, rfl, HB.out⟩
    case hm =>
      rintro w4 S4
      have S4 := Lib.hid S4
      generalize w3.heap.size = q at *
      obtain ⟨y0, y1, y2, y3⟩ := PlanW.cells4 (S4.out.at 0 rfl)
      obtain ⟨z0, z1, z2, z3, z4⟩ := cells5 (S4.out.at 1 rfl)
      go_wp2
      apply wp_one
      case h =>
        refine wp_region_noPanic ?_
        refine wp_region_held_drew (S := fun Z : World => Stay W [(q, ebx e 64), (W.heap.size, dbx ⟨dc, (n : Int), dn, dp, ds⟩), (g, sbx c D E (some ⟨b, off, none⟩) nd cd ne ce nl cl h me ml xa xb)] Z) (by kernel_rfl) (S4.out.drew) (fun hHeld => ?_)
        refine takeR 0 (some 24) ?_ ?_ ?_; rotate_left; (focus (intros; go_simp; (try with_reducible rfl)))
        simp only [aput, lset]
        refine takeR 1 (some 25) ?_ ?_ ?_; rotate_left; (focus (intro w hSw; (try dsimp only at hSw); obtain ⟨y0, y1, y2, y3⟩ := PlanW.cells4 (Stay.at hSw 0 rfl); obtain ⟨z0, z1, z2, z3, z4⟩ := cells5 (Stay.at hSw 1 rfl); have a9 := cell_of_row _ g 9 _ _ _ (Stay.at hSw 2 rfl); go_simp; (try with_reducible rfl)))
        simp only [aput, lset]
        refine takeR 2 (some 26) ?_ ?_ ?_; rotate_left; (focus (intros; go_simp; (try with_reducible rfl)))
        simp only [aput, lset]
        refine takeR 3 (some 27) ?_ ?_ ?_; rotate_left; (focus (intros; go_simp; (try with_reducible rfl)))
        simp only [aput, lset]
        refine takeR 4 (some 28) ?_ ?_ ?_; rotate_left; (focus (intros; go_simp; (try with_reducible rfl)))
        simp only [aput, lset]
        refine takeR 5 (some 29) ?_ ?_ ?_; rotate_left; (focus (intro w hSw; (try dsimp only at hSw); obtain ⟨y0, y1, y2, y3⟩ := PlanW.cells4 (Stay.at hSw 0 rfl); obtain ⟨z0, z1, z2, z3, z4⟩ := cells5 (Stay.at hSw 1 rfl); have a9 := cell_of_row _ g 9 _ _ _ (Stay.at hSw 2 rfl); go_simp; (try with_reducible rfl)))
        simp only [aput, lset]
        refine wpAnyH_ready (rs := [6]) (by kernel_rfl) (by simp) ?_
        refine AllReadyH.cons (o := ⟨some 30, _, _, _, _, _⟩) rfl (fun K hK => ?_) AllReadyH.nil
        rw [if_pos (by kernel_rfl)]
        go_simp
        refine (HH.out _).mono ?_
        rintro r w9 ⟨rfl, hw9⟩
        obtain rfl := hw9.symm
        go_simp
        refine hK.out _ _ (by assumption) (fun hHeld => ?_)
        clear hK K
        refine takeR 7 (some 31) ?_ ?_ ?_; rotate_left; (focus (intros; go_simp; (try with_reducible rfl)))
        simp only [aput, lset]
        refine takeR 8 (some 32) ?_ ?_ ?_; rotate_left; (focus (intros; go_simp; (try with_reducible rfl)))
        simp only [aput, lset]
        refine takeR 9 (some 33) ?_ ?_ ?_; rotate_left; (focus (intros; go_simp; (try with_reducible rfl)))
        simp only [aput, lset]
        refine takeR 10 (some 34) ?_ ?_ ?_; rotate_left; (focus (intro w hSw; (try dsimp only at hSw); obtain ⟨y0, y1, y2, y3⟩ := PlanW.cells4 (Stay.at hSw 0 rfl); obtain ⟨z0, z1, z2, z3, z4⟩ := cells5 (Stay.at hSw 1 rfl); have a9 := cell_of_row _ g 9 _ _ _ (Stay.at hSw 2 rfl); go_simp; (try with_reducible rfl)))
        simp only [aput, lset]
        refine takeR 11 (some 35) ?_ ?_ ?_; rotate_left; (focus (intros; go_simp; (try with_reducible rfl)))
        simp only [aput, lset]
        refine takeR 12 (some 36) ?_ ?_ ?_; rotate_left; (focus (intro w hSw; (try dsimp only at hSw); obtain ⟨y0, y1, y2, y3⟩ := PlanW.cells4 (Stay.at hSw 0 rfl); obtain ⟨z0, z1, z2, z3, z4⟩ := cells5 (Stay.at hSw 1 rfl); have a9 := cell_of_row _ g 9 _ _ _ (Stay.at hSw 2 rfl); go_simp; (try with_reducible rfl)))
        simp only [aput, lset]
        refine takeR 13 (some 37) ?_ ?_ ?_; rotate_left; (focus (intros; go_simp; (try with_reducible rfl)))
        simp only [aput, lset]
        refine takeR 14 (some 38) ?_ ?_ ?_; rotate_left; (focus (intros; go_simp; (try with_reducible rfl)))
        simp only [aput, lset]
        refine wpAnyH_done (by kernel_rfl) ?_ _
        exact NoPanic.normal ⟨rfl, rfl, rfl⟩
      case hm =>
        clear y0 y1 y2 y3 z0 z1 z2 z3 z4
        have S5 := Lib.hid S4.out.drew
        clear S4
        generalize w4.drew = w5 at *
        go_wp2
        apply wp_one
        case h =>
          refine wp_region_noPanic ?_
          refine wp_region_held_drew (S := fun Z : World => Stay W [(q, ebx e 64), (W.heap.size, dbx ⟨dc, (n : Int), dn, dp, ds⟩), (g, sbx c D E (some ⟨b, off, none⟩) nd cd ne ce nl cl h me ml xa xb)] Z) (by kernel_rfl) (S5.out.drew) (fun hHeld => ?_)
          refine takeR 0 (some 39) ?_ ?_ ?_; rotate_left; (focus (intros; go_simp; (try with_reducible rfl)))
          simp only [aput, lset]
          refine takeR 1 (some 40) ?_ ?_ ?_; rotate_left; (focus (intros; go_simp; (try with_reducible rfl)))
          simp only [aput, lset]
          refine takeR 2 (some 41) ?_ ?_ ?_; rotate_left; (focus (intros; go_simp; (try with_reducible rfl)))
          simp only [aput, lset]
          refine takeR 3 (some 42) ?_ ?_ ?_; rotate_left; (focus (intro w hSw; (try dsimp only at hSw); obtain ⟨z0, z1, z2, z3, z4⟩ := cells5 (Stay.at hSw 1 rfl); have a11 := cell_of_row _ g 11 _ _ _ (Stay.at hSw 2 rfl); go_simp; (try with_reducible rfl)))
          simp only [aput, lset]
          refine takeR 4 (some 43) ?_ ?_ ?_; rotate_left; (focus (intros; go_simp; (try with_reducible rfl)))
          simp only [aput, lset]
          refine takeR 5 (some 44) ?_ ?_ ?_; rotate_left; (focus (intro w hSw; (try dsimp only at hSw); obtain ⟨z0, z1, z2, z3, z4⟩ := cells5 (Stay.at hSw 1 rfl); have a11 := cell_of_row _ g 11 _ _ _ (Stay.at hSw 2 rfl); go_simp; (try with_reducible rfl)))
          simp only [aput, lset]
          refine takeR 6 (some 45) ?_ ?_ ?_; rotate_left; (focus (intros; go_simp; (try with_reducible rfl)))
          simp only [aput, lset]
          refine takeR 7 (some 46) ?_ ?_ ?_; rotate_left; (focus (intro w hSw; (try dsimp only at hSw); obtain ⟨z0, z1, z2, z3, z4⟩ := cells5 (Stay.at hSw 1 rfl); have a11 := cell_of_row _ g 11 _ _ _ (Stay.at hSw 2 rfl); go_simp; (try with_reducible rfl)))
          simp only [aput, lset]
          refine wpAnyH_ready (rs := [8]) (by kernel_rfl) (by simp) ?_
          refine AllReadyH.cons (o := ⟨some 47, _, _, _, _, _⟩) rfl (fun K hK => ?_) AllReadyH.nil
          rw [if_pos (by kernel_rfl)]
          go_simp
          refine (HR.out _ (Stay.b hHeld)).mono ?_
          rintro r w9 ⟨rfl, hw9⟩
          obtain rfl := hw9.symm
          go_simp
          refine hK.out _ _ (by assumption) (fun hHeld => ?_)
          clear hK K
          refine takeR 9 (some 48) ?_ ?_ ?_; rotate_left; (focus (intros; go_simp; (try with_reducible rfl)))
          simp only [aput, lset]
          refine wpAnyH_done (by kernel_rfl) ?_ _
          exact NoPanic.normal ⟨rfl, rfl, rfl⟩
        case hm =>
          go_wp2
          go_ret
          exact ⟨rfl, S5.out.b.drew⟩
set_option maxHeartbeats 4000000 in
set_option maxRecDepth 100000 in
theorem tl4 (c : Cfg) (D E L : Option Addr) (nd cd ne ce nl cl : Nat) (h : Int) (me ml : Nat) (xa xb : Int) (g : Nat) (d : Dt) (ok : DOk d) (W : World) (hx : W.heap[g]? = some (sbx c D E L nd cd ne ce nl cl h me ml xa xb)) (m : CM W c D E L nd cd ne ce nl cl) (e : R4) (h2 : lnkAt c d.l = some e) (h3 : CrewW.has e.b h = true) (h4 : d.s ≤ e.d) (N : Nat) (f : Nat → Option Int) (hp : MP W ml N f) (hN : N < maxLen) (hg : ml ≠ g) (h6 : stops f d.l.toNat d.n = false) :
    Calls Try.prog 56 #[.pointer (some ⟨g, 0, none⟩), .agg #[.int .i64 d.c, .int .i64 d.l, .int .i64 d.n, .string d.p, .int .i64 d.s]] W fun r W' => r = .returned (.int .i64 0) ∧ MP W' ml (N + 1) (MP.upd f d.l.toNat d.n) ∧ Kept ml W W' := by
  have S1 := Lib.hid (((Stay.start W).add hx).alloc (dbx d))
  have HM := Lib.hid m
  have HN := Lib.hid (Nat.ne_of_lt (lt_of_heap hx))
  obtain ⟨n, hn, hk, hlt⟩ := lnk_at h2 ok.l.1
  rw [← m.nL] at hlt
  have hnE : nl ≤ 9223372036854775807 := by have := m.mL; unfold maxLen at this; omega
  obtain ⟨dc, dl, dn, dp, ds⟩ := d
  obtain rfl : dl = (n : Int) := hn
  have HN2 := Lib.hid (show n ≤ 255 by have : (n : Int) ≤ 255 := ok.l.2; omega)
  have HDN := Lib.hid (show 0 ≤ dn ∧ dn ≤ 2147483647 from ok.n)
  have g0 : (n : Int) < (nl : Int) := by omega
  have g1 : decide ((nl : Int) ≤ (n : Int)) = false := decide_eq_false (by omega)
  have g4 : decide (nl ≤ n) = false := decide_eq_false (by omega)
  obtain ⟨b, off, rfl, l0, l1, l2, l3⟩ := ml_at m.hl hk
  have E0 := Lib.hid l0
  have E1 := Lib.hid l1
  have E2 := Lib.hid l2
  have E3 := Lib.hid l3
  have HB := Lib.hid (m.hl.u32 e (List.mem_of_getElem? hk))
  have HH := Lib.hid (fun W => CrewW.has_any e.b h W HB.out)
  rw [h3] at HH
  have g5 : ¬ ds > e.d := Int.not_lt.2 h4
  have g2 : decide (e.d < ds) = false := decide_eq_false g5
  have HR := Lib.hid (fun (W' : World) (b' : Below W.heap.size W W') => rise_yes W' (hp.block (b'.block ml hp.lt)) hN HN2.out (show (Lit.int .i64 dn).wf = true from wf64 (by have := HDN.out; omega) (by have := HDN.out; omega)) h6)
  have HL := Lib.hid (show ml < W.heap.size ∧ ml ≠ g from ⟨hp.lt, hg⟩)
  clear h4 h6 hp hN hg
  clear hx ok m h2 h3 l0 l1 l2 l3
  go_enter Try.func56, Try.ntmps56
  go_wp2
  generalize W.alloc (dbx ⟨dc, (n : Int), dn, dp, ds⟩) = w2 at *
  apply wp_one
  case h =>
    refine wp_region_noPanic ?_
    refine wp_region_held_drew (S := fun Z : World => Stay W [(W.heap.size, dbx ⟨dc, (n : Int), dn, dp, ds⟩), (g, sbx c D E (some ⟨b, off, none⟩) nd cd ne ce nl cl h me ml xa xb)] Z) (by kernel_rfl) (S1.out.drew) (fun hHeld => ?_)
    refine takeR 0 (some 6) ?_ ?_ ?_; rotate_left; (focus (intros; go_simp; (try with_reducible rfl)))
    simp only [aput, lset]
    refine takeR 1 (some 7) ?_ ?_ ?_; rotate_left; (focus (intro w hSw; (try dsimp only at hSw); obtain ⟨z0, z1, z2, z3, z4⟩ := cells5 (Stay.at hSw 0 rfl); have a7 := cell_of_row _ g 7 _ _ _ (Stay.at hSw 1 rfl); go_simp; (try with_reducible rfl)))
    simp only [aput, lset]
    refine takeR 2 (some 8) ?_ ?_ ?_; rotate_left; (focus (intros; go_simp; (try with_reducible rfl)))
    simp only [aput, lset]
    refine takeR 3 (some 9) ?_ ?_ ?_; rotate_left; (focus (intros; go_simp; (try with_reducible rfl)))
    simp only [aput, lset]
    refine takeR 4 (some 10) ?_ ?_ ?_; rotate_left; (focus (intros; go_simp; (try with_reducible rfl)))
    simp only [aput, lset]
    refine takeR 5 (some 11) ?_ ?_ ?_; rotate_left; (focus (intros; go_simp; (try with_reducible rfl)))
    simp only [aput, lset]
    refine takeR 6 (some 12) ?_ ?_ ?_; rotate_left; (focus (intro w hSw; (try dsimp only at hSw); obtain ⟨z0, z1, z2, z3, z4⟩ := cells5 (Stay.at hSw 0 rfl); have a7 := cell_of_row _ g 7 _ _ _ (Stay.at hSw 1 rfl); go_simp; (try with_reducible rfl)))
    simp only [aput, lset]
    refine takeR 7 (some 13) ?_ ?_ ?_; rotate_left; (focus (intros; go_simp; (try with_reducible rfl)))
    simp only [aput, lset]
    refine takeR 8 (some 14) ?_ ?_ ?_; rotate_left; (focus (intros; go_simp; (try with_reducible rfl)))
    simp only [aput, lset]
    refine wpAnyH_done (by kernel_rfl) ?_ _
    exact NoPanic.normal ⟨rfl, rfl, rfl⟩
  case hm =>
    have S3 := Lib.hid S1.out.drew
    have GW := HN
    clear S1
    generalize w2.drew = w3 at *
    go_wp2
    apply wp_some (S := fun Z : World => Stay W [(w3.heap.size, ebx e 64), (W.heap.size, dbx ⟨dc, (n : Int), dn, dp, ds⟩), (g, sbx c D E (some ⟨b, off, none⟩) nd cd ne ce nl cl h me ml xa xb)] Z)
    case h =>
      refine wp_region_noPanic ?_
      refine wp_region_held_drew (S := fun Z : World => Stay W [(W.heap.size, dbx ⟨dc, (n : Int), dn, dp, ds⟩), (g, sbx c D E (some ⟨b, off, none⟩) nd cd ne ce nl cl h me ml xa xb)] Z) (by kernel_rfl) (S3.out.drew) (fun hHeld => ?_)
      refine takeR 0 (some 15) ?_ ?_ ?_; rotate_left; (focus (intros; go_simp; (try with_reducible rfl)))
      simp only [aput, lset]
      refine takeR 1 (some 16) ?_ ?_ ?_; rotate_left; (focus (intros; go_simp; (try with_reducible rfl)))
      simp only [aput, lset]
      refine takeR 2 (some 17) ?_ ?_ ?_; rotate_left; (focus (intros; go_simp; (try with_reducible rfl)))
      simp only [aput, lset]
      refine takeR 3 (some 18) ?_ ?_ ?_; rotate_left; (focus (intros; go_simp; (try with_reducible rfl)))
      simp only [aput, lset]
      refine takeR 4 (some 19) ?_ ?_ ?_; rotate_left; (focus (intro w hSw; (try dsimp only at hSw); obtain ⟨z0, z1, z2, z3, z4⟩ := cells5 (Stay.at hSw 0 rfl); have a7 := cell_of_row _ g 7 _ _ _ (Stay.at hSw 1 rfl); have l0 := cell_keep E0.out hSw.b; have l1 := cell_keep E1.out hSw.b; have l2 := cell_keep E2.out hSw.b; have l3 := cell_keep E3.out hSw.b; go_simp; (try with_reducible rfl)))
      simp only [aput, lset]
      refine takeR 5 (some 20) ?_ ?_ ?_; rotate_left; (focus (intros; go_simp; (try with_reducible rfl)))
      simp only [aput, lset]
      refine takeR 6 (some 21) ?_ ?_ ?_; rotate_left; (focus (intro w hSw; (try dsimp only at hSw); obtain ⟨z0, z1, z2, z3, z4⟩ := cells5 (Stay.at hSw 0 rfl); have a7 := cell_of_row _ g 7 _ _ _ (Stay.at hSw 1 rfl); have l0 := cell_keep E0.out hSw.b; have l1 := cell_keep E1.out hSw.b; have l2 := cell_keep E2.out hSw.b; have l3 := cell_keep E3.out hSw.b; go_simp; (try with_reducible rfl)))
      simp only [aput, lset]
      refine takeR 7 (some 22) ?_ ?_ ?_; rotate_left; (focus (intros; go_simp; (try with_reducible rfl)))
      simp only [aput, lset]
      refine takeR 8 (some 23) ?_ ?_ ?_; rotate_left; (focus (intro w hSw; (try dsimp only at hSw); obtain ⟨z0, z1, z2, z3, z4⟩ := cells5 (Stay.at hSw 0 rfl); have a7 := cell_of_row _ g 7 _ _ _ (Stay.at hSw 1 rfl); have l0 := cell_keep E0.out hSw.b; have l1 := cell_keep E1.out hSw.b; have l2 := cell_keep E2.out hSw.b; have l3 := cell_keep E3.out hSw.b; go_simp; (try with_reducible rfl)))
      simp only [aput, lset]
      refine wpAnyH_ready (rs := [9]) (by kernel_rfl) (by simp) ?_
      refine AllReadyH.cons (o := ⟨some 5, _, _, _, _, _⟩) rfl (fun K hK => ?_) AllReadyH.nil
      rw [if_pos (by kernel_rfl)]
      go_simp
      have hS9 := Stay.next hHeld (al (Below.refl _ _) (zbx 64))
      have B9 : (World.alloc w3.drew (zbx 64)).heap[w3.heap.size]? = some (zbx 64) := heap_alloc_new w3.drew (zbx 64)
      go_simp
      refine hK.out _ _ (by assumption) (fun hHeld => ?_)
      clear hK K
      refine wpAnyH_ready (rs := [10]) (by kernel_rfl) (by simp) ?_
      refine AllReadyH.cons (o := ⟨none, _, _, _, _, _⟩) rfl (fun K hK => ?_) AllReadyH.nil
      rw [if_pos (by kernel_rfl)]
      go_simp
      have HB := Lib.hid ((S3.out.alloc (ebx e 64)).drew)
      have hS10 := (S3.out.next (al (Below.refl _ _) (ebx e 64))).drew
      go_simp
      refine hK.out _ _ (by assumption) (fun hHeld => ?_)
      clear hK K
      refine wpAnyH_done (by kernel_rfl) ?_ _
      exact NoPanic.normal ⟨rfl, rfl, HB.out⟩
    case hm =>
      rintro w4 S4
      have S4 := Lib.hid S4
      generalize w3.heap.size = q at *
      obtain ⟨y0, y1, y2, y3⟩ := PlanW.cells4 (S4.out.at 0 rfl)
      obtain ⟨z0, z1, z2, z3, z4⟩ := cells5 (S4.out.at 1 rfl)
      go_wp2
      apply wp_one
      case h =>
        refine wp_region_noPanic ?_
        refine wp_region_held_drew (S := fun Z : World => Stay W [(q, ebx e 64), (W.heap.size, dbx ⟨dc, (n : Int), dn, dp, ds⟩), (g, sbx c D E (some ⟨b, off, none⟩) nd cd ne ce nl cl h me ml xa xb)] Z) (by kernel_rfl) (S4.out.drew) (fun hHeld => ?_)
        refine takeR 0 (some 24) ?_ ?_ ?_; rotate_left; (focus (intros; go_simp; (try with_reducible rfl)))
        simp only [aput, lset]
        refine takeR 1 (some 25) ?_ ?_ ?_; rotate_left; (focus (intro w hSw; (try dsimp only at hSw); obtain ⟨y0, y1, y2, y3⟩ := PlanW.cells4 (Stay.at hSw 0 rfl); obtain ⟨z0, z1, z2, z3, z4⟩ := cells5 (Stay.at hSw 1 rfl); have a9 := cell_of_row _ g 9 _ _ _ (Stay.at hSw 2 rfl); go_simp; (try with_reducible rfl)))
        simp only [aput, lset]
        refine takeR 2 (some 26) ?_ ?_ ?_; rotate_left; (focus (intros; go_simp; (try with_reducible rfl)))
        simp only [aput, lset]
        refine takeR 3 (some 27) ?_ ?_ ?_; rotate_left; (focus (intros; go_simp; (try with_reducible rfl)))
        simp only [aput, lset]
        refine takeR 4 (some 28) ?_ ?_ ?_; rotate_left; (focus (intros; go_simp; (try with_reducible rfl)))
        simp only [aput, lset]
        refine takeR 5 (some 29) ?_ ?_ ?_; rotate_left; (focus (intro w hSw; (try dsimp only at hSw); obtain ⟨y0, y1, y2, y3⟩ := PlanW.cells4 (Stay.at hSw 0 rfl); obtain ⟨z0, z1, z2, z3, z4⟩ := cells5 (Stay.at hSw 1 rfl); have a9 := cell_of_row _ g 9 _ _ _ (Stay.at hSw 2 rfl); go_simp; (try with_reducible rfl)))
        simp only [aput, lset]
        refine wpAnyH_ready (rs := [6]) (by kernel_rfl) (by simp) ?_
        refine AllReadyH.cons (o := ⟨some 30, _, _, _, _, _⟩) rfl (fun K hK => ?_) AllReadyH.nil
        rw [if_pos (by kernel_rfl)]
        go_simp
        refine (HH.out _).mono ?_
        rintro r w9 ⟨rfl, hw9⟩
        obtain rfl := hw9.symm
        go_simp
        refine hK.out _ _ (by assumption) (fun hHeld => ?_)
        clear hK K
        refine takeR 7 (some 31) ?_ ?_ ?_; rotate_left; (focus (intros; go_simp; (try with_reducible rfl)))
        simp only [aput, lset]
        refine takeR 8 (some 32) ?_ ?_ ?_; rotate_left; (focus (intros; go_simp; (try with_reducible rfl)))
        simp only [aput, lset]
        refine takeR 9 (some 33) ?_ ?_ ?_; rotate_left; (focus (intros; go_simp; (try with_reducible rfl)))
        simp only [aput, lset]
        refine takeR 10 (some 34) ?_ ?_ ?_; rotate_left; (focus (intro w hSw; (try dsimp only at hSw); obtain ⟨y0, y1, y2, y3⟩ := PlanW.cells4 (Stay.at hSw 0 rfl); obtain ⟨z0, z1, z2, z3, z4⟩ := cells5 (Stay.at hSw 1 rfl); have a9 := cell_of_row _ g 9 _ _ _ (Stay.at hSw 2 rfl); go_simp; (try with_reducible rfl)))
        simp only [aput, lset]
        refine takeR 11 (some 35) ?_ ?_ ?_; rotate_left; (focus (intros; go_simp; (try with_reducible rfl)))
        simp only [aput, lset]
        refine takeR 12 (some 36) ?_ ?_ ?_; rotate_left; (focus (intro w hSw; (try dsimp only at hSw); obtain ⟨y0, y1, y2, y3⟩ := PlanW.cells4 (Stay.at hSw 0 rfl); obtain ⟨z0, z1, z2, z3, z4⟩ := cells5 (Stay.at hSw 1 rfl); have a9 := cell_of_row _ g 9 _ _ _ (Stay.at hSw 2 rfl); go_simp; (try with_reducible rfl)))
        simp only [aput, lset]
        refine takeR 13 (some 37) ?_ ?_ ?_; rotate_left; (focus (intros; go_simp; (try with_reducible rfl)))
        simp only [aput, lset]
        refine takeR 14 (some 38) ?_ ?_ ?_; rotate_left; (focus (intros; go_simp; (try with_reducible rfl)))
        simp only [aput, lset]
        refine wpAnyH_done (by kernel_rfl) ?_ _
        exact NoPanic.normal ⟨rfl, rfl, rfl⟩
      case hm =>
        clear y0 y1 y2 y3 z0 z1 z2 z3 z4
        have S5 := Lib.hid S4.out.drew
        clear S4
        generalize w4.drew = w5 at *
        go_wp2
        apply wp_some (S := fun Z : World => MP Z ml (N + 1) (MP.upd f n dn) ∧ Kept ml w5 Z)
        case h =>
          refine wp_region_noPanic ?_
          refine wp_region_held_drew (S := fun Z : World => Kept ml w5 Z) (by kernel_rfl) (Kept.of (Below.refl _ _).drew) (fun hHeld => ?_)
          refine takeR 0 (some 39) ?_ ?_ ?_; rotate_left; (focus (intros; go_simp; (try with_reducible rfl)))
          simp only [aput, lset]
          refine takeR 1 (some 40) ?_ ?_ ?_; rotate_left; (focus (intros; go_simp; (try with_reducible rfl)))
          simp only [aput, lset]
          refine takeR 2 (some 41) ?_ ?_ ?_; rotate_left; (focus (intros; go_simp; (try with_reducible rfl)))
          simp only [aput, lset]
          refine takeR 3 (some 42) ?_ ?_ ?_; rotate_left; (focus (intro w hSw; (try dsimp only at hSw); obtain ⟨z0, z1, z2, z3, z4⟩ := cells5 ((hSw.block W.heap.size (Nat.ne_of_gt HL.out.1) (lt_of_heap (S5.out.at 1 rfl))).trans (S5.out.at 1 rfl)); have a11 := cell_of_row _ g 11 _ _ _ ((hSw.block g (fun e => HL.out.2 e.symm) (lt_of_heap (S5.out.at 2 rfl))).trans (S5.out.at 2 rfl)); go_simp; (try with_reducible rfl)))
          simp only [aput, lset]
          refine takeR 4 (some 43) ?_ ?_ ?_; rotate_left; (focus (intros; go_simp; (try with_reducible rfl)))
          simp only [aput, lset]
          refine takeR 5 (some 44) ?_ ?_ ?_; rotate_left; (focus (intro w hSw; (try dsimp only at hSw); obtain ⟨z0, z1, z2, z3, z4⟩ := cells5 ((hSw.block W.heap.size (Nat.ne_of_gt HL.out.1) (lt_of_heap (S5.out.at 1 rfl))).trans (S5.out.at 1 rfl)); have a11 := cell_of_row _ g 11 _ _ _ ((hSw.block g (fun e => HL.out.2 e.symm) (lt_of_heap (S5.out.at 2 rfl))).trans (S5.out.at 2 rfl)); go_simp; (try with_reducible rfl)))
          simp only [aput, lset]
          refine takeR 6 (some 45) ?_ ?_ ?_; rotate_left; (focus (intros; go_simp; (try with_reducible rfl)))
          simp only [aput, lset]
          refine takeR 7 (some 46) ?_ ?_ ?_; rotate_left; (focus (intro w hSw; (try dsimp only at hSw); obtain ⟨z0, z1, z2, z3, z4⟩ := cells5 ((hSw.block W.heap.size (Nat.ne_of_gt HL.out.1) (lt_of_heap (S5.out.at 1 rfl))).trans (S5.out.at 1 rfl)); have a11 := cell_of_row _ g 11 _ _ _ ((hSw.block g (fun e => HL.out.2 e.symm) (lt_of_heap (S5.out.at 2 rfl))).trans (S5.out.at 2 rfl)); go_simp; (try with_reducible rfl)))
          simp only [aput, lset]
          refine wpAnyH_ready (rs := [8]) (by kernel_rfl) (by simp) ?_
          refine AllReadyH.cons (o := ⟨some 47, _, _, _, _, _⟩) rfl (fun K hK => ?_) AllReadyH.nil
          rw [if_pos (by kernel_rfl)]
          go_simp
          refine (HR.out _ (Below.drew S5.out.b)).mono ?_
          rintro r w9 ⟨rfl, hm9, k9⟩
          have hS9 : Kept ml w5 w9 := (Kept.of (Below.refl _ _).drew).trans k9
          have hB9 := hm9
          go_simp
          refine hK.out _ _ (by assumption) (fun hHeld => ?_)
          clear hK K
          refine takeR 9 (some 48) ?_ ?_ ?_; rotate_left; (focus (intros; go_simp; (try with_reducible rfl)))
          simp only [aput, lset]
          refine wpAnyH_done (by kernel_rfl) ?_ _
          exact NoPanic.normal ⟨rfl, rfl, ⟨hB9, hS9⟩⟩
        case hm =>
          rintro w7 ⟨h7, k7⟩
          have R := Lib.hid (And.intro h7 ((Kept.of S5.out.b).trans k7))
          clear h7 k7 S5
          go_wp2
          go_ret
          exact ⟨rfl, R.out⟩
end Go.Proofs.Ytnlimdlmhfnkiaa.StationW
