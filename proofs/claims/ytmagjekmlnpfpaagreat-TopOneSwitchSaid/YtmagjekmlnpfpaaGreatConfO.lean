/- The document's own: entries at 8. -/
import Derived.Test.YtmagjekmlnpfpaaGreatTake
import Derived.Test.YtmagjekmlnpfpaaGreatConfM
namespace Go.Proofs.YtmagjekmlnpfpaaGreat.ConfW
open Shell (takeR skipR aput lset)
open Go.RowKit Shell
theorem fwd_bound2 (c : Cfg) (e : R4) : -1152921504606846976 ≤ fwd c e ∧ fwd c e ≤ 1152921504606846976 := by
  unfold fwd
  split
  · rename_i h
    obtain ⟨h1, -, h2, h3⟩ := placed_iff.1 h
    have h4 := spansT_iff.1 (spans_iff.1 h1).2
    have h5 := tim_pos e.d
    omega
  · omega
set_option maxHeartbeats 8000000 in
set_option maxRecDepth 100000 in
theorem ent8_any (c : Cfg) (D E L : Option Addr) (nd cd ne ce nl cl : Nat) (w : World) (h : CM w c D E L nd cd ne ce nl cl) (hp : ∀ e ∈ c.entries, 0 ≤ e.c ∧ e.c ≤ 1073741824) (hpl : ∀ e ∈ c.entries, placed c e = true) : Calls Tryz.prog 52 #[.agg #[.int .i64 c.hosts, .int .i64 c.cycle, .int .i64 c.delay, .int .i64 c.window, .int .i64 c.precision, .slice D nd cd, .slice E ne ce, .slice L nl cl, .int .i64 c.queue], .int .i64 8] w fun r w' => r = .returned (.bool (prs (rcv c) c.entries)) ∧ Below w.heap.size w w' := by
  have HM := Lib.hid h
  have hm : ne ≤ 9223372036854775807 := h.mE
  clear h
  have HP := Lib.hid hp
  clear hp
  have HPL := Lib.hid hpl
  clear hpl
  have X := Lib.hid (CX.start (w0 := w) (c := c) (D := D) (E := E) (L := L) (nd := nd) (cd := cd) (ne := ne) (ce := ce) (nl := nl) (cl := cl))
  generalize hq : (prs (rcv c) c.entries) = q
  have HQ := Lib.hid (show q = _ from hq.symm)
  clear hq
  go_enter Tryz.func52, Tryz.ntmps52
  go_wp2
  go_loopw [5] (fun iv wr => ∃ (n : Nat), n ≤ ne ∧ iv = .int .i64 n ∧ Hid (CX w c D E L nd cd ne ce nl cl wr) ∧ Hid (∀ (i j : Nat) (a b : R4), i < j → j < n → c.entries[i]? = some a → c.entries[j]? = some b → rcv c a b = false)) (fun iv _ => ne - (intOf iv).toNat)
  case atStart => exact ⟨0, Nat.zero_le _, rfl, X, Lib.hid (by intros; omega)⟩
  case round =>
    clear X
    obtain ⟨n, hk, rfl, X, HI⟩ := hrel
    obtain ⟨-, a0, a1, a2, a3, a4, a5, a6, a7, a8⟩ := X.out.s
    by_cases hlt : (n : Int) < (ne : Int)
    · obtain ⟨x, hx⟩ : ∃ x, c.entries[n]? = some x := ⟨_, List.getElem?_eq_getElem (by rw [← HM.out.nE]; omega)⟩
      obtain ⟨b, off, rfl, ⟨x0, x1, x2, x3⟩, hxb⟩ := (X.out.mem HM.out).he n x hx
      have HX := Lib.hid hx
      clear hx
      have X1 := Lib.hid (X.out.ent x)
      obtain ⟨g, hg⟩ : ∃ g, g = wr.heap.size := ⟨_, rfl⟩
      rw [← hg] at X1
      have HG := Lib.hid hg
      clear hg
      go_wp2_with fail
      rw [← HG.out]
      refine wp_region_held_drew (S := fun W : World => Hid (EX w g c D (some ⟨b, off, none⟩) L nd cd ne ce nl cl x W) ∧ W.cell? ⟨w.heap.size, 0, none⟩ = some (.int .i64 c.hosts) ∧ W.cell? ⟨w.heap.size, 1, none⟩ = some (.int .i64 c.cycle) ∧ W.cell? ⟨w.heap.size, 2, none⟩ = some (.int .i64 c.delay) ∧ W.cell? ⟨w.heap.size, 3, none⟩ = some (.int .i64 c.window) ∧ W.cell? ⟨w.heap.size, 4, none⟩ = some (.int .i64 c.precision) ∧ W.cell? ⟨w.heap.size, 5, none⟩ = some (.slice D nd cd) ∧ W.cell? ⟨w.heap.size, 6, none⟩ = some (.slice (some ⟨b, off, none⟩) ne ce) ∧ W.cell? ⟨w.heap.size, 7, none⟩ = some (.slice L nl cl) ∧ W.cell? ⟨w.heap.size, 8, none⟩ = some (.int .i64 c.queue) ∧ W.cell? ⟨g, 0, none⟩ = some (.int .i64 x.a) ∧ W.cell? ⟨g, 1, none⟩ = some (.int .u32 x.b) ∧ W.cell? ⟨g, 2, none⟩ = some (.int .i64 x.c) ∧ W.cell? ⟨g, 3, none⟩ = some (.int .i64 x.d)) (by kernel_rfl) (X1.out.drew.s) (fun hHeld => ?_)
      refine takeR 0 (some 45) ?_ ?_ ?_; rotate_left; (focus (intros; go_simp; (try with_reducible rfl)))
      simp only [aput, lset]
      refine takeR 1 (some 46) ?_ ?_ ?_; rotate_left; (focus (intros; go_simp; (try with_reducible rfl)))
      simp only [aput, lset]
      refine takeR 2 (some 47) ?_ ?_ ?_; rotate_left; (focus (intros; go_simp; (try with_reducible rfl)))
      simp only [aput, lset]
      refine skipR 3 (some 48) ?_
      simp only [aput, lset]
      refine skipR 4 (some 49) ?_
      simp only [aput, lset]
      refine skipR 5 (some 50) ?_
      simp only [aput, lset]
      refine skipR 6 (some 51) ?_
      simp only [aput, lset]
      refine skipR 7 (some 52) ?_
      simp only [aput, lset]
      refine skipR 8 (some 53) ?_
      simp only [aput, lset]
      refine skipR 9 (some 54) ?_
      simp only [aput, lset]
      refine skipR 10 (some 55) ?_
      simp only [aput, lset]
      refine skipR 11 (some 56) ?_
      simp only [aput, lset]
      refine skipR 12 (some 57) ?_
      simp only [aput, lset]
      refine skipR 13 (some 58) ?_
      simp only [aput, lset]
      refine skipR 14 (some 59) ?_
      simp only [aput, lset]
      refine skipR 15 (some 60) ?_
      simp only [aput, lset]
      refine skipR 16 (some 61) ?_
      simp only [aput, lset]
      refine skipR 17 (some 62) ?_
      simp only [aput, lset]
      refine skipR 18 (some 63) ?_
      simp only [aput, lset]
      refine skipR 19 (some 64) ?_
      simp only [aput, lset]
      refine skipR 20 (some 65) ?_
      simp only [aput, lset]
      refine skipR 21 (some 66) ?_
      simp only [aput, lset]
      refine skipR 22 (some 67) ?_
      simp only [aput, lset]
      refine skipR 23 (some 68) ?_
      simp only [aput, lset]
      refine takeR 24 (some 69) ?_ ?_ ?_; rotate_left; (focus (intros; go_simp; (try with_reducible rfl)))
      simp only [aput, lset]
      refine wpAnyH_done (by kernel_rfl) ?_ _
      obtain ⟨Y, b0, b1, b2, b3, b4, b5, b6, b7, b8, d0, d1, d2, d3⟩ := hHeld
      have Y0 := Lib.hid Y.out
      clear Y a0 a1 a2 a3 a4 a5 a6 a7 a8 x0 x1 x2 x3 b0 b1 b2 b3 b4 b5 b6 b7 b8 d0 d1 d2 d3
      go_wp2
      go_loopw [7] (fun jv wr => ∃ (j : Nat), j ≤ n ∧ jv = .int .i64 j ∧ Hid (EX w g c D (some ⟨b, off, none⟩) L nd cd ne ce nl cl x wr) ∧ Hid (∀ (i : Nat) (a : R4), i < j → c.entries[i]? = some a → rcv c a x = false)) (fun jv _ => n - (intOf jv).toNat)
      case atStart => exact ⟨0, Nat.zero_le _, rfl, Y0, Lib.hid (by intros; omega)⟩
      case round =>
        clear Y0
        obtain ⟨j, hj, rfl, Y, HJ⟩ := hrel
        obtain ⟨-, a0, a1, a2, a3, a4, a5, a6, a7, a8, e0, e1, e2, e3⟩ := Y.out.s
        by_cases hlt2 : (j : Int) < (n : Int)
        · obtain ⟨y, hy⟩ : ∃ y, c.entries[j]? = some y := ⟨_, List.getElem?_eq_getElem (by rw [← HM.out.nE]; omega)⟩
          obtain ⟨b9, o9, hbo, ⟨y0, y1, y2, y3⟩, hyb⟩ := (HM.out.below Y.out.b).he j y hy
          cases hbo
          have HY := Lib.hid hy
          clear hy
          have Z1 := Lib.hid (Y.out.ent y)
          obtain ⟨g2, hg2⟩ : ∃ g2, g2 = wr.heap.size := ⟨_, rfl⟩
          rw [← hg2] at Z1
          have HG2 := Lib.hid hg2
          clear hg2
          have HT := Lib.hid (show rcv c y x = true → q = true from fun h => by
            rw [HQ.out]
            exact prs_true (i := j) (j := n) (by omega) HY.out HX.out h)
          have HF := Lib.hid (show rcv c y x = false → ∀ (i : Nat) (a : R4), i < j + 1 → c.entries[i]? = some a → rcv c a x = false by
            intro h i a hi ha
            by_cases hij : i = j
            · subst hij
              rw [HY.out] at ha
              cases ha
              exact h
            · exact HJ.out i a (by omega) ha)
          have TX := Lib.hid (show ∀ W, (Hid (GX w g g2 c D (some ⟨b, off, none⟩) L nd cd ne ce nl cl x y W) ∧ W.cell? ⟨w.heap.size, 0, none⟩ = some (.int .i64 c.hosts) ∧ W.cell? ⟨w.heap.size, 1, none⟩ = some (.int .i64 c.cycle) ∧ W.cell? ⟨w.heap.size, 2, none⟩ = some (.int .i64 c.delay) ∧ W.cell? ⟨w.heap.size, 3, none⟩ = some (.int .i64 c.window) ∧ W.cell? ⟨w.heap.size, 4, none⟩ = some (.int .i64 c.precision) ∧ W.cell? ⟨w.heap.size, 5, none⟩ = some (.slice D nd cd) ∧ W.cell? ⟨w.heap.size, 6, none⟩ = some (.slice (some ⟨b, off, none⟩) ne ce) ∧ W.cell? ⟨w.heap.size, 7, none⟩ = some (.slice L nl cl) ∧ W.cell? ⟨w.heap.size, 8, none⟩ = some (.int .i64 c.queue) ∧ W.cell? ⟨g, 0, none⟩ = some (.int .i64 x.a) ∧ W.cell? ⟨g, 1, none⟩ = some (.int .u32 x.b) ∧ W.cell? ⟨g, 2, none⟩ = some (.int .i64 x.c) ∧ W.cell? ⟨g, 3, none⟩ = some (.int .i64 x.d) ∧ W.cell? ⟨g2, 0, none⟩ = some (.int .i64 y.a) ∧ W.cell? ⟨g2, 1, none⟩ = some (.int .u32 y.b) ∧ W.cell? ⟨g2, 2, none⟩ = some (.int .i64 y.c) ∧ W.cell? ⟨g2, 3, none⟩ = some (.int .i64 y.d)) → Calls Tryz.prog 105 #[.int .i64 x.d] W fun r W' => r = .returned (.int .i64 (tim x.d)) ∧ (Hid (GX w g g2 c D (some ⟨b, off, none⟩) L nd cd ne ce nl cl x y W') ∧ W'.cell? ⟨w.heap.size, 0, none⟩ = some (.int .i64 c.hosts) ∧ W'.cell? ⟨w.heap.size, 1, none⟩ = some (.int .i64 c.cycle) ∧ W'.cell? ⟨w.heap.size, 2, none⟩ = some (.int .i64 c.delay) ∧ W'.cell? ⟨w.heap.size, 3, none⟩ = some (.int .i64 c.window) ∧ W'.cell? ⟨w.heap.size, 4, none⟩ = some (.int .i64 c.precision) ∧ W'.cell? ⟨w.heap.size, 5, none⟩ = some (.slice D nd cd) ∧ W'.cell? ⟨w.heap.size, 6, none⟩ = some (.slice (some ⟨b, off, none⟩) ne ce) ∧ W'.cell? ⟨w.heap.size, 7, none⟩ = some (.slice L nl cl) ∧ W'.cell? ⟨w.heap.size, 8, none⟩ = some (.int .i64 c.queue) ∧ W'.cell? ⟨g, 0, none⟩ = some (.int .i64 x.a) ∧ W'.cell? ⟨g, 1, none⟩ = some (.int .u32 x.b) ∧ W'.cell? ⟨g, 2, none⟩ = some (.int .i64 x.c) ∧ W'.cell? ⟨g, 3, none⟩ = some (.int .i64 x.d) ∧ W'.cell? ⟨g2, 0, none⟩ = some (.int .i64 y.a) ∧ W'.cell? ⟨g2, 1, none⟩ = some (.int .u32 y.b) ∧ W'.cell? ⟨g2, 2, none⟩ = some (.int .i64 y.c) ∧ W'.cell? ⟨g2, 3, none⟩ = some (.int .i64 y.d)) from fun W hS => (refTime_any x.d W).mono fun r W' ⟨hr, hb⟩ => ⟨hr, by rw [hb]; exact hS⟩)
          have TY := Lib.hid (show ∀ W, (Hid (GX w g g2 c D (some ⟨b, off, none⟩) L nd cd ne ce nl cl x y W) ∧ W.cell? ⟨w.heap.size, 0, none⟩ = some (.int .i64 c.hosts) ∧ W.cell? ⟨w.heap.size, 1, none⟩ = some (.int .i64 c.cycle) ∧ W.cell? ⟨w.heap.size, 2, none⟩ = some (.int .i64 c.delay) ∧ W.cell? ⟨w.heap.size, 3, none⟩ = some (.int .i64 c.window) ∧ W.cell? ⟨w.heap.size, 4, none⟩ = some (.int .i64 c.precision) ∧ W.cell? ⟨w.heap.size, 5, none⟩ = some (.slice D nd cd) ∧ W.cell? ⟨w.heap.size, 6, none⟩ = some (.slice (some ⟨b, off, none⟩) ne ce) ∧ W.cell? ⟨w.heap.size, 7, none⟩ = some (.slice L nl cl) ∧ W.cell? ⟨w.heap.size, 8, none⟩ = some (.int .i64 c.queue) ∧ W.cell? ⟨g, 0, none⟩ = some (.int .i64 x.a) ∧ W.cell? ⟨g, 1, none⟩ = some (.int .u32 x.b) ∧ W.cell? ⟨g, 2, none⟩ = some (.int .i64 x.c) ∧ W.cell? ⟨g, 3, none⟩ = some (.int .i64 x.d) ∧ W.cell? ⟨g2, 0, none⟩ = some (.int .i64 y.a) ∧ W.cell? ⟨g2, 1, none⟩ = some (.int .u32 y.b) ∧ W.cell? ⟨g2, 2, none⟩ = some (.int .i64 y.c) ∧ W.cell? ⟨g2, 3, none⟩ = some (.int .i64 y.d)) → Calls Tryz.prog 105 #[.int .i64 y.d] W fun r W' => r = .returned (.int .i64 (tim y.d)) ∧ (Hid (GX w g g2 c D (some ⟨b, off, none⟩) L nd cd ne ce nl cl x y W') ∧ W'.cell? ⟨w.heap.size, 0, none⟩ = some (.int .i64 c.hosts) ∧ W'.cell? ⟨w.heap.size, 1, none⟩ = some (.int .i64 c.cycle) ∧ W'.cell? ⟨w.heap.size, 2, none⟩ = some (.int .i64 c.delay) ∧ W'.cell? ⟨w.heap.size, 3, none⟩ = some (.int .i64 c.window) ∧ W'.cell? ⟨w.heap.size, 4, none⟩ = some (.int .i64 c.precision) ∧ W'.cell? ⟨w.heap.size, 5, none⟩ = some (.slice D nd cd) ∧ W'.cell? ⟨w.heap.size, 6, none⟩ = some (.slice (some ⟨b, off, none⟩) ne ce) ∧ W'.cell? ⟨w.heap.size, 7, none⟩ = some (.slice L nl cl) ∧ W'.cell? ⟨w.heap.size, 8, none⟩ = some (.int .i64 c.queue) ∧ W'.cell? ⟨g, 0, none⟩ = some (.int .i64 x.a) ∧ W'.cell? ⟨g, 1, none⟩ = some (.int .u32 x.b) ∧ W'.cell? ⟨g, 2, none⟩ = some (.int .i64 x.c) ∧ W'.cell? ⟨g, 3, none⟩ = some (.int .i64 x.d) ∧ W'.cell? ⟨g2, 0, none⟩ = some (.int .i64 y.a) ∧ W'.cell? ⟨g2, 1, none⟩ = some (.int .u32 y.b) ∧ W'.cell? ⟨g2, 2, none⟩ = some (.int .i64 y.c) ∧ W'.cell? ⟨g2, 3, none⟩ = some (.int .i64 y.d)) from fun W hS => (refTime_any y.d W).mono fun r W' ⟨hr, hb⟩ => ⟨hr, by rw [hb]; exact hS⟩)
          have ptx := tim_pos x.d
          have pty := tim_pos y.d
          have pcx := HP.out x (List.mem_of_getElem? HX.out)
          have pcy := HP.out y (List.mem_of_getElem? HY.out)
          have plx := HPL.out x (List.mem_of_getElem? HX.out)
          have ply := HPL.out y (List.mem_of_getElem? HY.out)
          have fx := fwd_bound2 c x
          have fy := fwd_bound2 c y
          have QX := Lib.hid (show ∀ W, (Hid (GX w g g2 c D (some ⟨b, off, none⟩) L nd cd ne ce nl cl x y W) ∧ W.cell? ⟨w.heap.size, 0, none⟩ = some (.int .i64 c.hosts) ∧ W.cell? ⟨w.heap.size, 1, none⟩ = some (.int .i64 c.cycle) ∧ W.cell? ⟨w.heap.size, 2, none⟩ = some (.int .i64 c.delay) ∧ W.cell? ⟨w.heap.size, 3, none⟩ = some (.int .i64 c.window) ∧ W.cell? ⟨w.heap.size, 4, none⟩ = some (.int .i64 c.precision) ∧ W.cell? ⟨w.heap.size, 5, none⟩ = some (.slice D nd cd) ∧ W.cell? ⟨w.heap.size, 6, none⟩ = some (.slice (some ⟨b, off, none⟩) ne ce) ∧ W.cell? ⟨w.heap.size, 7, none⟩ = some (.slice L nl cl) ∧ W.cell? ⟨w.heap.size, 8, none⟩ = some (.int .i64 c.queue) ∧ W.cell? ⟨g, 0, none⟩ = some (.int .i64 x.a) ∧ W.cell? ⟨g, 1, none⟩ = some (.int .u32 x.b) ∧ W.cell? ⟨g, 2, none⟩ = some (.int .i64 x.c) ∧ W.cell? ⟨g, 3, none⟩ = some (.int .i64 x.d) ∧ W.cell? ⟨g2, 0, none⟩ = some (.int .i64 y.a) ∧ W.cell? ⟨g2, 1, none⟩ = some (.int .u32 y.b) ∧ W.cell? ⟨g2, 2, none⟩ = some (.int .i64 y.c) ∧ W.cell? ⟨g2, 3, none⟩ = some (.int .i64 y.d)) → Calls Tryz.prog 104 #[.agg #[.int .i64 c.hosts, .int .i64 c.cycle, .int .i64 c.delay, .int .i64 c.window, .int .i64 c.precision, .slice D nd cd, .slice (some ⟨b, off, none⟩) ne ce, .slice L nl cl, .int .i64 c.queue], .agg #[.int .i64 x.a, .int .u32 x.b, .int .i64 x.c, .int .i64 x.d]] W fun r W' => r = .returned (.agg #[.int .i64 (at0 c x), .int .i64 (at1 c x), .int .i64 (fwd c x), .int .i64 (ear c x), .int .i64 (lat c x)]) ∧ (Hid (GX w g g2 c D (some ⟨b, off, none⟩) L nd cd ne ce nl cl x y W') ∧ W'.cell? ⟨w.heap.size, 0, none⟩ = some (.int .i64 c.hosts) ∧ W'.cell? ⟨w.heap.size, 1, none⟩ = some (.int .i64 c.cycle) ∧ W'.cell? ⟨w.heap.size, 2, none⟩ = some (.int .i64 c.delay) ∧ W'.cell? ⟨w.heap.size, 3, none⟩ = some (.int .i64 c.window) ∧ W'.cell? ⟨w.heap.size, 4, none⟩ = some (.int .i64 c.precision) ∧ W'.cell? ⟨w.heap.size, 5, none⟩ = some (.slice D nd cd) ∧ W'.cell? ⟨w.heap.size, 6, none⟩ = some (.slice (some ⟨b, off, none⟩) ne ce) ∧ W'.cell? ⟨w.heap.size, 7, none⟩ = some (.slice L nl cl) ∧ W'.cell? ⟨w.heap.size, 8, none⟩ = some (.int .i64 c.queue) ∧ W'.cell? ⟨g, 0, none⟩ = some (.int .i64 x.a) ∧ W'.cell? ⟨g, 1, none⟩ = some (.int .u32 x.b) ∧ W'.cell? ⟨g, 2, none⟩ = some (.int .i64 x.c) ∧ W'.cell? ⟨g, 3, none⟩ = some (.int .i64 x.d) ∧ W'.cell? ⟨g2, 0, none⟩ = some (.int .i64 y.a) ∧ W'.cell? ⟨g2, 1, none⟩ = some (.int .u32 y.b) ∧ W'.cell? ⟨g2, 2, none⟩ = some (.int .i64 y.c) ∧ W'.cell? ⟨g2, 3, none⟩ = some (.int .i64 y.d)) from fun W hS => by
            have hp := placed_iff.1 plx
            have := times_any c D (some ⟨b, off, none⟩) L nd cd ne ce nl cl x W hp.1 hp.2.2
            rw [tms_placed plx] at this
            exact this.mono fun r W' ⟨hr, hb⟩ => ⟨hr, (hS.1.out.next hb).s⟩)
          have QY := Lib.hid (show ∀ W, (Hid (GX w g g2 c D (some ⟨b, off, none⟩) L nd cd ne ce nl cl x y W) ∧ W.cell? ⟨w.heap.size, 0, none⟩ = some (.int .i64 c.hosts) ∧ W.cell? ⟨w.heap.size, 1, none⟩ = some (.int .i64 c.cycle) ∧ W.cell? ⟨w.heap.size, 2, none⟩ = some (.int .i64 c.delay) ∧ W.cell? ⟨w.heap.size, 3, none⟩ = some (.int .i64 c.window) ∧ W.cell? ⟨w.heap.size, 4, none⟩ = some (.int .i64 c.precision) ∧ W.cell? ⟨w.heap.size, 5, none⟩ = some (.slice D nd cd) ∧ W.cell? ⟨w.heap.size, 6, none⟩ = some (.slice (some ⟨b, off, none⟩) ne ce) ∧ W.cell? ⟨w.heap.size, 7, none⟩ = some (.slice L nl cl) ∧ W.cell? ⟨w.heap.size, 8, none⟩ = some (.int .i64 c.queue) ∧ W.cell? ⟨g, 0, none⟩ = some (.int .i64 x.a) ∧ W.cell? ⟨g, 1, none⟩ = some (.int .u32 x.b) ∧ W.cell? ⟨g, 2, none⟩ = some (.int .i64 x.c) ∧ W.cell? ⟨g, 3, none⟩ = some (.int .i64 x.d) ∧ W.cell? ⟨g2, 0, none⟩ = some (.int .i64 y.a) ∧ W.cell? ⟨g2, 1, none⟩ = some (.int .u32 y.b) ∧ W.cell? ⟨g2, 2, none⟩ = some (.int .i64 y.c) ∧ W.cell? ⟨g2, 3, none⟩ = some (.int .i64 y.d)) → Calls Tryz.prog 104 #[.agg #[.int .i64 c.hosts, .int .i64 c.cycle, .int .i64 c.delay, .int .i64 c.window, .int .i64 c.precision, .slice D nd cd, .slice (some ⟨b, off, none⟩) ne ce, .slice L nl cl, .int .i64 c.queue], .agg #[.int .i64 y.a, .int .u32 y.b, .int .i64 y.c, .int .i64 y.d]] W fun r W' => r = .returned (.agg #[.int .i64 (at0 c y), .int .i64 (at1 c y), .int .i64 (fwd c y), .int .i64 (ear c y), .int .i64 (lat c y)]) ∧ (Hid (GX w g g2 c D (some ⟨b, off, none⟩) L nd cd ne ce nl cl x y W') ∧ W'.cell? ⟨w.heap.size, 0, none⟩ = some (.int .i64 c.hosts) ∧ W'.cell? ⟨w.heap.size, 1, none⟩ = some (.int .i64 c.cycle) ∧ W'.cell? ⟨w.heap.size, 2, none⟩ = some (.int .i64 c.delay) ∧ W'.cell? ⟨w.heap.size, 3, none⟩ = some (.int .i64 c.window) ∧ W'.cell? ⟨w.heap.size, 4, none⟩ = some (.int .i64 c.precision) ∧ W'.cell? ⟨w.heap.size, 5, none⟩ = some (.slice D nd cd) ∧ W'.cell? ⟨w.heap.size, 6, none⟩ = some (.slice (some ⟨b, off, none⟩) ne ce) ∧ W'.cell? ⟨w.heap.size, 7, none⟩ = some (.slice L nl cl) ∧ W'.cell? ⟨w.heap.size, 8, none⟩ = some (.int .i64 c.queue) ∧ W'.cell? ⟨g, 0, none⟩ = some (.int .i64 x.a) ∧ W'.cell? ⟨g, 1, none⟩ = some (.int .u32 x.b) ∧ W'.cell? ⟨g, 2, none⟩ = some (.int .i64 x.c) ∧ W'.cell? ⟨g, 3, none⟩ = some (.int .i64 x.d) ∧ W'.cell? ⟨g2, 0, none⟩ = some (.int .i64 y.a) ∧ W'.cell? ⟨g2, 1, none⟩ = some (.int .u32 y.b) ∧ W'.cell? ⟨g2, 2, none⟩ = some (.int .i64 y.c) ∧ W'.cell? ⟨g2, 3, none⟩ = some (.int .i64 y.d)) from fun W hS => by
            have hp := placed_iff.1 ply
            have := times_any c D (some ⟨b, off, none⟩) L nd cd ne ce nl cl y W hp.1 hp.2.2
            rw [tms_placed ply] at this
            exact this.mono fun r W' ⟨hr, hb⟩ => ⟨hr, (hS.1.out.next hb).s⟩)
          have MT := Lib.hid (show ∀ W, (Hid (GX w g g2 c D (some ⟨b, off, none⟩) L nd cd ne ce nl cl x y W) ∧ W.cell? ⟨w.heap.size, 0, none⟩ = some (.int .i64 c.hosts) ∧ W.cell? ⟨w.heap.size, 1, none⟩ = some (.int .i64 c.cycle) ∧ W.cell? ⟨w.heap.size, 2, none⟩ = some (.int .i64 c.delay) ∧ W.cell? ⟨w.heap.size, 3, none⟩ = some (.int .i64 c.window) ∧ W.cell? ⟨w.heap.size, 4, none⟩ = some (.int .i64 c.precision) ∧ W.cell? ⟨w.heap.size, 5, none⟩ = some (.slice D nd cd) ∧ W.cell? ⟨w.heap.size, 6, none⟩ = some (.slice (some ⟨b, off, none⟩) ne ce) ∧ W.cell? ⟨w.heap.size, 7, none⟩ = some (.slice L nl cl) ∧ W.cell? ⟨w.heap.size, 8, none⟩ = some (.int .i64 c.queue) ∧ W.cell? ⟨g, 0, none⟩ = some (.int .i64 x.a) ∧ W.cell? ⟨g, 1, none⟩ = some (.int .u32 x.b) ∧ W.cell? ⟨g, 2, none⟩ = some (.int .i64 x.c) ∧ W.cell? ⟨g, 3, none⟩ = some (.int .i64 x.d) ∧ W.cell? ⟨g2, 0, none⟩ = some (.int .i64 y.a) ∧ W.cell? ⟨g2, 1, none⟩ = some (.int .u32 y.b) ∧ W.cell? ⟨g2, 2, none⟩ = some (.int .i64 y.c) ∧ W.cell? ⟨g2, 3, none⟩ = some (.int .i64 y.d)) → Calls Tryz.prog 106 #[.int .i64 (fwd c x), .int .i64 (tim x.d), .int .i64 (fwd c y), .int .i64 (tim y.d)] W fun r W' => r = .returned (.bool (decide (fwd c y < fwd c x + tim x.d) && decide (fwd c x < fwd c y + tim y.d))) ∧ (Hid (GX w g g2 c D (some ⟨b, off, none⟩) L nd cd ne ce nl cl x y W') ∧ W'.cell? ⟨w.heap.size, 0, none⟩ = some (.int .i64 c.hosts) ∧ W'.cell? ⟨w.heap.size, 1, none⟩ = some (.int .i64 c.cycle) ∧ W'.cell? ⟨w.heap.size, 2, none⟩ = some (.int .i64 c.delay) ∧ W'.cell? ⟨w.heap.size, 3, none⟩ = some (.int .i64 c.window) ∧ W'.cell? ⟨w.heap.size, 4, none⟩ = some (.int .i64 c.precision) ∧ W'.cell? ⟨w.heap.size, 5, none⟩ = some (.slice D nd cd) ∧ W'.cell? ⟨w.heap.size, 6, none⟩ = some (.slice (some ⟨b, off, none⟩) ne ce) ∧ W'.cell? ⟨w.heap.size, 7, none⟩ = some (.slice L nl cl) ∧ W'.cell? ⟨w.heap.size, 8, none⟩ = some (.int .i64 c.queue) ∧ W'.cell? ⟨g, 0, none⟩ = some (.int .i64 x.a) ∧ W'.cell? ⟨g, 1, none⟩ = some (.int .u32 x.b) ∧ W'.cell? ⟨g, 2, none⟩ = some (.int .i64 x.c) ∧ W'.cell? ⟨g, 3, none⟩ = some (.int .i64 x.d) ∧ W'.cell? ⟨g2, 0, none⟩ = some (.int .i64 y.a) ∧ W'.cell? ⟨g2, 1, none⟩ = some (.int .u32 y.b) ∧ W'.cell? ⟨g2, 2, none⟩ = some (.int .i64 y.c) ∧ W'.cell? ⟨g2, 3, none⟩ = some (.int .i64 y.d)) from
            fun W hS => (meet_any (fwd c x) (tim x.d) (fwd c y) (tim y.d) W (i64_id (by omega) (by omega)) (i64_id (by omega) (by omega))).mono fun r W' ⟨hr, hb⟩ => ⟨hr, by rw [hb]; exact hS⟩)
          have HU := u32_and_nat x.b y.b hxb hyb
          have hP : rcv c y x = (decide (x.b &&& y.b ≠ 0) && (decide (fwd c y < fwd c x + tim x.d) && decide (fwd c x < fwd c y + tim y.d))) := by unfold rcv; rw [Nat.and_comm]
          have hi2 := idx2
          clear ptx pty pcx pcy plx ply fx fy hxb hyb
          generalize hz : (decide (fwd c y < fwd c x + tim x.d) && decide (fwd c x < fwd c y + tim y.d)) = z at *
          clear hz
          generalize rcv c y x = sn at *
          generalize tim x.d = tx at *
          generalize tim y.d = ty at *
          generalize fwd c x = px at *
          generalize fwd c y = py at *
          generalize x.b &&& y.b = u at *
          generalize at0 c x = t0 at *
          generalize at1 c x = t1 at *
          generalize ear c x = t3 at *
          generalize lat c x = t4 at *
          generalize at0 c y = s0 at *
          generalize at1 c y = s1 at *
          generalize ear c y = s3 at *
          generalize lat c y = s4 at *
          by_cases hE : u = 0
          · rw [decide_eq_false (show ¬ (u ≠ 0) from fun h => h hE), Bool.false_and] at hP
            subst hP
            subst hE
            clear MT QX QY
            go_wp2_with fail
            rw [← HG2.out]
            refine wp_region_held_drew (S := fun W : World => Hid (GX w g g2 c D (some ⟨b, off, none⟩) L nd cd ne ce nl cl x y W) ∧ W.cell? ⟨w.heap.size, 0, none⟩ = some (.int .i64 c.hosts) ∧ W.cell? ⟨w.heap.size, 1, none⟩ = some (.int .i64 c.cycle) ∧ W.cell? ⟨w.heap.size, 2, none⟩ = some (.int .i64 c.delay) ∧ W.cell? ⟨w.heap.size, 3, none⟩ = some (.int .i64 c.window) ∧ W.cell? ⟨w.heap.size, 4, none⟩ = some (.int .i64 c.precision) ∧ W.cell? ⟨w.heap.size, 5, none⟩ = some (.slice D nd cd) ∧ W.cell? ⟨w.heap.size, 6, none⟩ = some (.slice (some ⟨b, off, none⟩) ne ce) ∧ W.cell? ⟨w.heap.size, 7, none⟩ = some (.slice L nl cl) ∧ W.cell? ⟨w.heap.size, 8, none⟩ = some (.int .i64 c.queue) ∧ W.cell? ⟨g, 0, none⟩ = some (.int .i64 x.a) ∧ W.cell? ⟨g, 1, none⟩ = some (.int .u32 x.b) ∧ W.cell? ⟨g, 2, none⟩ = some (.int .i64 x.c) ∧ W.cell? ⟨g, 3, none⟩ = some (.int .i64 x.d) ∧ W.cell? ⟨g2, 0, none⟩ = some (.int .i64 y.a) ∧ W.cell? ⟨g2, 1, none⟩ = some (.int .u32 y.b) ∧ W.cell? ⟨g2, 2, none⟩ = some (.int .i64 y.c) ∧ W.cell? ⟨g2, 3, none⟩ = some (.int .i64 y.d)) (by kernel_rfl) (Z1.out.drew.s) (fun hHeld => ?_)
            refine takeR 0 (some 84) ?_ ?_ ?_; rotate_left; (focus (intros; go_simp; (try with_reducible rfl)))
            simp only [aput, lset]
            refine takeR 1 (some 85) ?_ ?_ ?_; rotate_left; (focus (intros; go_simp; (try with_reducible rfl)))
            simp only [aput, lset]
            refine takeR 3 (some 87) ?_ ?_ ?_; rotate_left; (focus (intros; go_simp; (try with_reducible rfl)))
            simp only [aput, lset]
            refine takeR 4 (some 88) ?_ ?_ ?_; rotate_left; (focus (intros; go_simp; (try with_reducible rfl)))
            simp only [aput, lset]
            refine wpAnyH_ready (rs := [2]) (by kernel_rfl) (by simp) ?_
            refine AllReadyH.cons (o := ⟨(some 86), _, _, _, _, _⟩) rfl (fun K hK => ?_) AllReadyH.nil
            go_simp
            ((with_reducible refine (TX.out _ (by assumption)).mono ?_); rintro r w9 ⟨rfl, hs9⟩)
            go_simp
            refine hK.out _ _ (by assumption) (fun hHeld => ?_)
            clear hK K
            refine wpAnyH_ready (rs := [5]) (by kernel_rfl) (by simp) ?_
            refine AllReadyH.cons (o := ⟨(some 89), _, _, _, _, _⟩) rfl (fun K hK => ?_) AllReadyH.nil
            go_simp
            ((with_reducible refine (TY.out _ (by assumption)).mono ?_); rintro r w9 ⟨rfl, hs9⟩)
            go_simp
            refine hK.out _ _ (by assumption) (fun hHeld => ?_)
            clear hK K
            refine takeR 6 (some 9) ?_ ?_ ?_; rotate_left; (focus (intros; go_simp; (try with_reducible rfl)))
            simp only [aput, lset]
            refine takeR 7 (some 10) ?_ ?_ ?_; rotate_left; (focus (intros; go_simp; (try with_reducible rfl)))
            simp only [aput, lset]
            refine wpAnyH_done (by kernel_rfl) ?_ _
            obtain ⟨Z, b0, b1, b2, b3, b4, b5, b6, b7, b8, d0, d1, d2, d3, f0, f1, f2, f3⟩ := hHeld
            clear a0 a1 a2 a3 a4 a5 a6 a7 a8 e0 e1 e2 e3 y0 y1 y2 y3
            go_wp2_with fail
            have ZD := Lib.hid Z.out.drew.s
            refine wp_region_held_drew (S := fun W : World => Hid (GX w g g2 c D (some ⟨b, off, none⟩) L nd cd ne ce nl cl x y W) ∧ W.cell? ⟨w.heap.size, 0, none⟩ = some (.int .i64 c.hosts) ∧ W.cell? ⟨w.heap.size, 1, none⟩ = some (.int .i64 c.cycle) ∧ W.cell? ⟨w.heap.size, 2, none⟩ = some (.int .i64 c.delay) ∧ W.cell? ⟨w.heap.size, 3, none⟩ = some (.int .i64 c.window) ∧ W.cell? ⟨w.heap.size, 4, none⟩ = some (.int .i64 c.precision) ∧ W.cell? ⟨w.heap.size, 5, none⟩ = some (.slice D nd cd) ∧ W.cell? ⟨w.heap.size, 6, none⟩ = some (.slice (some ⟨b, off, none⟩) ne ce) ∧ W.cell? ⟨w.heap.size, 7, none⟩ = some (.slice L nl cl) ∧ W.cell? ⟨w.heap.size, 8, none⟩ = some (.int .i64 c.queue) ∧ W.cell? ⟨g, 0, none⟩ = some (.int .i64 x.a) ∧ W.cell? ⟨g, 1, none⟩ = some (.int .u32 x.b) ∧ W.cell? ⟨g, 2, none⟩ = some (.int .i64 x.c) ∧ W.cell? ⟨g, 3, none⟩ = some (.int .i64 x.d) ∧ W.cell? ⟨g2, 0, none⟩ = some (.int .i64 y.a) ∧ W.cell? ⟨g2, 1, none⟩ = some (.int .u32 y.b) ∧ W.cell? ⟨g2, 2, none⟩ = some (.int .i64 y.c) ∧ W.cell? ⟨g2, 3, none⟩ = some (.int .i64 y.d)) (by kernel_rfl) (ZD.out) (fun hHeld => ?_)
            refine takeR 0 (some 108) ?_ ?_ ?_; rotate_left; (focus (intros; go_simp; (try with_reducible rfl)))
            simp only [aput, lset]
            refine takeR 1 (some 109) ?_ ?_ ?_; rotate_left; (focus (intros; go_simp; (try with_reducible rfl)))
            simp only [aput, lset]
            refine takeR 2 (some 110) ?_ ?_ ?_; rotate_left; (focus (intros; go_simp; (try with_reducible rfl)))
            simp only [aput, lset]
            refine takeR 3 (some 111) ?_ ?_ ?_; rotate_left; (focus (intros; go_simp; (try with_reducible rfl)))
            simp only [aput, lset]
            refine takeR 4 (some 112) ?_ ?_ ?_; rotate_left; (focus (intros; go_simp; (try with_reducible rfl)))
            simp only [aput, lset]
            refine takeR 5 (some 113) ?_ ?_ ?_; rotate_left; (focus (intros; go_simp; (try with_reducible rfl)))
            simp only [aput, lset]
            refine takeR 6 (some 114) ?_ ?_ ?_; rotate_left; (focus (intros; go_simp; (try with_reducible rfl)))
            simp only [aput, lset]
            refine takeR 7 (some 115) ?_ ?_ ?_; rotate_left; (focus (intros; go_simp; (try with_reducible rfl)))
            simp only [aput, lset]
            refine takeR 8 (some 116) ?_ ?_ ?_; rotate_left; (focus (intros; go_simp; (try with_reducible rfl)))
            simp only [aput, lset]
            refine takeR 9 (some 117) ?_ ?_ ?_; rotate_left; (focus (intros; go_simp; (try with_reducible rfl)))
            simp only [aput, lset]
            refine takeR 10 (some 118) ?_ ?_ ?_; rotate_left; (focus (intros; go_simp; (try with_reducible rfl)))
            simp only [aput, lset]
            refine skipR 11 (some 119) ?_
            simp only [aput, lset]
            refine skipR 12 (some 120) ?_
            simp only [aput, lset]
            refine skipR 13 (some 121) ?_
            simp only [aput, lset]
            refine skipR 14 (some 122) ?_
            simp only [aput, lset]
            refine skipR 15 (some 123) ?_
            simp only [aput, lset]
            refine skipR 16 (some 124) ?_
            simp only [aput, lset]
            refine skipR 17 (some 125) ?_
            simp only [aput, lset]
            refine skipR 18 (some 126) ?_
            simp only [aput, lset]
            refine skipR 19 (some 127) ?_
            simp only [aput, lset]
            refine skipR 20 (some 128) ?_
            simp only [aput, lset]
            refine skipR 21 (some 129) ?_
            simp only [aput, lset]
            refine takeR 22 (some 130) ?_ ?_ ?_; rotate_left; (focus (intros; go_simp; (try with_reducible rfl)))
            simp only [aput, lset]
            refine wpAnyH_done (by kernel_rfl) ?_ _
            obtain ⟨V, c0, c1, c2, c3, c4, c5, c6, c7, c8, g0, g1, g3, g4, h0, h1, h3, h4⟩ := hHeld
            have V2 := Lib.hid V.out.ex
            clear V Z b0 b1 b2 b3 b4 b5 b6 b7 b8 d0 d1 d2 d3 f0 f1 f2 f3 c0 c1 c2 c3 c4 c5 c6 c7 c8 g0 g1 g3 g4 h0 h1 h3 h4
            go_wp2
            go_roundw
            case rel => exact ⟨j + 1, by omega, by go_num, V2, HF.out (by first | rfl | trivial)⟩
            case measure => simp [intOf]; omega
          · have hE2 : ((u : Int) != 0) = true := by rw [bne_iff_ne]; omega
            rw [decide_eq_true (show u ≠ 0 from hE), Bool.true_and] at hP
            subst hP
            clear hE
            cases sn
            · go_wp2_with fail
              rw [← HG2.out]
              refine wp_region_held_drew (S := fun W : World => Hid (GX w g g2 c D (some ⟨b, off, none⟩) L nd cd ne ce nl cl x y W) ∧ W.cell? ⟨w.heap.size, 0, none⟩ = some (.int .i64 c.hosts) ∧ W.cell? ⟨w.heap.size, 1, none⟩ = some (.int .i64 c.cycle) ∧ W.cell? ⟨w.heap.size, 2, none⟩ = some (.int .i64 c.delay) ∧ W.cell? ⟨w.heap.size, 3, none⟩ = some (.int .i64 c.window) ∧ W.cell? ⟨w.heap.size, 4, none⟩ = some (.int .i64 c.precision) ∧ W.cell? ⟨w.heap.size, 5, none⟩ = some (.slice D nd cd) ∧ W.cell? ⟨w.heap.size, 6, none⟩ = some (.slice (some ⟨b, off, none⟩) ne ce) ∧ W.cell? ⟨w.heap.size, 7, none⟩ = some (.slice L nl cl) ∧ W.cell? ⟨w.heap.size, 8, none⟩ = some (.int .i64 c.queue) ∧ W.cell? ⟨g, 0, none⟩ = some (.int .i64 x.a) ∧ W.cell? ⟨g, 1, none⟩ = some (.int .u32 x.b) ∧ W.cell? ⟨g, 2, none⟩ = some (.int .i64 x.c) ∧ W.cell? ⟨g, 3, none⟩ = some (.int .i64 x.d) ∧ W.cell? ⟨g2, 0, none⟩ = some (.int .i64 y.a) ∧ W.cell? ⟨g2, 1, none⟩ = some (.int .u32 y.b) ∧ W.cell? ⟨g2, 2, none⟩ = some (.int .i64 y.c) ∧ W.cell? ⟨g2, 3, none⟩ = some (.int .i64 y.d)) (by kernel_rfl) (Z1.out.drew.s) (fun hHeld => ?_)
              refine takeR 0 (some 84) ?_ ?_ ?_; rotate_left; (focus (intros; go_simp; (try with_reducible rfl)))
              simp only [aput, lset]
              refine takeR 1 (some 85) ?_ ?_ ?_; rotate_left; (focus (intros; go_simp; (try with_reducible rfl)))
              simp only [aput, lset]
              refine takeR 3 (some 87) ?_ ?_ ?_; rotate_left; (focus (intros; go_simp; (try with_reducible rfl)))
              simp only [aput, lset]
              refine takeR 4 (some 88) ?_ ?_ ?_; rotate_left; (focus (intros; go_simp; (try with_reducible rfl)))
              simp only [aput, lset]
              refine wpAnyH_ready (rs := [2]) (by kernel_rfl) (by simp) ?_
              refine AllReadyH.cons (o := ⟨(some 86), _, _, _, _, _⟩) rfl (fun K hK => ?_) AllReadyH.nil
              go_simp
              ((with_reducible refine (TX.out _ (by assumption)).mono ?_); rintro r w9 ⟨rfl, hs9⟩)
              go_simp
              refine hK.out _ _ (by assumption) (fun hHeld => ?_)
              clear hK K
              refine wpAnyH_ready (rs := [5]) (by kernel_rfl) (by simp) ?_
              refine AllReadyH.cons (o := ⟨(some 89), _, _, _, _, _⟩) rfl (fun K hK => ?_) AllReadyH.nil
              go_simp
              ((with_reducible refine (TY.out _ (by assumption)).mono ?_); rintro r w9 ⟨rfl, hs9⟩)
              go_simp
              refine hK.out _ _ (by assumption) (fun hHeld => ?_)
              clear hK K
              refine takeR 6 (some 9) ?_ ?_ ?_; rotate_left; (focus (intros; go_simp; (try with_reducible rfl)))
              simp only [aput, lset]
              refine takeR 7 (some 10) ?_ ?_ ?_; rotate_left; (focus (intros; go_simp; (try with_reducible rfl)))
              simp only [aput, lset]
              refine wpAnyH_done (by kernel_rfl) ?_ _
              obtain ⟨Z, b0, b1, b2, b3, b4, b5, b6, b7, b8, d0, d1, d2, d3, f0, f1, f2, f3⟩ := hHeld
              clear a0 a1 a2 a3 a4 a5 a6 a7 a8 e0 e1 e2 e3 y0 y1 y2 y3
              go_wp2_with fail
              have ZD := Lib.hid Z.out.drew.s
              refine wp_region_held_drew (S := fun W : World => Hid (GX w g g2 c D (some ⟨b, off, none⟩) L nd cd ne ce nl cl x y W) ∧ W.cell? ⟨w.heap.size, 0, none⟩ = some (.int .i64 c.hosts) ∧ W.cell? ⟨w.heap.size, 1, none⟩ = some (.int .i64 c.cycle) ∧ W.cell? ⟨w.heap.size, 2, none⟩ = some (.int .i64 c.delay) ∧ W.cell? ⟨w.heap.size, 3, none⟩ = some (.int .i64 c.window) ∧ W.cell? ⟨w.heap.size, 4, none⟩ = some (.int .i64 c.precision) ∧ W.cell? ⟨w.heap.size, 5, none⟩ = some (.slice D nd cd) ∧ W.cell? ⟨w.heap.size, 6, none⟩ = some (.slice (some ⟨b, off, none⟩) ne ce) ∧ W.cell? ⟨w.heap.size, 7, none⟩ = some (.slice L nl cl) ∧ W.cell? ⟨w.heap.size, 8, none⟩ = some (.int .i64 c.queue) ∧ W.cell? ⟨g, 0, none⟩ = some (.int .i64 x.a) ∧ W.cell? ⟨g, 1, none⟩ = some (.int .u32 x.b) ∧ W.cell? ⟨g, 2, none⟩ = some (.int .i64 x.c) ∧ W.cell? ⟨g, 3, none⟩ = some (.int .i64 x.d) ∧ W.cell? ⟨g2, 0, none⟩ = some (.int .i64 y.a) ∧ W.cell? ⟨g2, 1, none⟩ = some (.int .u32 y.b) ∧ W.cell? ⟨g2, 2, none⟩ = some (.int .i64 y.c) ∧ W.cell? ⟨g2, 3, none⟩ = some (.int .i64 y.d)) (by kernel_rfl) (ZD.out) (fun hHeld => ?_)
              refine takeR 0 (some 108) ?_ ?_ ?_; rotate_left; (focus (intros; go_simp; (try with_reducible rfl)))
              simp only [aput, lset]
              refine takeR 1 (some 109) ?_ ?_ ?_; rotate_left; (focus (intros; go_simp; (try with_reducible rfl)))
              simp only [aput, lset]
              refine takeR 2 (some 110) ?_ ?_ ?_; rotate_left; (focus (intros; go_simp; (try with_reducible rfl)))
              simp only [aput, lset]
              refine takeR 3 (some 111) ?_ ?_ ?_; rotate_left; (focus (intros; go_simp; (try with_reducible rfl)))
              simp only [aput, lset]
              refine takeR 4 (some 112) ?_ ?_ ?_; rotate_left; (focus (intros; go_simp; (try with_reducible rfl)))
              simp only [aput, lset]
              refine takeR 5 (some 113) ?_ ?_ ?_; rotate_left; (focus (intros; go_simp; (try with_reducible rfl)))
              simp only [aput, lset]
              refine takeR 6 (some 114) ?_ ?_ ?_; rotate_left; (focus (intros; go_simp; (try with_reducible rfl)))
              simp only [aput, lset]
              refine takeR 7 (some 115) ?_ ?_ ?_; rotate_left; (focus (intros; go_simp; (try with_reducible rfl)))
              simp only [aput, lset]
              refine takeR 8 (some 116) ?_ ?_ ?_; rotate_left; (focus (intros; go_simp; (try with_reducible rfl)))
              simp only [aput, lset]
              refine takeR 9 (some 117) ?_ ?_ ?_; rotate_left; (focus (intros; go_simp; (try with_reducible rfl)))
              simp only [aput, lset]
              refine takeR 10 (some 118) ?_ ?_ ?_; rotate_left; (focus (intros; go_simp; (try with_reducible rfl)))
              simp only [aput, lset]
              refine takeR 11 (some 119) ?_ ?_ ?_; rotate_left; (focus (intros; go_simp; (try with_reducible rfl)))
              simp only [aput, lset]
              refine takeR 12 (some 120) ?_ ?_ ?_; rotate_left; (focus (intros; go_simp; (try with_reducible rfl)))
              simp only [aput, lset]
              refine takeR 15 (some 123) ?_ ?_ ?_; rotate_left; (focus (intros; go_simp; (try with_reducible rfl)))
              simp only [aput, lset]
              refine takeR 16 (some 124) ?_ ?_ ?_; rotate_left; (focus (intros; go_simp; (try with_reducible rfl)))
              simp only [aput, lset]
              refine takeR 17 (some 125) ?_ ?_ ?_; rotate_left; (focus (intros; go_simp; (try with_reducible rfl)))
              simp only [aput, lset]
              refine takeR 20 (some 128) ?_ ?_ ?_; rotate_left; (focus (intros; go_simp; (try with_reducible rfl)))
              simp only [aput, lset]
              refine wpAnyH_ready (rs := [13]) (by kernel_rfl) (by simp) ?_
              refine AllReadyH.cons (o := ⟨(some 121), _, _, _, _, _⟩) rfl (fun K hK => ?_) AllReadyH.nil
              go_simp
              ((with_reducible refine (QX.out _ (by assumption)).mono ?_); rintro r w9 ⟨rfl, hs9⟩)
              go_simp
              refine hK.out _ _ (by assumption) (fun hHeld => ?_)
              clear hK K
              refine takeR 14 (some 122) ?_ ?_ ?_; rotate_left; (focus (intros; go_simp; (try with_reducible rfl)))
              simp only [aput, lset]
              refine wpAnyH_ready (rs := [18]) (by kernel_rfl) (by simp) ?_
              refine AllReadyH.cons (o := ⟨(some 126), _, _, _, _, _⟩) rfl (fun K hK => ?_) AllReadyH.nil
              go_simp
              ((with_reducible refine (QY.out _ (by assumption)).mono ?_); rintro r w9 ⟨rfl, hs9⟩)
              go_simp
              refine hK.out _ _ (by assumption) (fun hHeld => ?_)
              clear hK K
              refine takeR 19 (some 127) ?_ ?_ ?_; rotate_left; (focus (intros; go_simp; (try with_reducible rfl)))
              simp only [aput, lset]
              refine wpAnyH_ready (rs := [21]) (by kernel_rfl) (by simp) ?_
              refine AllReadyH.cons (o := ⟨(some 129), _, _, _, _, _⟩) rfl (fun K hK => ?_) AllReadyH.nil
              go_simp
              ((with_reducible refine (MT.out _ (by assumption)).mono ?_); rintro r w9 ⟨rfl, hs9⟩)
              go_simp
              refine hK.out _ _ (by assumption) (fun hHeld => ?_)
              clear hK K
              refine takeR 22 (some 130) ?_ ?_ ?_; rotate_left; (focus (intros; go_simp; (try with_reducible rfl)))
              simp only [aput, lset]
              refine wpAnyH_done (by kernel_rfl) ?_ _
              obtain ⟨V, c0, c1, c2, c3, c4, c5, c6, c7, c8, g0, g1, g3, g4, h0, h1, h3, h4⟩ := hHeld
              have V2 := Lib.hid V.out.ex
              clear V Z b0 b1 b2 b3 b4 b5 b6 b7 b8 d0 d1 d2 d3 f0 f1 f2 f3 c0 c1 c2 c3 c4 c5 c6 c7 c8 g0 g1 g3 g4 h0 h1 h3 h4
              go_wp2
              go_roundw
              case rel => exact ⟨j + 1, by omega, by go_num, V2, HF.out (by first | rfl | trivial)⟩
              case measure => simp [intOf]; omega
            · go_wp2_with fail
              rw [← HG2.out]
              refine wp_region_held_drew (S := fun W : World => Hid (GX w g g2 c D (some ⟨b, off, none⟩) L nd cd ne ce nl cl x y W) ∧ W.cell? ⟨w.heap.size, 0, none⟩ = some (.int .i64 c.hosts) ∧ W.cell? ⟨w.heap.size, 1, none⟩ = some (.int .i64 c.cycle) ∧ W.cell? ⟨w.heap.size, 2, none⟩ = some (.int .i64 c.delay) ∧ W.cell? ⟨w.heap.size, 3, none⟩ = some (.int .i64 c.window) ∧ W.cell? ⟨w.heap.size, 4, none⟩ = some (.int .i64 c.precision) ∧ W.cell? ⟨w.heap.size, 5, none⟩ = some (.slice D nd cd) ∧ W.cell? ⟨w.heap.size, 6, none⟩ = some (.slice (some ⟨b, off, none⟩) ne ce) ∧ W.cell? ⟨w.heap.size, 7, none⟩ = some (.slice L nl cl) ∧ W.cell? ⟨w.heap.size, 8, none⟩ = some (.int .i64 c.queue) ∧ W.cell? ⟨g, 0, none⟩ = some (.int .i64 x.a) ∧ W.cell? ⟨g, 1, none⟩ = some (.int .u32 x.b) ∧ W.cell? ⟨g, 2, none⟩ = some (.int .i64 x.c) ∧ W.cell? ⟨g, 3, none⟩ = some (.int .i64 x.d) ∧ W.cell? ⟨g2, 0, none⟩ = some (.int .i64 y.a) ∧ W.cell? ⟨g2, 1, none⟩ = some (.int .u32 y.b) ∧ W.cell? ⟨g2, 2, none⟩ = some (.int .i64 y.c) ∧ W.cell? ⟨g2, 3, none⟩ = some (.int .i64 y.d)) (by kernel_rfl) (Z1.out.drew.s) (fun hHeld => ?_)
              refine takeR 0 (some 84) ?_ ?_ ?_; rotate_left; (focus (intros; go_simp; (try with_reducible rfl)))
              simp only [aput, lset]
              refine takeR 1 (some 85) ?_ ?_ ?_; rotate_left; (focus (intros; go_simp; (try with_reducible rfl)))
              simp only [aput, lset]
              refine takeR 3 (some 87) ?_ ?_ ?_; rotate_left; (focus (intros; go_simp; (try with_reducible rfl)))
              simp only [aput, lset]
              refine takeR 4 (some 88) ?_ ?_ ?_; rotate_left; (focus (intros; go_simp; (try with_reducible rfl)))
              simp only [aput, lset]
              refine wpAnyH_ready (rs := [2]) (by kernel_rfl) (by simp) ?_
              refine AllReadyH.cons (o := ⟨(some 86), _, _, _, _, _⟩) rfl (fun K hK => ?_) AllReadyH.nil
              go_simp
              ((with_reducible refine (TX.out _ (by assumption)).mono ?_); rintro r w9 ⟨rfl, hs9⟩)
              go_simp
              refine hK.out _ _ (by assumption) (fun hHeld => ?_)
              clear hK K
              refine wpAnyH_ready (rs := [5]) (by kernel_rfl) (by simp) ?_
              refine AllReadyH.cons (o := ⟨(some 89), _, _, _, _, _⟩) rfl (fun K hK => ?_) AllReadyH.nil
              go_simp
              ((with_reducible refine (TY.out _ (by assumption)).mono ?_); rintro r w9 ⟨rfl, hs9⟩)
              go_simp
              refine hK.out _ _ (by assumption) (fun hHeld => ?_)
              clear hK K
              refine takeR 6 (some 9) ?_ ?_ ?_; rotate_left; (focus (intros; go_simp; (try with_reducible rfl)))
              simp only [aput, lset]
              refine takeR 7 (some 10) ?_ ?_ ?_; rotate_left; (focus (intros; go_simp; (try with_reducible rfl)))
              simp only [aput, lset]
              refine wpAnyH_done (by kernel_rfl) ?_ _
              obtain ⟨Z, b0, b1, b2, b3, b4, b5, b6, b7, b8, d0, d1, d2, d3, f0, f1, f2, f3⟩ := hHeld
              clear a0 a1 a2 a3 a4 a5 a6 a7 a8 e0 e1 e2 e3 y0 y1 y2 y3
              go_wp2_with fail
              have ZD := Lib.hid Z.out.drew.s
              refine wp_region_held_drew (S := fun W : World => Hid (GX w g g2 c D (some ⟨b, off, none⟩) L nd cd ne ce nl cl x y W) ∧ W.cell? ⟨w.heap.size, 0, none⟩ = some (.int .i64 c.hosts) ∧ W.cell? ⟨w.heap.size, 1, none⟩ = some (.int .i64 c.cycle) ∧ W.cell? ⟨w.heap.size, 2, none⟩ = some (.int .i64 c.delay) ∧ W.cell? ⟨w.heap.size, 3, none⟩ = some (.int .i64 c.window) ∧ W.cell? ⟨w.heap.size, 4, none⟩ = some (.int .i64 c.precision) ∧ W.cell? ⟨w.heap.size, 5, none⟩ = some (.slice D nd cd) ∧ W.cell? ⟨w.heap.size, 6, none⟩ = some (.slice (some ⟨b, off, none⟩) ne ce) ∧ W.cell? ⟨w.heap.size, 7, none⟩ = some (.slice L nl cl) ∧ W.cell? ⟨w.heap.size, 8, none⟩ = some (.int .i64 c.queue) ∧ W.cell? ⟨g, 0, none⟩ = some (.int .i64 x.a) ∧ W.cell? ⟨g, 1, none⟩ = some (.int .u32 x.b) ∧ W.cell? ⟨g, 2, none⟩ = some (.int .i64 x.c) ∧ W.cell? ⟨g, 3, none⟩ = some (.int .i64 x.d) ∧ W.cell? ⟨g2, 0, none⟩ = some (.int .i64 y.a) ∧ W.cell? ⟨g2, 1, none⟩ = some (.int .u32 y.b) ∧ W.cell? ⟨g2, 2, none⟩ = some (.int .i64 y.c) ∧ W.cell? ⟨g2, 3, none⟩ = some (.int .i64 y.d)) (by kernel_rfl) (ZD.out) (fun hHeld => ?_)
              refine takeR 0 (some 108) ?_ ?_ ?_; rotate_left; (focus (intros; go_simp; (try with_reducible rfl)))
              simp only [aput, lset]
              refine takeR 1 (some 109) ?_ ?_ ?_; rotate_left; (focus (intros; go_simp; (try with_reducible rfl)))
              simp only [aput, lset]
              refine takeR 2 (some 110) ?_ ?_ ?_; rotate_left; (focus (intros; go_simp; (try with_reducible rfl)))
              simp only [aput, lset]
              refine takeR 3 (some 111) ?_ ?_ ?_; rotate_left; (focus (intros; go_simp; (try with_reducible rfl)))
              simp only [aput, lset]
              refine takeR 4 (some 112) ?_ ?_ ?_; rotate_left; (focus (intros; go_simp; (try with_reducible rfl)))
              simp only [aput, lset]
              refine takeR 5 (some 113) ?_ ?_ ?_; rotate_left; (focus (intros; go_simp; (try with_reducible rfl)))
              simp only [aput, lset]
              refine takeR 6 (some 114) ?_ ?_ ?_; rotate_left; (focus (intros; go_simp; (try with_reducible rfl)))
              simp only [aput, lset]
              refine takeR 7 (some 115) ?_ ?_ ?_; rotate_left; (focus (intros; go_simp; (try with_reducible rfl)))
              simp only [aput, lset]
              refine takeR 8 (some 116) ?_ ?_ ?_; rotate_left; (focus (intros; go_simp; (try with_reducible rfl)))
              simp only [aput, lset]
              refine takeR 9 (some 117) ?_ ?_ ?_; rotate_left; (focus (intros; go_simp; (try with_reducible rfl)))
              simp only [aput, lset]
              refine takeR 10 (some 118) ?_ ?_ ?_; rotate_left; (focus (intros; go_simp; (try with_reducible rfl)))
              simp only [aput, lset]
              refine takeR 11 (some 119) ?_ ?_ ?_; rotate_left; (focus (intros; go_simp; (try with_reducible rfl)))
              simp only [aput, lset]
              refine takeR 12 (some 120) ?_ ?_ ?_; rotate_left; (focus (intros; go_simp; (try with_reducible rfl)))
              simp only [aput, lset]
              refine takeR 15 (some 123) ?_ ?_ ?_; rotate_left; (focus (intros; go_simp; (try with_reducible rfl)))
              simp only [aput, lset]
              refine takeR 16 (some 124) ?_ ?_ ?_; rotate_left; (focus (intros; go_simp; (try with_reducible rfl)))
              simp only [aput, lset]
              refine takeR 17 (some 125) ?_ ?_ ?_; rotate_left; (focus (intros; go_simp; (try with_reducible rfl)))
              simp only [aput, lset]
              refine takeR 20 (some 128) ?_ ?_ ?_; rotate_left; (focus (intros; go_simp; (try with_reducible rfl)))
              simp only [aput, lset]
              refine wpAnyH_ready (rs := [13]) (by kernel_rfl) (by simp) ?_
              refine AllReadyH.cons (o := ⟨(some 121), _, _, _, _, _⟩) rfl (fun K hK => ?_) AllReadyH.nil
              go_simp
              ((with_reducible refine (QX.out _ (by assumption)).mono ?_); rintro r w9 ⟨rfl, hs9⟩)
              go_simp
              refine hK.out _ _ (by assumption) (fun hHeld => ?_)
              clear hK K
              refine takeR 14 (some 122) ?_ ?_ ?_; rotate_left; (focus (intros; go_simp; (try with_reducible rfl)))
              simp only [aput, lset]
              refine wpAnyH_ready (rs := [18]) (by kernel_rfl) (by simp) ?_
              refine AllReadyH.cons (o := ⟨(some 126), _, _, _, _, _⟩) rfl (fun K hK => ?_) AllReadyH.nil
              go_simp
              ((with_reducible refine (QY.out _ (by assumption)).mono ?_); rintro r w9 ⟨rfl, hs9⟩)
              go_simp
              refine hK.out _ _ (by assumption) (fun hHeld => ?_)
              clear hK K
              refine takeR 19 (some 127) ?_ ?_ ?_; rotate_left; (focus (intros; go_simp; (try with_reducible rfl)))
              simp only [aput, lset]
              refine wpAnyH_ready (rs := [21]) (by kernel_rfl) (by simp) ?_
              refine AllReadyH.cons (o := ⟨(some 129), _, _, _, _, _⟩) rfl (fun K hK => ?_) AllReadyH.nil
              go_simp
              ((with_reducible refine (MT.out _ (by assumption)).mono ?_); rintro r w9 ⟨rfl, hs9⟩)
              go_simp
              refine hK.out _ _ (by assumption) (fun hHeld => ?_)
              clear hK K
              refine takeR 22 (some 130) ?_ ?_ ?_; rotate_left; (focus (intros; go_simp; (try with_reducible rfl)))
              simp only [aput, lset]
              refine wpAnyH_done (by kernel_rfl) ?_ _
              obtain ⟨V, c0, c1, c2, c3, c4, c5, c6, c7, c8, g0, g1, g3, g4, h0, h1, h3, h4⟩ := hHeld
              go_wp2
              go_ret
              exact ⟨by rw [HT.out (by first | rfl | trivial)]; rfl, V.out.b⟩
        · obtain rfl : j = n := by omega
          have HI2 := Lib.hid (show ∀ (i k : Nat) (a b : R4), i < k → k < j + 1 → c.entries[i]? = some a → c.entries[k]? = some b → rcv c a b = false by
            intro i k a b hik hk2 ha hb
            by_cases hkj : k = j
            · subst hkj
              rw [HX.out] at hb
              cases hb
              exact HJ.out i a (by omega) ha
            · exact HI.out i k a b hik (by omega) ha hb)
          have Y1 := Lib.hid Y.out.cx
          clear Y a0 a1 a2 a3 a4 a5 a6 a7 a8 e0 e1 e2 e3
          go_wp2
          exact ⟨⟨j + 1, by omega, by go_num, Y1, HI2⟩, by simp [intOf]; omega⟩
    · have HQ2 := Lib.hid (show q = false by
        rw [HQ.out]
        exact prs_false (fun i j a b hij hi hj => HI.out i j a b hij (by have := lt_of_get hj; rw [← HM.out.nE] at this; omega) hi hj))
      go_wp2
      go_ret
      exact ⟨by rw [HQ2.out]; rfl, X.out.b⟩
end Go.Proofs.YtmagjekmlnpfpaaGreat.ConfW


