/- The document's own: entries at 7. -/
import Derived.Test.YtmagjekmlnpfpaaGreatTake
import Derived.Test.YtmagjekmlnpfpaaGreatConfM
import Derived.Test.YtmagjekmlnpfpaaGreatConfO
namespace Go.Proofs.YtmagjekmlnpfpaaGreat.ConfW
open Shell (takeR skipR aput lset)
open Go.RowKit Shell
set_option maxHeartbeats 8000000 in
set_option maxRecDepth 100000 in
theorem ent7_any (c : Cfg) (D E L : Option Addr) (nd cd ne ce nl cl : Nat) (w : World) (h : CM w c D E L nd cd ne ce nl cl) (hp : ∀ e ∈ c.entries, 0 ≤ e.c ∧ e.c ≤ 1073741824) : Calls Tryz.prog 52 #[.agg #[.int .i64 c.hosts, .int .i64 c.cycle, .int .i64 c.delay, .int .i64 c.window, .int .i64 c.precision, .slice D nd cd, .slice E ne ce, .slice L nl cl, .int .i64 c.queue], .int .i64 7] w fun r w' => r = .returned (.bool (prs snd c.entries)) ∧ Below w.heap.size w w' := by
  have HM := Lib.hid h
  have hm : ne ≤ 9223372036854775807 := h.mE
  clear h
  have HP := Lib.hid hp
  clear hp
  have X := Lib.hid (CX.start (w0 := w) (c := c) (D := D) (E := E) (L := L) (nd := nd) (cd := cd) (ne := ne) (ce := ce) (nl := nl) (cl := cl))
  generalize hq : (prs snd c.entries) = q
  have HQ := Lib.hid (show q = _ from hq.symm)
  clear hq
  go_enter Tryz.func52, Tryz.ntmps52
  go_wp2
  go_loopw [5] (fun iv wr => ∃ (n : Nat), n ≤ ne ∧ iv = .int .i64 n ∧ Hid (CX w c D E L nd cd ne ce nl cl wr) ∧ Hid (∀ (i j : Nat) (a b : R4), i < j → j < n → c.entries[i]? = some a → c.entries[j]? = some b → snd a b = false)) (fun iv _ => ne - (intOf iv).toNat)
  case atStart => exact ⟨0, Nat.zero_le _, rfl, X, Lib.hid (by intros; omega)⟩
  case round =>
    clear X
    obtain ⟨n, hk, rfl, X, HI⟩ := hrel
    obtain ⟨-, a0, a1, a2, a3, a4, a5, a6, a7, a8⟩ := X.out.s
    by_cases hlt : (n : Int) < (ne : Int)
    · obtain ⟨x, hx⟩ : ∃ x, c.entries[n]? = some x := ⟨_, List.getElem?_eq_getElem (by rw [← HM.out.nE]; omega)⟩
      obtain ⟨b, off, rfl, ⟨x0, x1, x2, x3⟩, hxb⟩ := (X.out.mem HM.out).he n x hx
      have HX := Lib.hid hx
      clear hx
      have X1 := Lib.hid (X.out.ent x)
      obtain ⟨g, hg⟩ : ∃ g, g = wr.heap.size := ⟨_, rfl⟩
      rw [← hg] at X1
      have HG := Lib.hid hg
      clear hg
      go_wp2_with fail
      rw [← HG.out]
      refine wp_region_held_drew (S := fun W : World => Hid (EX w g c D (some ⟨b, off, none⟩) L nd cd ne ce nl cl x W) ∧ W.cell? ⟨w.heap.size, 0, none⟩ = some (.int .i64 c.hosts) ∧ W.cell? ⟨w.heap.size, 1, none⟩ = some (.int .i64 c.cycle) ∧ W.cell? ⟨w.heap.size, 2, none⟩ = some (.int .i64 c.delay) ∧ W.cell? ⟨w.heap.size, 3, none⟩ = some (.int .i64 c.window) ∧ W.cell? ⟨w.heap.size, 4, none⟩ = some (.int .i64 c.precision) ∧ W.cell? ⟨w.heap.size, 5, none⟩ = some (.slice D nd cd) ∧ W.cell? ⟨w.heap.size, 6, none⟩ = some (.slice (some ⟨b, off, none⟩) ne ce) ∧ W.cell? ⟨w.heap.size, 7, none⟩ = some (.slice L nl cl) ∧ W.cell? ⟨w.heap.size, 8, none⟩ = some (.int .i64 c.queue) ∧ W.cell? ⟨g, 0, none⟩ = some (.int .i64 x.a) ∧ W.cell? ⟨g, 1, none⟩ = some (.int .u32 x.b) ∧ W.cell? ⟨g, 2, none⟩ = some (.int .i64 x.c) ∧ W.cell? ⟨g, 3, none⟩ = some (.int .i64 x.d)) (by kernel_rfl) (X1.out.drew.s) (fun hHeld => ?_)
      refine takeR 0 (some 45) ?_ ?_ ?_; rotate_left; (focus (intros; go_simp; (try with_reducible rfl)))
      simp only [aput, lset]
      refine takeR 1 (some 46) ?_ ?_ ?_; rotate_left; (focus (intros; go_simp; (try with_reducible rfl)))
      simp only [aput, lset]
      refine takeR 2 (some 47) ?_ ?_ ?_; rotate_left; (focus (intros; go_simp; (try with_reducible rfl)))
      simp only [aput, lset]
      refine skipR 3 (some 48) ?_
      simp only [aput, lset]
      refine skipR 4 (some 49) ?_
      simp only [aput, lset]
      refine skipR 5 (some 50) ?_
      simp only [aput, lset]
      refine skipR 6 (some 51) ?_
      simp only [aput, lset]
      refine skipR 7 (some 52) ?_
      simp only [aput, lset]
      refine skipR 8 (some 53) ?_
      simp only [aput, lset]
      refine skipR 9 (some 54) ?_
      simp only [aput, lset]
      refine skipR 10 (some 55) ?_
      simp only [aput, lset]
      refine skipR 11 (some 56) ?_
      simp only [aput, lset]
      refine skipR 12 (some 57) ?_
      simp only [aput, lset]
      refine skipR 13 (some 58) ?_
      simp only [aput, lset]
      refine skipR 14 (some 59) ?_
      simp only [aput, lset]
      refine skipR 15 (some 60) ?_
      simp only [aput, lset]
      refine skipR 16 (some 61) ?_
      simp only [aput, lset]
      refine skipR 17 (some 62) ?_
      simp only [aput, lset]
      refine skipR 18 (some 63) ?_
      simp only [aput, lset]
      refine skipR 19 (some 64) ?_
      simp only [aput, lset]
      refine skipR 20 (some 65) ?_
      simp only [aput, lset]
      refine skipR 21 (some 66) ?_
      simp only [aput, lset]
      refine skipR 22 (some 67) ?_
      simp only [aput, lset]
      refine skipR 23 (some 68) ?_
      simp only [aput, lset]
      refine takeR 24 (some 69) ?_ ?_ ?_; rotate_left; (focus (intros; go_simp; (try with_reducible rfl)))
      simp only [aput, lset]
      refine wpAnyH_done (by kernel_rfl) ?_ _
      obtain ⟨Y, b0, b1, b2, b3, b4, b5, b6, b7, b8, d0, d1, d2, d3⟩ := hHeld
      have Y0 := Lib.hid Y.out
      clear Y a0 a1 a2 a3 a4 a5 a6 a7 a8 x0 x1 x2 x3 b0 b1 b2 b3 b4 b5 b6 b7 b8 d0 d1 d2 d3
      go_wp2
      go_loopw [7] (fun jv wr => ∃ (j : Nat), j ≤ n ∧ jv = .int .i64 j ∧ Hid (EX w g c D (some ⟨b, off, none⟩) L nd cd ne ce nl cl x wr) ∧ Hid (∀ (i : Nat) (a : R4), i < j → c.entries[i]? = some a → snd a x = false)) (fun jv _ => n - (intOf jv).toNat)
      case atStart => exact ⟨0, Nat.zero_le _, rfl, Y0, Lib.hid (by intros; omega)⟩
      case round =>
        clear Y0
        obtain ⟨j, hj, rfl, Y, HJ⟩ := hrel
        obtain ⟨-, a0, a1, a2, a3, a4, a5, a6, a7, a8, e0, e1, e2, e3⟩ := Y.out.s
        by_cases hlt2 : (j : Int) < (n : Int)
        · obtain ⟨y, hy⟩ : ∃ y, c.entries[j]? = some y := ⟨_, List.getElem?_eq_getElem (by rw [← HM.out.nE]; omega)⟩
          obtain ⟨b9, o9, hbo, ⟨y0, y1, y2, y3⟩, hyb⟩ := (HM.out.below Y.out.b).he j y hy
          cases hbo
          have HY := Lib.hid hy
          clear hy
          have Z1 := Lib.hid (Y.out.ent y)
          obtain ⟨g2, hg2⟩ : ∃ g2, g2 = wr.heap.size := ⟨_, rfl⟩
          rw [← hg2] at Z1
          have HG2 := Lib.hid hg2
          clear hg2
          have HT := Lib.hid (show snd y x = true → q = true from fun h => by
            rw [HQ.out]
            exact prs_true (i := j) (j := n) (by omega) HY.out HX.out h)
          have HF := Lib.hid (show snd y x = false → ∀ (i : Nat) (a : R4), i < j + 1 → c.entries[i]? = some a → snd a x = false by
            intro h i a hi ha
            by_cases hij : i = j
            · subst hij
              rw [HY.out] at ha
              cases ha
              exact h
            · exact HJ.out i a (by omega) ha)
          have TX := Lib.hid (show ∀ W, (Hid (GX w g g2 c D (some ⟨b, off, none⟩) L nd cd ne ce nl cl x y W) ∧ W.cell? ⟨w.heap.size, 0, none⟩ = some (.int .i64 c.hosts) ∧ W.cell? ⟨w.heap.size, 1, none⟩ = some (.int .i64 c.cycle) ∧ W.cell? ⟨w.heap.size, 2, none⟩ = some (.int .i64 c.delay) ∧ W.cell? ⟨w.heap.size, 3, none⟩ = some (.int .i64 c.window) ∧ W.cell? ⟨w.heap.size, 4, none⟩ = some (.int .i64 c.precision) ∧ W.cell? ⟨w.heap.size, 5, none⟩ = some (.slice D nd cd) ∧ W.cell? ⟨w.heap.size, 6, none⟩ = some (.slice (some ⟨b, off, none⟩) ne ce) ∧ W.cell? ⟨w.heap.size, 7, none⟩ = some (.slice L nl cl) ∧ W.cell? ⟨w.heap.size, 8, none⟩ = some (.int .i64 c.queue) ∧ W.cell? ⟨g, 0, none⟩ = some (.int .i64 x.a) ∧ W.cell? ⟨g, 1, none⟩ = some (.int .u32 x.b) ∧ W.cell? ⟨g, 2, none⟩ = some (.int .i64 x.c) ∧ W.cell? ⟨g, 3, none⟩ = some (.int .i64 x.d) ∧ W.cell? ⟨g2, 0, none⟩ = some (.int .i64 y.a) ∧ W.cell? ⟨g2, 1, none⟩ = some (.int .u32 y.b) ∧ W.cell? ⟨g2, 2, none⟩ = some (.int .i64 y.c) ∧ W.cell? ⟨g2, 3, none⟩ = some (.int .i64 y.d)) → Calls Tryz.prog 105 #[.int .i64 x.d] W fun r W' => r = .returned (.int .i64 (tim x.d)) ∧ (Hid (GX w g g2 c D (some ⟨b, off, none⟩) L nd cd ne ce nl cl x y W') ∧ W'.cell? ⟨w.heap.size, 0, none⟩ = some (.int .i64 c.hosts) ∧ W'.cell? ⟨w.heap.size, 1, none⟩ = some (.int .i64 c.cycle) ∧ W'.cell? ⟨w.heap.size, 2, none⟩ = some (.int .i64 c.delay) ∧ W'.cell? ⟨w.heap.size, 3, none⟩ = some (.int .i64 c.window) ∧ W'.cell? ⟨w.heap.size, 4, none⟩ = some (.int .i64 c.precision) ∧ W'.cell? ⟨w.heap.size, 5, none⟩ = some (.slice D nd cd) ∧ W'.cell? ⟨w.heap.size, 6, none⟩ = some (.slice (some ⟨b, off, none⟩) ne ce) ∧ W'.cell? ⟨w.heap.size, 7, none⟩ = some (.slice L nl cl) ∧ W'.cell? ⟨w.heap.size, 8, none⟩ = some (.int .i64 c.queue) ∧ W'.cell? ⟨g, 0, none⟩ = some (.int .i64 x.a) ∧ W'.cell? ⟨g, 1, none⟩ = some (.int .u32 x.b) ∧ W'.cell? ⟨g, 2, none⟩ = some (.int .i64 x.c) ∧ W'.cell? ⟨g, 3, none⟩ = some (.int .i64 x.d) ∧ W'.cell? ⟨g2, 0, none⟩ = some (.int .i64 y.a) ∧ W'.cell? ⟨g2, 1, none⟩ = some (.int .u32 y.b) ∧ W'.cell? ⟨g2, 2, none⟩ = some (.int .i64 y.c) ∧ W'.cell? ⟨g2, 3, none⟩ = some (.int .i64 y.d)) from fun W hS => (refTime_any x.d W).mono fun r W' ⟨hr, hb⟩ => ⟨hr, by rw [hb]; exact hS⟩)
          have TY := Lib.hid (show ∀ W, (Hid (GX w g g2 c D (some ⟨b, off, none⟩) L nd cd ne ce nl cl x y W) ∧ W.cell? ⟨w.heap.size, 0, none⟩ = some (.int .i64 c.hosts) ∧ W.cell? ⟨w.heap.size, 1, none⟩ = some (.int .i64 c.cycle) ∧ W.cell? ⟨w.heap.size, 2, none⟩ = some (.int .i64 c.delay) ∧ W.cell? ⟨w.heap.size, 3, none⟩ = some (.int .i64 c.window) ∧ W.cell? ⟨w.heap.size, 4, none⟩ = some (.int .i64 c.precision) ∧ W.cell? ⟨w.heap.size, 5, none⟩ = some (.slice D nd cd) ∧ W.cell? ⟨w.heap.size, 6, none⟩ = some (.slice (some ⟨b, off, none⟩) ne ce) ∧ W.cell? ⟨w.heap.size, 7, none⟩ = some (.slice L nl cl) ∧ W.cell? ⟨w.heap.size, 8, none⟩ = some (.int .i64 c.queue) ∧ W.cell? ⟨g, 0, none⟩ = some (.int .i64 x.a) ∧ W.cell? ⟨g, 1, none⟩ = some (.int .u32 x.b) ∧ W.cell? ⟨g, 2, none⟩ = some (.int .i64 x.c) ∧ W.cell? ⟨g, 3, none⟩ = some (.int .i64 x.d) ∧ W.cell? ⟨g2, 0, none⟩ = some (.int .i64 y.a) ∧ W.cell? ⟨g2, 1, none⟩ = some (.int .u32 y.b) ∧ W.cell? ⟨g2, 2, none⟩ = some (.int .i64 y.c) ∧ W.cell? ⟨g2, 3, none⟩ = some (.int .i64 y.d)) → Calls Tryz.prog 105 #[.int .i64 y.d] W fun r W' => r = .returned (.int .i64 (tim y.d)) ∧ (Hid (GX w g g2 c D (some ⟨b, off, none⟩) L nd cd ne ce nl cl x y W') ∧ W'.cell? ⟨w.heap.size, 0, none⟩ = some (.int .i64 c.hosts) ∧ W'.cell? ⟨w.heap.size, 1, none⟩ = some (.int .i64 c.cycle) ∧ W'.cell? ⟨w.heap.size, 2, none⟩ = some (.int .i64 c.delay) ∧ W'.cell? ⟨w.heap.size, 3, none⟩ = some (.int .i64 c.window) ∧ W'.cell? ⟨w.heap.size, 4, none⟩ = some (.int .i64 c.precision) ∧ W'.cell? ⟨w.heap.size, 5, none⟩ = some (.slice D nd cd) ∧ W'.cell? ⟨w.heap.size, 6, none⟩ = some (.slice (some ⟨b, off, none⟩) ne ce) ∧ W'.cell? ⟨w.heap.size, 7, none⟩ = some (.slice L nl cl) ∧ W'.cell? ⟨w.heap.size, 8, none⟩ = some (.int .i64 c.queue) ∧ W'.cell? ⟨g, 0, none⟩ = some (.int .i64 x.a) ∧ W'.cell? ⟨g, 1, none⟩ = some (.int .u32 x.b) ∧ W'.cell? ⟨g, 2, none⟩ = some (.int .i64 x.c) ∧ W'.cell? ⟨g, 3, none⟩ = some (.int .i64 x.d) ∧ W'.cell? ⟨g2, 0, none⟩ = some (.int .i64 y.a) ∧ W'.cell? ⟨g2, 1, none⟩ = some (.int .u32 y.b) ∧ W'.cell? ⟨g2, 2, none⟩ = some (.int .i64 y.c) ∧ W'.cell? ⟨g2, 3, none⟩ = some (.int .i64 y.d)) from fun W hS => (refTime_any y.d W).mono fun r W' ⟨hr, hb⟩ => ⟨hr, by rw [hb]; exact hS⟩)
          have ptx := tim_pos x.d
          have pty := tim_pos y.d
          have pcx := HP.out x (List.mem_of_getElem? HX.out)
          have pcy := HP.out y (List.mem_of_getElem? HY.out)
          have MT := fun W => meet_any x.c (tim x.d) y.c (tim y.d) W (i64_id (by omega) (by omega)) (i64_id (by omega) (by omega))
          have hP : snd y x = (decide (y.a = x.a) && (decide (y.c < x.c + tim x.d) && decide (x.c < y.c + tim y.d))) := rfl
          clear ptx pty pcx pcy
          generalize hz : (decide (y.c < x.c + tim x.d) && decide (x.c < y.c + tim y.d)) = z at *
          clear hz
          generalize snd y x = sn at *
          generalize tim x.d = tx at *
          generalize tim y.d = ty at *
          by_cases hE : x.a = y.a
          · have hE2 : (x.a == y.a) = true := by rw [beq_iff_eq]; exact hE
            rw [decide_eq_true hE.symm, Bool.true_and] at hP
            subst hP
            clear hE
            cases sn
            · go_wp2_with fail
              rw [← HG2.out]
              refine wp_region_held_drew (S := fun W : World => Hid (GX w g g2 c D (some ⟨b, off, none⟩) L nd cd ne ce nl cl x y W) ∧ W.cell? ⟨w.heap.size, 0, none⟩ = some (.int .i64 c.hosts) ∧ W.cell? ⟨w.heap.size, 1, none⟩ = some (.int .i64 c.cycle) ∧ W.cell? ⟨w.heap.size, 2, none⟩ = some (.int .i64 c.delay) ∧ W.cell? ⟨w.heap.size, 3, none⟩ = some (.int .i64 c.window) ∧ W.cell? ⟨w.heap.size, 4, none⟩ = some (.int .i64 c.precision) ∧ W.cell? ⟨w.heap.size, 5, none⟩ = some (.slice D nd cd) ∧ W.cell? ⟨w.heap.size, 6, none⟩ = some (.slice (some ⟨b, off, none⟩) ne ce) ∧ W.cell? ⟨w.heap.size, 7, none⟩ = some (.slice L nl cl) ∧ W.cell? ⟨w.heap.size, 8, none⟩ = some (.int .i64 c.queue) ∧ W.cell? ⟨g, 0, none⟩ = some (.int .i64 x.a) ∧ W.cell? ⟨g, 1, none⟩ = some (.int .u32 x.b) ∧ W.cell? ⟨g, 2, none⟩ = some (.int .i64 x.c) ∧ W.cell? ⟨g, 3, none⟩ = some (.int .i64 x.d) ∧ W.cell? ⟨g2, 0, none⟩ = some (.int .i64 y.a) ∧ W.cell? ⟨g2, 1, none⟩ = some (.int .u32 y.b) ∧ W.cell? ⟨g2, 2, none⟩ = some (.int .i64 y.c) ∧ W.cell? ⟨g2, 3, none⟩ = some (.int .i64 y.d)) (by kernel_rfl) (Z1.out.drew.s) (fun hHeld => ?_)
              refine takeR 0 (some 84) ?_ ?_ ?_; rotate_left; (focus (intros; go_simp; (try with_reducible rfl)))
              simp only [aput, lset]
              refine takeR 1 (some 85) ?_ ?_ ?_; rotate_left; (focus (intros; go_simp; (try with_reducible rfl)))
              simp only [aput, lset]
              refine takeR 3 (some 87) ?_ ?_ ?_; rotate_left; (focus (intros; go_simp; (try with_reducible rfl)))
              simp only [aput, lset]
              refine takeR 4 (some 88) ?_ ?_ ?_; rotate_left; (focus (intros; go_simp; (try with_reducible rfl)))
              simp only [aput, lset]
              refine wpAnyH_ready (rs := [2]) (by kernel_rfl) (by simp) ?_
              refine AllReadyH.cons (o := ⟨(some 86), _, _, _, _, _⟩) rfl (fun K hK => ?_) AllReadyH.nil
              go_simp
              ((with_reducible refine (TX.out _ (by assumption)).mono ?_); rintro r w9 ⟨rfl, hs9⟩)
              go_simp
              refine hK.out _ _ (by assumption) (fun hHeld => ?_)
              clear hK K
              refine wpAnyH_ready (rs := [5]) (by kernel_rfl) (by simp) ?_
              refine AllReadyH.cons (o := ⟨(some 89), _, _, _, _, _⟩) rfl (fun K hK => ?_) AllReadyH.nil
              go_simp
              ((with_reducible refine (TY.out _ (by assumption)).mono ?_); rintro r w9 ⟨rfl, hs9⟩)
              go_simp
              refine hK.out _ _ (by assumption) (fun hHeld => ?_)
              clear hK K
              refine takeR 6 (some 9) ?_ ?_ ?_; rotate_left; (focus (intros; go_simp; (try with_reducible rfl)))
              simp only [aput, lset]
              refine takeR 7 (some 10) ?_ ?_ ?_; rotate_left; (focus (intros; go_simp; (try with_reducible rfl)))
              simp only [aput, lset]
              refine wpAnyH_done (by kernel_rfl) ?_ _
              obtain ⟨Z, b0, b1, b2, b3, b4, b5, b6, b7, b8, d0, d1, d2, d3, f0, f1, f2, f3⟩ := hHeld
              clear a0 a1 a2 a3 a4 a5 a6 a7 a8 e0 e1 e2 e3 y0 y1 y2 y3
              go_wp2_with fail
              refine (MT _).mono ?_
              rintro r w9 ⟨rfl, hw⟩
              obtain rfl := hw.symm
              go_wp2_with fail
              have ZD := Lib.hid Z.out.drew.s
              refine wp_region_held_drew (S := fun W : World => Hid (GX w g g2 c D (some ⟨b, off, none⟩) L nd cd ne ce nl cl x y W) ∧ W.cell? ⟨w.heap.size, 0, none⟩ = some (.int .i64 c.hosts) ∧ W.cell? ⟨w.heap.size, 1, none⟩ = some (.int .i64 c.cycle) ∧ W.cell? ⟨w.heap.size, 2, none⟩ = some (.int .i64 c.delay) ∧ W.cell? ⟨w.heap.size, 3, none⟩ = some (.int .i64 c.window) ∧ W.cell? ⟨w.heap.size, 4, none⟩ = some (.int .i64 c.precision) ∧ W.cell? ⟨w.heap.size, 5, none⟩ = some (.slice D nd cd) ∧ W.cell? ⟨w.heap.size, 6, none⟩ = some (.slice (some ⟨b, off, none⟩) ne ce) ∧ W.cell? ⟨w.heap.size, 7, none⟩ = some (.slice L nl cl) ∧ W.cell? ⟨w.heap.size, 8, none⟩ = some (.int .i64 c.queue) ∧ W.cell? ⟨g, 0, none⟩ = some (.int .i64 x.a) ∧ W.cell? ⟨g, 1, none⟩ = some (.int .u32 x.b) ∧ W.cell? ⟨g, 2, none⟩ = some (.int .i64 x.c) ∧ W.cell? ⟨g, 3, none⟩ = some (.int .i64 x.d) ∧ W.cell? ⟨g2, 0, none⟩ = some (.int .i64 y.a) ∧ W.cell? ⟨g2, 1, none⟩ = some (.int .u32 y.b) ∧ W.cell? ⟨g2, 2, none⟩ = some (.int .i64 y.c) ∧ W.cell? ⟨g2, 3, none⟩ = some (.int .i64 y.d)) (by kernel_rfl) (ZD.out) (fun hHeld => ?_)
              refine takeR 0 (some 108) ?_ ?_ ?_; rotate_left; (focus (intros; go_simp; (try with_reducible rfl)))
              simp only [aput, lset]
              refine takeR 1 (some 109) ?_ ?_ ?_; rotate_left; (focus (intros; go_simp; (try with_reducible rfl)))
              simp only [aput, lset]
              refine takeR 2 (some 110) ?_ ?_ ?_; rotate_left; (focus (intros; go_simp; (try with_reducible rfl)))
              simp only [aput, lset]
              refine skipR 3 (some 111) ?_
              simp only [aput, lset]
              refine skipR 4 (some 112) ?_
              simp only [aput, lset]
              refine skipR 5 (some 113) ?_
              simp only [aput, lset]
              refine skipR 6 (some 114) ?_
              simp only [aput, lset]
              refine skipR 7 (some 115) ?_
              simp only [aput, lset]
              refine skipR 8 (some 116) ?_
              simp only [aput, lset]
              refine takeR 9 (some 117) ?_ ?_ ?_; rotate_left; (focus (intros; go_simp; (try with_reducible rfl)))
              simp only [aput, lset]
              refine takeR 10 (some 118) ?_ ?_ ?_; rotate_left; (focus (intros; go_simp; (try with_reducible rfl)))
              simp only [aput, lset]
              refine skipR 11 (some 119) ?_
              simp only [aput, lset]
              refine skipR 12 (some 120) ?_
              simp only [aput, lset]
              refine skipR 13 (some 121) ?_
              simp only [aput, lset]
              refine skipR 14 (some 122) ?_
              simp only [aput, lset]
              refine skipR 15 (some 123) ?_
              simp only [aput, lset]
              refine skipR 16 (some 124) ?_
              simp only [aput, lset]
              refine skipR 17 (some 125) ?_
              simp only [aput, lset]
              refine skipR 18 (some 126) ?_
              simp only [aput, lset]
              refine skipR 19 (some 127) ?_
              simp only [aput, lset]
              refine skipR 20 (some 128) ?_
              simp only [aput, lset]
              refine skipR 21 (some 129) ?_
              simp only [aput, lset]
              refine takeR 22 (some 130) ?_ ?_ ?_; rotate_left; (focus (intros; go_simp; (try with_reducible rfl)))
              simp only [aput, lset]
              refine wpAnyH_done (by kernel_rfl) ?_ _
              obtain ⟨V, c0, c1, c2, c3, c4, c5, c6, c7, c8, g0, g1, g3, g4, h0, h1, h3, h4⟩ := hHeld
              have V2 := Lib.hid V.out.ex
              clear V Z b0 b1 b2 b3 b4 b5 b6 b7 b8 d0 d1 d2 d3 f0 f1 f2 f3 c0 c1 c2 c3 c4 c5 c6 c7 c8 g0 g1 g3 g4 h0 h1 h3 h4
              go_wp2
              go_roundw
              case rel => exact ⟨j + 1, by omega, by go_num, V2, HF.out (by first | rfl | trivial)⟩
              case measure => simp [intOf]; omega
            · go_wp2_with fail
              rw [← HG2.out]
              refine wp_region_held_drew (S := fun W : World => Hid (GX w g g2 c D (some ⟨b, off, none⟩) L nd cd ne ce nl cl x y W) ∧ W.cell? ⟨w.heap.size, 0, none⟩ = some (.int .i64 c.hosts) ∧ W.cell? ⟨w.heap.size, 1, none⟩ = some (.int .i64 c.cycle) ∧ W.cell? ⟨w.heap.size, 2, none⟩ = some (.int .i64 c.delay) ∧ W.cell? ⟨w.heap.size, 3, none⟩ = some (.int .i64 c.window) ∧ W.cell? ⟨w.heap.size, 4, none⟩ = some (.int .i64 c.precision) ∧ W.cell? ⟨w.heap.size, 5, none⟩ = some (.slice D nd cd) ∧ W.cell? ⟨w.heap.size, 6, none⟩ = some (.slice (some ⟨b, off, none⟩) ne ce) ∧ W.cell? ⟨w.heap.size, 7, none⟩ = some (.slice L nl cl) ∧ W.cell? ⟨w.heap.size, 8, none⟩ = some (.int .i64 c.queue) ∧ W.cell? ⟨g, 0, none⟩ = some (.int .i64 x.a) ∧ W.cell? ⟨g, 1, none⟩ = some (.int .u32 x.b) ∧ W.cell? ⟨g, 2, none⟩ = some (.int .i64 x.c) ∧ W.cell? ⟨g, 3, none⟩ = some (.int .i64 x.d) ∧ W.cell? ⟨g2, 0, none⟩ = some (.int .i64 y.a) ∧ W.cell? ⟨g2, 1, none⟩ = some (.int .u32 y.b) ∧ W.cell? ⟨g2, 2, none⟩ = some (.int .i64 y.c) ∧ W.cell? ⟨g2, 3, none⟩ = some (.int .i64 y.d)) (by kernel_rfl) (Z1.out.drew.s) (fun hHeld => ?_)
              refine takeR 0 (some 84) ?_ ?_ ?_; rotate_left; (focus (intros; go_simp; (try with_reducible rfl)))
              simp only [aput, lset]
              refine takeR 1 (some 85) ?_ ?_ ?_; rotate_left; (focus (intros; go_simp; (try with_reducible rfl)))
              simp only [aput, lset]
              refine takeR 3 (some 87) ?_ ?_ ?_; rotate_left; (focus (intros; go_simp; (try with_reducible rfl)))
              simp only [aput, lset]
              refine takeR 4 (some 88) ?_ ?_ ?_; rotate_left; (focus (intros; go_simp; (try with_reducible rfl)))
              simp only [aput, lset]
              refine wpAnyH_ready (rs := [2]) (by kernel_rfl) (by simp) ?_
              refine AllReadyH.cons (o := ⟨(some 86), _, _, _, _, _⟩) rfl (fun K hK => ?_) AllReadyH.nil
              go_simp
              ((with_reducible refine (TX.out _ (by assumption)).mono ?_); rintro r w9 ⟨rfl, hs9⟩)
              go_simp
              refine hK.out _ _ (by assumption) (fun hHeld => ?_)
              clear hK K
              refine wpAnyH_ready (rs := [5]) (by kernel_rfl) (by simp) ?_
              refine AllReadyH.cons (o := ⟨(some 89), _, _, _, _, _⟩) rfl (fun K hK => ?_) AllReadyH.nil
              go_simp
              ((with_reducible refine (TY.out _ (by assumption)).mono ?_); rintro r w9 ⟨rfl, hs9⟩)
              go_simp
              refine hK.out _ _ (by assumption) (fun hHeld => ?_)
              clear hK K
              refine takeR 6 (some 9) ?_ ?_ ?_; rotate_left; (focus (intros; go_simp; (try with_reducible rfl)))
              simp only [aput, lset]
              refine takeR 7 (some 10) ?_ ?_ ?_; rotate_left; (focus (intros; go_simp; (try with_reducible rfl)))
              simp only [aput, lset]
              refine wpAnyH_done (by kernel_rfl) ?_ _
              obtain ⟨Z, b0, b1, b2, b3, b4, b5, b6, b7, b8, d0, d1, d2, d3, f0, f1, f2, f3⟩ := hHeld
              clear a0 a1 a2 a3 a4 a5 a6 a7 a8 e0 e1 e2 e3 y0 y1 y2 y3
              go_wp2_with fail
              refine (MT _).mono ?_
              rintro r w9 ⟨rfl, hw⟩
              obtain rfl := hw.symm
              go_wp2
              go_ret
              exact ⟨by rw [HT.out (by first | rfl | trivial)]; rfl, Z.out.b⟩
          · have hE2 : (x.a == y.a) = false := by rw [beq_eq_false_iff_ne]; exact hE
            rw [decide_eq_false (fun h => hE h.symm), Bool.false_and] at hP
            subst hP
            clear hE MT
            go_wp2_with fail
            rw [← HG2.out]
            refine wp_region_held_drew (S := fun W : World => Hid (GX w g g2 c D (some ⟨b, off, none⟩) L nd cd ne ce nl cl x y W) ∧ W.cell? ⟨w.heap.size, 0, none⟩ = some (.int .i64 c.hosts) ∧ W.cell? ⟨w.heap.size, 1, none⟩ = some (.int .i64 c.cycle) ∧ W.cell? ⟨w.heap.size, 2, none⟩ = some (.int .i64 c.delay) ∧ W.cell? ⟨w.heap.size, 3, none⟩ = some (.int .i64 c.window) ∧ W.cell? ⟨w.heap.size, 4, none⟩ = some (.int .i64 c.precision) ∧ W.cell? ⟨w.heap.size, 5, none⟩ = some (.slice D nd cd) ∧ W.cell? ⟨w.heap.size, 6, none⟩ = some (.slice (some ⟨b, off, none⟩) ne ce) ∧ W.cell? ⟨w.heap.size, 7, none⟩ = some (.slice L nl cl) ∧ W.cell? ⟨w.heap.size, 8, none⟩ = some (.int .i64 c.queue) ∧ W.cell? ⟨g, 0, none⟩ = some (.int .i64 x.a) ∧ W.cell? ⟨g, 1, none⟩ = some (.int .u32 x.b) ∧ W.cell? ⟨g, 2, none⟩ = some (.int .i64 x.c) ∧ W.cell? ⟨g, 3, none⟩ = some (.int .i64 x.d) ∧ W.cell? ⟨g2, 0, none⟩ = some (.int .i64 y.a) ∧ W.cell? ⟨g2, 1, none⟩ = some (.int .u32 y.b) ∧ W.cell? ⟨g2, 2, none⟩ = some (.int .i64 y.c) ∧ W.cell? ⟨g2, 3, none⟩ = some (.int .i64 y.d)) (by kernel_rfl) (Z1.out.drew.s) (fun hHeld => ?_)
            refine takeR 0 (some 84) ?_ ?_ ?_; rotate_left; (focus (intros; go_simp; (try with_reducible rfl)))
            simp only [aput, lset]
            refine takeR 1 (some 85) ?_ ?_ ?_; rotate_left; (focus (intros; go_simp; (try with_reducible rfl)))
            simp only [aput, lset]
            refine takeR 3 (some 87) ?_ ?_ ?_; rotate_left; (focus (intros; go_simp; (try with_reducible rfl)))
            simp only [aput, lset]
            refine takeR 4 (some 88) ?_ ?_ ?_; rotate_left; (focus (intros; go_simp; (try with_reducible rfl)))
            simp only [aput, lset]
            refine wpAnyH_ready (rs := [2]) (by kernel_rfl) (by simp) ?_
            refine AllReadyH.cons (o := ⟨(some 86), _, _, _, _, _⟩) rfl (fun K hK => ?_) AllReadyH.nil
            go_simp
            ((with_reducible refine (TX.out _ (by assumption)).mono ?_); rintro r w9 ⟨rfl, hs9⟩)
            go_simp
            refine hK.out _ _ (by assumption) (fun hHeld => ?_)
            clear hK K
            refine wpAnyH_ready (rs := [5]) (by kernel_rfl) (by simp) ?_
            refine AllReadyH.cons (o := ⟨(some 89), _, _, _, _, _⟩) rfl (fun K hK => ?_) AllReadyH.nil
            go_simp
            ((with_reducible refine (TY.out _ (by assumption)).mono ?_); rintro r w9 ⟨rfl, hs9⟩)
            go_simp
            refine hK.out _ _ (by assumption) (fun hHeld => ?_)
            clear hK K
            refine takeR 6 (some 9) ?_ ?_ ?_; rotate_left; (focus (intros; go_simp; (try with_reducible rfl)))
            simp only [aput, lset]
            refine takeR 7 (some 10) ?_ ?_ ?_; rotate_left; (focus (intros; go_simp; (try with_reducible rfl)))
            simp only [aput, lset]
            refine wpAnyH_done (by kernel_rfl) ?_ _
            obtain ⟨Z, b0, b1, b2, b3, b4, b5, b6, b7, b8, d0, d1, d2, d3, f0, f1, f2, f3⟩ := hHeld
            clear a0 a1 a2 a3 a4 a5 a6 a7 a8 e0 e1 e2 e3 y0 y1 y2 y3
            go_wp2_with fail
            have ZD := Lib.hid Z.out.drew.s
            refine wp_region_held_drew (S := fun W : World => Hid (GX w g g2 c D (some ⟨b, off, none⟩) L nd cd ne ce nl cl x y W) ∧ W.cell? ⟨w.heap.size, 0, none⟩ = some (.int .i64 c.hosts) ∧ W.cell? ⟨w.heap.size, 1, none⟩ = some (.int .i64 c.cycle) ∧ W.cell? ⟨w.heap.size, 2, none⟩ = some (.int .i64 c.delay) ∧ W.cell? ⟨w.heap.size, 3, none⟩ = some (.int .i64 c.window) ∧ W.cell? ⟨w.heap.size, 4, none⟩ = some (.int .i64 c.precision) ∧ W.cell? ⟨w.heap.size, 5, none⟩ = some (.slice D nd cd) ∧ W.cell? ⟨w.heap.size, 6, none⟩ = some (.slice (some ⟨b, off, none⟩) ne ce) ∧ W.cell? ⟨w.heap.size, 7, none⟩ = some (.slice L nl cl) ∧ W.cell? ⟨w.heap.size, 8, none⟩ = some (.int .i64 c.queue) ∧ W.cell? ⟨g, 0, none⟩ = some (.int .i64 x.a) ∧ W.cell? ⟨g, 1, none⟩ = some (.int .u32 x.b) ∧ W.cell? ⟨g, 2, none⟩ = some (.int .i64 x.c) ∧ W.cell? ⟨g, 3, none⟩ = some (.int .i64 x.d) ∧ W.cell? ⟨g2, 0, none⟩ = some (.int .i64 y.a) ∧ W.cell? ⟨g2, 1, none⟩ = some (.int .u32 y.b) ∧ W.cell? ⟨g2, 2, none⟩ = some (.int .i64 y.c) ∧ W.cell? ⟨g2, 3, none⟩ = some (.int .i64 y.d)) (by kernel_rfl) (ZD.out) (fun hHeld => ?_)
            refine takeR 0 (some 108) ?_ ?_ ?_; rotate_left; (focus (intros; go_simp; (try with_reducible rfl)))
            simp only [aput, lset]
            refine takeR 1 (some 109) ?_ ?_ ?_; rotate_left; (focus (intros; go_simp; (try with_reducible rfl)))
            simp only [aput, lset]
            refine takeR 2 (some 110) ?_ ?_ ?_; rotate_left; (focus (intros; go_simp; (try with_reducible rfl)))
            simp only [aput, lset]
            refine skipR 3 (some 111) ?_
            simp only [aput, lset]
            refine skipR 4 (some 112) ?_
            simp only [aput, lset]
            refine skipR 5 (some 113) ?_
            simp only [aput, lset]
            refine skipR 6 (some 114) ?_
            simp only [aput, lset]
            refine skipR 7 (some 115) ?_
            simp only [aput, lset]
            refine skipR 8 (some 116) ?_
            simp only [aput, lset]
            refine takeR 9 (some 117) ?_ ?_ ?_; rotate_left; (focus (intros; go_simp; (try with_reducible rfl)))
            simp only [aput, lset]
            refine takeR 10 (some 118) ?_ ?_ ?_; rotate_left; (focus (intros; go_simp; (try with_reducible rfl)))
            simp only [aput, lset]
            refine skipR 11 (some 119) ?_
            simp only [aput, lset]
            refine skipR 12 (some 120) ?_
            simp only [aput, lset]
            refine skipR 13 (some 121) ?_
            simp only [aput, lset]
            refine skipR 14 (some 122) ?_
            simp only [aput, lset]
            refine skipR 15 (some 123) ?_
            simp only [aput, lset]
            refine skipR 16 (some 124) ?_
            simp only [aput, lset]
            refine skipR 17 (some 125) ?_
            simp only [aput, lset]
            refine skipR 18 (some 126) ?_
            simp only [aput, lset]
            refine skipR 19 (some 127) ?_
            simp only [aput, lset]
            refine skipR 20 (some 128) ?_
            simp only [aput, lset]
            refine skipR 21 (some 129) ?_
            simp only [aput, lset]
            refine takeR 22 (some 130) ?_ ?_ ?_; rotate_left; (focus (intros; go_simp; (try with_reducible rfl)))
            simp only [aput, lset]
            refine wpAnyH_done (by kernel_rfl) ?_ _
            obtain ⟨V, c0, c1, c2, c3, c4, c5, c6, c7, c8, g0, g1, g3, g4, h0, h1, h3, h4⟩ := hHeld
            have V2 := Lib.hid V.out.ex
            clear V Z b0 b1 b2 b3 b4 b5 b6 b7 b8 d0 d1 d2 d3 f0 f1 f2 f3 c0 c1 c2 c3 c4 c5 c6 c7 c8 g0 g1 g3 g4 h0 h1 h3 h4
            go_wp2
            go_roundw
            case rel => exact ⟨j + 1, by omega, by go_num, V2, HF.out (by first | rfl | trivial)⟩
            case measure => simp [intOf]; omega
        · obtain rfl : j = n := by omega
          have HI2 := Lib.hid (show ∀ (i k : Nat) (a b : R4), i < k → k < j + 1 → c.entries[i]? = some a → c.entries[k]? = some b → snd a b = false by
            intro i k a b hik hk2 ha hb
            by_cases hkj : k = j
            · subst hkj
              rw [HX.out] at hb
              cases hb
              exact HJ.out i a (by omega) ha
            · exact HI.out i k a b hik (by omega) ha hb)
          have Y1 := Lib.hid Y.out.cx
          clear Y a0 a1 a2 a3 a4 a5 a6 a7 a8 e0 e1 e2 e3 hxb
          go_wp2
          exact ⟨⟨j + 1, by omega, by go_num, Y1, HI2⟩, by simp [intOf]; omega⟩
    · have HQ2 := Lib.hid (show q = false by
        rw [HQ.out]
        exact prs_false (fun i j a b hij hi hj => HI.out i j a b hij (by have := lt_of_get hj; rw [← HM.out.nE] at this; omega) hi hj))
      go_wp2
      go_ret
      exact ⟨by rw [HQ2.out]; rfl, X.out.b⟩
end Go.Proofs.YtmagjekmlnpfpaaGreat.ConfW



/- The document's own Check. -/
namespace Go.Proofs.YtmagjekmlnpfpaaGreat.ConfW
open Go.RowKit Shell
theorem ph_range2 {c : Cfg} (h2 : btw c.cycle 1 1073741824 = true) (h6 : phOk c = true) : ∀ e ∈ c.entries, 0 ≤ e.c ∧ e.c ≤ 1073741824 := by
  intro e he
  have h := List.all_eq_true.1 h6 e he
  rw [ph_iff] at h
  have h0 := quiet_nonneg (c := c)
  have := btw_iff.1 h2
  omega
theorem placed_all {c : Cfg} (h1 : btw c.hosts 1 6 = true) (h2 : btw c.cycle 1 1073741824 = true) (h3 : spansT c = true) (h5 : entOk c = true) (h6 : phOk c = true) : ∀ e ∈ c.entries, placed c e = true := by
  intro e he
  have hr := ph_range2 h2 h6 e he
  exact placed_in (spans_iff.2 ⟨btw_iff.1 h2, h3⟩) (btw_iff.1 h1) ((entOk_iff.1 h5).2 e he) hr.1 hr.2
set_option maxHeartbeats 8000000 in
set_option maxRecDepth 100000 in
theorem refCheck_any (c : Cfg) (D E L : Option Addr) (nd cd ne ce nl cl : Nat) (w : World) (h : CM w c D E L nd cd ne ce nl cl) : Calls Tryz.prog 21 #[.agg #[.int .i64 c.hosts, .int .i64 c.cycle, .int .i64 c.delay, .int .i64 c.window, .int .i64 c.precision, .slice D nd cd, .slice E ne ce, .slice L nl cl, .int .i64 c.queue]] w fun r w' => r = .returned (.int .i64 (chk c)) ∧ Below w.heap.size w w' := by
  have HM := Lib.hid h
  have hm : nl ≤ 9223372036854775807 := h.mL
  clear h
  have H3 := Lib.hid (fun W (hW : CX w c D E L nd cd ne ce nl cl W) => (refSpans_any c D E L nd cd ne ce nl cl W).mono (fun r W' (g : _ ∧ _) => (⟨g.1, hW.next g.2⟩ : r = _ ∧ CX w c D E L nd cd ne ce nl cl W')))
  have H4 := Lib.hid (fun W (hW : CX w c D E L nd cd ne ce nl cl W) => (refRows_any c D E L nd cd ne ce nl cl W (hW.mem HM.out)).mono (fun r W' (g : _ ∧ _) => (⟨g.1, hW.next g.2⟩ : r = _ ∧ CX w c D E L nd cd ne ce nl cl W')))
  generalize hq : chk c = q
  have HQ := Lib.hid (show q = chk c from hq.symm)
  clear hq
  unfold chk at HQ
  have X := Lib.hid (CX.start (w0 := w) (c := c) (D := D) (E := E) (L := L) (nd := nd) (cd := cd) (ne := ne) (ce := ce) (nl := nl) (cl := cl))
  by_cases h1a : c.hosts < 1
  · have HQ2 := Lib.hid (show q = 1 by rw [HQ.out, btw_false (by omega)]; rfl)
    go_enter Tryz.func21, Tryz.ntmps21
    go_wp2
    go_ret
    exact ⟨by rw [HQ2.out]; rfl, X.out.b⟩
  by_cases h1b : 6 < c.hosts
  · have HQ2 := Lib.hid (show q = 1 by rw [HQ.out, btw_false (by omega)]; rfl)
    go_enter Tryz.func21, Tryz.ntmps21
    go_wp2
    go_ret
    exact ⟨by rw [HQ2.out]; rfl, X.out.b⟩
  have B1 := Lib.hid (show btw c.hosts 1 6 = true from btw_iff.2 ⟨by omega, by omega⟩)
  by_cases h2a : c.cycle < 1
  · have HQ2 := Lib.hid (show q = 2 by rw [HQ.out, B1.out, btw_false (by omega)]; rfl)
    go_enter Tryz.func21, Tryz.ntmps21
    go_wp2
    go_ret
    exact ⟨by rw [HQ2.out]; rfl, X.out.b⟩
  by_cases h2b : 1073741824 < c.cycle
  · have HQ2 := Lib.hid (show q = 2 by rw [HQ.out, B1.out, btw_false (n := c.cycle) (by omega)]; rfl)
    go_enter Tryz.func21, Tryz.ntmps21
    go_wp2
    go_ret
    exact ⟨by rw [HQ2.out]; rfl, X.out.b⟩
  have B2 := Lib.hid (show btw c.cycle 1 1073741824 = true from btw_iff.2 ⟨by omega, by omega⟩)
  have HS : spans c = spansT c := by unfold spans; rw [B2.out]; rfl
  rw [HS] at H3
  clear HS
  go_enter Tryz.func21, Tryz.ntmps21
  go_wp2_with fail
  refine (H3.out _ X.out).mono ?_
  rintro r w3 ⟨rfl, hx⟩
  have X := Lib.hid hx
  clear hx
  obtain ⟨-, a0, a1, a2, a3, a4, a5, a6, a7, a8⟩ := X.out.s
  cases b3 : spansT c
  · have HQ2 := Lib.hid (show q = 3 by rw [HQ.out, B1.out, B2.out, b3]; rfl)
    clear b3
    go_wp2
    go_ret
    exact ⟨by rw [HQ2.out]; rfl, X.out.b⟩
  have B3 := Lib.hid b3
  clear b3
  go_wp2_with fail
  refine (H4.out _ X.out).mono ?_
  rintro r w4 ⟨rfl, hx⟩
  have X := Lib.hid hx
  clear hx a0 a1 a2 a3 a4 a5 a6 a7 a8
  obtain ⟨-, a0, a1, a2, a3, a4, a5, a6, a7, a8⟩ := X.out.s
  cases b4 : rowsOk c
  · have HQ2 := Lib.hid (show q = 4 by rw [HQ.out, B1.out, B2.out, B3.out, b4]; rfl)
    clear b4
    go_wp2
    go_ret
    exact ⟨by rw [HQ2.out]; rfl, X.out.b⟩
  have HQ4 := Lib.hid (show q = if entOk c then if phOk c then if prs snd c.entries then 7 else if prs (rcv c) c.entries then 8 else if linkOk c then if btw c.queue 1 64 then 0 else 10 else 9 else 6 else 5 by
    rw [HQ.out, B1.out, B2.out, B3.out, b4]; rfl)
  clear b4
  go_wp2
  go_loopw [3] (fun kv wr => ∃ (k : Nat), 5 ≤ k ∧ k ≤ 9 ∧ kv = .int .i64 k ∧ Hid (CX w c D E L nd cd ne ce nl cl wr) ∧ Hid ((6 ≤ k → entOk c = true) ∧ (7 ≤ k → phOk c = true) ∧ (8 ≤ k → prs snd c.entries = false) ∧ (9 ≤ k → prs (rcv c) c.entries = false))) (fun kv _ => 9 - (intOf kv).toNat)
  case atStart => exact ⟨5, by omega, by omega, rfl, X, Lib.hid (by omega)⟩
  case round =>
    clear X a0 a1 a2 a3 a4 a5 a6 a7 a8
    obtain ⟨k, hk1, hk2, rfl, X, HK⟩ := hrel
    obtain ⟨-, a0, a1, a2, a3, a4, a5, a6, a7, a8⟩ := X.out.s
    rcases (show k = 5 ∨ k = 6 ∨ k = 7 ∨ k = 8 ∨ k = 9 by omega) with rfl | rfl | rfl | rfl | rfl
    · have hh := btw_iff.1 B1.out
      have C := Lib.hid (ent5_any c D E L nd cd ne ce nl cl wr (X.out.mem HM.out) hh)
      clear hk1 hk2 hh
      cases hb : entOk c
      · have HQ2 := Lib.hid (show q = 5 by rw [HQ4.out, hb]; rfl)
        rw [hb] at C
        clear hb
        go_wp2_with fail
        refine C.out.mono ?_
        rintro r w5 ⟨rfl, hx⟩
        have X5 := Lib.hid (X.out.next hx)
        clear hx
        go_wp2
        go_ret
        exact ⟨by rw [HQ2.out]; rfl, X5.out.b⟩
      · have HK2 := Lib.hid (show (6 ≤ 6 → entOk c = true) ∧ (7 ≤ 6 → phOk c = true) ∧ (8 ≤ 6 → prs snd c.entries = false) ∧ (9 ≤ 6 → prs (rcv c) c.entries = false) from ⟨fun _ => hb, fun h => by omega, fun h => by omega, fun h => by omega⟩)
        rw [hb] at C
        clear hb
        go_wp2_with fail
        refine C.out.mono ?_
        rintro r w5 ⟨rfl, hx⟩
        have X5 := Lib.hid (X.out.next hx)
        clear hx
        go_wp2
        go_roundw
        case rel => exact ⟨6, by omega, by omega, rfl, X5, Lib.hid ⟨fun h => by first | trivial | exact HK2.out.1 h, fun h => by first | trivial | exact HK2.out.2.1 h, fun h => by first | trivial | exact HK2.out.2.2.1 h, fun h => by first | trivial | exact HK2.out.2.2.2 h⟩⟩
        case measure => simp [intOf]
    · have b5 := HK.out.1 (by omega)
      have C := Lib.hid (ent6_any c D E L nd cd ne ce nl cl wr (X.out.mem HM.out) (spans_iff.2 ⟨btw_iff.1 B2.out, B3.out⟩) (btw_iff.1 B1.out) b5)
      clear hk1 hk2
      cases hb : phOk c
      · have HQ2 := Lib.hid (show q = 6 by rw [HQ4.out, b5, hb]; rfl)
        rw [hb] at C
        clear hb b5
        go_wp2_with fail
        refine C.out.mono ?_
        rintro r w5 ⟨rfl, hx⟩
        have X5 := Lib.hid (X.out.next hx)
        clear hx
        go_wp2
        go_ret
        exact ⟨by rw [HQ2.out]; rfl, X5.out.b⟩
      · have HK2 := Lib.hid (show (6 ≤ 7 → entOk c = true) ∧ (7 ≤ 7 → phOk c = true) ∧ (8 ≤ 7 → prs snd c.entries = false) ∧ (9 ≤ 7 → prs (rcv c) c.entries = false) from ⟨fun _ => b5, fun _ => hb, fun h => by omega, fun h => by omega⟩)
        rw [hb] at C
        clear hb b5
        go_wp2_with fail
        refine C.out.mono ?_
        rintro r w5 ⟨rfl, hx⟩
        have X5 := Lib.hid (X.out.next hx)
        clear hx
        go_wp2
        go_roundw
        case rel => exact ⟨7, by omega, by omega, rfl, X5, Lib.hid ⟨fun h => by first | trivial | exact HK2.out.1 h, fun h => by first | trivial | exact HK2.out.2.1 h, fun h => by first | trivial | exact HK2.out.2.2.1 h, fun h => by first | trivial | exact HK2.out.2.2.2 h⟩⟩
        case measure => simp [intOf]
    · have b5 := HK.out.1 (by omega)
      have b6 := HK.out.2.1 (by omega)
      have C := Lib.hid (ent7_any c D E L nd cd ne ce nl cl wr (X.out.mem HM.out) (ph_range2 B2.out b6))
      clear hk1 hk2
      cases hb : prs snd c.entries
      · have HK2 := Lib.hid (show (6 ≤ 8 → entOk c = true) ∧ (7 ≤ 8 → phOk c = true) ∧ (8 ≤ 8 → prs snd c.entries = false) ∧ (9 ≤ 8 → prs (rcv c) c.entries = false) from ⟨fun _ => b5, fun _ => b6, fun _ => hb, fun h => by omega⟩)
        rw [hb] at C
        clear hb b5 b6
        go_wp2_with fail
        refine C.out.mono ?_
        rintro r w5 ⟨rfl, hx⟩
        have X5 := Lib.hid (X.out.next hx)
        clear hx
        go_wp2
        go_roundw
        case rel => exact ⟨8, by omega, by omega, rfl, X5, Lib.hid ⟨fun h => by first | trivial | exact HK2.out.1 h, fun h => by first | trivial | exact HK2.out.2.1 h, fun h => by first | trivial | exact HK2.out.2.2.1 h, fun h => by first | trivial | exact HK2.out.2.2.2 h⟩⟩
        case measure => simp [intOf]
      · have HQ2 := Lib.hid (show q = 7 by rw [HQ4.out, b5, b6, hb]; rfl)
        rw [hb] at C
        clear hb b5 b6
        go_wp2_with fail
        refine C.out.mono ?_
        rintro r w5 ⟨rfl, hx⟩
        have X5 := Lib.hid (X.out.next hx)
        clear hx
        go_wp2
        go_ret
        exact ⟨by rw [HQ2.out]; rfl, X5.out.b⟩
    · have b5 := HK.out.1 (by omega)
      have b6 := HK.out.2.1 (by omega)
      have b7 := HK.out.2.2.1 (by omega)
      have C := Lib.hid (ent8_any c D E L nd cd ne ce nl cl wr (X.out.mem HM.out) (ph_range2 B2.out b6) (placed_all B1.out B2.out B3.out b5 b6))
      clear hk1 hk2
      cases hb : prs (rcv c) c.entries
      · have HK2 := Lib.hid (show (6 ≤ 9 → entOk c = true) ∧ (7 ≤ 9 → phOk c = true) ∧ (8 ≤ 9 → prs snd c.entries = false) ∧ (9 ≤ 9 → prs (rcv c) c.entries = false) from ⟨fun _ => b5, fun _ => b6, fun _ => b7, fun _ => hb⟩)
        rw [hb] at C
        clear hb b5 b6 b7
        go_wp2_with fail
        refine C.out.mono ?_
        rintro r w5 ⟨rfl, hx⟩
        have X5 := Lib.hid (X.out.next hx)
        clear hx
        go_wp2
        go_roundw
        case rel => exact ⟨9, by omega, by omega, rfl, X5, Lib.hid ⟨fun h => by first | trivial | exact HK2.out.1 h, fun h => by first | trivial | exact HK2.out.2.1 h, fun h => by first | trivial | exact HK2.out.2.2.1 h, fun h => by first | trivial | exact HK2.out.2.2.2 h⟩⟩
        case measure => simp [intOf]
      · have HQ2 := Lib.hid (show q = 8 by rw [HQ4.out, b5, b6, b7, hb]; rfl)
        rw [hb] at C
        clear hb b5 b6 b7
        go_wp2_with fail
        refine C.out.mono ?_
        rintro r w5 ⟨rfl, hx⟩
        have X5 := Lib.hid (X.out.next hx)
        clear hx
        go_wp2
        go_ret
        exact ⟨by rw [HQ2.out]; rfl, X5.out.b⟩
    · have b5 := HK.out.1 (by omega)
      have b6 := HK.out.2.1 (by omega)
      have b7 := HK.out.2.2.1 (by omega)
      have b8 := HK.out.2.2.2 (by omega)
      have HQ9 := Lib.hid (show q = if linkOk c then if btw c.queue 1 64 then 0 else 10 else 9 by rw [HQ4.out, b5, b6, b7, b8]; rfl)
      clear b5 b6 b7 b8 hk1 hk2 HK
      by_cases hn : 16 < nl
      · have HQ2 := Lib.hid (show q = 9 by
          rw [HQ9.out]
          unfold linkOk
          rw [← HM.out.nL, decide_eq_false (by omega)]
          rfl)
        have hn2 : (16 : Int) < (nl : Int) := by omega
        clear hn
        go_wp2
        go_ret
        exact ⟨by rw [HQ2.out]; rfl, X.out.b⟩
      · have HN := Lib.hid hn
        have hn2 : ¬ (16 : Int) < (nl : Int) := by omega
        clear hn
        go_wp2
        go_loopw [4] (fun iv wr => ∃ (n : Nat), n ≤ nl ∧ iv = .int .i64 n ∧ Hid (CX w c D E L nd cd ne ce nl cl wr) ∧ Hid (∀ j r, j < n → c.links[j]? = some r → lnk c r = true)) (fun iv _ => nl - (intOf iv).toNat)
        case atStart => exact ⟨0, Nat.zero_le _, rfl, X, Lib.hid (by intros; omega)⟩
        case round =>
          clear X a0 a1 a2 a3 a4 a5 a6 a7 a8
          obtain ⟨n, hk, rfl, X, HI⟩ := hrel
          obtain ⟨-, a0, a1, a2, a3, a4, a5, a6, a7, a8⟩ := X.out.s
          by_cases hlt : (n : Int) < (nl : Int)
          · obtain ⟨x, hx⟩ : ∃ x, c.links[n]? = some x := ⟨_, List.getElem?_eq_getElem (by rw [← HM.out.nL]; omega)⟩
            obtain ⟨b, off, rfl, ⟨x0, x1, x2, x3⟩, hxb⟩ := (X.out.mem HM.out).hl n x hx
            have HX := Lib.hid hx
            clear hx
            have RW := Lib.hid (fun W => route_any c.hosts x.a x.b x.d W (btw_iff.1 B1.out) hxb)
            have X1 := Lib.hid (X.out.next (al (Below.refl wr.heap.size wr) (Obj.cells #[.int .i64 x.a, .int .u32 x.b, .int .i64 x.c, .int .i64 x.d] 120)))
            obtain ⟨-, b0, b1, b2, b3, b4, b5, b6, b7, b8⟩ := X1.out.s
            have HJ2 := Lib.hid (show lnk c x = true → ∀ (j : Nat) (y : R4), j < n + 1 → c.links[j]? = some y → lnk c y = true by
              intro hb j y hj hy
              by_cases hji : j = n
              · subst hji
                rw [HX.out] at hy
                cases hy
                exact hb
              · exact HI.out j y (by omega) hy)
            have HQ2 := Lib.hid (show lnk c x = false → q = 9 from fun hb => by
              rw [HQ9.out]
              unfold linkOk
              rw [all_false HX.out hb, Bool.and_false]
              rfl)
            have hway : wayE c.hosts x = way c.hosts x.a x.b x.d := rfl
            cases hb : way c.hosts x.a x.b x.d
            · have HB := Lib.hid (show lnk c x = false by unfold lnk; rw [hway, hb]; rfl)
              clear hway
              rw [hb] at RW
              clear hb hxb
              go_wp2_with fail
              refine (RW.out _).mono ?_
              rintro r w9 ⟨rfl, hw⟩
              obtain rfl := hw.symm
              go_wp2
              go_ret
              exact ⟨by rw [HQ2.out HB.out]; rfl, X1.out.b⟩
            · rw [hb] at RW
              by_cases g1 : x.c < 1
              · have HB := Lib.hid (show lnk c x = false by unfold lnk; rw [hway, hb, btw_false (by omega)]; rfl)
                clear hway hb hxb
                go_wp2_with fail
                refine (RW.out _).mono ?_
                rintro r w9 ⟨rfl, hw⟩
                obtain rfl := hw.symm
                go_wp2
                go_ret
                exact ⟨by rw [HQ2.out HB.out]; rfl, X1.out.b⟩
              · by_cases g2 : 1073741824 < x.c
                · have HB := Lib.hid (show lnk c x = false by unfold lnk; rw [hway, hb, btw_false (by omega)]; rfl)
                  clear hway hb hxb
                  go_wp2_with fail
                  refine (RW.out _).mono ?_
                  rintro r w9 ⟨rfl, hw⟩
                  obtain rfl := hw.symm
                  go_wp2
                  go_ret
                  exact ⟨by rw [HQ2.out HB.out]; rfl, X1.out.b⟩
                · have HB := Lib.hid (show lnk c x = true by unfold lnk; rw [hway, hb, btw_iff.2 ⟨by omega, by omega⟩]; rfl)
                  clear hway hb hxb
                  go_wp2_with fail
                  refine (RW.out _).mono ?_
                  rintro r w9 ⟨rfl, hw⟩
                  obtain rfl := hw.symm
                  go_wp2
                  go_roundw
                  case rel => exact ⟨n + 1, by omega, by go_num, X1, HJ2.out HB.out⟩
                  case measure => simp [intOf]; omega
          · have hlk : linkOk c = true := by
              unfold linkOk
              rw [all_true (p := lnk c) (fun j r hj => HI.out j r (by have := lt_of_get hj; rw [← HM.out.nL] at this; omega) hj), ← HM.out.nL, decide_eq_true (by have := HN.out; omega)]
              rfl
            have HQA := Lib.hid (show q = if btw c.queue 1 64 then 0 else 10 by rw [HQ9.out, hlk]; rfl)
            clear hlk
            by_cases g1 : c.queue < 1
            · have HQ2 := Lib.hid (show q = 10 by rw [HQA.out, btw_false (by omega)]; rfl)
              go_wp2
              go_ret
              exact ⟨by rw [HQ2.out]; rfl, X.out.b⟩
            · by_cases g2 : 64 < c.queue
              · have HQ2 := Lib.hid (show q = 10 by rw [HQA.out, btw_false (by omega)]; rfl)
                go_wp2
                go_ret
                exact ⟨by rw [HQ2.out]; rfl, X.out.b⟩
              · have HQ2 := Lib.hid (show q = 0 by rw [HQA.out, btw_iff.2 ⟨by omega, by omega⟩]; rfl)
                go_wp2
                go_ret
                exact ⟨by rw [HQ2.out]; rfl, X.out.b⟩
end Go.Proofs.YtmagjekmlnpfpaaGreat.ConfW


