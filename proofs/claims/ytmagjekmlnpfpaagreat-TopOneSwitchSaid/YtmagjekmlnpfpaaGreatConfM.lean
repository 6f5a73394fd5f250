/- The document's own: entries at 6. -/
import Derived.Test.YtmagjekmlnpfpaaGreatTake
import Derived.Test.YtmagjekmlnpfpaaGreatConfL
namespace Go.Proofs.YtmagjekmlnpfpaaGreat.ConfW
open Shell (takeR skipR aput lset)
open Go.RowKit Shell
set_option maxRecDepth 100000 in
theorem idx4 (x0 x1 x2 x3 x4 : Value) (w : World) : Sem.run Tryz.prog (Instr.index 178 (.agg #[x0, x1, x2, x3, x4]) (.int .i64 4)) w = .ok x4 w := by kernel_rfl
set_option maxRecDepth 100000 in
theorem idx2 (x0 x1 x2 x3 x4 : Value) (w : World) : Sem.run Tryz.prog (Instr.index 178 (.agg #[x0, x1, x2, x3, x4]) (.int .i64 2)) w = .ok x2 w := by kernel_rfl
set_option maxHeartbeats 8000000 in
set_option maxRecDepth 100000 in
theorem ent6_any (c : Cfg) (D E L : Option Addr) (nd cd ne ce nl cl : Nat) (w : World) (h : CM w c D E L nd cd ne ce nl cl) (hs : spans c = true) (hh : 1 ≤ c.hosts ∧ c.hosts ≤ 6) (h5 : entOk c = true) : Calls Tryz.prog 52 #[.agg #[.int .i64 c.hosts, .int .i64 c.cycle, .int .i64 c.delay, .int .i64 c.window, .int .i64 c.precision, .slice D nd cd, .slice E ne ce, .slice L nl cl, .int .i64 c.queue], .int .i64 6] w fun r w' => r = .returned (.bool (!phOk c)) ∧ Below w.heap.size w w' := by
  have HM := Lib.hid h
  have hm : ne ≤ 9223372036854775807 := h.mE
  clear h
  have HH := Lib.hid hh
  have HS := Lib.hid hs
  have H5 := Lib.hid h5
  clear hh hs h5
  have X := Lib.hid (CX.start (w0 := w) (c := c) (D := D) (E := E) (L := L) (nd := nd) (cd := cd) (ne := ne) (ce := ce) (nl := nl) (cl := cl))
  generalize hq : (!phOk c) = q
  have HQ := Lib.hid (show q = _ from hq.symm)
  clear hq
  go_enter Tryz.func52, Tryz.ntmps52
  go_wp2
  go_loopw [5] (fun iv wr => ∃ (n : Nat), n ≤ ne ∧ iv = .int .i64 n ∧ Hid (CX w c D E L nd cd ne ce nl cl wr) ∧ Hid (∀ (j : Nat) (r : R4), j < n → c.entries[j]? = some r → ph c r = true)) (fun iv _ => ne - (intOf iv).toNat)
  case atStart => exact ⟨0, Nat.zero_le _, rfl, X, Lib.hid (by intros; omega)⟩
  case round =>
    clear X
    obtain ⟨n, hk, rfl, X, HI⟩ := hrel
    obtain ⟨-, a0, a1, a2, a3, a4, a5, a6, a7, a8⟩ := X.out.s
    by_cases hlt : (n : Int) < (ne : Int)
    · obtain ⟨x, hx⟩ : ∃ x, c.entries[n]? = some x := ⟨_, List.getElem?_eq_getElem (by rw [← HM.out.nE]; omega)⟩
      obtain ⟨b, off, rfl, ⟨x0, x1, x2, x3⟩, hxb⟩ := (X.out.mem HM.out).he n x hx
      have HX := Lib.hid hx
      clear hx
      have X1 := Lib.hid (X.out.ent x)
      obtain ⟨g, hg⟩ : ∃ g, g = wr.heap.size := ⟨_, rfl⟩
      rw [← hg] at X1
      have HG := Lib.hid hg
      clear hg
      have HJ2 := Lib.hid (show ph c x = true → ∀ (j : Nat) (r : R4), j < n + 1 → c.entries[j]? = some r → ph c r = true by
        intro hb j r hj hr
        by_cases hji : j = n
        · subst hji
          rw [HX.out] at hr
          cases hr
          exact hb
        · exact HI.out j r (by omega) hr)
      have HQ2 := Lib.hid (show ph c x = false → q = true from fun hb => by
        rw [HQ.out]
        unfold phOk
        rw [all_false HX.out hb]
        rfl)
      have hxr : x.c ≥ quiet c → x.c < c.cycle → placed c x = true := fun g1 g2 => placed_in HS.out HH.out ((entOk_iff.1 H5.out).2 x (List.mem_of_getElem? HX.out)) (by have := quiet_nonneg (c := c); omega) (by have := (spans_iff.1 HS.out).1; omega)
      have H2 := Lib.hid (show ∀ W, (Hid (EX w g c D (some ⟨b, off, none⟩) L nd cd ne ce nl cl x W) ∧ W.cell? ⟨w.heap.size, 0, none⟩ = some (.int .i64 c.hosts) ∧ W.cell? ⟨w.heap.size, 1, none⟩ = some (.int .i64 c.cycle) ∧ W.cell? ⟨w.heap.size, 2, none⟩ = some (.int .i64 c.delay) ∧ W.cell? ⟨w.heap.size, 3, none⟩ = some (.int .i64 c.window) ∧ W.cell? ⟨w.heap.size, 4, none⟩ = some (.int .i64 c.precision) ∧ W.cell? ⟨w.heap.size, 5, none⟩ = some (.slice D nd cd) ∧ W.cell? ⟨w.heap.size, 6, none⟩ = some (.slice (some ⟨b, off, none⟩) ne ce) ∧ W.cell? ⟨w.heap.size, 7, none⟩ = some (.slice L nl cl) ∧ W.cell? ⟨w.heap.size, 8, none⟩ = some (.int .i64 c.queue) ∧ W.cell? ⟨g, 0, none⟩ = some (.int .i64 x.a) ∧ W.cell? ⟨g, 1, none⟩ = some (.int .u32 x.b) ∧ W.cell? ⟨g, 2, none⟩ = some (.int .i64 x.c) ∧ W.cell? ⟨g, 3, none⟩ = some (.int .i64 x.d)) → Calls Tryz.prog 103 #[.agg #[.int .i64 c.hosts, .int .i64 c.cycle, .int .i64 c.delay, .int .i64 c.window, .int .i64 c.precision, .slice D nd cd, .slice (some ⟨b, off, none⟩) ne ce, .slice L nl cl, .int .i64 c.queue]] W fun r W' => r = .returned (.int .i64 (quiet c)) ∧ (Hid (EX w g c D (some ⟨b, off, none⟩) L nd cd ne ce nl cl x W') ∧ W'.cell? ⟨w.heap.size, 0, none⟩ = some (.int .i64 c.hosts) ∧ W'.cell? ⟨w.heap.size, 1, none⟩ = some (.int .i64 c.cycle) ∧ W'.cell? ⟨w.heap.size, 2, none⟩ = some (.int .i64 c.delay) ∧ W'.cell? ⟨w.heap.size, 3, none⟩ = some (.int .i64 c.window) ∧ W'.cell? ⟨w.heap.size, 4, none⟩ = some (.int .i64 c.precision) ∧ W'.cell? ⟨w.heap.size, 5, none⟩ = some (.slice D nd cd) ∧ W'.cell? ⟨w.heap.size, 6, none⟩ = some (.slice (some ⟨b, off, none⟩) ne ce) ∧ W'.cell? ⟨w.heap.size, 7, none⟩ = some (.slice L nl cl) ∧ W'.cell? ⟨w.heap.size, 8, none⟩ = some (.int .i64 c.queue) ∧ W'.cell? ⟨g, 0, none⟩ = some (.int .i64 x.a) ∧ W'.cell? ⟨g, 1, none⟩ = some (.int .u32 x.b) ∧ W'.cell? ⟨g, 2, none⟩ = some (.int .i64 x.c) ∧ W'.cell? ⟨g, 3, none⟩ = some (.int .i64 x.d)) from fun W hS => (refQuiet_any c D (some ⟨b, off, none⟩) L nd cd ne ce nl cl W).mono fun r W' ⟨hr, hb⟩ => ⟨hr, (hS.1.out.next hb).s⟩)
      have H3 := Lib.hid (show placed c x = true → ∀ W, (Hid (EX w g c D (some ⟨b, off, none⟩) L nd cd ne ce nl cl x W) ∧ W.cell? ⟨w.heap.size, 0, none⟩ = some (.int .i64 c.hosts) ∧ W.cell? ⟨w.heap.size, 1, none⟩ = some (.int .i64 c.cycle) ∧ W.cell? ⟨w.heap.size, 2, none⟩ = some (.int .i64 c.delay) ∧ W.cell? ⟨w.heap.size, 3, none⟩ = some (.int .i64 c.window) ∧ W.cell? ⟨w.heap.size, 4, none⟩ = some (.int .i64 c.precision) ∧ W.cell? ⟨w.heap.size, 5, none⟩ = some (.slice D nd cd) ∧ W.cell? ⟨w.heap.size, 6, none⟩ = some (.slice (some ⟨b, off, none⟩) ne ce) ∧ W.cell? ⟨w.heap.size, 7, none⟩ = some (.slice L nl cl) ∧ W.cell? ⟨w.heap.size, 8, none⟩ = some (.int .i64 c.queue) ∧ W.cell? ⟨g, 0, none⟩ = some (.int .i64 x.a) ∧ W.cell? ⟨g, 1, none⟩ = some (.int .u32 x.b) ∧ W.cell? ⟨g, 2, none⟩ = some (.int .i64 x.c) ∧ W.cell? ⟨g, 3, none⟩ = some (.int .i64 x.d)) → Calls Tryz.prog 104 #[.agg #[.int .i64 c.hosts, .int .i64 c.cycle, .int .i64 c.delay, .int .i64 c.window, .int .i64 c.precision, .slice D nd cd, .slice (some ⟨b, off, none⟩) ne ce, .slice L nl cl, .int .i64 c.queue], .agg #[.int .i64 x.a, .int .u32 x.b, .int .i64 x.c, .int .i64 x.d]] W fun r W' => r = .returned (.agg #[.int .i64 (at0 c x), .int .i64 (at1 c x), .int .i64 (fwd c x), .int .i64 (ear c x), .int .i64 (lat c x)]) ∧ (Hid (EX w g c D (some ⟨b, off, none⟩) L nd cd ne ce nl cl x W') ∧ W'.cell? ⟨w.heap.size, 0, none⟩ = some (.int .i64 c.hosts) ∧ W'.cell? ⟨w.heap.size, 1, none⟩ = some (.int .i64 c.cycle) ∧ W'.cell? ⟨w.heap.size, 2, none⟩ = some (.int .i64 c.delay) ∧ W'.cell? ⟨w.heap.size, 3, none⟩ = some (.int .i64 c.window) ∧ W'.cell? ⟨w.heap.size, 4, none⟩ = some (.int .i64 c.precision) ∧ W'.cell? ⟨w.heap.size, 5, none⟩ = some (.slice D nd cd) ∧ W'.cell? ⟨w.heap.size, 6, none⟩ = some (.slice (some ⟨b, off, none⟩) ne ce) ∧ W'.cell? ⟨w.heap.size, 7, none⟩ = some (.slice L nl cl) ∧ W'.cell? ⟨w.heap.size, 8, none⟩ = some (.int .i64 c.queue) ∧ W'.cell? ⟨g, 0, none⟩ = some (.int .i64 x.a) ∧ W'.cell? ⟨g, 1, none⟩ = some (.int .u32 x.b) ∧ W'.cell? ⟨g, 2, none⟩ = some (.int .i64 x.c) ∧ W'.cell? ⟨g, 3, none⟩ = some (.int .i64 x.d)) from fun hpl W hS => by
        have hp := placed_iff.1 hpl
        have := times_any c D (some ⟨b, off, none⟩) L nd cd ne ce nl cl x W hp.1 hp.2.2
        rw [tms_placed hpl] at this
        exact this.mono fun r W' ⟨hr, hb⟩ => ⟨hr, (hS.1.out.next hb).s⟩)
      have hph : ph c x = !(decide (x.c < quiet c) || decide (c.cycle ≤ x.c) || decide (c.cycle ≤ lat c x)) := rfl
      generalize quiet c = Q at *
      generalize lat c x = T at *
      generalize ph c x = z at *
      by_cases h1 : x.c < Q
      · have HZ := Lib.hid (show z = false by rw [hph]; simp [h1])
        clear hph hxr H3
        go_wp2_with fail
        rw [← HG.out]
        have e1 : decide (x.c < Q) = true := by rw [decide_eq_true_eq]; omega
        refine wp_region_held_drew (S := fun W : World => Hid (EX w g c D (some ⟨b, off, none⟩) L nd cd ne ce nl cl x W) ∧ W.cell? ⟨w.heap.size, 0, none⟩ = some (.int .i64 c.hosts) ∧ W.cell? ⟨w.heap.size, 1, none⟩ = some (.int .i64 c.cycle) ∧ W.cell? ⟨w.heap.size, 2, none⟩ = some (.int .i64 c.delay) ∧ W.cell? ⟨w.heap.size, 3, none⟩ = some (.int .i64 c.window) ∧ W.cell? ⟨w.heap.size, 4, none⟩ = some (.int .i64 c.precision) ∧ W.cell? ⟨w.heap.size, 5, none⟩ = some (.slice D nd cd) ∧ W.cell? ⟨w.heap.size, 6, none⟩ = some (.slice (some ⟨b, off, none⟩) ne ce) ∧ W.cell? ⟨w.heap.size, 7, none⟩ = some (.slice L nl cl) ∧ W.cell? ⟨w.heap.size, 8, none⟩ = some (.int .i64 c.queue) ∧ W.cell? ⟨g, 0, none⟩ = some (.int .i64 x.a) ∧ W.cell? ⟨g, 1, none⟩ = some (.int .u32 x.b) ∧ W.cell? ⟨g, 2, none⟩ = some (.int .i64 x.c) ∧ W.cell? ⟨g, 3, none⟩ = some (.int .i64 x.d)) (by kernel_rfl) (X1.out.drew.s) (fun hHeld => ?_)
        refine takeR 0 (some 45) ?_ ?_ ?_; rotate_left; (focus (intros; go_simp; (try with_reducible rfl)))
        simp only [aput, lset]
        refine takeR 1 (some 46) ?_ ?_ ?_; rotate_left; (focus (intros; go_simp; (try with_reducible rfl)))
        simp only [aput, lset]
        refine takeR 2 (some 47) ?_ ?_ ?_; rotate_left; (focus (intros; go_simp; (try with_reducible rfl)))
        simp only [aput, lset]
        refine takeR 3 (some 48) ?_ ?_ ?_; rotate_left; (focus (intros; go_simp; (try with_reducible rfl)))
        simp only [aput, lset]
        refine takeR 4 (some 49) ?_ ?_ ?_; rotate_left; (focus (intros; go_simp; (try with_reducible rfl)))
        simp only [aput, lset]
        refine takeR 5 (some 50) ?_ ?_ ?_; rotate_left; (focus (intros; go_simp; (try with_reducible rfl)))
        simp only [aput, lset]
        refine wpAnyH_ready (rs := [6]) (by kernel_rfl) (by simp) ?_
        refine AllReadyH.cons (o := ⟨(some 51), _, _, _, _, _⟩) rfl (fun K hK => ?_) AllReadyH.nil
        go_simp
        ((with_reducible refine (H2.out _ (by assumption)).mono ?_); rintro r w9 ⟨rfl, hs9⟩)
        go_simp
        refine hK.out _ _ (by assumption) (fun hHeld => ?_)
        clear hK K
        refine takeR 7 (some 52) ?_ ?_ ?_; rotate_left; (focus (intros; go_simp; (try with_reducible rfl)))
        simp only [aput, lset]
        refine takeR 8 (some 53) ?_ ?_ ?_; rotate_left; (focus (intros; go_simp; (try with_reducible rfl)))
        simp only [aput, lset]
        refine skipR 9 (some 54) ?_
        simp only [aput, lset]
        refine skipR 10 (some 55) ?_
        simp only [aput, lset]
        refine skipR 11 (some 56) ?_
        simp only [aput, lset]
        refine skipR 12 (some 57) ?_
        simp only [aput, lset]
        refine skipR 13 (some 58) ?_
        simp only [aput, lset]
        refine takeR 14 (some 59) ?_ ?_ ?_; rotate_left; (focus (intros; go_simp; (try with_reducible rfl)))
        simp only [aput, lset]
        refine takeR 15 (some 60) ?_ ?_ ?_; rotate_left; (focus (intros; go_simp; (try with_reducible rfl)))
        simp only [aput, lset]
        refine skipR 16 (some 61) ?_
        simp only [aput, lset]
        refine skipR 17 (some 62) ?_
        simp only [aput, lset]
        refine skipR 18 (some 63) ?_
        simp only [aput, lset]
        refine skipR 19 (some 64) ?_
        simp only [aput, lset]
        refine skipR 20 (some 65) ?_
        simp only [aput, lset]
        refine skipR 21 (some 66) ?_
        simp only [aput, lset]
        refine skipR 22 (some 67) ?_
        simp only [aput, lset]
        refine takeR 23 (some 68) ?_ ?_ ?_; rotate_left; (focus (intros; go_simp; (try with_reducible rfl)))
        simp only [aput, lset]
        refine takeR 24 (some 69) ?_ ?_ ?_; rotate_left; (focus (intros; go_simp; (try with_reducible rfl)))
        simp only [aput, lset]
        refine wpAnyH_done (by kernel_rfl) ?_ _
        obtain ⟨Y, b0, b1, b2, b3, b4, b5, b6, b7, b8, d0, d1, d2, d3⟩ := hHeld
        go_wp2
        go_ret
        exact ⟨by rw [HQ2.out HZ.out]; rfl, Y.out.b⟩
      · by_cases h2 : c.cycle ≤ x.c
        · have HZ := Lib.hid (show z = false by rw [hph]; simp [h2])
          clear hph hxr H3
          go_wp2_with fail
          rw [← HG.out]
          have e1 : decide (x.c < Q) = false := by rw [decide_eq_false_iff_not]; omega
          have e2 : decide (c.cycle ≤ x.c) = true := by rw [decide_eq_true_eq]; omega
          refine wp_region_held_drew (S := fun W : World => Hid (EX w g c D (some ⟨b, off, none⟩) L nd cd ne ce nl cl x W) ∧ W.cell? ⟨w.heap.size, 0, none⟩ = some (.int .i64 c.hosts) ∧ W.cell? ⟨w.heap.size, 1, none⟩ = some (.int .i64 c.cycle) ∧ W.cell? ⟨w.heap.size, 2, none⟩ = some (.int .i64 c.delay) ∧ W.cell? ⟨w.heap.size, 3, none⟩ = some (.int .i64 c.window) ∧ W.cell? ⟨w.heap.size, 4, none⟩ = some (.int .i64 c.precision) ∧ W.cell? ⟨w.heap.size, 5, none⟩ = some (.slice D nd cd) ∧ W.cell? ⟨w.heap.size, 6, none⟩ = some (.slice (some ⟨b, off, none⟩) ne ce) ∧ W.cell? ⟨w.heap.size, 7, none⟩ = some (.slice L nl cl) ∧ W.cell? ⟨w.heap.size, 8, none⟩ = some (.int .i64 c.queue) ∧ W.cell? ⟨g, 0, none⟩ = some (.int .i64 x.a) ∧ W.cell? ⟨g, 1, none⟩ = some (.int .u32 x.b) ∧ W.cell? ⟨g, 2, none⟩ = some (.int .i64 x.c) ∧ W.cell? ⟨g, 3, none⟩ = some (.int .i64 x.d)) (by kernel_rfl) (X1.out.drew.s) (fun hHeld => ?_)
          refine takeR 0 (some 45) ?_ ?_ ?_; rotate_left; (focus (intros; go_simp; (try with_reducible rfl)))
          simp only [aput, lset]
          refine takeR 1 (some 46) ?_ ?_ ?_; rotate_left; (focus (intros; go_simp; (try with_reducible rfl)))
          simp only [aput, lset]
          refine takeR 2 (some 47) ?_ ?_ ?_; rotate_left; (focus (intros; go_simp; (try with_reducible rfl)))
          simp only [aput, lset]
          refine takeR 3 (some 48) ?_ ?_ ?_; rotate_left; (focus (intros; go_simp; (try with_reducible rfl)))
          simp only [aput, lset]
          refine takeR 4 (some 49) ?_ ?_ ?_; rotate_left; (focus (intros; go_simp; (try with_reducible rfl)))
          simp only [aput, lset]
          refine takeR 5 (some 50) ?_ ?_ ?_; rotate_left; (focus (intros; go_simp; (try with_reducible rfl)))
          simp only [aput, lset]
          refine wpAnyH_ready (rs := [6]) (by kernel_rfl) (by simp) ?_
          refine AllReadyH.cons (o := ⟨(some 51), _, _, _, _, _⟩) rfl (fun K hK => ?_) AllReadyH.nil
          go_simp
          ((with_reducible refine (H2.out _ (by assumption)).mono ?_); rintro r w9 ⟨rfl, hs9⟩)
          go_simp
          refine hK.out _ _ (by assumption) (fun hHeld => ?_)
          clear hK K
          refine takeR 7 (some 52) ?_ ?_ ?_; rotate_left; (focus (intros; go_simp; (try with_reducible rfl)))
          simp only [aput, lset]
          refine takeR 8 (some 53) ?_ ?_ ?_; rotate_left; (focus (intros; go_simp; (try with_reducible rfl)))
          simp only [aput, lset]
          refine takeR 9 (some 54) ?_ ?_ ?_; rotate_left; (focus (intros; go_simp; (try with_reducible rfl)))
          simp only [aput, lset]
          refine takeR 10 (some 55) ?_ ?_ ?_; rotate_left; (focus (intros; go_simp; (try with_reducible rfl)))
          simp only [aput, lset]
          refine takeR 11 (some 56) ?_ ?_ ?_; rotate_left; (focus (intros; go_simp; (try with_reducible rfl)))
          simp only [aput, lset]
          refine takeR 12 (some 57) ?_ ?_ ?_; rotate_left; (focus (intros; go_simp; (try with_reducible rfl)))
          simp only [aput, lset]
          refine takeR 13 (some 58) ?_ ?_ ?_; rotate_left; (focus (intros; go_simp; (try with_reducible rfl)))
          simp only [aput, lset]
          refine takeR 14 (some 59) ?_ ?_ ?_; rotate_left; (focus (intros; go_simp; (try with_reducible rfl)))
          simp only [aput, lset]
          refine takeR 15 (some 60) ?_ ?_ ?_; rotate_left; (focus (intros; go_simp; (try with_reducible rfl)))
          simp only [aput, lset]
          refine skipR 16 (some 61) ?_
          simp only [aput, lset]
          refine skipR 17 (some 62) ?_
          simp only [aput, lset]
          refine skipR 18 (some 63) ?_
          simp only [aput, lset]
          refine skipR 19 (some 64) ?_
          simp only [aput, lset]
          refine skipR 20 (some 65) ?_
          simp only [aput, lset]
          refine skipR 21 (some 66) ?_
          simp only [aput, lset]
          refine skipR 22 (some 67) ?_
          simp only [aput, lset]
          refine takeR 23 (some 68) ?_ ?_ ?_; rotate_left; (focus (intros; go_simp; (try with_reducible rfl)))
          simp only [aput, lset]
          refine takeR 24 (some 69) ?_ ?_ ?_; rotate_left; (focus (intros; go_simp; (try with_reducible rfl)))
          simp only [aput, lset]
          refine wpAnyH_done (by kernel_rfl) ?_ _
          obtain ⟨Y, b0, b1, b2, b3, b4, b5, b6, b7, b8, d0, d1, d2, d3⟩ := hHeld
          go_wp2
          go_ret
          exact ⟨by rw [HQ2.out HZ.out]; rfl, Y.out.b⟩
        · have H3 := Lib.hid (H3.out (hxr (by omega) (by omega)))
          clear hxr
          have hi4 := idx4
          generalize at0 c x = t0 at *
          generalize at1 c x = t1 at *
          generalize fwd c x = t2 at *
          generalize ear c x = t3 at *
          by_cases h3 : c.cycle ≤ T
          · have HZ := Lib.hid (show z = false by rw [hph]; simp [h3])
            clear hph
            go_wp2_with fail
            rw [← HG.out]
            have e1 : decide (x.c < Q) = false := by rw [decide_eq_false_iff_not]; omega
            have e2 : decide (c.cycle ≤ x.c) = false := by rw [decide_eq_false_iff_not]; omega
            have e3 : decide (c.cycle ≤ T) = true := by rw [decide_eq_true_eq]; omega
            refine wp_region_held_drew (S := fun W : World => Hid (EX w g c D (some ⟨b, off, none⟩) L nd cd ne ce nl cl x W) ∧ W.cell? ⟨w.heap.size, 0, none⟩ = some (.int .i64 c.hosts) ∧ W.cell? ⟨w.heap.size, 1, none⟩ = some (.int .i64 c.cycle) ∧ W.cell? ⟨w.heap.size, 2, none⟩ = some (.int .i64 c.delay) ∧ W.cell? ⟨w.heap.size, 3, none⟩ = some (.int .i64 c.window) ∧ W.cell? ⟨w.heap.size, 4, none⟩ = some (.int .i64 c.precision) ∧ W.cell? ⟨w.heap.size, 5, none⟩ = some (.slice D nd cd) ∧ W.cell? ⟨w.heap.size, 6, none⟩ = some (.slice (some ⟨b, off, none⟩) ne ce) ∧ W.cell? ⟨w.heap.size, 7, none⟩ = some (.slice L nl cl) ∧ W.cell? ⟨w.heap.size, 8, none⟩ = some (.int .i64 c.queue) ∧ W.cell? ⟨g, 0, none⟩ = some (.int .i64 x.a) ∧ W.cell? ⟨g, 1, none⟩ = some (.int .u32 x.b) ∧ W.cell? ⟨g, 2, none⟩ = some (.int .i64 x.c) ∧ W.cell? ⟨g, 3, none⟩ = some (.int .i64 x.d)) (by kernel_rfl) (X1.out.drew.s) (fun hHeld => ?_)
            refine takeR 0 (some 45) ?_ ?_ ?_; rotate_left; (focus (intros; go_simp; (try with_reducible rfl)))
            simp only [aput, lset]
            refine takeR 1 (some 46) ?_ ?_ ?_; rotate_left; (focus (intros; go_simp; (try with_reducible rfl)))
            simp only [aput, lset]
            refine takeR 2 (some 47) ?_ ?_ ?_; rotate_left; (focus (intros; go_simp; (try with_reducible rfl)))
            simp only [aput, lset]
            refine takeR 3 (some 48) ?_ ?_ ?_; rotate_left; (focus (intros; go_simp; (try with_reducible rfl)))
            simp only [aput, lset]
            refine takeR 4 (some 49) ?_ ?_ ?_; rotate_left; (focus (intros; go_simp; (try with_reducible rfl)))
            simp only [aput, lset]
            refine takeR 5 (some 50) ?_ ?_ ?_; rotate_left; (focus (intros; go_simp; (try with_reducible rfl)))
            simp only [aput, lset]
            refine wpAnyH_ready (rs := [6]) (by kernel_rfl) (by simp) ?_
            refine AllReadyH.cons (o := ⟨(some 51), _, _, _, _, _⟩) rfl (fun K hK => ?_) AllReadyH.nil
            go_simp
            ((with_reducible refine (H2.out _ (by assumption)).mono ?_); rintro r w9 ⟨rfl, hs9⟩)
            go_simp
            refine hK.out _ _ (by assumption) (fun hHeld => ?_)
            clear hK K
            refine takeR 7 (some 52) ?_ ?_ ?_; rotate_left; (focus (intros; go_simp; (try with_reducible rfl)))
            simp only [aput, lset]
            refine takeR 8 (some 53) ?_ ?_ ?_; rotate_left; (focus (intros; go_simp; (try with_reducible rfl)))
            simp only [aput, lset]
            refine takeR 9 (some 54) ?_ ?_ ?_; rotate_left; (focus (intros; go_simp; (try with_reducible rfl)))
            simp only [aput, lset]
            refine takeR 10 (some 55) ?_ ?_ ?_; rotate_left; (focus (intros; go_simp; (try with_reducible rfl)))
            simp only [aput, lset]
            refine takeR 11 (some 56) ?_ ?_ ?_; rotate_left; (focus (intros; go_simp; (try with_reducible rfl)))
            simp only [aput, lset]
            refine takeR 12 (some 57) ?_ ?_ ?_; rotate_left; (focus (intros; go_simp; (try with_reducible rfl)))
            simp only [aput, lset]
            refine takeR 13 (some 58) ?_ ?_ ?_; rotate_left; (focus (intros; go_simp; (try with_reducible rfl)))
            simp only [aput, lset]
            refine takeR 14 (some 59) ?_ ?_ ?_; rotate_left; (focus (intros; go_simp; (try with_reducible rfl)))
            simp only [aput, lset]
            refine takeR 15 (some 60) ?_ ?_ ?_; rotate_left; (focus (intros; go_simp; (try with_reducible rfl)))
            simp only [aput, lset]
            refine takeR 16 (some 61) ?_ ?_ ?_; rotate_left; (focus (intros; go_simp; (try with_reducible rfl)))
            simp only [aput, lset]
            refine takeR 17 (some 62) ?_ ?_ ?_; rotate_left; (focus (intros; go_simp; (try with_reducible rfl)))
            simp only [aput, lset]
            refine takeR 20 (some 65) ?_ ?_ ?_; rotate_left; (focus (intros; go_simp; (try with_reducible rfl)))
            simp only [aput, lset]
            refine takeR 21 (some 66) ?_ ?_ ?_; rotate_left; (focus (intros; go_simp; (try with_reducible rfl)))
            simp only [aput, lset]
            refine wpAnyH_ready (rs := [18]) (by kernel_rfl) (by simp) ?_
            refine AllReadyH.cons (o := ⟨(some 63), _, _, _, _, _⟩) rfl (fun K hK => ?_) AllReadyH.nil
            go_simp
            ((with_reducible refine (H3.out _ (by assumption)).mono ?_); rintro r w9 ⟨rfl, hs9⟩)
            go_simp
            refine hK.out _ _ (by assumption) (fun hHeld => ?_)
            clear hK K
            refine takeR 19 (some 64) ?_ ?_ ?_; rotate_left; (focus (intros; go_simp; (try with_reducible rfl)))
            simp only [aput, lset]
            refine takeR 22 (some 67) ?_ ?_ ?_; rotate_left; (focus (intros; go_simp; (try with_reducible rfl)))
            simp only [aput, lset]
            refine takeR 23 (some 68) ?_ ?_ ?_; rotate_left; (focus (intros; go_simp; (try with_reducible rfl)))
            simp only [aput, lset]
            refine takeR 24 (some 69) ?_ ?_ ?_; rotate_left; (focus (intros; go_simp; (try with_reducible rfl)))
            simp only [aput, lset]
            refine wpAnyH_done (by kernel_rfl) ?_ _
            obtain ⟨Y, b0, b1, b2, b3, b4, b5, b6, b7, b8, d0, d1, d2, d3⟩ := hHeld
            go_wp2
            go_ret
            exact ⟨by rw [HQ2.out HZ.out]; rfl, Y.out.b⟩
          · have HZ := Lib.hid (show z = true by rw [hph]; simp; omega)
            clear hph
            go_wp2_with fail
            rw [← HG.out]
            have e1 : decide (x.c < Q) = false := by rw [decide_eq_false_iff_not]; omega
            have e2 : decide (c.cycle ≤ x.c) = false := by rw [decide_eq_false_iff_not]; omega
            have e3 : decide (c.cycle ≤ T) = false := by rw [decide_eq_false_iff_not]; omega
            refine wp_region_held_drew (S := fun W : World => Hid (EX w g c D (some ⟨b, off, none⟩) L nd cd ne ce nl cl x W) ∧ W.cell? ⟨w.heap.size, 0, none⟩ = some (.int .i64 c.hosts) ∧ W.cell? ⟨w.heap.size, 1, none⟩ = some (.int .i64 c.cycle) ∧ W.cell? ⟨w.heap.size, 2, none⟩ = some (.int .i64 c.delay) ∧ W.cell? ⟨w.heap.size, 3, none⟩ = some (.int .i64 c.window) ∧ W.cell? ⟨w.heap.size, 4, none⟩ = some (.int .i64 c.precision) ∧ W.cell? ⟨w.heap.size, 5, none⟩ = some (.slice D nd cd) ∧ W.cell? ⟨w.heap.size, 6, none⟩ = some (.slice (some ⟨b, off, none⟩) ne ce) ∧ W.cell? ⟨w.heap.size, 7, none⟩ = some (.slice L nl cl) ∧ W.cell? ⟨w.heap.size, 8, none⟩ = some (.int .i64 c.queue) ∧ W.cell? ⟨g, 0, none⟩ = some (.int .i64 x.a) ∧ W.cell? ⟨g, 1, none⟩ = some (.int .u32 x.b) ∧ W.cell? ⟨g, 2, none⟩ = some (.int .i64 x.c) ∧ W.cell? ⟨g, 3, none⟩ = some (.int .i64 x.d)) (by kernel_rfl) (X1.out.drew.s) (fun hHeld => ?_)
            refine takeR 0 (some 45) ?_ ?_ ?_; rotate_left; (focus (intros; go_simp; (try with_reducible rfl)))
            simp only [aput, lset]
            refine takeR 1 (some 46) ?_ ?_ ?_; rotate_left; (focus (intros; go_simp; (try with_reducible rfl)))
            simp only [aput, lset]
            refine takeR 2 (some 47) ?_ ?_ ?_; rotate_left; (focus (intros; go_simp; (try with_reducible rfl)))
            simp only [aput, lset]
            refine takeR 3 (some 48) ?_ ?_ ?_; rotate_left; (focus (intros; go_simp; (try with_reducible rfl)))
            simp only [aput, lset]
            refine takeR 4 (some 49) ?_ ?_ ?_; rotate_left; (focus (intros; go_simp; (try with_reducible rfl)))
            simp only [aput, lset]
            refine takeR 5 (some 50) ?_ ?_ ?_; rotate_left; (focus (intros; go_simp; (try with_reducible rfl)))
            simp only [aput, lset]
            refine wpAnyH_ready (rs := [6]) (by kernel_rfl) (by simp) ?_
            refine AllReadyH.cons (o := ⟨(some 51), _, _, _, _, _⟩) rfl (fun K hK => ?_) AllReadyH.nil
            go_simp
            ((with_reducible refine (H2.out _ (by assumption)).mono ?_); rintro r w9 ⟨rfl, hs9⟩)
            go_simp
            refine hK.out _ _ (by assumption) (fun hHeld => ?_)
            clear hK K
            refine takeR 7 (some 52) ?_ ?_ ?_; rotate_left; (focus (intros; go_simp; (try with_reducible rfl)))
            simp only [aput, lset]
            refine takeR 8 (some 53) ?_ ?_ ?_; rotate_left; (focus (intros; go_simp; (try with_reducible rfl)))
            simp only [aput, lset]
            refine takeR 9 (some 54) ?_ ?_ ?_; rotate_left; (focus (intros; go_simp; (try with_reducible rfl)))
            simp only [aput, lset]
            refine takeR 10 (some 55) ?_ ?_ ?_; rotate_left; (focus (intros; go_simp; (try with_reducible rfl)))
            simp only [aput, lset]
            refine takeR 11 (some 56) ?_ ?_ ?_; rotate_left; (focus (intros; go_simp; (try with_reducible rfl)))
            simp only [aput, lset]
            refine takeR 12 (some 57) ?_ ?_ ?_; rotate_left; (focus (intros; go_simp; (try with_reducible rfl)))
            simp only [aput, lset]
            refine takeR 13 (some 58) ?_ ?_ ?_; rotate_left; (focus (intros; go_simp; (try with_reducible rfl)))
            simp only [aput, lset]
            refine takeR 14 (some 59) ?_ ?_ ?_; rotate_left; (focus (intros; go_simp; (try with_reducible rfl)))
            simp only [aput, lset]
            refine takeR 15 (some 60) ?_ ?_ ?_; rotate_left; (focus (intros; go_simp; (try with_reducible rfl)))
            simp only [aput, lset]
            refine takeR 16 (some 61) ?_ ?_ ?_; rotate_left; (focus (intros; go_simp; (try with_reducible rfl)))
            simp only [aput, lset]
            refine takeR 17 (some 62) ?_ ?_ ?_; rotate_left; (focus (intros; go_simp; (try with_reducible rfl)))
            simp only [aput, lset]
            refine takeR 20 (some 65) ?_ ?_ ?_; rotate_left; (focus (intros; go_simp; (try with_reducible rfl)))
            simp only [aput, lset]
            refine takeR 21 (some 66) ?_ ?_ ?_; rotate_left; (focus (intros; go_simp; (try with_reducible rfl)))
            simp only [aput, lset]
            refine wpAnyH_ready (rs := [18]) (by kernel_rfl) (by simp) ?_
            refine AllReadyH.cons (o := ⟨(some 63), _, _, _, _, _⟩) rfl (fun K hK => ?_) AllReadyH.nil
            go_simp
            ((with_reducible refine (H3.out _ (by assumption)).mono ?_); rintro r w9 ⟨rfl, hs9⟩)
            go_simp
            refine hK.out _ _ (by assumption) (fun hHeld => ?_)
            clear hK K
            refine takeR 19 (some 64) ?_ ?_ ?_; rotate_left; (focus (intros; go_simp; (try with_reducible rfl)))
            simp only [aput, lset]
            refine takeR 22 (some 67) ?_ ?_ ?_; rotate_left; (focus (intros; go_simp; (try with_reducible rfl)))
            simp only [aput, lset]
            refine takeR 23 (some 68) ?_ ?_ ?_; rotate_left; (focus (intros; go_simp; (try with_reducible rfl)))
            simp only [aput, lset]
            refine takeR 24 (some 69) ?_ ?_ ?_; rotate_left; (focus (intros; go_simp; (try with_reducible rfl)))
            simp only [aput, lset]
            refine wpAnyH_done (by kernel_rfl) ?_ _
            obtain ⟨Y, b0, b1, b2, b3, b4, b5, b6, b7, b8, d0, d1, d2, d3⟩ := hHeld
            clear h1 h2 h3 e1 e2 e3
            have Y0 := Lib.hid Y.out.cx
            clear Y a0 a1 a2 a3 a4 a5 a6 a7 a8 x0 x1 x2 x3 b0 b1 b2 b3 b4 b5 b6 b7 b8 d0 d1 d2 d3 hxb
            go_wp2
            go_loopw [7] (fun jv wr => jv = .int .i64 0 ∧ Hid (CX w c D (some ⟨b, off, none⟩) L nd cd ne ce nl cl wr)) (fun _ _ => 0)
            case atStart => exact ⟨rfl, Y0⟩
            case round =>
              obtain ⟨rfl, Y⟩ := hrel
              by_cases hj0 : (0 : Int) < (n : Int)
              · go_wp2
                exact ⟨⟨n + 1, by omega, by go_num, Y, HJ2.out HZ.out⟩, by simp [intOf]; omega⟩
              · go_wp2
                exact ⟨⟨n + 1, by omega, by go_num, Y, HJ2.out HZ.out⟩, by simp [intOf]; omega⟩
    · have HQ2 := Lib.hid (show q = false by
        rw [HQ.out]
        unfold phOk
        rw [all_true (p := ph c) (fun j r hj => HI.out j r (by have := lt_of_get hj; rw [← HM.out.nE] at this; omega) hj)]
        rfl)
      go_wp2
      go_ret
      exact ⟨by rw [HQ2.out]; rfl, X.out.b⟩
end Go.Proofs.YtmagjekmlnpfpaaGreat.ConfW


