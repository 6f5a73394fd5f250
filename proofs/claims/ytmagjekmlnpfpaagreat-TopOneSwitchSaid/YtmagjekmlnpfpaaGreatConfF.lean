/- Walks: rightPhases. -/
import Derived.Test.YtmagjekmlnpfpaaGreatTake
import Derived.Test.YtmagjekmlnpfpaaGreatCrewAJa
namespace Go.Proofs.YtmagjekmlnpfpaaGreat.ConfW
open Shell (takeR skipR aput lset)
open Go.RowKit Shell
/-- Behind w0: a configuration of the call's own in its first block, an entry in another one. -/
structure EX (w0 : World) (g : Nat) (c : Cfg) (D E L : Option Addr) (nd cd ne ce nl cl : Nat) (e : R4) (w : World) : Prop where
  b : Below w0.heap.size w0 w
  x : w.heap[w0.heap.size]? = some (Obj.cells #[.int .i64 c.hosts, .int .i64 c.cycle, .int .i64 c.delay, .int .i64 c.window, .int .i64 c.precision, .slice D nd cd, .slice E ne ce, .slice L nl cl, .int .i64 c.queue] 26)
  y : w.heap[g]? = some (Obj.cells #[.int .i64 e.a, .int .u32 e.b, .int .i64 e.c, .int .i64 e.d] 138)
section
variable {w0 w w1 : World} {g : Nat} {c : Cfg} {D E L : Option Addr} {nd cd ne ce nl cl : Nat} {e : R4}
theorem EX.next (h : EX w0 g c D E L nd cd ne ce nl cl e w) (b : Below w.heap.size w w1) : EX w0 g c D E L nd cd ne ce nl cl e w1 := ⟨h.b.trans (b.mono h.b.size), row_below b h.x, row_below b h.y⟩
theorem EX.drew (h : EX w0 g c D E L nd cd ne ce nl cl e w) : EX w0 g c D E L nd cd ne ce nl cl e w.drew := h.next (Below.refl _ _).drew
theorem EX.cx (h : EX w0 g c D E L nd cd ne ce nl cl e w) : CX w0 c D E L nd cd ne ce nl cl w := ⟨h.b, h.x⟩
theorem CX.ent (h : CX w0 c D E L nd cd ne ce nl cl w) (e : R4) : EX w0 w.heap.size c D E L nd cd ne ce nl cl e (w.alloc (Obj.cells #[.int .i64 e.a, .int .u32 e.b, .int .i64 e.c, .int .i64 e.d] 138)) := ⟨(h.next (al (Below.refl _ _) _)).b, (h.next (al (Below.refl _ _) _)).x, heap_alloc_new w _⟩
theorem EX.s (h : EX w0 g c D E L nd cd ne ce nl cl e w) : Hid (EX w0 g c D E L nd cd ne ce nl cl e w) ∧ w.cell? ⟨w0.heap.size, 0, none⟩ = some (.int .i64 c.hosts) ∧ w.cell? ⟨w0.heap.size, 1, none⟩ = some (.int .i64 c.cycle) ∧ w.cell? ⟨w0.heap.size, 2, none⟩ = some (.int .i64 c.delay) ∧ w.cell? ⟨w0.heap.size, 3, none⟩ = some (.int .i64 c.window) ∧ w.cell? ⟨w0.heap.size, 4, none⟩ = some (.int .i64 c.precision) ∧ w.cell? ⟨w0.heap.size, 5, none⟩ = some (.slice D nd cd) ∧ w.cell? ⟨w0.heap.size, 6, none⟩ = some (.slice E ne ce) ∧ w.cell? ⟨w0.heap.size, 7, none⟩ = some (.slice L nl cl) ∧ w.cell? ⟨w0.heap.size, 8, none⟩ = some (.int .i64 c.queue) ∧ w.cell? ⟨g, 0, none⟩ = some (.int .i64 e.a) ∧ w.cell? ⟨g, 1, none⟩ = some (.int .u32 e.b) ∧ w.cell? ⟨g, 2, none⟩ = some (.int .i64 e.c) ∧ w.cell? ⟨g, 3, none⟩ = some (.int .i64 e.d) :=
  ⟨Lib.hid h, box_cell h.x rfl, box_cell h.x rfl, box_cell h.x rfl, box_cell h.x rfl, box_cell h.x rfl, box_cell h.x rfl, box_cell h.x rfl, box_cell h.x rfl, box_cell h.x rfl, box_cell h.y rfl, box_cell h.y rfl, box_cell h.y rfl, box_cell h.y rfl⟩
end
set_option maxHeartbeats 4000000 in
theorem rightPhases_any (c : Cfg) (D E L : Option Addr) (nd cd ne ce nl cl : Nat) (w : World) (h : CM w c D E L nd cd ne ce nl cl) : Calls Tryz.prog 74 #[.agg #[.int .i64 c.hosts, .int .i64 c.cycle, .int .i64 c.delay, .int .i64 c.window, .int .i64 c.precision, .slice D nd cd, .slice E ne ce, .slice L nl cl, .int .i64 c.queue]] w fun r w' => r = .returned (.bool (phOk c)) ∧ Below w.heap.size w w' := by
  have HM := Lib.hid h
  have hm : ne ≤ 9223372036854775807 := h.mE
  clear h
  have X := Lib.hid (CX.start (w0 := w) (c := c) (D := D) (E := E) (L := L) (nd := nd) (cd := cd) (ne := ne) (ce := ce) (nl := nl) (cl := cl))
  generalize hq : phOk c = q at *
  have HQ := Lib.hid (show q = c.entries.all (ph c) from hq.symm)
  clear hq
  go_enter Tryz.func74, Tryz.ntmps74
  go_wp2
  go_loopw [8] (fun iv wr => ∃ (k : Nat), k ≤ ne ∧ iv = .int .i64 k ∧ Hid (CX w c D E L nd cd ne ce nl cl wr) ∧ Hid (∀ j r, j < k → c.entries[j]? = some r → ph c r = true)) (fun iv _ => ne - (intOf iv).toNat)
  case atStart => exact ⟨0, Nat.zero_le _, rfl, X, Lib.hid (fun j r hj => by omega)⟩
  case round =>
    clear X
    obtain ⟨k, hk, rfl, X, HI⟩ := hrel
    obtain ⟨-, a0, a1, a2, a3, a4, a5, a6, a7, a8⟩ := X.out.s
    by_cases hlt : (k : Int) < (ne : Int)
    · obtain ⟨x, hx⟩ : ∃ x, c.entries[k]? = some x := ⟨_, List.getElem?_eq_getElem (by rw [← HM.out.nE]; omega)⟩
      obtain ⟨b, off, rfl, ⟨x0, x1, x2, x3⟩, hxb⟩ := (X.out.mem HM.out).he k x hx
      have HX := Lib.hid hx
      clear hx
      have X1 := Lib.hid (X.out.ent x)
      obtain ⟨g, hg⟩ : ∃ g, g = wr.heap.size := ⟨_, rfl⟩
      rw [← hg] at X1
      have HG := Lib.hid hg
      clear hg
      have HJ2 := Lib.hid (show ph c x = true → ∀ (j : Nat) (y : R4), j < k + 1 → c.entries[j]? = some y → ph c y = true by
        intro hb j y hj hy
        by_cases hji : j = k
        · subst hji
          rw [HX.out] at hy
          cases hy
          exact hb
        · exact HI.out j y (by omega) hy)
      have HQ2 := Lib.hid (show ph c x = false → q = false from fun hb => by
        rw [HQ.out]
        exact all_false HX.out hb)
      have H2 := Lib.hid (show ∀ W, (Hid (EX w g c D (some ⟨b, off, none⟩) L nd cd ne ce nl cl x W) ∧ W.cell? ⟨w.heap.size, 0, none⟩ = some (.int .i64 c.hosts) ∧ W.cell? ⟨w.heap.size, 1, none⟩ = some (.int .i64 c.cycle) ∧ W.cell? ⟨w.heap.size, 2, none⟩ = some (.int .i64 c.delay) ∧ W.cell? ⟨w.heap.size, 3, none⟩ = some (.int .i64 c.window) ∧ W.cell? ⟨w.heap.size, 4, none⟩ = some (.int .i64 c.precision) ∧ W.cell? ⟨w.heap.size, 5, none⟩ = some (.slice D nd cd) ∧ W.cell? ⟨w.heap.size, 6, none⟩ = some (.slice (some ⟨b, off, none⟩) ne ce) ∧ W.cell? ⟨w.heap.size, 7, none⟩ = some (.slice L nl cl) ∧ W.cell? ⟨w.heap.size, 8, none⟩ = some (.int .i64 c.queue) ∧ W.cell? ⟨g, 0, none⟩ = some (.int .i64 x.a) ∧ W.cell? ⟨g, 1, none⟩ = some (.int .u32 x.b) ∧ W.cell? ⟨g, 2, none⟩ = some (.int .i64 x.c) ∧ W.cell? ⟨g, 3, none⟩ = some (.int .i64 x.d)) → Calls Tryz.prog 122 #[.agg #[.int .i64 c.hosts, .int .i64 c.cycle, .int .i64 c.delay, .int .i64 c.window, .int .i64 c.precision, .slice D nd cd, .slice (some ⟨b, off, none⟩) ne ce, .slice L nl cl, .int .i64 c.queue]] W fun r W' => r = .returned (.int .i64 (quiet c)) ∧ (Hid (EX w g c D (some ⟨b, off, none⟩) L nd cd ne ce nl cl x W') ∧ W'.cell? ⟨w.heap.size, 0, none⟩ = some (.int .i64 c.hosts) ∧ W'.cell? ⟨w.heap.size, 1, none⟩ = some (.int .i64 c.cycle) ∧ W'.cell? ⟨w.heap.size, 2, none⟩ = some (.int .i64 c.delay) ∧ W'.cell? ⟨w.heap.size, 3, none⟩ = some (.int .i64 c.window) ∧ W'.cell? ⟨w.heap.size, 4, none⟩ = some (.int .i64 c.precision) ∧ W'.cell? ⟨w.heap.size, 5, none⟩ = some (.slice D nd cd) ∧ W'.cell? ⟨w.heap.size, 6, none⟩ = some (.slice (some ⟨b, off, none⟩) ne ce) ∧ W'.cell? ⟨w.heap.size, 7, none⟩ = some (.slice L nl cl) ∧ W'.cell? ⟨w.heap.size, 8, none⟩ = some (.int .i64 c.queue) ∧ W'.cell? ⟨g, 0, none⟩ = some (.int .i64 x.a) ∧ W'.cell? ⟨g, 1, none⟩ = some (.int .u32 x.b) ∧ W'.cell? ⟨g, 2, none⟩ = some (.int .i64 x.c) ∧ W'.cell? ⟨g, 3, none⟩ = some (.int .i64 x.d)) from fun W hS => (quiet_any c D (some ⟨b, off, none⟩) L nd cd ne ce nl cl W).mono fun r W' ⟨hr, hb⟩ => ⟨hr, (hS.1.out.next hb).s⟩)
      have H3 := Lib.hid (show ∀ W, (Hid (EX w g c D (some ⟨b, off, none⟩) L nd cd ne ce nl cl x W) ∧ W.cell? ⟨w.heap.size, 0, none⟩ = some (.int .i64 c.hosts) ∧ W.cell? ⟨w.heap.size, 1, none⟩ = some (.int .i64 c.cycle) ∧ W.cell? ⟨w.heap.size, 2, none⟩ = some (.int .i64 c.delay) ∧ W.cell? ⟨w.heap.size, 3, none⟩ = some (.int .i64 c.window) ∧ W.cell? ⟨w.heap.size, 4, none⟩ = some (.int .i64 c.precision) ∧ W.cell? ⟨w.heap.size, 5, none⟩ = some (.slice D nd cd) ∧ W.cell? ⟨w.heap.size, 6, none⟩ = some (.slice (some ⟨b, off, none⟩) ne ce) ∧ W.cell? ⟨w.heap.size, 7, none⟩ = some (.slice L nl cl) ∧ W.cell? ⟨w.heap.size, 8, none⟩ = some (.int .i64 c.queue) ∧ W.cell? ⟨g, 0, none⟩ = some (.int .i64 x.a) ∧ W.cell? ⟨g, 1, none⟩ = some (.int .u32 x.b) ∧ W.cell? ⟨g, 2, none⟩ = some (.int .i64 x.c) ∧ W.cell? ⟨g, 3, none⟩ = some (.int .i64 x.d)) → Calls Tryz.prog 123 #[.agg #[.int .i64 c.hosts, .int .i64 c.cycle, .int .i64 c.delay, .int .i64 c.window, .int .i64 c.precision, .slice D nd cd, .slice (some ⟨b, off, none⟩) ne ce, .slice L nl cl, .int .i64 c.queue], .agg #[.int .i64 x.a, .int .u32 x.b, .int .i64 x.c, .int .i64 x.d]] W fun r W' => r = .returned (.int .i64 (lat c x)) ∧ (Hid (EX w g c D (some ⟨b, off, none⟩) L nd cd ne ce nl cl x W') ∧ W'.cell? ⟨w.heap.size, 0, none⟩ = some (.int .i64 c.hosts) ∧ W'.cell? ⟨w.heap.size, 1, none⟩ = some (.int .i64 c.cycle) ∧ W'.cell? ⟨w.heap.size, 2, none⟩ = some (.int .i64 c.delay) ∧ W'.cell? ⟨w.heap.size, 3, none⟩ = some (.int .i64 c.window) ∧ W'.cell? ⟨w.heap.size, 4, none⟩ = some (.int .i64 c.precision) ∧ W'.cell? ⟨w.heap.size, 5, none⟩ = some (.slice D nd cd) ∧ W'.cell? ⟨w.heap.size, 6, none⟩ = some (.slice (some ⟨b, off, none⟩) ne ce) ∧ W'.cell? ⟨w.heap.size, 7, none⟩ = some (.slice L nl cl) ∧ W'.cell? ⟨w.heap.size, 8, none⟩ = some (.int .i64 c.queue) ∧ W'.cell? ⟨g, 0, none⟩ = some (.int .i64 x.a) ∧ W'.cell? ⟨g, 1, none⟩ = some (.int .u32 x.b) ∧ W'.cell? ⟨g, 2, none⟩ = some (.int .i64 x.c) ∧ W'.cell? ⟨g, 3, none⟩ = some (.int .i64 x.d)) from fun W hS => (late_any c D (some ⟨b, off, none⟩) L nd cd ne ce nl cl x W hxb).mono fun r W' ⟨hr, hb⟩ => ⟨hr, (hS.1.out.next hb).s⟩)
      have hph : ph c x = !(decide (x.c < quiet c) || decide (c.cycle ≤ x.c) || decide (c.cycle ≤ lat c x)) := rfl
      generalize quiet c = Q at *
      generalize lat c x = T at *
      generalize ph c x = z at *
      by_cases h1 : x.c < Q
      · have HZ := Lib.hid (show z = false by rw [hph]; simp [h1])
        clear hph
        go_wp2_with fail
        rw [← HG.out]
        refine wp_region_held_drew (S := fun W : World => Hid (EX w g c D (some ⟨b, off, none⟩) L nd cd ne ce nl cl x W) ∧ W.cell? ⟨w.heap.size, 0, none⟩ = some (.int .i64 c.hosts) ∧ W.cell? ⟨w.heap.size, 1, none⟩ = some (.int .i64 c.cycle) ∧ W.cell? ⟨w.heap.size, 2, none⟩ = some (.int .i64 c.delay) ∧ W.cell? ⟨w.heap.size, 3, none⟩ = some (.int .i64 c.window) ∧ W.cell? ⟨w.heap.size, 4, none⟩ = some (.int .i64 c.precision) ∧ W.cell? ⟨w.heap.size, 5, none⟩ = some (.slice D nd cd) ∧ W.cell? ⟨w.heap.size, 6, none⟩ = some (.slice (some ⟨b, off, none⟩) ne ce) ∧ W.cell? ⟨w.heap.size, 7, none⟩ = some (.slice L nl cl) ∧ W.cell? ⟨w.heap.size, 8, none⟩ = some (.int .i64 c.queue) ∧ W.cell? ⟨g, 0, none⟩ = some (.int .i64 x.a) ∧ W.cell? ⟨g, 1, none⟩ = some (.int .u32 x.b) ∧ W.cell? ⟨g, 2, none⟩ = some (.int .i64 x.c) ∧ W.cell? ⟨g, 3, none⟩ = some (.int .i64 x.d)) (by kernel_rfl) (X1.out.drew.s) (fun hHeld => ?_)
        refine takeR 0 (some 12) ?_ ?_ ?_; rotate_left; (focus (intros; go_simp; (try with_reducible rfl)))
        simp only [aput, lset]
        refine takeR 1 (some 13) ?_ ?_ ?_; rotate_left; (focus (intros; go_simp; (try with_reducible rfl)))
        simp only [aput, lset]
        refine takeR 2 (some 14) ?_ ?_ ?_; rotate_left; (focus (intros; go_simp; (try with_reducible rfl)))
        simp only [aput, lset]
        refine wpAnyH_ready (rs := [3]) (by kernel_rfl) (by simp) ?_
        refine AllReadyH.cons (o := ⟨(some 15), _, _, _, _, _⟩) rfl (fun K hK => ?_) AllReadyH.nil
        go_simp
        ((with_reducible refine (H2.out _ (by assumption)).mono ?_); rintro r w9 ⟨rfl, hs9⟩)
        go_simp
        refine hK.out _ _ (by assumption) (fun hHeld => ?_)
        clear hK K
        refine takeR 4 (some 16) ?_ ?_ ?_; rotate_left; (focus (intros; go_simp; (try with_reducible rfl)))
        simp only [aput, lset]
        refine takeR 5 (some 17) ?_ ?_ ?_; rotate_left; (focus (intros; go_simp; (try with_reducible rfl)))
        simp only [aput, lset]
        refine skipR 6 (some 18) ?_
        simp only [aput, lset]
        refine skipR 7 (some 19) ?_
        simp only [aput, lset]
        refine skipR 8 (some 20) ?_
        simp only [aput, lset]
        refine skipR 9 (some 21) ?_
        simp only [aput, lset]
        refine skipR 10 (some 22) ?_
        simp only [aput, lset]
        refine takeR 11 (some 23) ?_ ?_ ?_; rotate_left; (focus (intros; go_simp; (try with_reducible rfl)))
        simp only [aput, lset]
        refine takeR 12 (some 24) ?_ ?_ ?_; rotate_left; (focus (intros; go_simp; (try with_reducible rfl)))
        simp only [aput, lset]
        refine skipR 13 (some 25) ?_
        simp only [aput, lset]
        refine skipR 14 (some 26) ?_
        simp only [aput, lset]
        refine skipR 15 (some 27) ?_
        simp only [aput, lset]
        refine skipR 16 (some 28) ?_
        simp only [aput, lset]
        refine skipR 17 (some 29) ?_
        simp only [aput, lset]
        refine skipR 18 (some 30) ?_
        simp only [aput, lset]
        refine takeR 19 (some 31) ?_ ?_ ?_; rotate_left; (focus (intros; go_simp; (try with_reducible rfl)))
        simp only [aput, lset]
        refine wpAnyH_done (by kernel_rfl) ?_ _
        obtain ⟨Y, b0, b1, b2, b3, b4, b5, b6, b7, b8, -⟩ := hHeld
        go_wp2
        go_ret
        exact ⟨by rw [HQ2.out HZ.out]; rfl, Y.out.b⟩
      · by_cases h2 : c.cycle ≤ x.c
        · have HZ := Lib.hid (show z = false by rw [hph]; simp [h2])
          clear hph
          go_wp2_with fail
          rw [← HG.out]
          have e1 : decide (x.c < Q) = false := by rw [decide_eq_false_iff_not]; omega
          have e2 : decide (c.cycle ≤ x.c) = true := by rw [decide_eq_true_eq]; omega
          refine wp_region_held_drew (S := fun W : World => Hid (EX w g c D (some ⟨b, off, none⟩) L nd cd ne ce nl cl x W) ∧ W.cell? ⟨w.heap.size, 0, none⟩ = some (.int .i64 c.hosts) ∧ W.cell? ⟨w.heap.size, 1, none⟩ = some (.int .i64 c.cycle) ∧ W.cell? ⟨w.heap.size, 2, none⟩ = some (.int .i64 c.delay) ∧ W.cell? ⟨w.heap.size, 3, none⟩ = some (.int .i64 c.window) ∧ W.cell? ⟨w.heap.size, 4, none⟩ = some (.int .i64 c.precision) ∧ W.cell? ⟨w.heap.size, 5, none⟩ = some (.slice D nd cd) ∧ W.cell? ⟨w.heap.size, 6, none⟩ = some (.slice (some ⟨b, off, none⟩) ne ce) ∧ W.cell? ⟨w.heap.size, 7, none⟩ = some (.slice L nl cl) ∧ W.cell? ⟨w.heap.size, 8, none⟩ = some (.int .i64 c.queue) ∧ W.cell? ⟨g, 0, none⟩ = some (.int .i64 x.a) ∧ W.cell? ⟨g, 1, none⟩ = some (.int .u32 x.b) ∧ W.cell? ⟨g, 2, none⟩ = some (.int .i64 x.c) ∧ W.cell? ⟨g, 3, none⟩ = some (.int .i64 x.d)) (by kernel_rfl) (X1.out.drew.s) (fun hHeld => ?_)
          refine takeR 0 (some 12) ?_ ?_ ?_; rotate_left; (focus (intros; go_simp; (try with_reducible rfl)))
          simp only [aput, lset]
          refine takeR 1 (some 13) ?_ ?_ ?_; rotate_left; (focus (intros; go_simp; (try with_reducible rfl)))
          simp only [aput, lset]
          refine takeR 2 (some 14) ?_ ?_ ?_; rotate_left; (focus (intros; go_simp; (try with_reducible rfl)))
          simp only [aput, lset]
          refine wpAnyH_ready (rs := [3]) (by kernel_rfl) (by simp) ?_
          refine AllReadyH.cons (o := ⟨(some 15), _, _, _, _, _⟩) rfl (fun K hK => ?_) AllReadyH.nil
          go_simp
          ((with_reducible refine (H2.out _ (by assumption)).mono ?_); rintro r w9 ⟨rfl, hs9⟩)
          go_simp
          refine hK.out _ _ (by assumption) (fun hHeld => ?_)
          clear hK K
          refine takeR 4 (some 16) ?_ ?_ ?_; rotate_left; (focus (intros; go_simp; (try with_reducible rfl)))
          simp only [aput, lset]
          refine takeR 5 (some 17) ?_ ?_ ?_; rotate_left; (focus (intros; go_simp; (try with_reducible rfl)))
          simp only [aput, lset]
          refine takeR 6 (some 18) ?_ ?_ ?_; rotate_left; (focus (intros; go_simp; (try with_reducible rfl)))
          simp only [aput, lset]
          refine takeR 7 (some 19) ?_ ?_ ?_; rotate_left; (focus (intros; go_simp; (try with_reducible rfl)))
          simp only [aput, lset]
          refine takeR 8 (some 20) ?_ ?_ ?_; rotate_left; (focus (intros; go_simp; (try with_reducible rfl)))
          simp only [aput, lset]
          refine takeR 9 (some 21) ?_ ?_ ?_; rotate_left; (focus (intros; go_simp; (try with_reducible rfl)))
          simp only [aput, lset]
          refine takeR 10 (some 22) ?_ ?_ ?_; rotate_left; (focus (intros; go_simp; (try with_reducible rfl)))
          simp only [aput, lset]
          refine takeR 11 (some 23) ?_ ?_ ?_; rotate_left; (focus (intros; go_simp; (try with_reducible rfl)))
          simp only [aput, lset]
          refine takeR 12 (some 24) ?_ ?_ ?_; rotate_left; (focus (intros; go_simp; (try with_reducible rfl)))
          simp only [aput, lset]
          refine skipR 13 (some 25) ?_
          simp only [aput, lset]
          refine skipR 14 (some 26) ?_
          simp only [aput, lset]
          refine skipR 15 (some 27) ?_
          simp only [aput, lset]
          refine skipR 16 (some 28) ?_
          simp only [aput, lset]
          refine skipR 17 (some 29) ?_
          simp only [aput, lset]
          refine skipR 18 (some 30) ?_
          simp only [aput, lset]
          refine takeR 19 (some 31) ?_ ?_ ?_; rotate_left; (focus (intros; go_simp; (try with_reducible rfl)))
          simp only [aput, lset]
          refine wpAnyH_done (by kernel_rfl) ?_ _
          obtain ⟨Y, b0, b1, b2, b3, b4, b5, b6, b7, b8, -⟩ := hHeld
          go_wp2
          go_ret
          exact ⟨by rw [HQ2.out HZ.out]; rfl, Y.out.b⟩
        · by_cases h3 : c.cycle ≤ T
          · have HZ := Lib.hid (show z = false by rw [hph]; simp [h3])
            clear hph
            go_wp2_with fail
            rw [← HG.out]
            have e1 : decide (x.c < Q) = false := by rw [decide_eq_false_iff_not]; omega
            have e2 : decide (c.cycle ≤ x.c) = false := by rw [decide_eq_false_iff_not]; omega
            have e3 : decide (c.cycle ≤ T) = true := by rw [decide_eq_true_eq]; omega
            refine wp_region_held_drew (S := fun W : World => Hid (EX w g c D (some ⟨b, off, none⟩) L nd cd ne ce nl cl x W) ∧ W.cell? ⟨w.heap.size, 0, none⟩ = some (.int .i64 c.hosts) ∧ W.cell? ⟨w.heap.size, 1, none⟩ = some (.int .i64 c.cycle) ∧ W.cell? ⟨w.heap.size, 2, none⟩ = some (.int .i64 c.delay) ∧ W.cell? ⟨w.heap.size, 3, none⟩ = some (.int .i64 c.window) ∧ W.cell? ⟨w.heap.size, 4, none⟩ = some (.int .i64 c.precision) ∧ W.cell? ⟨w.heap.size, 5, none⟩ = some (.slice D nd cd) ∧ W.cell? ⟨w.heap.size, 6, none⟩ = some (.slice (some ⟨b, off, none⟩) ne ce) ∧ W.cell? ⟨w.heap.size, 7, none⟩ = some (.slice L nl cl) ∧ W.cell? ⟨w.heap.size, 8, none⟩ = some (.int .i64 c.queue) ∧ W.cell? ⟨g, 0, none⟩ = some (.int .i64 x.a) ∧ W.cell? ⟨g, 1, none⟩ = some (.int .u32 x.b) ∧ W.cell? ⟨g, 2, none⟩ = some (.int .i64 x.c) ∧ W.cell? ⟨g, 3, none⟩ = some (.int .i64 x.d)) (by kernel_rfl) (X1.out.drew.s) (fun hHeld => ?_)
            refine takeR 0 (some 12) ?_ ?_ ?_; rotate_left; (focus (intros; go_simp; (try with_reducible rfl)))
            simp only [aput, lset]
            refine takeR 1 (some 13) ?_ ?_ ?_; rotate_left; (focus (intros; go_simp; (try with_reducible rfl)))
            simp only [aput, lset]
            refine takeR 2 (some 14) ?_ ?_ ?_; rotate_left; (focus (intros; go_simp; (try with_reducible rfl)))
            simp only [aput, lset]
            refine wpAnyH_ready (rs := [3]) (by kernel_rfl) (by simp) ?_
            refine AllReadyH.cons (o := ⟨(some 15), _, _, _, _, _⟩) rfl (fun K hK => ?_) AllReadyH.nil
            go_simp
            ((with_reducible refine (H2.out _ (by assumption)).mono ?_); rintro r w9 ⟨rfl, hs9⟩)
            go_simp
            refine hK.out _ _ (by assumption) (fun hHeld => ?_)
            clear hK K
            refine takeR 4 (some 16) ?_ ?_ ?_; rotate_left; (focus (intros; go_simp; (try with_reducible rfl)))
            simp only [aput, lset]
            refine takeR 5 (some 17) ?_ ?_ ?_; rotate_left; (focus (intros; go_simp; (try with_reducible rfl)))
            simp only [aput, lset]
            refine takeR 6 (some 18) ?_ ?_ ?_; rotate_left; (focus (intros; go_simp; (try with_reducible rfl)))
            simp only [aput, lset]
            refine takeR 7 (some 19) ?_ ?_ ?_; rotate_left; (focus (intros; go_simp; (try with_reducible rfl)))
            simp only [aput, lset]
            refine takeR 8 (some 20) ?_ ?_ ?_; rotate_left; (focus (intros; go_simp; (try with_reducible rfl)))
            simp only [aput, lset]
            refine takeR 9 (some 21) ?_ ?_ ?_; rotate_left; (focus (intros; go_simp; (try with_reducible rfl)))
            simp only [aput, lset]
            refine takeR 10 (some 22) ?_ ?_ ?_; rotate_left; (focus (intros; go_simp; (try with_reducible rfl)))
            simp only [aput, lset]
            refine takeR 11 (some 23) ?_ ?_ ?_; rotate_left; (focus (intros; go_simp; (try with_reducible rfl)))
            simp only [aput, lset]
            refine takeR 12 (some 24) ?_ ?_ ?_; rotate_left; (focus (intros; go_simp; (try with_reducible rfl)))
            simp only [aput, lset]
            refine takeR 13 (some 25) ?_ ?_ ?_; rotate_left; (focus (intros; go_simp; (try with_reducible rfl)))
            simp only [aput, lset]
            refine takeR 14 (some 26) ?_ ?_ ?_; rotate_left; (focus (intros; go_simp; (try with_reducible rfl)))
            simp only [aput, lset]
            refine takeR 16 (some 28) ?_ ?_ ?_; rotate_left; (focus (intros; go_simp; (try with_reducible rfl)))
            simp only [aput, lset]
            refine takeR 17 (some 29) ?_ ?_ ?_; rotate_left; (focus (intros; go_simp; (try with_reducible rfl)))
            simp only [aput, lset]
            refine wpAnyH_ready (rs := [15]) (by kernel_rfl) (by simp) ?_
            refine AllReadyH.cons (o := ⟨(some 27), _, _, _, _, _⟩) rfl (fun K hK => ?_) AllReadyH.nil
            go_simp
            ((with_reducible refine (H3.out _ (by assumption)).mono ?_); rintro r w9 ⟨rfl, hs9⟩)
            go_simp
            refine hK.out _ _ (by assumption) (fun hHeld => ?_)
            clear hK K
            refine takeR 18 (some 30) ?_ ?_ ?_; rotate_left; (focus (intros; go_simp; (try with_reducible rfl)))
            simp only [aput, lset]
            refine takeR 19 (some 31) ?_ ?_ ?_; rotate_left; (focus (intros; go_simp; (try with_reducible rfl)))
            simp only [aput, lset]
            refine wpAnyH_done (by kernel_rfl) ?_ _
            obtain ⟨Y, b0, b1, b2, b3, b4, b5, b6, b7, b8, -⟩ := hHeld
            go_wp2
            go_ret
            exact ⟨by rw [HQ2.out HZ.out]; rfl, Y.out.b⟩
          · have HZ := Lib.hid (show z = true by rw [hph]; simp; omega)
            clear hph
            go_wp2_with fail
            rw [← HG.out]
            have e1 : decide (x.c < Q) = false := by rw [decide_eq_false_iff_not]; omega
            have e2 : decide (c.cycle ≤ x.c) = false := by rw [decide_eq_false_iff_not]; omega
            have e3 : decide (c.cycle ≤ T) = false := by rw [decide_eq_false_iff_not]; omega
            refine wp_region_held_drew (S := fun W : World => Hid (EX w g c D (some ⟨b, off, none⟩) L nd cd ne ce nl cl x W) ∧ W.cell? ⟨w.heap.size, 0, none⟩ = some (.int .i64 c.hosts) ∧ W.cell? ⟨w.heap.size, 1, none⟩ = some (.int .i64 c.cycle) ∧ W.cell? ⟨w.heap.size, 2, none⟩ = some (.int .i64 c.delay) ∧ W.cell? ⟨w.heap.size, 3, none⟩ = some (.int .i64 c.window) ∧ W.cell? ⟨w.heap.size, 4, none⟩ = some (.int .i64 c.precision) ∧ W.cell? ⟨w.heap.size, 5, none⟩ = some (.slice D nd cd) ∧ W.cell? ⟨w.heap.size, 6, none⟩ = some (.slice (some ⟨b, off, none⟩) ne ce) ∧ W.cell? ⟨w.heap.size, 7, none⟩ = some (.slice L nl cl) ∧ W.cell? ⟨w.heap.size, 8, none⟩ = some (.int .i64 c.queue) ∧ W.cell? ⟨g, 0, none⟩ = some (.int .i64 x.a) ∧ W.cell? ⟨g, 1, none⟩ = some (.int .u32 x.b) ∧ W.cell? ⟨g, 2, none⟩ = some (.int .i64 x.c) ∧ W.cell? ⟨g, 3, none⟩ = some (.int .i64 x.d)) (by kernel_rfl) (X1.out.drew.s) (fun hHeld => ?_)
            refine takeR 0 (some 12) ?_ ?_ ?_; rotate_left; (focus (intros; go_simp; (try with_reducible rfl)))
            simp only [aput, lset]
            refine takeR 1 (some 13) ?_ ?_ ?_; rotate_left; (focus (intros; go_simp; (try with_reducible rfl)))
            simp only [aput, lset]
            refine takeR 2 (some 14) ?_ ?_ ?_; rotate_left; (focus (intros; go_simp; (try with_reducible rfl)))
            simp only [aput, lset]
            refine wpAnyH_ready (rs := [3]) (by kernel_rfl) (by simp) ?_
            refine AllReadyH.cons (o := ⟨(some 15), _, _, _, _, _⟩) rfl (fun K hK => ?_) AllReadyH.nil
            go_simp
            ((with_reducible refine (H2.out _ (by assumption)).mono ?_); rintro r w9 ⟨rfl, hs9⟩)
            go_simp
            refine hK.out _ _ (by assumption) (fun hHeld => ?_)
            clear hK K
            refine takeR 4 (some 16) ?_ ?_ ?_; rotate_left; (focus (intros; go_simp; (try with_reducible rfl)))
            simp only [aput, lset]
            refine takeR 5 (some 17) ?_ ?_ ?_; rotate_left; (focus (intros; go_simp; (try with_reducible rfl)))
            simp only [aput, lset]
            refine takeR 6 (some 18) ?_ ?_ ?_; rotate_left; (focus (intros; go_simp; (try with_reducible rfl)))
            simp only [aput, lset]
            refine takeR 7 (some 19) ?_ ?_ ?_; rotate_left; (focus (intros; go_simp; (try with_reducible rfl)))
            simp only [aput, lset]
            refine takeR 8 (some 20) ?_ ?_ ?_; rotate_left; (focus (intros; go_simp; (try with_reducible rfl)))
            simp only [aput, lset]
            refine takeR 9 (some 21) ?_ ?_ ?_; rotate_left; (focus (intros; go_simp; (try with_reducible rfl)))
            simp only [aput, lset]
            refine takeR 10 (some 22) ?_ ?_ ?_; rotate_left; (focus (intros; go_simp; (try with_reducible rfl)))
            simp only [aput, lset]
            refine takeR 11 (some 23) ?_ ?_ ?_; rotate_left; (focus (intros; go_simp; (try with_reducible rfl)))
            simp only [aput, lset]
            refine takeR 12 (some 24) ?_ ?_ ?_; rotate_left; (focus (intros; go_simp; (try with_reducible rfl)))
            simp only [aput, lset]
            refine takeR 13 (some 25) ?_ ?_ ?_; rotate_left; (focus (intros; go_simp; (try with_reducible rfl)))
            simp only [aput, lset]
            refine takeR 14 (some 26) ?_ ?_ ?_; rotate_left; (focus (intros; go_simp; (try with_reducible rfl)))
            simp only [aput, lset]
            refine takeR 16 (some 28) ?_ ?_ ?_; rotate_left; (focus (intros; go_simp; (try with_reducible rfl)))
            simp only [aput, lset]
            refine takeR 17 (some 29) ?_ ?_ ?_; rotate_left; (focus (intros; go_simp; (try with_reducible rfl)))
            simp only [aput, lset]
            refine wpAnyH_ready (rs := [15]) (by kernel_rfl) (by simp) ?_
            refine AllReadyH.cons (o := ⟨(some 27), _, _, _, _, _⟩) rfl (fun K hK => ?_) AllReadyH.nil
            go_simp
            ((with_reducible refine (H3.out _ (by assumption)).mono ?_); rintro r w9 ⟨rfl, hs9⟩)
            go_simp
            refine hK.out _ _ (by assumption) (fun hHeld => ?_)
            clear hK K
            refine takeR 18 (some 30) ?_ ?_ ?_; rotate_left; (focus (intros; go_simp; (try with_reducible rfl)))
            simp only [aput, lset]
            refine takeR 19 (some 31) ?_ ?_ ?_; rotate_left; (focus (intros; go_simp; (try with_reducible rfl)))
            simp only [aput, lset]
            refine wpAnyH_done (by kernel_rfl) ?_ _
            obtain ⟨Y, b0, b1, b2, b3, b4, b5, b6, b7, b8, -⟩ := hHeld
            go_wp2
            go_roundw
            case rel => exact ⟨k + 1, by omega, by go_num, Lib.hid Y.out.cx, HJ2.out HZ.out⟩
            case measure => simp [intOf]; omega
    · have HQ2 := Lib.hid (show q = true by
        rw [HQ.out]
        exact all_true (fun j r hj => HI.out j r (by have := lt_of_get hj; rw [← HM.out.nE] at this; omega) hj))
      go_wp2
      go_ret
      exact ⟨by rw [HQ2.out]; rfl, X.out.b⟩
end Go.Proofs.YtmagjekmlnpfpaaGreat.ConfW


