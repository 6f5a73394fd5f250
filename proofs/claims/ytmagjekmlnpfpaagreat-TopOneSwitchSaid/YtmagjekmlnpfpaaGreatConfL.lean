/- The document's own: entries. -/
import Derived.Test.YtmagjekmlnpfpaaGreatTake
import Derived.Test.YtmagjekmlnpfpaaGreatConfK
namespace Go.Proofs.YtmagjekmlnpfpaaGreat.ConfW
open Shell (takeR skipR aput lset)
open Go.RowKit Shell
/-- Behind w0: a configuration of the call's own in its first block, two entries in others. -/
structure GX (w0 : World) (g g2 : Nat) (c : Cfg) (D E L : Option Addr) (nd cd ne ce nl cl : Nat) (e d : R4) (w : World) : Prop where
  b : Below w0.heap.size w0 w
  x : w.heap[w0.heap.size]? = some (Obj.cells #[.int .i64 c.hosts, .int .i64 c.cycle, .int .i64 c.delay, .int .i64 c.window, .int .i64 c.precision, .slice D nd cd, .slice E ne ce, .slice L nl cl, .int .i64 c.queue] 26)
  y : w.heap[g]? = some (Obj.cells #[.int .i64 e.a, .int .u32 e.b, .int .i64 e.c, .int .i64 e.d] 138)
  z : w.heap[g2]? = some (Obj.cells #[.int .i64 d.a, .int .u32 d.b, .int .i64 d.c, .int .i64 d.d] 138)
section
variable {w0 w w1 : World} {g g2 : Nat} {c : Cfg} {D E L : Option Addr} {nd cd ne ce nl cl : Nat} {e d : R4}
theorem GX.next (h : GX w0 g g2 c D E L nd cd ne ce nl cl e d w) (b : Below w.heap.size w w1) : GX w0 g g2 c D E L nd cd ne ce nl cl e d w1 := ⟨h.b.trans (b.mono h.b.size), row_below b h.x, row_below b h.y, row_below b h.z⟩
theorem GX.drew (h : GX w0 g g2 c D E L nd cd ne ce nl cl e d w) : GX w0 g g2 c D E L nd cd ne ce nl cl e d w.drew := h.next (Below.refl _ _).drew
theorem GX.ex (h : GX w0 g g2 c D E L nd cd ne ce nl cl e d w) : EX w0 g c D E L nd cd ne ce nl cl e w := ⟨h.b, h.x, h.y⟩
theorem EX.ent (h : EX w0 g c D E L nd cd ne ce nl cl e w) (d : R4) : GX w0 g w.heap.size c D E L nd cd ne ce nl cl e d (w.alloc (Obj.cells #[.int .i64 d.a, .int .u32 d.b, .int .i64 d.c, .int .i64 d.d] 138)) := ⟨(h.next (al (Below.refl _ _) _)).b, (h.next (al (Below.refl _ _) _)).x, (h.next (al (Below.refl _ _) _)).y, heap_alloc_new w _⟩
theorem GX.s (h : GX w0 g g2 c D E L nd cd ne ce nl cl e d w) : Hid (GX w0 g g2 c D E L nd cd ne ce nl cl e d w) ∧ w.cell? ⟨w0.heap.size, 0, none⟩ = some (.int .i64 c.hosts) ∧ w.cell? ⟨w0.heap.size, 1, none⟩ = some (.int .i64 c.cycle) ∧ w.cell? ⟨w0.heap.size, 2, none⟩ = some (.int .i64 c.delay) ∧ w.cell? ⟨w0.heap.size, 3, none⟩ = some (.int .i64 c.window) ∧ w.cell? ⟨w0.heap.size, 4, none⟩ = some (.int .i64 c.precision) ∧ w.cell? ⟨w0.heap.size, 5, none⟩ = some (.slice D nd cd) ∧ w.cell? ⟨w0.heap.size, 6, none⟩ = some (.slice E ne ce) ∧ w.cell? ⟨w0.heap.size, 7, none⟩ = some (.slice L nl cl) ∧ w.cell? ⟨w0.heap.size, 8, none⟩ = some (.int .i64 c.queue) ∧ w.cell? ⟨g, 0, none⟩ = some (.int .i64 e.a) ∧ w.cell? ⟨g, 1, none⟩ = some (.int .u32 e.b) ∧ w.cell? ⟨g, 2, none⟩ = some (.int .i64 e.c) ∧ w.cell? ⟨g, 3, none⟩ = some (.int .i64 e.d) ∧ w.cell? ⟨g2, 0, none⟩ = some (.int .i64 d.a) ∧ w.cell? ⟨g2, 1, none⟩ = some (.int .u32 d.b) ∧ w.cell? ⟨g2, 2, none⟩ = some (.int .i64 d.c) ∧ w.cell? ⟨g2, 3, none⟩ = some (.int .i64 d.d) :=
  ⟨Lib.hid h, box_cell h.x rfl, box_cell h.x rfl, box_cell h.x rfl, box_cell h.x rfl, box_cell h.x rfl, box_cell h.x rfl, box_cell h.x rfl, box_cell h.x rfl, box_cell h.x rfl, box_cell h.y rfl, box_cell h.y rfl, box_cell h.y rfl, box_cell h.y rfl, box_cell h.z rfl, box_cell h.z rfl, box_cell h.z rfl, box_cell h.z rfl⟩
end
theorem tms_placed {c : Cfg} {e : R4} (h : placed c e = true) : tms c e = .agg #[.int .i64 (at0 c e), .int .i64 (at1 c e), .int .i64 (fwd c e), .int .i64 (ear c e), .int .i64 (lat c e)] := by
  unfold tms at0 at1 fwd ear lat
  rw [h]
  simp only [if_true]
  have e1 : e.c + tim e.d + c.delay + c.precision + c.precision = e.c + tim e.d + c.delay + 2 * c.precision := by omega
  rw [e1]
theorem placed_in {c : Cfg} {e : R4} (hs : spans c = true) (hh : 1 ≤ c.hosts ∧ c.hosts ≤ 6) (hw : wayE c.hosts e = true) (h1 : 0 ≤ e.c) (h2 : e.c ≤ 1073741824) : placed c e = true :=
  placed_iff.2 ⟨hs, way_six hh hw, by omega, by omega⟩
set_option maxHeartbeats 8000000 in
set_option maxRecDepth 100000 in
theorem ent5_any (c : Cfg) (D E L : Option Addr) (nd cd ne ce nl cl : Nat) (w : World) (h : CM w c D E L nd cd ne ce nl cl) (hh : 1 ≤ c.hosts ∧ c.hosts ≤ 6) : Calls Tryz.prog 52 #[.agg #[.int .i64 c.hosts, .int .i64 c.cycle, .int .i64 c.delay, .int .i64 c.window, .int .i64 c.precision, .slice D nd cd, .slice E ne ce, .slice L nl cl, .int .i64 c.queue], .int .i64 5] w fun r w' => r = .returned (.bool (!entOk c)) ∧ Below w.heap.size w w' := by
  have HM := Lib.hid h
  have hm : ne ≤ 9223372036854775807 := h.mE
  clear h
  have HH := Lib.hid hh
  clear hh
  have X := Lib.hid (CX.start (w0 := w) (c := c) (D := D) (E := E) (L := L) (nd := nd) (cd := cd) (ne := ne) (ce := ce) (nl := nl) (cl := cl))
  by_cases hn : 16 < ne
  · have HR : entOk c = false := by unfold entOk; rw [← HM.out.nE, decide_eq_false (by omega)]; rfl
    rw [HR]
    clear HR
    have hn2 : (16 : Int) < (ne : Int) := by omega
    go_enter Tryz.func52, Tryz.ntmps52
    go_wp2
    go_ret
    exact ⟨rfl, X.out.b⟩
  have hn2 : ¬ (16 : Int) < (ne : Int) := by omega
  have HN16 := Lib.hid hn
  clear hn
  generalize hq : (!entOk c) = q
  have HQ := Lib.hid (show q = _ from hq.symm)
  clear hq
  go_enter Tryz.func52, Tryz.ntmps52
  go_wp2
  go_loopw [5] (fun iv wr => ∃ (n : Nat), n ≤ ne ∧ iv = .int .i64 n ∧ Hid (CX w c D E L nd cd ne ce nl cl wr) ∧ Hid (∀ (j : Nat) (r : R4), j < n → c.entries[j]? = some r → wayE c.hosts r = true)) (fun iv _ => ne - (intOf iv).toNat)
  case atStart => exact ⟨0, Nat.zero_le _, rfl, X, Lib.hid (by intros; omega)⟩
  case round =>
    clear X
    obtain ⟨n, hk, rfl, X, HI⟩ := hrel
    obtain ⟨-, a0, a1, a2, a3, a4, a5, a6, a7, a8⟩ := X.out.s
    by_cases hlt : (n : Int) < (ne : Int)
    · obtain ⟨x, hx⟩ : ∃ x, c.entries[n]? = some x := ⟨_, List.getElem?_eq_getElem (by rw [← HM.out.nE]; omega)⟩
      obtain ⟨b, off, rfl, ⟨x0, x1, x2, x3⟩, hxb⟩ := (X.out.mem HM.out).he n x hx
      have HX := Lib.hid hx
      clear hx
      have X1 := Lib.hid (X.out.ent x)
      obtain ⟨g, hg⟩ : ∃ g, g = wr.heap.size := ⟨_, rfl⟩
      rw [← hg] at X1
      have HG := Lib.hid hg
      clear hg
      have HJ2 := Lib.hid (show wayE c.hosts x = true → ∀ (j : Nat) (r : R4), j < n + 1 → c.entries[j]? = some r → wayE c.hosts r = true by
        intro hb j r hj hr
        by_cases hji : j = n
        · subst hji
          rw [HX.out] at hr
          cases hr
          exact hb
        · exact HI.out j r (by omega) hr)
      have HQ2 := Lib.hid (show wayE c.hosts x = false → q = true from fun hb => by
        rw [HQ.out]
        unfold entOk
        rw [all_false HX.out hb, Bool.and_false]
        rfl)
      have hway : wayE c.hosts x = way c.hosts x.a x.b x.d := rfl
      have RW := fun W => route_any c.hosts x.a x.b x.d W HH.out hxb
      obtain ⟨-, f0, f1, f2, f3, f4, f5, f6, f7, f8, h0, h1, h2, h3⟩ := X1.out.s
      cases hb : way c.hosts x.a x.b x.d
      · have HB := Lib.hid (show wayE c.hosts x = false by rw [hway, hb])
        clear hway
        rw [hb] at RW
        clear hb
        go_wp2_with fail
        refine (RW _).mono ?_
        rintro r w9 ⟨rfl, hw⟩
        obtain rfl := hw.symm
        go_wp2
        go_ret
        exact ⟨by rw [HQ2.out HB.out]; rfl, X1.out.b⟩
      · have HB := Lib.hid (show wayE c.hosts x = true by rw [hway, hb])
        clear hway
        rw [hb] at RW
        clear hb
        go_wp2_with fail
        refine (RW _).mono ?_
        rintro r w9 ⟨rfl, hw⟩
        obtain rfl := hw.symm
        go_wp2_with fail
        rw [← HG.out]
        refine wp_region_held_drew (S := fun W : World => Hid (EX w g c D (some ⟨b, off, none⟩) L nd cd ne ce nl cl x W) ∧ W.cell? ⟨w.heap.size, 0, none⟩ = some (.int .i64 c.hosts) ∧ W.cell? ⟨w.heap.size, 1, none⟩ = some (.int .i64 c.cycle) ∧ W.cell? ⟨w.heap.size, 2, none⟩ = some (.int .i64 c.delay) ∧ W.cell? ⟨w.heap.size, 3, none⟩ = some (.int .i64 c.window) ∧ W.cell? ⟨w.heap.size, 4, none⟩ = some (.int .i64 c.precision) ∧ W.cell? ⟨w.heap.size, 5, none⟩ = some (.slice D nd cd) ∧ W.cell? ⟨w.heap.size, 6, none⟩ = some (.slice (some ⟨b, off, none⟩) ne ce) ∧ W.cell? ⟨w.heap.size, 7, none⟩ = some (.slice L nl cl) ∧ W.cell? ⟨w.heap.size, 8, none⟩ = some (.int .i64 c.queue) ∧ W.cell? ⟨g, 0, none⟩ = some (.int .i64 x.a) ∧ W.cell? ⟨g, 1, none⟩ = some (.int .u32 x.b) ∧ W.cell? ⟨g, 2, none⟩ = some (.int .i64 x.c) ∧ W.cell? ⟨g, 3, none⟩ = some (.int .i64 x.d)) (by kernel_rfl) (X1.out.drew.s) (fun hHeld => ?_)
        refine takeR 0 (some 45) ?_ ?_ ?_; rotate_left; (focus (intros; go_simp; (try with_reducible rfl)))
        simp only [aput, lset]
        refine takeR 1 (some 46) ?_ ?_ ?_; rotate_left; (focus (intros; go_simp; (try with_reducible rfl)))
        simp only [aput, lset]
        refine takeR 2 (some 47) ?_ ?_ ?_; rotate_left; (focus (intros; go_simp; (try with_reducible rfl)))
        simp only [aput, lset]
        refine skipR 3 (some 48) ?_
        simp only [aput, lset]
        refine skipR 4 (some 49) ?_
        simp only [aput, lset]
        refine skipR 5 (some 50) ?_
        simp only [aput, lset]
        refine skipR 6 (some 51) ?_
        simp only [aput, lset]
        refine skipR 7 (some 52) ?_
        simp only [aput, lset]
        refine skipR 8 (some 53) ?_
        simp only [aput, lset]
        refine skipR 9 (some 54) ?_
        simp only [aput, lset]
        refine skipR 10 (some 55) ?_
        simp only [aput, lset]
        refine skipR 11 (some 56) ?_
        simp only [aput, lset]
        refine skipR 12 (some 57) ?_
        simp only [aput, lset]
        refine skipR 13 (some 58) ?_
        simp only [aput, lset]
        refine skipR 14 (some 59) ?_
        simp only [aput, lset]
        refine skipR 15 (some 60) ?_
        simp only [aput, lset]
        refine skipR 16 (some 61) ?_
        simp only [aput, lset]
        refine skipR 17 (some 62) ?_
        simp only [aput, lset]
        refine skipR 18 (some 63) ?_
        simp only [aput, lset]
        refine skipR 19 (some 64) ?_
        simp only [aput, lset]
        refine skipR 20 (some 65) ?_
        simp only [aput, lset]
        refine skipR 21 (some 66) ?_
        simp only [aput, lset]
        refine skipR 22 (some 67) ?_
        simp only [aput, lset]
        refine skipR 23 (some 68) ?_
        simp only [aput, lset]
        refine takeR 24 (some 69) ?_ ?_ ?_; rotate_left; (focus (intros; go_simp; (try with_reducible rfl)))
        simp only [aput, lset]
        refine wpAnyH_done (by kernel_rfl) ?_ _
        obtain ⟨Y, b0, b1, b2, b3, b4, b5, b6, b7, b8, d0, d1, d2, d3⟩ := hHeld
        clear f0 f1 f2 f3 f4 f5 f6 f7 f8 h0 h1 h2 h3 RW hn2
        have Y0 := Lib.hid Y.out.cx
        clear Y a0 a1 a2 a3 a4 a5 a6 a7 a8 x0 x1 x2 x3 b0 b1 b2 b3 b4 b5 b6 b7 b8 d0 d1 d2 d3 hxb
        go_wp2
        go_loopw [7] (fun jv wr => jv = .int .i64 0 ∧ Hid (CX w c D (some ⟨b, off, none⟩) L nd cd ne ce nl cl wr)) (fun _ _ => 0)
        case atStart => exact ⟨rfl, Y0⟩
        case round =>
          obtain ⟨rfl, Y⟩ := hrel
          by_cases hj0 : (0 : Int) < (n : Int)
          · go_wp2
            exact ⟨⟨n + 1, by omega, by go_num, Y, HJ2.out HB.out⟩, by simp [intOf]; omega⟩
          · go_wp2
            exact ⟨⟨n + 1, by omega, by go_num, Y, HJ2.out HB.out⟩, by simp [intOf]; omega⟩
    · have HQ2 := Lib.hid (show q = false by
        rw [HQ.out]
        unfold entOk
        rw [all_true (p := wayE c.hosts) (fun j r hj => HI.out j r (by have := lt_of_get hj; rw [← HM.out.nE] at this; omega) hj), ← HM.out.nE, decide_eq_true (by have := HN16.out; omega)]
        rfl)
      go_wp2
      go_ret
      exact ⟨by rw [HQ2.out]; rfl, X.out.b⟩
end Go.Proofs.YtmagjekmlnpfpaaGreat.ConfW


