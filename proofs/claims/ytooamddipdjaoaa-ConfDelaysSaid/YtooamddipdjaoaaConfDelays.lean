/- tocsinlaw08.ConfDelays. -/
import Derived.Test.YtooamddipdjaoaaConfZ
namespace Go.Proofs.Ytooamddipdjaoaa.ConfW.ConfDelays
open Go.ChangeShapes Go.WideShapes Go.ChangeAt Go.RowKit Shell
/-- The law's first two boxes: the configuration, the two numbers. -/
structure AX (w0 : World) (c : Cfg) (D E L : Option Addr) (nd cd ne ce nl cl : Nat) (pa pb : Int) (w : World) : Prop where
  b : CX w0 c D E L nd cd ne ce nl cl w
  y : w.heap[w0.heap.size + 1]? = some (.cells #[.int .u8 pa, .int .u8 pb] 48)
section
variable {w0 w w1 : World} {c : Cfg} {D E L : Option Addr} {nd cd ne ce nl cl : Nat} {pa pb : Int}
theorem AX.next (h : AX w0 c D E L nd cd ne ce nl cl pa pb w) (b : Below w.heap.size w w1) : AX w0 c D E L nd cd ne ce nl cl pa pb w1 := ⟨h.b.next b, row_below b h.y⟩
theorem AX.drew (h : AX w0 c D E L nd cd ne ce nl cl pa pb w) : AX w0 c D E L nd cd ne ce nl cl pa pb w.drew := h.next (Below.refl _ _).drew
theorem AX.start : AX w0 c D E L nd cd ne ce nl cl pa pb ((w0.alloc (Obj.cells #[.int .i64 c.hosts, .int .i64 c.cycle, .int .i64 c.delay, .int .i64 c.window, .int .i64 c.precision, .slice D nd cd, .slice E ne ce, .slice L nl cl, .int .i64 c.queue] 26)).alloc (.cells #[.int .u8 pa, .int .u8 pb] 48)) := by
  have h1 := heap_alloc_new (w0.alloc (Obj.cells #[.int .i64 c.hosts, .int .i64 c.cycle, .int .i64 c.delay, .int .i64 c.window, .int .i64 c.precision, .slice D nd cd, .slice E ne ce, .slice L nl cl, .int .i64 c.queue] 26)) (.cells #[.int .u8 pa, .int .u8 pb] 48)
  rw [show (w0.alloc (Obj.cells #[.int .i64 c.hosts, .int .i64 c.cycle, .int .i64 c.delay, .int .i64 c.window, .int .i64 c.precision, .slice D nd cd, .slice E ne ce, .slice L nl cl, .int .i64 c.queue] 26)).heap.size = w0.heap.size + 1 by simp] at h1
  exact ⟨CX.start.next (al (Below.refl _ _) _), h1⟩
theorem AX.s (h : AX w0 c D E L nd cd ne ce nl cl pa pb w) : Hid (AX w0 c D E L nd cd ne ce nl cl pa pb w) ∧ w.cell? ⟨w0.heap.size, 0, none⟩ = some (.int .i64 c.hosts) ∧ w.cell? ⟨w0.heap.size, 1, none⟩ = some (.int .i64 c.cycle) ∧ w.cell? ⟨w0.heap.size, 2, none⟩ = some (.int .i64 c.delay) ∧ w.cell? ⟨w0.heap.size, 3, none⟩ = some (.int .i64 c.window) ∧ w.cell? ⟨w0.heap.size, 4, none⟩ = some (.int .i64 c.precision) ∧ w.cell? ⟨w0.heap.size, 5, none⟩ = some (.slice D nd cd) ∧ w.cell? ⟨w0.heap.size, 6, none⟩ = some (.slice E ne ce) ∧ w.cell? ⟨w0.heap.size, 7, none⟩ = some (.slice L nl cl) ∧ w.cell? ⟨w0.heap.size, 8, none⟩ = some (.int .i64 c.queue) ∧ w.cell? ⟨w0.heap.size + 1, 0, none⟩ = some (.int .u8 pa) ∧ w.cell? ⟨w0.heap.size + 1, 1, none⟩ = some (.int .u8 pb) := by
  obtain ⟨-, a0, a1, a2, a3, a4, a5, a6, a7, a8⟩ := h.b.s
  exact ⟨Lib.hid h, a0, a1, a2, a3, a4, a5, a6, a7, a8, box_cell h.y rfl, box_cell h.y rfl⟩
end
set_option maxHeartbeats 8000000 in
set_option maxRecDepth 100000 in
theorem walk2 (c : Cfg) (D E L : Option Addr) (nd cd ne ce nl cl : Nat) (pa pb : Nat) (x : Int) (w : World) (wx : (Lit.int .i64 x).wf = true) (h : CM w c D E L nd cd ne ce nl cl) (ha : pa < 256) (hb : pb < 256) : Calls Try.prog 8 #[.agg #[.int .i64 c.hosts, .int .i64 c.cycle, .int .i64 c.delay, .int .i64 c.window, .int .i64 c.precision, .slice D nd cd, .slice E ne ce, .slice L nl cl, .int .i64 c.queue], .agg #[.int .u8 (pa : Int), .int .u8 (pb : Int)], .int .i64 x] w fun r w' => r = .returned (.bool true) ∧ Below w.heap.size w w' := by
  have HM := Lib.hid h
  have X := Lib.hid (AX.start (w0 := w) (c := c) (D := D) (E := E) (L := L) (nd := nd) (cd := cd) (ne := ne) (ce := ce) (nl := nl) (cl := cl) (pa := (pa : Int)) (pb := (pb : Int)))
  have HC := Lib.hid (fun W (hW : AX w c D E L nd cd ne ce nl cl (pa : Int) (pb : Int) W) => check_any c D E L nd cd ne ce nl cl W (hW.b.mem HM.out))
  have HR := Lib.hid (fun W (hW : AX w c D E L nd cd ne ce nl cl (pa : Int) (pb : Int) W) => refCheck_any c D E L nd cd ne ce nl cl W (hW.b.mem HM.out))
  by_cases hz : chk c = 0
  case neg =>
    have hz2 : (chk c != 0) = true := by rw [bne_iff_ne]; exact hz
    generalize chk c = k at *
    clear hz h
    go_enter Try.func8, Try.ntmps8
    go_wp2_with fail
    refine (fixed_any _).mono ?_
    rintro r w1 ⟨rfl, hb⟩
    have X1 := Lib.hid (X.out.next hb)
    clear hb
    obtain ⟨-, a0, a1, a2, a3, a4, a5, a6, a7, a8, p0, p1⟩ := X1.out.s
    go_wp2_with fail
    refine (HC.out _ X1.out).mono ?_
    rintro r w2 ⟨rfl, hb⟩
    have X2 := Lib.hid (X1.out.next hb)
    clear hb a0 a1 a2 a3 a4 a5 a6 a7 a8 p0 p1
    obtain ⟨-, a0, a1, a2, a3, a4, a5, a6, a7, a8, p0, p1⟩ := X2.out.s
    go_wp2_with fail
    refine (HR.out _ X2.out).mono ?_
    rintro r w3 ⟨rfl, hb⟩
    have X3 := Lib.hid (X2.out.next hb)
    clear hb
    go_wp2
    go_ret
    exact ⟨rfl, X3.out.b.b⟩
  obtain ⟨f1, f2, f3, f4, f5⟩ := few c D E L nd cd ne ce nl cl h hz
  have HZ := Lib.hid hz
  have CP := Lib.hid (fun W (hW : AX w c D E L nd cd ne ce nl cl (pa : Int) (pb : Int) W) => copy_any c D E L nd cd ne ce nl cl W (hW.b.mem HM.out) (by omega) (fun r hr => by rw [f5 r hr]; decide) (by omega) (by omega))
  have h1 := btw_iff.1 (chk_ok hz).1
  obtain ⟨H, hH⟩ : ∃ H : Nat, c.hosts = (H : Int) := ⟨c.hosts.toNat, by omega⟩
  have hH1 : 1 ≤ H := by omega
  have HND := Lib.hid (show nd = H by omega)
  have HF5 := Lib.hid f5
  rw [hz] at HC
  have hhH := Lib.hid hH
  have hm1 : Int.tmod (pa : Int) c.hosts = ((pa % H : Nat) : Int) := by rw [hH]; rfl
  have hm2 : Int.tmod (pb : Int) (2 : Int) = ((pb % 2 : Nat) : Int) := rfl
  have hm3 : (pa : Int) % c.hosts = ((pa % H : Nat) : Int) := by rw [hH]; omega
  have hm4 : (pb : Int) % 2 = ((pb % 2 : Nat) : Int) := by omega
  have nH : ¬ c.hosts = 0 := by omega
  have hw1 : IntKind.i64.wrap (pa : Int) = (pa : Int) := i64_id (by omega) (by omega)
  have hw2 : IntKind.i64.wrap (pb : Int) = (pb : Int) := i64_id (by omega) (by omega)
  have lk : pa % H < H := Nat.mod_lt _ (by omega)
  have ls : pb % 2 < 2 := Nat.mod_lt _ (by omega)
  have LK := Lib.hid (show pa % H < nd by rw [HND.out]; exact lk)
  have LS := Lib.hid ls
  clear hz h f1 f2 f3 f4 f5 h1 HR lk ls hH hH1
  go_enter Try.func8, Try.ntmps8
  go_wp2_with fail
  refine (fixed_any _).mono ?_
  rintro r w1 ⟨rfl, hb1⟩
  have X1 := Lib.hid (X.out.next hb1)
  clear hb1 X
  obtain ⟨-, a0, a1, a2, a3, a4, a5, a6, a7, a8, p0, p1⟩ := X1.out.s
  go_wp2_with fail
  refine (HC.out _ X1.out).mono ?_
  rintro r w2 ⟨rfl, hb2⟩
  have X2 := Lib.hid (X1.out.next hb2)
  clear hb2 a0 a1 a2 a3 a4 a5 a6 a7 a8 p0 p1 X1
  obtain ⟨-, a0, a1, a2, a3, a4, a5, a6, a7, a8, p0, p1⟩ := X2.out.s
  go_wp2_with fail
  refine (CP.out _ X2.out).mono ?_
  rintro r w3 ⟨gd, vs, vE, vL, rfl, hb3, hd⟩
  have X3 := Lib.hid (X2.out.next hb3)
  have HD := Lib.hid hd
  obtain ⟨AE, cE, rfl, -⟩ := own_form hd.ent
  obtain ⟨AL, cL, rfl, -⟩ := own_form hd.lnk
  have HS2 := Lib.hid X2.out.b.b.size
  clear hb3 a0 a1 a2 a3 a4 a5 a6 a7 a8 p0 p1 X2 hd CP
  generalize hLE : c.entries.length = le at *
  generalize hLL : c.links.length = ll at *
  have HLE := Lib.hid hLE
  have HLL := Lib.hid hLL
  clear hLE hLL
  have W4 := Lib.hid (X3.out.next (al (Below.refl w3.heap.size w3) (Obj.cells #[.int .i64 c.hosts, .int .i64 c.cycle, .int .i64 c.delay, .int .i64 c.window, .int .i64 c.precision, .slice (some ⟨gd, 0, none⟩) nd nd, .slice AE le cE, .slice AL ll cL, .int .i64 c.queue] 26)))
  have Y4 := Lib.hid (heap_alloc_new w3 (Obj.cells #[.int .i64 c.hosts, .int .i64 c.cycle, .int .i64 c.delay, .int .i64 c.window, .int .i64 c.precision, .slice (some ⟨gd, 0, none⟩) nd nd, .slice AE le cE, .slice AL ll cL, .int .i64 c.queue] 26))
  obtain ⟨g4, hg4⟩ : ∃ g4, g4 = w3.heap.size := ⟨_, rfl⟩
  have HG4 := Lib.hid hg4
  clear hg4
  go_wp2_with fail
  rw [← HG4.out]
  rw [← HG4.out] at Y4
  generalize pa % H = k at *
  generalize pb % 2 = s at *
  refine wp_region_held_drew (S := fun W : World => Hid (AX w c D E L nd cd ne ce nl cl (pa : Int) (pb : Int) W) ∧ W.cell? ⟨w.heap.size, 0, none⟩ = some (.int .i64 c.hosts) ∧ W.cell? ⟨w.heap.size, 1, none⟩ = some (.int .i64 c.cycle) ∧ W.cell? ⟨w.heap.size, 2, none⟩ = some (.int .i64 c.delay) ∧ W.cell? ⟨w.heap.size, 3, none⟩ = some (.int .i64 c.window) ∧ W.cell? ⟨w.heap.size, 4, none⟩ = some (.int .i64 c.precision) ∧ W.cell? ⟨w.heap.size, 5, none⟩ = some (.slice D nd cd) ∧ W.cell? ⟨w.heap.size, 6, none⟩ = some (.slice E ne ce) ∧ W.cell? ⟨w.heap.size, 7, none⟩ = some (.slice L nl cl) ∧ W.cell? ⟨w.heap.size, 8, none⟩ = some (.int .i64 c.queue) ∧ W.cell? ⟨w.heap.size + 1, 0, none⟩ = some (.int .u8 (pa : Int)) ∧ W.cell? ⟨w.heap.size + 1, 1, none⟩ = some (.int .u8 (pb : Int))) (by kernel_rfl) (W4.out.drew.s) (fun hHeld => ?_)
  refine wpAnyH_take (i := 0) (oi := ⟨(some 21), _, _, _, _, _⟩) (v := ?_) rfl (by kernel_rfl) (by kernel_rfl) (by kernel_rfl) (fun _ _ _ h => h) (Or.inl ⟨by kernel_rfl, ?_⟩) (by assumption) ?_; rotate_left; (focus (intro w hSw; (try dsimp only at hSw); go_simp; (try with_reducible rfl)))
  simp only [Act.put, List.setIfInBounds_toArray, List.set_cons_zero, List.set_cons_succ]
  refine wpAnyH_take (i := 1) (oi := ⟨(some 22), _, _, _, _, _⟩) (v := ?_) rfl (by kernel_rfl) (by kernel_rfl) (by kernel_rfl) (fun _ _ _ h => h) (Or.inl ⟨by kernel_rfl, ?_⟩) (by assumption) ?_; rotate_left; (focus (intro w hSw; (try dsimp only at hSw); go_simp; (try with_reducible rfl)))
  simp only [Act.put, List.setIfInBounds_toArray, List.set_cons_zero, List.set_cons_succ]
  refine wpAnyH_take (i := 2) (oi := ⟨(some 23), _, _, _, _, _⟩) (v := ?_) rfl (by kernel_rfl) (by kernel_rfl) (by kernel_rfl) (fun _ _ _ h => h) (Or.inl ⟨by kernel_rfl, ?_⟩) (by assumption) ?_; rotate_left; (focus (intro w hSw; (try dsimp only at hSw); go_simp; (try with_reducible rfl)))
  simp only [Act.put, List.setIfInBounds_toArray, List.set_cons_zero, List.set_cons_succ]
  refine wpAnyH_take (i := 3) (oi := ⟨(some 24), _, _, _, _, _⟩) (v := ?_) rfl (by kernel_rfl) (by kernel_rfl) (by kernel_rfl) (fun _ _ _ h => h) (Or.inl ⟨by kernel_rfl, ?_⟩) (by assumption) ?_; rotate_left; (focus (intro w hSw; (try dsimp only at hSw); go_simp; (try with_reducible rfl)))
  simp only [Act.put, List.setIfInBounds_toArray, List.set_cons_zero, List.set_cons_succ]
  refine wpAnyH_take (i := 4) (oi := ⟨(some 25), _, _, _, _, _⟩) (v := ?_) rfl (by kernel_rfl) (by kernel_rfl) (by kernel_rfl) (fun _ _ _ h => h) (Or.inl ⟨by kernel_rfl, ?_⟩) (by assumption) ?_; rotate_left; (focus (intro w hSw; (try dsimp only at hSw); go_simp; (try with_reducible rfl)))
  simp only [Act.put, List.setIfInBounds_toArray, List.set_cons_zero, List.set_cons_succ]
  refine wpAnyH_take (i := 5) (oi := ⟨(some 26), _, _, _, _, _⟩) (v := ?_) rfl (by kernel_rfl) (by kernel_rfl) (by kernel_rfl) (fun _ _ _ h => h) (Or.inl ⟨by kernel_rfl, ?_⟩) (by assumption) ?_; rotate_left; (focus (intro w hSw; (try dsimp only at hSw); go_simp; (try with_reducible rfl)))
  simp only [Act.put, List.setIfInBounds_toArray, List.set_cons_zero, List.set_cons_succ]
  refine wpAnyH_take (i := 6) (oi := ⟨(some 27), _, _, _, _, _⟩) (v := ?_) rfl (by kernel_rfl) (by kernel_rfl) (by kernel_rfl) (fun _ _ _ h => h) (Or.inl ⟨by kernel_rfl, ?_⟩) (by assumption) ?_; rotate_left; (focus (intro w hSw; (try dsimp only at hSw); go_simp; (try with_reducible rfl)))
  simp only [Act.put, List.setIfInBounds_toArray, List.set_cons_zero, List.set_cons_succ]
  refine wpAnyH_take (i := 7) (oi := ⟨(some 28), _, _, _, _, _⟩) (v := ?_) rfl (by kernel_rfl) (by kernel_rfl) (by kernel_rfl) (fun _ _ _ h => h) (Or.inl ⟨by kernel_rfl, ?_⟩) (by assumption) ?_; rotate_left; (focus (intro w hSw; (try dsimp only at hSw); go_simp; (try with_reducible rfl)))
  simp only [Act.put, List.setIfInBounds_toArray, List.set_cons_zero, List.set_cons_succ]
  refine wpAnyH_take (i := 8) (oi := ⟨(some 29), _, _, _, _, _⟩) (v := ?_) rfl (by kernel_rfl) (by kernel_rfl) (by kernel_rfl) (fun _ _ _ h => h) (Or.inl ⟨by kernel_rfl, ?_⟩) (by assumption) ?_; rotate_left; (focus (intro w hSw; (try dsimp only at hSw); go_simp; (try with_reducible rfl)))
  simp only [Act.put, List.setIfInBounds_toArray, List.set_cons_zero, List.set_cons_succ]
  refine wpAnyH_take (i := 9) (oi := ⟨(some 30), _, _, _, _, _⟩) (v := ?_) rfl (by kernel_rfl) (by kernel_rfl) (by kernel_rfl) (fun _ _ _ h => h) (Or.inl ⟨by kernel_rfl, ?_⟩) (by assumption) ?_; rotate_left; (focus (intro w hSw; (try dsimp only at hSw); go_simp; (try with_reducible rfl)))
  simp only [Act.put, List.setIfInBounds_toArray, List.set_cons_zero, List.set_cons_succ]
  refine wpAnyH_take (i := 10) (oi := ⟨(some 8), _, _, _, _, _⟩) (v := ?_) rfl (by kernel_rfl) (by kernel_rfl) (by kernel_rfl) (fun _ _ _ h => h) (Or.inl ⟨by kernel_rfl, ?_⟩) (by assumption) ?_; rotate_left; (focus (intro w hSw; (try dsimp only at hSw); go_simp; (try with_reducible rfl)))
  simp only [Act.put, List.setIfInBounds_toArray, List.set_cons_zero, List.set_cons_succ]
  refine wpAnyH_take (i := 11) (oi := ⟨(some 9), _, _, _, _, _⟩) (v := ?_) rfl (by kernel_rfl) (by kernel_rfl) (by kernel_rfl) (fun _ _ _ h => h) (Or.inl ⟨by kernel_rfl, ?_⟩) (by assumption) ?_; rotate_left; (focus (intro w hSw; (try dsimp only at hSw); go_simp; (try with_reducible rfl)))
  simp only [Act.put, List.setIfInBounds_toArray, List.set_cons_zero, List.set_cons_succ]
  refine wpAnyH_done (by kernel_rfl) ?_ _
  obtain ⟨V, a0, a1, a2, a3, a4, a5, a6, a7, a8, p0, p1⟩ := hHeld
  obtain ⟨wz, hwz⟩ : ∃ wz, wz = (w3.alloc (Obj.cells #[.int .i64 c.hosts, .int .i64 c.cycle, .int .i64 c.delay, .int .i64 c.window, .int .i64 c.precision, .slice (some ⟨gd, 0, none⟩) nd nd, .slice AE le cE, .slice AL ll cL, .int .i64 c.queue] 26)).drew := ⟨_, rfl⟩
  have bz : Below w3.heap.size w3 wz := by rw [hwz]; exact (al (Below.refl _ _) _).drew
  have Yz : wz.heap[g4]? = some (Obj.cells #[.int .i64 c.hosts, .int .i64 c.cycle, .int .i64 c.delay, .int .i64 c.window, .int .i64 c.precision, .slice (some ⟨gd, 0, none⟩) nd nd, .slice AE le cE, .slice AL ll cL, .int .i64 c.queue] 26) := by rw [hwz]; exact Y4.out
  rw [← hwz] at V a0 a1 a2 a3 a4 a5 a6 a7 a8 p0 p1 ⊢
  clear hwz Y4 W4
  have HDz := Lib.hid (HD.out.below bz)
  obtain ⟨r, hr⟩ : ∃ r, c.delays[k]? = some r := ⟨_, List.getElem?_eq_getElem (by rw [← HM.out.nD]; exact LK.out)⟩
  have hr2 := HF5.out r (List.mem_of_getElem? hr)
  obtain ⟨v, hv, ho⟩ := HDz.out.row k r hr
  have hsl : s < r.length := by rw [hr2]; exact LS.out
  obtain ⟨y, hy⟩ : ∃ y, r[s]? = some y := ⟨_, List.getElem?_eq_getElem hsl⟩
  obtain ⟨gk, cp, hvf, hgk, hcell, hfz⟩ := own_cell ho (j := s) (u := .int .i64 y) (by unfold nums; rw [List.getElem?_map, hy]; rfl)
  subst hvf
  have hlo : w.heap.size ≤ gd := Nat.le_trans HS2.out HDz.out.hg
  have hne4 : ¬ g4 = gk := by
    intro e1
    rcases ho.2 with ⟨q1, _⟩ | ⟨g', cap, cur, q1, q2, q3, _⟩
    · cases q1
    · cases q1
      rw [← e1, Yz] at q3
      cases q3
  have hk2 := box_cell (i := k) HDz.out.hd (by rw [List.getElem?_toArray]; exact hv)
  have HS := Lib.hid (HDz.out.setRow (x := x) hv hr hsl)
  have bW : Below w.heap.size w (wz.setCell ⟨gk, s, none⟩ (.int .i64 x)) := V.out.b.b.setCell (by show w.heap.size ≤ gk; omega) _
  have Y6 : (wz.setCell ⟨gk, s, none⟩ (.int .i64 x)).heap[g4]? = some (Obj.cells #[.int .i64 c.hosts, .int .i64 c.cycle, .int .i64 c.delay, .int .i64 c.window, .int .i64 c.precision, .slice (some ⟨gd, 0, none⟩) nd nd, .slice AE le cE, .slice AL ll cL, .int .i64 c.queue] 26) := by
    rw [heap_setCell_other _ _ _ _ (by show g4 ≠ gk; exact hne4)]
    exact Yz
  have X6 : (wz.setCell ⟨gk, s, none⟩ (.int .i64 x)).heap[w.heap.size]? = some (Obj.cells #[.int .i64 c.hosts, .int .i64 c.cycle, .int .i64 c.delay, .int .i64 c.window, .int .i64 c.precision, .slice D nd cd, .slice E ne ce, .slice L nl cl, .int .i64 c.queue] 26) := by
    have hlt : w.heap.size < gk := by omega
    rw [heap_setCell_other _ _ _ _ (by show w.heap.size ≠ gk; omega)]
    exact V.out.b.x
  have z5 := box_cell (i := 5) Yz rfl
  have c2 := box_cell (i := 2) X6 rfl
  have y0 := box_cell (i := 0) Y6 rfl
  have y1 := box_cell (i := 1) Y6 rfl
  have y2 := box_cell (i := 2) Y6 rfl
  have y3 := box_cell (i := 3) Y6 rfl
  have y4 := box_cell (i := 4) Y6 rfl
  have y5 := box_cell (i := 5) Y6 rfl
  have y6 := box_cell (i := 6) Y6 rfl
  have y7 := box_cell (i := 7) Y6 rfl
  have y8 := box_cell (i := 8) Y6 rfl
  obtain ⟨E2, L2, ce2, cl2, e2, l2, hmem⟩ := HS.out.mem (by
      intro q hq
      have hq2 : q ∈ c.delays.set k (r.set s x) := hq
      rcases List.mem_or_eq_of_mem_set hq2 with h1 | h1
      · exact CM.wf c D E L nd cd ne ce nl cl HM.out q h1
      · subst h1
        refine ⟨?_, by rw [List.length_set, hr2]; decide⟩
        intro u hu
        rcases List.mem_or_eq_of_mem_set hu with h2 | h2
        · exact (CM.wf c D E L nd cd ne ce nl cl HM.out r (List.mem_of_getElem? hr)).1 u h2
        · subst h2
          exact wx) HM.out.he.u32 HM.out.hl.u32 (by
      show (c.delays.set k (r.set s x)).length ≤ maxLen
      rw [List.length_set, ← HM.out.nD]
      exact HM.out.mD)
  obtain ⟨rfl, rfl⟩ : AE = E2 ∧ cE = ce2 := by cases e2; exact ⟨rfl, rfl⟩
  obtain ⟨rfl, rfl⟩ : AL = L2 ∧ cL = cl2 := by cases l2; exact ⟨rfl, rfl⟩
  have CK := check_any _ _ _ _ _ _ _ _ _ _ _ hmem
  rw [chk_rows _ HZ.out, rowsOk_set (chk_ok HZ.out).2.2.2.1 hr hsl] at CK
  have CK2 : Calls Try.prog 11 #[.agg #[.int .i64 c.hosts, .int .i64 c.cycle, .int .i64 c.delay, .int .i64 c.window, .int .i64 c.precision, .slice (some ⟨gd, 0, none⟩) nd nd, .slice AE le cE, .slice AL ll cL, .int .i64 c.queue]] (wz.setCell ⟨gk, s, none⟩ (.int .i64 x)) fun r w' => r = .returned (.int .i64 (if btw x 0 c.delay then 0 else 4)) ∧ Below (wz.setCell ⟨gk, s, none⟩ (.int .i64 x)).heap.size (wz.setCell ⟨gk, s, none⟩ (.int .i64 x)) w' := by
    have e5 : nd = (c.delays.set k (r.set s x)).length := by rw [List.length_set, HM.out.nD]
    have e6 : le = c.entries.length := HLE.out.symm
    have e7 : ll = c.links.length := HLL.out.symm
    rw [e5, e6, e7]
    exact CK
  have HCK := Lib.hid CK2
  have HBW := Lib.hid bW
  have lkI : (k : Int) < (nd : Int) := by have := LK.out; omega
  have lsI : (s : Int) < (r.length : Int) := by omega
  clear CK CK2 bW X6 Y6 Yz V HS ho hlo hne4 hgk bz a0 a1 a2 a3 a4 a5 a6 a7 a8 p0 p1 hmem hy hsl hv LK LS
  by_cases g1 : x < 0
  · rw [btw_false (show ¬ (0 ≤ x ∧ x ≤ c.delay) by omega)] at HCK
    go_wp2_with fail
    refine HCK.out.mono ?_
    rintro r9 w9 ⟨rfl, hb9⟩
    have B9 := Lib.hid (HBW.out.trans (hb9.mono HBW.out.size))
    clear hb9
    go_wp2
    go_ret
    exact ⟨rfl, B9.out⟩
  · by_cases g2 : c.delay < x
    · rw [btw_false (show ¬ (0 ≤ x ∧ x ≤ c.delay) by omega)] at HCK
      go_wp2_with fail
      refine HCK.out.mono ?_
      rintro r9 w9 ⟨rfl, hb9⟩
      have B9 := Lib.hid (HBW.out.trans (hb9.mono HBW.out.size))
      clear hb9
      go_wp2
      go_ret
      exact ⟨rfl, B9.out⟩
    · rw [btw_iff.2 (show 0 ≤ x ∧ x ≤ c.delay by omega)] at HCK
      go_wp2_with fail
      refine HCK.out.mono ?_
      rintro r9 w9 ⟨rfl, hb9⟩
      have B9 := Lib.hid (HBW.out.trans (hb9.mono HBW.out.size))
      clear hb9
      go_wp2
      go_ret
      exact ⟨rfl, B9.out⟩
theorem walk (c : Cfg) (D E L : Option Addr) (nd cd ne ce nl cl : Nat) (xs : List Int) (x : Int) (w : World) (h : CM w c D E L nd cd ne ce nl cl) (hl : xs.length = 2) (hw : ∀ y ∈ xs, (Lit.int .u8 y).wf = true) (wx : (Lit.int .i64 x).wf = true) : Calls Try.prog 8 #[.agg #[.int .i64 c.hosts, .int .i64 c.cycle, .int .i64 c.delay, .int .i64 c.window, .int .i64 c.precision, .slice D nd cd, .slice E ne ce, .slice L nl cl, .int .i64 c.queue], .agg (xs.map (Value.int .u8)).toArray, .int .i64 x] w fun r w' => r = .returned (.bool true) ∧ Below w.heap.size w w' := by
  obtain ⟨a, b, rfl⟩ := len2 hl
  have u8 : ∀ y : Int, (Lit.int .u8 y).wf = true → 0 ≤ y ∧ y ≤ 255 := fun y hy => by
    simp [Lit.wf] at hy
    exact hy
  have ha := u8 a (hw a (by simp))
  have hb := u8 b (hw b (by simp))
  obtain ⟨p, rfl⟩ := Int.eq_ofNat_of_zero_le ha.1
  obtain ⟨q, rfl⟩ := Int.eq_ofNat_of_zero_le hb.1
  exact walk2 c D E L nd cd ne ce nl cl p q x w wx h (by omega) (by omega)
set_option maxRecDepth 100000 in
/-- What the walk gives, for every argument and every world. -/
theorem contract (H : Type) (enc : TypeId × Value → H) (W : World) (base : Nat) (args : Array Value) (ds gs : List (DataW H)) (before : List MemPlace)
    (hval : ∀ (j : Nat) t v, Try.f8.params[j]? = some t → args[j]? = some v → Value.okWide Try.prog W .any base t v)
    (hW : DataW.Whole enc Try.prog Try.f8.params.toList Rows.confDelaysSpec.vars false W args.toList ds gs before) : 
    Calls Try.prog 8 args W fun e W' => ∃ v, e = .returned v ∧ Rows.confDelaysSpec.post enc Try.prog Try.f8 false true false false W args v W' := by
  have hW' := hW
  obtain ⟨p, q, hA0, hV, rfl, hfz, hnd⟩ := hW
  have hA : DataW.TrodAll enc Try.prog W 0 (fun _ => true) true Try.f8.params.toList args.toList ds p := hA0
  rw [Try.params8] at hA hval
  obtain ⟨v0, vs0, d0, ds0, p0, q0, hargs, rfl, rfl, h0, r0⟩ := trodAll_cons hA
  obtain ⟨v1, vs1, d1, ds1, p1, q1, rfl, rfl, rfl, h1, r1⟩ := trodAll_cons r0
  obtain ⟨v2, vs2, d2, ds2, p2, q2, rfl, rfl, rfl, h2, r2⟩ := trodAll_cons r1
  obtain ⟨rfl, rfl, rfl⟩ := trodAll_nil r2
  obtain rfl : args = #[v0, v1, v2] := by cases args; simp_all
  obtain ⟨rfl, rfl⟩ := trodVars_none hV
  obtain ⟨c0, D0, E0, L0, nd0, cd0, ne0, ce0, nl0, cl0, rfl, m0, s0⟩ := open_cfg (hval 0 26 v0 rfl rfl) h0
  obtain ⟨xs1, rfl, l1, w1⟩ := open_array Try.underlying48 Try.underlying5 (by kernel_rfl) (by kernel_rfl) (hval 1 48 v1 rfl rfl) h1
  obtain ⟨more, rfl, rfl, rfl, w2⟩ := open_int Try.underlying2 (hval 2 2 v2 rfl rfl) h2
  refine (walk c0 D0 E0 L0 nd0 cd0 ne0 ce0 nl0 cl0 xs1 more W m0 l1 w1 w2).mono fun e W' ⟨he, hb⟩ => ?_
  exact ⟨_, he, Shell.post_law laidOut (by kernel_rfl) rfl Try.underlying4 rfl hW' rfl hb⟩
theorem reads (os : Os) {H : Type} (enc : TypeId × Value → H) : ∃ places, DataW.whole enc Try.prog ((World.holding Try.prog os ⟨#[], #[], []⟩).forCall (fun _ _ => 0) ⟨#[], #[.agg #[.int .i64 0, .int .i64 0, .int .i64 0, .int .i64 0, .int .i64 0, .slice none 0 0, .slice none 0 0, .slice none 0 0, .int .i64 0], .agg #[.int .u8 0, .int .u8 0], .int .i64 0], []⟩).memory Try.f8.params.toList Rows.confDelaysSpec.vars false (#[Value.agg #[.int .i64 0, .int .i64 0, .int .i64 0, .int .i64 0, .int .i64 0, .slice none 0 0, .slice none 0 0, .slice none 0 0, .int .i64 0], Value.agg #[.int .u8 0, .int .u8 0], Value.int .i64 0]).toList 8 = some ([.agg [.lit (.int .i64 0), .lit (.int .i64 0), .lit (.int .i64 0), .lit (.int .i64 0), .lit (.int .i64 0), .nil, .nil, .nil, .lit (.int .i64 0)], .agg [.lit (.int .u8 0), .lit (.int .u8 0)], .lit (.int .i64 0)], [], places) :=
  ⟨[], by kernel_rfl⟩
set_option maxRecDepth 100000 in
theorem lifted (os : Os) (started : os.Started) (H : Type) (enc : TypeId × Value → H) (F : Stop.Interp) :
    ReturnsInHanded {} Try.checked os 8 .any ((OpenSpec.ofChange Rows.confDelaysSpec).preRow enc Try.prog Try.f8 Rows.confDelaysRow.domain false Rows.confDelaysRow.laid) (((OpenSpec.ofChange Rows.confDelaysSpec).at F).post enc Try.prog Try.f8 false true false false) := by
  obtain ⟨places, hx⟩ := reads os enc
  refine returnsInHanded_of_row (C := Try.checked) (s := OpenSpec.ofChange Rows.confDelaysSpec) own started (by kernel_rfl) Try.func8
    (witness_row_atRef (enc := enc) (C := Try.checked) false (World.holding Try.prog os ⟨#[], #[], []⟩) #[.agg #[.int .i64 0, .int .i64 0, .int .i64 0, .int .i64 0, .int .i64 0, .slice none 0 0, .slice none 0 0, .slice none 0 0, .int .i64 0], .agg #[.int .u8 0, .int .u8 0], .int .i64 0] rfl (by kernel_rfl) (by kernel_rfl) (by kernel_rfl)
      (OpenSpec.preRow_of_cond 8 hx (by kernel_rfl) (fun k hk => by cases hk) (by kernel_rfl) (laid_met os _))) ?_
  intro W base args ds gs before hval hW _ _ _ hL _ _
  exact contract H enc W base args ds gs before hval hW
theorem said : Rows.ConfDelaysSaid :=
  OpenClaim.holds_of_cond 8 Try.f8 rfl rfl rfl rfl rfl rfl rfl ⟨rfl, rfl, rfl, rfl, rfl⟩ rfl rfl rfl rfl rfl (by kernel_rfl) Try.func8 (by kernel_rfl)
    (of_decide_eq_true (by kernel_rfl)) (by unfold Func.isWrapper; first | (rw [if_pos (by decide +kernel)]; kernel_rfl) | (rw [if_neg (by decide +kernel)]; exact ⟨rfl, rfl⟩))
    (fun os started H enc _ F => by rw [OpenClaim.pre_eq_preRow]; exact lifted os started H enc F)
end Go.Proofs.Ytooamddipdjaoaa.ConfW.ConfDelays
