/- Equal, whole. -/
import Derived.Test.YthgfgnphncpoaaaConfS
namespace Go.Proofs.Ythgfgnphncpoaaa.ConfW
open Go.RowKit Shell
set_option maxHeartbeats 2000000 in
theorem eq_rows (A B : Option Addr) (n m ca cb : Nat) (xs ys : List (List Int)) (w : World) (hx : DL w A xs) (hy : DL w B ys) (hn : n = xs.length) (hm : m = ys.length) (hl : n ≤ maxLen) :
    Calls Try.prog 16 #[.slice A n ca, .slice B m cb, .func (.func 17) #[] #[]] w fun r w' => r = .returned (.bool (decide (xs = ys))) ∧ Below w.heap.size w w' := by
  have HX := Lib.hid hx
  have HY := Lib.hid hy
  have HN := Lib.hid hn
  have HM := Lib.hid hm
  have hll : n ≤ 9223372036854775807 := hl
  generalize hq : decide (xs = ys) = q
  have HQ := Lib.hid hq
  clear hx hy hn hm hl hq
  by_cases he : n = m
  · subst he
    go_enter Try.func16, Try.ntmps16
    go_wp2
    go_loopw [17] (fun iv wr => ∃ (k : Nat), k ≤ n ∧ iv = .int .i64 k ∧ Hid (Below w.heap.size w wr) ∧ Hid (∀ (j : Nat) x y, j < k → xs[j]? = some x → ys[j]? = some y → x = y)) (fun iv _ => n - (intOf iv).toNat)
    case atStart => exact ⟨0, Nat.zero_le _, rfl, Lib.hid (Below.refl _ _), Lib.hid (by intros; omega)⟩
    case round =>
      obtain ⟨k, hk, rfl, B, HI⟩ := hrel
      by_cases hlt : (k : Int) < (n : Int)
      · obtain ⟨x, hx⟩ : ∃ x, xs[k]? = some x := ⟨_, List.getElem?_eq_getElem (by rw [← HN.out]; omega)⟩
        obtain ⟨y, hy⟩ : ∃ y, ys[k]? = some y := ⟨_, List.getElem?_eq_getElem (by rw [← HM.out]; omega)⟩
        obtain ⟨a, Ax, cx, rfl, ha, hrx, hmx, -⟩ := (HX.out.below B.out) k x hx
        obtain ⟨b, Ay, cy, rfl, hb, hry, -⟩ := (HY.out.below B.out) k y hy
        have C := Lib.hid (eq_i64 Ax Ay x.length y.length cx cy x y wr hrx hry rfl rfl hmx)
        have HXX := Lib.hid hx
        have HYY := Lib.hid hy
        clear hx hy hrx hry hmx
        by_cases hxy : x = y
        · have HJ := Lib.hid (show ∀ (j : Nat) u v, j < k + 1 → xs[j]? = some u → ys[j]? = some v → u = v by
            intro j u v hj hu hv
            by_cases hjk : j = k
            · subst hjk
              rw [HXX.out] at hu
              rw [HYY.out] at hv
              cases hu
              cases hv
              exact hxy
            · exact HI.out j u v (by omega) hu hv)
          rw [decide_eq_true hxy] at C
          generalize x.length = lx at *
          generalize y.length = ly at *
          clear hxy
          go_wp2_with fail
          refine C.out.mono ?_
          rintro r w9 ⟨rfl, hb9⟩
          have B9 := Lib.hid (B.out.trans (hb9.mono B.out.size))
          clear hb9
          go_wp2
          go_roundw
          case rel => exact ⟨k + 1, by omega, by go_num, B9, HJ⟩
          case measure => simp [intOf]; omega
        · have HQ2 := Lib.hid (show q = false by rw [← HQ.out, decide_eq_false (list_ne HXX.out HYY.out hxy)])
          rw [decide_eq_false hxy] at C
          generalize x.length = lx at *
          generalize y.length = ly at *
          clear hxy
          go_wp2_with fail
          refine C.out.mono ?_
          rintro r w9 ⟨rfl, hb9⟩
          have B9 := Lib.hid (B.out.trans (hb9.mono B.out.size))
          clear hb9
          go_wp2
          go_ret
          exact ⟨by rw [HQ2.out]; rfl, B9.out⟩
      · obtain rfl : k = n := by omega
        have HQ2 := Lib.hid (show q = true by
          rw [← HQ.out, decide_eq_true_eq]
          exact list_eq (by rw [← HN.out, ← HM.out]) (fun j x y hx hy => HI.out j x y (by have := lt_of_get hx; rw [← HN.out] at this; omega) hx hy))
        go_wp2
        go_ret
        exact ⟨by rw [HQ2.out]; rfl, B.out⟩
  · have hne : ((n : Int) != (m : Int)) = true := by rw [bne_iff_ne]; omega
    have HQ2 := Lib.hid (show q = false by
      rw [← HQ.out, decide_eq_false_iff_not]
      intro e
      exact he (by rw [HN.out, HM.out, e]))
    clear he
    go_enter Try.func16, Try.ntmps16
    go_wp2
    go_ret
    exact ⟨by rw [HQ2.out]; rfl, Below.refl _ _⟩
/-- Are two configurations the same? -/
def eqC (a b : Cfg) : Bool := decide (a.hosts = b.hosts) && (decide (a.cycle = b.cycle) && (decide (a.delay = b.delay) && (decide (a.window = b.window) && (decide (a.precision = b.precision) && (decide (a.delays = b.delays) && (decide (a.entries = b.entries) && (decide (a.links = b.links) && decide (a.queue = b.queue))))))))
theorem eqC_self (a : Cfg) : eqC a a = true := by simp [eqC]
/-- Behind w0: two configurations of the call's own, in its first two blocks. -/
structure QX (w0 : World) (c : Cfg) (D E L : Option Addr) (nd cd ne ce nl cl : Nat) (d : Cfg) (D2 E2 L2 : Option Addr) (nd2 cd2 ne2 ce2 nl2 cl2 : Nat) (w : World) : Prop where
  b0 : Below w0.heap.size w0 w
  x : w.heap[w0.heap.size]? = some (Obj.cells #[.int .i64 c.hosts, .int .i64 c.cycle, .int .i64 c.delay, .int .i64 c.window, .int .i64 c.precision, .slice D nd cd, .slice E ne ce, .slice L nl cl, .int .i64 c.queue] 26)
  y : w.heap[w0.heap.size + 1]? = some (Obj.cells #[.int .i64 d.hosts, .int .i64 d.cycle, .int .i64 d.delay, .int .i64 d.window, .int .i64 d.precision, .slice D2 nd2 cd2, .slice E2 ne2 ce2, .slice L2 nl2 cl2, .int .i64 d.queue] 26)
section
variable {w0 w w1 : World} {c d : Cfg} {D E L D2 E2 L2 : Option Addr} {nd cd ne ce nl cl nd2 cd2 ne2 ce2 nl2 cl2 : Nat}
theorem QX.next (h : QX w0 c D E L nd cd ne ce nl cl d D2 E2 L2 nd2 cd2 ne2 ce2 nl2 cl2 w) (b : Below w.heap.size w w1) : QX w0 c D E L nd cd ne ce nl cl d D2 E2 L2 nd2 cd2 ne2 ce2 nl2 cl2 w1 := ⟨h.b0.trans (b.mono h.b0.size), row_below b h.x, row_below b h.y⟩
theorem QX.start : QX w0 c D E L nd cd ne ce nl cl d D2 E2 L2 nd2 cd2 ne2 ce2 nl2 cl2 ((w0.alloc (Obj.cells #[.int .i64 c.hosts, .int .i64 c.cycle, .int .i64 c.delay, .int .i64 c.window, .int .i64 c.precision, .slice D nd cd, .slice E ne ce, .slice L nl cl, .int .i64 c.queue] 26)).alloc (Obj.cells #[.int .i64 d.hosts, .int .i64 d.cycle, .int .i64 d.delay, .int .i64 d.window, .int .i64 d.precision, .slice D2 nd2 cd2, .slice E2 ne2 ce2, .slice L2 nl2 cl2, .int .i64 d.queue] 26)) :=
  ⟨al (al (Below.refl _ _) _) _, row_below (al (Below.refl _ _) _) (heap_alloc_new w0 _), by
    have h1 := heap_alloc_new (w0.alloc (Obj.cells #[.int .i64 c.hosts, .int .i64 c.cycle, .int .i64 c.delay, .int .i64 c.window, .int .i64 c.precision, .slice D nd cd, .slice E ne ce, .slice L nl cl, .int .i64 c.queue] 26)) (Obj.cells #[.int .i64 d.hosts, .int .i64 d.cycle, .int .i64 d.delay, .int .i64 d.window, .int .i64 d.precision, .slice D2 nd2 cd2, .slice E2 ne2 ce2, .slice L2 nl2 cl2, .int .i64 d.queue] 26)
    rwa [show (w0.alloc (Obj.cells #[.int .i64 c.hosts, .int .i64 c.cycle, .int .i64 c.delay, .int .i64 c.window, .int .i64 c.precision, .slice D nd cd, .slice E ne ce, .slice L nl cl, .int .i64 c.queue] 26)).heap.size = w0.heap.size + 1 by simp] at h1⟩
theorem QX.s (h : QX w0 c D E L nd cd ne ce nl cl d D2 E2 L2 nd2 cd2 ne2 ce2 nl2 cl2 w) : Hid (QX w0 c D E L nd cd ne ce nl cl d D2 E2 L2 nd2 cd2 ne2 ce2 nl2 cl2 w) ∧ w.cell? ⟨w0.heap.size, 0, none⟩ = some (.int .i64 c.hosts) ∧ w.cell? ⟨w0.heap.size, 1, none⟩ = some (.int .i64 c.cycle) ∧ w.cell? ⟨w0.heap.size, 2, none⟩ = some (.int .i64 c.delay) ∧ w.cell? ⟨w0.heap.size, 3, none⟩ = some (.int .i64 c.window) ∧ w.cell? ⟨w0.heap.size, 4, none⟩ = some (.int .i64 c.precision) ∧ w.cell? ⟨w0.heap.size, 5, none⟩ = some (.slice D nd cd) ∧ w.cell? ⟨w0.heap.size, 6, none⟩ = some (.slice E ne ce) ∧ w.cell? ⟨w0.heap.size, 7, none⟩ = some (.slice L nl cl) ∧ w.cell? ⟨w0.heap.size, 8, none⟩ = some (.int .i64 c.queue) ∧ w.cell? ⟨w0.heap.size + 1, 0, none⟩ = some (.int .i64 d.hosts) ∧ w.cell? ⟨w0.heap.size + 1, 1, none⟩ = some (.int .i64 d.cycle) ∧ w.cell? ⟨w0.heap.size + 1, 2, none⟩ = some (.int .i64 d.delay) ∧ w.cell? ⟨w0.heap.size + 1, 3, none⟩ = some (.int .i64 d.window) ∧ w.cell? ⟨w0.heap.size + 1, 4, none⟩ = some (.int .i64 d.precision) ∧ w.cell? ⟨w0.heap.size + 1, 5, none⟩ = some (.slice D2 nd2 cd2) ∧ w.cell? ⟨w0.heap.size + 1, 6, none⟩ = some (.slice E2 ne2 ce2) ∧ w.cell? ⟨w0.heap.size + 1, 7, none⟩ = some (.slice L2 nl2 cl2) ∧ w.cell? ⟨w0.heap.size + 1, 8, none⟩ = some (.int .i64 d.queue) :=
  ⟨Lib.hid h, box_cell h.x rfl, box_cell h.x rfl, box_cell h.x rfl, box_cell h.x rfl, box_cell h.x rfl, box_cell h.x rfl, box_cell h.x rfl, box_cell h.x rfl, box_cell h.x rfl, box_cell h.y rfl, box_cell h.y rfl, box_cell h.y rfl, box_cell h.y rfl, box_cell h.y rfl, box_cell h.y rfl, box_cell h.y rfl, box_cell h.y rfl, box_cell h.y rfl⟩
end
set_option maxHeartbeats 8000000 in
set_option maxRecDepth 100000 in
theorem equal_any (c : Cfg) (D E L : Option Addr) (nd cd ne ce nl cl : Nat) (d : Cfg) (D2 E2 L2 : Option Addr) (nd2 cd2 ne2 ce2 nl2 cl2 : Nat) (w : World) (h : CM w c D E L nd cd ne ce nl cl) (g : CM w d D2 E2 L2 nd2 cd2 ne2 ce2 nl2 cl2) : Calls Try.prog 5 #[.agg #[.int .i64 c.hosts, .int .i64 c.cycle, .int .i64 c.delay, .int .i64 c.window, .int .i64 c.precision, .slice D nd cd, .slice E ne ce, .slice L nl cl, .int .i64 c.queue], .agg #[.int .i64 d.hosts, .int .i64 d.cycle, .int .i64 d.delay, .int .i64 d.window, .int .i64 d.precision, .slice D2 nd2 cd2, .slice E2 ne2 ce2, .slice L2 nl2 cl2, .int .i64 d.queue]] w fun r w' => r = .returned (.bool (eqC c d)) ∧ Below w.heap.size w w' := by
  have H1 := Lib.hid (fun W (hW : QX w c D E L nd cd ne ce nl cl d D2 E2 L2 nd2 cd2 ne2 ce2 nl2 cl2 W) => (eq_rows D D2 nd nd2 cd cd2 c.delays d.delays W (h.hd.below hW.b0) (g.hd.below hW.b0) h.nD g.nD h.mD).mono (fun r W' (p : _ ∧ _) => (⟨p.1, hW.next p.2⟩ : r = _ ∧ QX w c D E L nd cd ne ce nl cl d D2 E2 L2 nd2 cd2 ne2 ce2 nl2 cl2 W')))
  have H2 := Lib.hid (fun W (hW : QX w c D E L nd cd ne ce nl cl d D2 E2 L2 nd2 cd2 ne2 ce2 nl2 cl2 W) => (eq_Entry E E2 ne ne2 ce ce2 c.entries d.entries W (h.he.below hW.b0) (g.he.below hW.b0) h.nE g.nE h.mE).mono (fun r W' (p : _ ∧ _) => (⟨p.1, hW.next p.2⟩ : r = _ ∧ QX w c D E L nd cd ne ce nl cl d D2 E2 L2 nd2 cd2 ne2 ce2 nl2 cl2 W')))
  have H3 := Lib.hid (fun W (hW : QX w c D E L nd cd ne ce nl cl d D2 E2 L2 nd2 cd2 ne2 ce2 nl2 cl2 W) => (eq_Link L L2 nl nl2 cl cl2 c.links d.links W (h.hl.below hW.b0) (g.hl.below hW.b0) h.nL g.nL h.mL).mono (fun r W' (p : _ ∧ _) => (⟨p.1, hW.next p.2⟩ : r = _ ∧ QX w c D E L nd cd ne ce nl cl d D2 E2 L2 nd2 cd2 ne2 ce2 nl2 cl2 W')))
  clear h g
  generalize hq : eqC c d = q
  have HQ := Lib.hid (show q = eqC c d from hq.symm)
  clear hq
  unfold eqC at HQ
  have X := Lib.hid (QX.start (w0 := w) (c := c) (D := D) (E := E) (L := L) (nd := nd) (cd := cd) (ne := ne) (ce := ce) (nl := nl) (cl := cl) (d := d) (D2 := D2) (E2 := E2) (L2 := L2) (nd2 := nd2) (cd2 := cd2) (ne2 := ne2) (ce2 := ce2) (nl2 := nl2) (cl2 := cl2))
  by_cases f0 : c.hosts = d.hosts
  · have e0 : (c.hosts == d.hosts) = true := by rw [beq_iff_eq]; exact f0
    rw [decide_eq_true f0, Bool.true_and] at HQ
    clear f0
    by_cases f1 : c.cycle = d.cycle
    · have e1 : (c.cycle == d.cycle) = true := by rw [beq_iff_eq]; exact f1
      rw [decide_eq_true f1, Bool.true_and] at HQ
      clear f1
      by_cases f2 : c.delay = d.delay
      · have e2 : (c.delay == d.delay) = true := by rw [beq_iff_eq]; exact f2
        rw [decide_eq_true f2, Bool.true_and] at HQ
        clear f2
        by_cases f3 : c.window = d.window
        · have e3 : (c.window == d.window) = true := by rw [beq_iff_eq]; exact f3
          rw [decide_eq_true f3, Bool.true_and] at HQ
          clear f3
          by_cases f4 : c.precision = d.precision
          · have e4 : (c.precision == d.precision) = true := by rw [beq_iff_eq]; exact f4
            rw [decide_eq_true f4, Bool.true_and] at HQ
            clear f4
            go_enter Try.func5, Try.ntmps5
            go_wp2_with fail
            refine (H1.out _ X.out).mono ?_
            rintro r w1 ⟨rfl, hx⟩
            have X := Lib.hid hx
            clear hx
            obtain ⟨-, a00, a01, a02, a03, a04, a05, a06, a07, a08, b00, b01, b02, b03, b04, b05, b06, b07, b08⟩ := X.out.s
            by_cases l0 : c.delays = d.delays
            case neg =>
              have HQ2 := Lib.hid (show q = false by rw [HQ.out, decide_eq_false l0, Bool.false_and])
              rw [decide_eq_false l0]
              clear l0
              go_wp2
              go_ret
              exact ⟨by rw [HQ2.out]; rfl, X.out.b0⟩
            rw [decide_eq_true l0, Bool.true_and] at HQ
            rw [decide_eq_true l0]
            clear l0
            go_wp2_with fail
            refine (H2.out _ X.out).mono ?_
            rintro r w2 ⟨rfl, hx⟩
            have X := Lib.hid hx
            clear hx
            obtain ⟨-, a10, a11, a12, a13, a14, a15, a16, a17, a18, b10, b11, b12, b13, b14, b15, b16, b17, b18⟩ := X.out.s
            by_cases l1 : c.entries = d.entries
            case neg =>
              have HQ2 := Lib.hid (show q = false by rw [HQ.out, decide_eq_false l1, Bool.false_and])
              rw [decide_eq_false l1]
              clear l1
              go_wp2
              go_ret
              exact ⟨by rw [HQ2.out]; rfl, X.out.b0⟩
            rw [decide_eq_true l1, Bool.true_and] at HQ
            rw [decide_eq_true l1]
            clear l1
            go_wp2_with fail
            refine (H3.out _ X.out).mono ?_
            rintro r w3 ⟨rfl, hx⟩
            have X := Lib.hid hx
            clear hx
            obtain ⟨-, a20, a21, a22, a23, a24, a25, a26, a27, a28, b20, b21, b22, b23, b24, b25, b26, b27, b28⟩ := X.out.s
            by_cases l2 : c.links = d.links
            case neg =>
              have HQ2 := Lib.hid (show q = false by rw [HQ.out, decide_eq_false l2, Bool.false_and])
              rw [decide_eq_false l2]
              clear l2
              go_wp2
              go_ret
              exact ⟨by rw [HQ2.out]; rfl, X.out.b0⟩
            rw [decide_eq_true l2, Bool.true_and] at HQ
            rw [decide_eq_true l2]
            clear l2
            by_cases f8 : c.queue = d.queue
            · have e8 : (c.queue == d.queue) = true := by rw [beq_iff_eq]; exact f8
              rw [decide_eq_true f8] at HQ
              clear f8
              go_wp2
              go_ret
              exact ⟨by rw [HQ.out]; rfl, X.out.b0⟩
            · have e8 : (c.queue == d.queue) = false := by rw [beq_eq_false_iff_ne]; exact f8
              rw [decide_eq_false f8] at HQ
              clear f8
              go_wp2
              go_ret
              exact ⟨by rw [HQ.out]; rfl, X.out.b0⟩
          · have e4 : (c.precision == d.precision) = false := by rw [beq_eq_false_iff_ne]; exact f4
            have HQ2 := Lib.hid (show q = false by rw [HQ.out, decide_eq_false f4, Bool.false_and])
            clear f4
            go_enter Try.func5, Try.ntmps5
            go_wp2
            go_ret
            exact ⟨by rw [HQ2.out]; rfl, X.out.b0⟩
        · have e3 : (c.window == d.window) = false := by rw [beq_eq_false_iff_ne]; exact f3
          have HQ2 := Lib.hid (show q = false by rw [HQ.out, decide_eq_false f3, Bool.false_and])
          clear f3
          go_enter Try.func5, Try.ntmps5
          go_wp2
          go_ret
          exact ⟨by rw [HQ2.out]; rfl, X.out.b0⟩
      · have e2 : (c.delay == d.delay) = false := by rw [beq_eq_false_iff_ne]; exact f2
        have HQ2 := Lib.hid (show q = false by rw [HQ.out, decide_eq_false f2, Bool.false_and])
        clear f2
        go_enter Try.func5, Try.ntmps5
        go_wp2
        go_ret
        exact ⟨by rw [HQ2.out]; rfl, X.out.b0⟩
    · have e1 : (c.cycle == d.cycle) = false := by rw [beq_eq_false_iff_ne]; exact f1
      have HQ2 := Lib.hid (show q = false by rw [HQ.out, decide_eq_false f1, Bool.false_and])
      clear f1
      go_enter Try.func5, Try.ntmps5
      go_wp2
      go_ret
      exact ⟨by rw [HQ2.out]; rfl, X.out.b0⟩
  · have e0 : (c.hosts == d.hosts) = false := by rw [beq_eq_false_iff_ne]; exact f0
    have HQ2 := Lib.hid (show q = false by rw [HQ.out, decide_eq_false f0, Bool.false_and])
    clear f0
    go_enter Try.func5, Try.ntmps5
    go_wp2
    go_ret
    exact ⟨by rw [HQ2.out]; rfl, X.out.b0⟩
end Go.Proofs.Ythgfgnphncpoaaa.ConfW

