/- tocsinlaw08.ConfForwards. -/
import Derived.Test.YtooamddipdjaoaaConfLay
import Derived.Test.YtooamddipdjaoaaConfL
namespace Go.Proofs.Ytooamddipdjaoaa.ConfW.ConfForwards
open Go.ChangeShapes Go.WideShapes Go.ChangeAt Go.RowKit Shell
theorem chk_zero {c : Cfg} (h : chk c = 0) : btw c.cycle 1 1073741824 = true ∧ phOk c = true ∧ prs snd c.entries = false ∧ prs (rcv c) c.entries = false := by
  unfold chk at h
  cases b1 : btw c.hosts 1 6 <;> rw [b1] at h <;> simp only [Bool.false_eq_true, if_false, if_true] at h
  · omega
  cases b2 : btw c.cycle 1 1073741824 <;> rw [b2] at h <;> simp only [Bool.false_eq_true, if_false, if_true] at h
  · omega
  cases b3 : spansT c <;> rw [b3] at h <;> simp only [Bool.false_eq_true, if_false, if_true] at h
  · omega
  cases b4 : rowsOk c <;> rw [b4] at h <;> simp only [Bool.false_eq_true, if_false, if_true] at h
  · omega
  cases b5 : entOk c <;> rw [b5] at h <;> simp only [Bool.false_eq_true, if_false, if_true] at h
  · omega
  cases b6 : phOk c <;> rw [b6] at h <;> simp only [Bool.false_eq_true, if_false, if_true] at h
  · omega
  cases b7 : prs snd c.entries <;> rw [b7] at h <;> simp only [Bool.false_eq_true, if_false, if_true] at h
  · cases b8 : prs (rcv c) c.entries <;> rw [b8] at h <;> simp only [Bool.false_eq_true, if_false, if_true] at h
    · exact ⟨rfl, rfl, rfl, rfl⟩
    · omega
  · omega
set_option maxHeartbeats 8000000 in
set_option maxRecDepth 100000 in
theorem walk (c : Cfg) (D E L : Option Addr) (nd cd ne ce nl cl : Nat) (w : World) (h : CM w c D E L nd cd ne ce nl cl) : Calls Try.prog 5 #[.agg #[.int .i64 c.hosts, .int .i64 c.cycle, .int .i64 c.delay, .int .i64 c.window, .int .i64 c.precision, .slice D nd cd, .slice E ne ce, .slice L nl cl, .int .i64 c.queue]] w fun r w' => r = .returned (.bool true) ∧ Below w.heap.size w w' := by
  have HM := Lib.hid h
  have hm : ne ≤ 9223372036854775807 := h.mE
  clear h
  have X := Lib.hid (CX.start (w0 := w) (c := c) (D := D) (E := E) (L := L) (nd := nd) (cd := cd) (ne := ne) (ce := ce) (nl := nl) (cl := cl))
  have HC := Lib.hid (fun W (hW : CX w c D E L nd cd ne ce nl cl W) => check_any c D E L nd cd ne ce nl cl W (hW.mem HM.out))
  by_cases hz : chk c = 0
  case neg =>
    have hz2 : (chk c != 0) = true := by rw [bne_iff_ne]; exact hz
    generalize chk c = k at *
    clear hz
    go_enter Try.func5, Try.ntmps5
    go_wp2_with fail
    refine (fixed_any _).mono ?_
    rintro r w1 ⟨rfl, hb⟩
    have X1 := Lib.hid (X.out.next hb)
    clear hb
    obtain ⟨-, a0, a1, a2, a3, a4, a5, a6, a7, a8⟩ := X1.out.s
    go_wp2_with fail
    refine (HC.out _ X1.out).mono ?_
    rintro r w2 ⟨rfl, hb⟩
    have X2 := Lib.hid (X1.out.next hb)
    clear hb
    go_wp2
    go_ret
    exact ⟨rfl, X2.out.b⟩
  have HZ := Lib.hid (chk_zero hz)
  rw [hz] at HC
  clear hz
  go_enter Try.func5, Try.ntmps5
  go_wp2_with fail
  refine (fixed_any _).mono ?_
  rintro r w1 ⟨rfl, hb⟩
  have X1 := Lib.hid (X.out.next hb)
  clear hb
  obtain ⟨-, a0, a1, a2, a3, a4, a5, a6, a7, a8⟩ := X1.out.s
  go_wp2_with fail
  refine (HC.out _ X1.out).mono ?_
  rintro r w2 ⟨rfl, hb⟩
  have X2 := Lib.hid (X1.out.next hb)
  clear hb X a0 a1 a2 a3 a4 a5 a6 a7 a8
  obtain ⟨-, a0, a1, a2, a3, a4, a5, a6, a7, a8⟩ := X2.out.s
  clear X1
  go_wp2
  go_loopw [19] (fun iv wr => ∃ (n : Nat), n ≤ ne ∧ iv = .int .i64 n ∧ Hid (CX w c D E L nd cd ne ce nl cl wr)) (fun iv _ => ne - (intOf iv).toNat)
  case atStart => exact ⟨0, Nat.zero_le _, rfl, X2⟩
  case round =>
    clear X2 a0 a1 a2 a3 a4 a5 a6 a7 a8
    obtain ⟨n, hk, rfl, X⟩ := hrel
    obtain ⟨-, a0, a1, a2, a3, a4, a5, a6, a7, a8⟩ := X.out.s
    by_cases hlt : (n : Int) < (ne : Int)
    · obtain ⟨x, hx⟩ : ∃ x, c.entries[n]? = some x := ⟨_, List.getElem?_eq_getElem (by rw [← HM.out.nE]; omega)⟩
      obtain ⟨b, off, rfl, ⟨x0, x1, x2, x3⟩, hxb⟩ := (X.out.mem HM.out).he n x hx
      have HX := Lib.hid hx
      have HXB := Lib.hid hxb
      clear hx hxb
      have X1 := Lib.hid (X.out.ent x)
      obtain ⟨g, hg⟩ : ∃ g, g = wr.heap.size := ⟨_, rfl⟩
      rw [← hg] at X1
      have HG := Lib.hid hg
      clear hg
      have X1b := X1
      rw [HG.out] at X1b
      obtain ⟨-, b0, b1, b2, b3, b4, b5, b6, b7, b8, d0, d1, d2, d3⟩ := X1b.out.s
      have k2 : (ne : Int) ≤ (ce : Int) := by have := HM.out.cE; omega
      have k3 : (n : Int) ≤ (ce : Int) := by omega
      clear X1b
      go_wp2
      rw [← HG.out]
      clear a0 a1 a2 a3 a4 a5 a6 a7 a8 x0 x1 x2 x3 b0 b1 b2 b3 b4 b5 b6 b7 b8 d0 d1 d2 d3
      go_loopw [29] (fun jv wr => ∃ (j : Nat), j ≤ n ∧ jv = .int .i64 j ∧ Hid (EX w g c D (some ⟨b, off, none⟩) L nd cd ne ce nl cl x wr)) (fun jv _ => n - (intOf jv).toNat)
      case atStart => exact ⟨0, Nat.zero_le _, rfl, X1⟩
      case round =>
        clear X1
        obtain ⟨j, hj, rfl, Y⟩ := hrel
        obtain ⟨-, a0, a1, a2, a3, a4, a5, a6, a7, a8, e0, e1, e2, e3⟩ := Y.out.s
        by_cases hlt2 : (j : Int) < (n : Int)
        · obtain ⟨y, hy⟩ : ∃ y, c.entries[j]? = some y := ⟨_, List.getElem?_eq_getElem (by rw [← HM.out.nE]; omega)⟩
          obtain ⟨b9, o9, hbo, ⟨y0, y1, y2, y3⟩, hyb⟩ := (HM.out.below Y.out.b).he j y hy
          cases hbo
          have HY := Lib.hid hy
          clear hy
          have Z1 := Lib.hid (Y.out.ent y)
          obtain ⟨g2, hg2⟩ : ∃ g2, g2 = wr.heap.size := ⟨_, rfl⟩
          rw [← hg2] at Z1
          have HG2 := Lib.hid hg2
          clear hg2
          have hji : j < n := by omega
          have S7 := prs_at HZ.out.2.2.1 hji HY.out HX.out
          have S8 := prs_at HZ.out.2.2.2 hji HY.out HX.out
          unfold snd at S7
          unfold rcv at S8
          have FX1 := Lib.hid (show ∀ W, (Hid (GX w g g2 c D (some ⟨b, off, none⟩) L nd cd ne ce nl cl x y W) ∧ W.cell? ⟨w.heap.size, 0, none⟩ = some (.int .i64 c.hosts) ∧ W.cell? ⟨w.heap.size, 1, none⟩ = some (.int .i64 c.cycle) ∧ W.cell? ⟨w.heap.size, 2, none⟩ = some (.int .i64 c.delay) ∧ W.cell? ⟨w.heap.size, 3, none⟩ = some (.int .i64 c.window) ∧ W.cell? ⟨w.heap.size, 4, none⟩ = some (.int .i64 c.precision) ∧ W.cell? ⟨w.heap.size, 5, none⟩ = some (.slice D nd cd) ∧ W.cell? ⟨w.heap.size, 6, none⟩ = some (.slice (some ⟨b, off, none⟩) ne ce) ∧ W.cell? ⟨w.heap.size, 7, none⟩ = some (.slice L nl cl) ∧ W.cell? ⟨w.heap.size, 8, none⟩ = some (.int .i64 c.queue) ∧ W.cell? ⟨g, 0, none⟩ = some (.int .i64 x.a) ∧ W.cell? ⟨g, 1, none⟩ = some (.int .u32 x.b) ∧ W.cell? ⟨g, 2, none⟩ = some (.int .i64 x.c) ∧ W.cell? ⟨g, 3, none⟩ = some (.int .i64 x.d) ∧ W.cell? ⟨g2, 0, none⟩ = some (.int .i64 y.a) ∧ W.cell? ⟨g2, 1, none⟩ = some (.int .u32 y.b) ∧ W.cell? ⟨g2, 2, none⟩ = some (.int .i64 y.c) ∧ W.cell? ⟨g2, 3, none⟩ = some (.int .i64 y.d)) → Calls Try.prog 16 #[.agg #[.int .i64 c.hosts, .int .i64 c.cycle, .int .i64 c.delay, .int .i64 c.window, .int .i64 c.precision, .slice D nd cd, .slice (some ⟨b, off, none⟩) ne ce, .slice L nl cl, .int .i64 c.queue], .agg #[.int .i64 x.a, .int .u32 x.b, .int .i64 x.c, .int .i64 x.d]] W fun r W' => r = .returned (.int .i64 (fwd c x)) ∧ (Hid (GX w g g2 c D (some ⟨b, off, none⟩) L nd cd ne ce nl cl x y W') ∧ W'.cell? ⟨w.heap.size, 0, none⟩ = some (.int .i64 c.hosts) ∧ W'.cell? ⟨w.heap.size, 1, none⟩ = some (.int .i64 c.cycle) ∧ W'.cell? ⟨w.heap.size, 2, none⟩ = some (.int .i64 c.delay) ∧ W'.cell? ⟨w.heap.size, 3, none⟩ = some (.int .i64 c.window) ∧ W'.cell? ⟨w.heap.size, 4, none⟩ = some (.int .i64 c.precision) ∧ W'.cell? ⟨w.heap.size, 5, none⟩ = some (.slice D nd cd) ∧ W'.cell? ⟨w.heap.size, 6, none⟩ = some (.slice (some ⟨b, off, none⟩) ne ce) ∧ W'.cell? ⟨w.heap.size, 7, none⟩ = some (.slice L nl cl) ∧ W'.cell? ⟨w.heap.size, 8, none⟩ = some (.int .i64 c.queue) ∧ W'.cell? ⟨g, 0, none⟩ = some (.int .i64 x.a) ∧ W'.cell? ⟨g, 1, none⟩ = some (.int .u32 x.b) ∧ W'.cell? ⟨g, 2, none⟩ = some (.int .i64 x.c) ∧ W'.cell? ⟨g, 3, none⟩ = some (.int .i64 x.d) ∧ W'.cell? ⟨g2, 0, none⟩ = some (.int .i64 y.a) ∧ W'.cell? ⟨g2, 1, none⟩ = some (.int .u32 y.b) ∧ W'.cell? ⟨g2, 2, none⟩ = some (.int .i64 y.c) ∧ W'.cell? ⟨g2, 3, none⟩ = some (.int .i64 y.d)) from fun W hS => (forward_any c D (some ⟨b, off, none⟩) L nd cd ne ce nl cl x W HXB.out).mono fun r W' ⟨hr, hb⟩ => ⟨hr, (hS.1.out.next hb).s⟩)
          have FY1 := Lib.hid (show ∀ W, (Hid (GX w g g2 c D (some ⟨b, off, none⟩) L nd cd ne ce nl cl x y W) ∧ W.cell? ⟨w.heap.size, 0, none⟩ = some (.int .i64 c.hosts) ∧ W.cell? ⟨w.heap.size, 1, none⟩ = some (.int .i64 c.cycle) ∧ W.cell? ⟨w.heap.size, 2, none⟩ = some (.int .i64 c.delay) ∧ W.cell? ⟨w.heap.size, 3, none⟩ = some (.int .i64 c.window) ∧ W.cell? ⟨w.heap.size, 4, none⟩ = some (.int .i64 c.precision) ∧ W.cell? ⟨w.heap.size, 5, none⟩ = some (.slice D nd cd) ∧ W.cell? ⟨w.heap.size, 6, none⟩ = some (.slice (some ⟨b, off, none⟩) ne ce) ∧ W.cell? ⟨w.heap.size, 7, none⟩ = some (.slice L nl cl) ∧ W.cell? ⟨w.heap.size, 8, none⟩ = some (.int .i64 c.queue) ∧ W.cell? ⟨g, 0, none⟩ = some (.int .i64 x.a) ∧ W.cell? ⟨g, 1, none⟩ = some (.int .u32 x.b) ∧ W.cell? ⟨g, 2, none⟩ = some (.int .i64 x.c) ∧ W.cell? ⟨g, 3, none⟩ = some (.int .i64 x.d) ∧ W.cell? ⟨g2, 0, none⟩ = some (.int .i64 y.a) ∧ W.cell? ⟨g2, 1, none⟩ = some (.int .u32 y.b) ∧ W.cell? ⟨g2, 2, none⟩ = some (.int .i64 y.c) ∧ W.cell? ⟨g2, 3, none⟩ = some (.int .i64 y.d)) → Calls Try.prog 16 #[.agg #[.int .i64 c.hosts, .int .i64 c.cycle, .int .i64 c.delay, .int .i64 c.window, .int .i64 c.precision, .slice D nd cd, .slice (some ⟨b, off, none⟩) ne ce, .slice L nl cl, .int .i64 c.queue], .agg #[.int .i64 y.a, .int .u32 y.b, .int .i64 y.c, .int .i64 y.d]] W fun r W' => r = .returned (.int .i64 (fwd c y)) ∧ (Hid (GX w g g2 c D (some ⟨b, off, none⟩) L nd cd ne ce nl cl x y W') ∧ W'.cell? ⟨w.heap.size, 0, none⟩ = some (.int .i64 c.hosts) ∧ W'.cell? ⟨w.heap.size, 1, none⟩ = some (.int .i64 c.cycle) ∧ W'.cell? ⟨w.heap.size, 2, none⟩ = some (.int .i64 c.delay) ∧ W'.cell? ⟨w.heap.size, 3, none⟩ = some (.int .i64 c.window) ∧ W'.cell? ⟨w.heap.size, 4, none⟩ = some (.int .i64 c.precision) ∧ W'.cell? ⟨w.heap.size, 5, none⟩ = some (.slice D nd cd) ∧ W'.cell? ⟨w.heap.size, 6, none⟩ = some (.slice (some ⟨b, off, none⟩) ne ce) ∧ W'.cell? ⟨w.heap.size, 7, none⟩ = some (.slice L nl cl) ∧ W'.cell? ⟨w.heap.size, 8, none⟩ = some (.int .i64 c.queue) ∧ W'.cell? ⟨g, 0, none⟩ = some (.int .i64 x.a) ∧ W'.cell? ⟨g, 1, none⟩ = some (.int .u32 x.b) ∧ W'.cell? ⟨g, 2, none⟩ = some (.int .i64 x.c) ∧ W'.cell? ⟨g, 3, none⟩ = some (.int .i64 x.d) ∧ W'.cell? ⟨g2, 0, none⟩ = some (.int .i64 y.a) ∧ W'.cell? ⟨g2, 1, none⟩ = some (.int .u32 y.b) ∧ W'.cell? ⟨g2, 2, none⟩ = some (.int .i64 y.c) ∧ W'.cell? ⟨g2, 3, none⟩ = some (.int .i64 y.d)) from fun W hS => (forward_any c D (some ⟨b, off, none⟩) L nd cd ne ce nl cl y W hyb).mono fun r W' ⟨hr, hb⟩ => ⟨hr, (hS.1.out.next hb).s⟩)
          have TX := Lib.hid (show ∀ W, (Hid (GX w g g2 c D (some ⟨b, off, none⟩) L nd cd ne ce nl cl x y W) ∧ W.cell? ⟨w.heap.size, 0, none⟩ = some (.int .i64 c.hosts) ∧ W.cell? ⟨w.heap.size, 1, none⟩ = some (.int .i64 c.cycle) ∧ W.cell? ⟨w.heap.size, 2, none⟩ = some (.int .i64 c.delay) ∧ W.cell? ⟨w.heap.size, 3, none⟩ = some (.int .i64 c.window) ∧ W.cell? ⟨w.heap.size, 4, none⟩ = some (.int .i64 c.precision) ∧ W.cell? ⟨w.heap.size, 5, none⟩ = some (.slice D nd cd) ∧ W.cell? ⟨w.heap.size, 6, none⟩ = some (.slice (some ⟨b, off, none⟩) ne ce) ∧ W.cell? ⟨w.heap.size, 7, none⟩ = some (.slice L nl cl) ∧ W.cell? ⟨w.heap.size, 8, none⟩ = some (.int .i64 c.queue) ∧ W.cell? ⟨g, 0, none⟩ = some (.int .i64 x.a) ∧ W.cell? ⟨g, 1, none⟩ = some (.int .u32 x.b) ∧ W.cell? ⟨g, 2, none⟩ = some (.int .i64 x.c) ∧ W.cell? ⟨g, 3, none⟩ = some (.int .i64 x.d) ∧ W.cell? ⟨g2, 0, none⟩ = some (.int .i64 y.a) ∧ W.cell? ⟨g2, 1, none⟩ = some (.int .u32 y.b) ∧ W.cell? ⟨g2, 2, none⟩ = some (.int .i64 y.c) ∧ W.cell? ⟨g2, 3, none⟩ = some (.int .i64 y.d)) → Calls Try.prog 21 #[.int .i64 x.d] W fun r W' => r = .returned (.int .i64 (tim x.d)) ∧ (Hid (GX w g g2 c D (some ⟨b, off, none⟩) L nd cd ne ce nl cl x y W') ∧ W'.cell? ⟨w.heap.size, 0, none⟩ = some (.int .i64 c.hosts) ∧ W'.cell? ⟨w.heap.size, 1, none⟩ = some (.int .i64 c.cycle) ∧ W'.cell? ⟨w.heap.size, 2, none⟩ = some (.int .i64 c.delay) ∧ W'.cell? ⟨w.heap.size, 3, none⟩ = some (.int .i64 c.window) ∧ W'.cell? ⟨w.heap.size, 4, none⟩ = some (.int .i64 c.precision) ∧ W'.cell? ⟨w.heap.size, 5, none⟩ = some (.slice D nd cd) ∧ W'.cell? ⟨w.heap.size, 6, none⟩ = some (.slice (some ⟨b, off, none⟩) ne ce) ∧ W'.cell? ⟨w.heap.size, 7, none⟩ = some (.slice L nl cl) ∧ W'.cell? ⟨w.heap.size, 8, none⟩ = some (.int .i64 c.queue) ∧ W'.cell? ⟨g, 0, none⟩ = some (.int .i64 x.a) ∧ W'.cell? ⟨g, 1, none⟩ = some (.int .u32 x.b) ∧ W'.cell? ⟨g, 2, none⟩ = some (.int .i64 x.c) ∧ W'.cell? ⟨g, 3, none⟩ = some (.int .i64 x.d) ∧ W'.cell? ⟨g2, 0, none⟩ = some (.int .i64 y.a) ∧ W'.cell? ⟨g2, 1, none⟩ = some (.int .u32 y.b) ∧ W'.cell? ⟨g2, 2, none⟩ = some (.int .i64 y.c) ∧ W'.cell? ⟨g2, 3, none⟩ = some (.int .i64 y.d)) from fun W hS => (time_any x.d W).mono fun r W' ⟨hr, hb⟩ => ⟨hr, by rw [hb]; exact hS⟩)
          have TY := Lib.hid (show ∀ W, (Hid (GX w g g2 c D (some ⟨b, off, none⟩) L nd cd ne ce nl cl x y W) ∧ W.cell? ⟨w.heap.size, 0, none⟩ = some (.int .i64 c.hosts) ∧ W.cell? ⟨w.heap.size, 1, none⟩ = some (.int .i64 c.cycle) ∧ W.cell? ⟨w.heap.size, 2, none⟩ = some (.int .i64 c.delay) ∧ W.cell? ⟨w.heap.size, 3, none⟩ = some (.int .i64 c.window) ∧ W.cell? ⟨w.heap.size, 4, none⟩ = some (.int .i64 c.precision) ∧ W.cell? ⟨w.heap.size, 5, none⟩ = some (.slice D nd cd) ∧ W.cell? ⟨w.heap.size, 6, none⟩ = some (.slice (some ⟨b, off, none⟩) ne ce) ∧ W.cell? ⟨w.heap.size, 7, none⟩ = some (.slice L nl cl) ∧ W.cell? ⟨w.heap.size, 8, none⟩ = some (.int .i64 c.queue) ∧ W.cell? ⟨g, 0, none⟩ = some (.int .i64 x.a) ∧ W.cell? ⟨g, 1, none⟩ = some (.int .u32 x.b) ∧ W.cell? ⟨g, 2, none⟩ = some (.int .i64 x.c) ∧ W.cell? ⟨g, 3, none⟩ = some (.int .i64 x.d) ∧ W.cell? ⟨g2, 0, none⟩ = some (.int .i64 y.a) ∧ W.cell? ⟨g2, 1, none⟩ = some (.int .u32 y.b) ∧ W.cell? ⟨g2, 2, none⟩ = some (.int .i64 y.c) ∧ W.cell? ⟨g2, 3, none⟩ = some (.int .i64 y.d)) → Calls Try.prog 21 #[.int .i64 y.d] W fun r W' => r = .returned (.int .i64 (tim y.d)) ∧ (Hid (GX w g g2 c D (some ⟨b, off, none⟩) L nd cd ne ce nl cl x y W') ∧ W'.cell? ⟨w.heap.size, 0, none⟩ = some (.int .i64 c.hosts) ∧ W'.cell? ⟨w.heap.size, 1, none⟩ = some (.int .i64 c.cycle) ∧ W'.cell? ⟨w.heap.size, 2, none⟩ = some (.int .i64 c.delay) ∧ W'.cell? ⟨w.heap.size, 3, none⟩ = some (.int .i64 c.window) ∧ W'.cell? ⟨w.heap.size, 4, none⟩ = some (.int .i64 c.precision) ∧ W'.cell? ⟨w.heap.size, 5, none⟩ = some (.slice D nd cd) ∧ W'.cell? ⟨w.heap.size, 6, none⟩ = some (.slice (some ⟨b, off, none⟩) ne ce) ∧ W'.cell? ⟨w.heap.size, 7, none⟩ = some (.slice L nl cl) ∧ W'.cell? ⟨w.heap.size, 8, none⟩ = some (.int .i64 c.queue) ∧ W'.cell? ⟨g, 0, none⟩ = some (.int .i64 x.a) ∧ W'.cell? ⟨g, 1, none⟩ = some (.int .u32 x.b) ∧ W'.cell? ⟨g, 2, none⟩ = some (.int .i64 x.c) ∧ W'.cell? ⟨g, 3, none⟩ = some (.int .i64 x.d) ∧ W'.cell? ⟨g2, 0, none⟩ = some (.int .i64 y.a) ∧ W'.cell? ⟨g2, 1, none⟩ = some (.int .u32 y.b) ∧ W'.cell? ⟨g2, 2, none⟩ = some (.int .i64 y.c) ∧ W'.cell? ⟨g2, 3, none⟩ = some (.int .i64 y.d)) from fun W hS => (time_any y.d W).mono fun r W' ⟨hr, hb⟩ => ⟨hr, by rw [hb]; exact hS⟩)
          have ptx := tim_pos x.d
          have pty := tim_pos y.d
          have pcx := ph_range HZ.out.1 HZ.out.2.1 x (List.mem_of_getElem? HX.out)
          have pcy := ph_range HZ.out.1 HZ.out.2.1 y (List.mem_of_getElem? HY.out)
          have fx := fwd_bound c x
          have fy := fwd_bound c y
          have HU := u32_and_nat x.b y.b HXB.out hyb
          rw [Nat.and_comm] at S8
          have W1 : IntKind.i64.wrap (fwd c y + tim y.d) = fwd c y + tim y.d := i64_id (by omega) (by omega)
          have W2 : IntKind.i64.wrap (fwd c x + tim x.d) = fwd c x + tim x.d := i64_id (by omega) (by omega)
          have W3 : IntKind.i64.wrap (y.c + tim y.d) = y.c + tim y.d := i64_id (by omega) (by omega)
          have W4 : IntKind.i64.wrap (x.c + tim x.d) = x.c + tim x.d := i64_id (by omega) (by omega)
          clear ptx pty pcx pcy fx fy hyb hji
          generalize tim x.d = tx at *
          generalize tim y.d = ty at *
          generalize fwd c x = px at *
          generalize fwd c y = py at *
          generalize x.b &&& y.b = u at *
          have NA : ((u : Int) != 0) = false ∨ (((u : Int) != 0) = true ∧ ¬ px < py + ty) ∨ (((u : Int) != 0) = true ∧ px < py + ty ∧ ¬ py < px + tx) := by
            by_cases h1 : u = 0
            · exact Or.inl (by rw [bne_eq_false_iff_eq]; omega)
            · have h1' : ((u : Int) != 0) = true := by rw [bne_iff_ne]; omega
              by_cases h2 : px < py + ty
              · by_cases h3 : py < px + tx
                · simp [h1, h2, h3] at S8
                · exact Or.inr (Or.inr ⟨h1', h2, h3⟩)
              · exact Or.inr (Or.inl ⟨h1', h2⟩)
          have NB : (x.a == y.a) = false ∨ ((x.a == y.a) = true ∧ ¬ x.c < y.c + ty) ∨ ((x.a == y.a) = true ∧ x.c < y.c + ty ∧ ¬ y.c < x.c + tx) := by
            by_cases h1 : x.a = y.a
            · have h1' : (x.a == y.a) = true := by rw [beq_iff_eq]; exact h1
              by_cases h2 : x.c < y.c + ty
              · by_cases h3 : y.c < x.c + tx
                · simp [h1, h2, h3] at S7
                · exact Or.inr (Or.inr ⟨h1', h2, h3⟩)
              · exact Or.inr (Or.inl ⟨h1', h2⟩)
            · exact Or.inl (by rw [beq_eq_false_iff_ne]; exact h1)
          have HNA := Lib.hid NA
          have HNB := Lib.hid NB
          clear NA NB S7 S8
          go_wp2_with fail
          rw [← HG2.out]
          refine wp_region_held_drew (S := fun W : World => Hid (GX w g g2 c D (some ⟨b, off, none⟩) L nd cd ne ce nl cl x y W) ∧ W.cell? ⟨w.heap.size, 0, none⟩ = some (.int .i64 c.hosts) ∧ W.cell? ⟨w.heap.size, 1, none⟩ = some (.int .i64 c.cycle) ∧ W.cell? ⟨w.heap.size, 2, none⟩ = some (.int .i64 c.delay) ∧ W.cell? ⟨w.heap.size, 3, none⟩ = some (.int .i64 c.window) ∧ W.cell? ⟨w.heap.size, 4, none⟩ = some (.int .i64 c.precision) ∧ W.cell? ⟨w.heap.size, 5, none⟩ = some (.slice D nd cd) ∧ W.cell? ⟨w.heap.size, 6, none⟩ = some (.slice (some ⟨b, off, none⟩) ne ce) ∧ W.cell? ⟨w.heap.size, 7, none⟩ = some (.slice L nl cl) ∧ W.cell? ⟨w.heap.size, 8, none⟩ = some (.int .i64 c.queue) ∧ W.cell? ⟨g, 0, none⟩ = some (.int .i64 x.a) ∧ W.cell? ⟨g, 1, none⟩ = some (.int .u32 x.b) ∧ W.cell? ⟨g, 2, none⟩ = some (.int .i64 x.c) ∧ W.cell? ⟨g, 3, none⟩ = some (.int .i64 x.d) ∧ W.cell? ⟨g2, 0, none⟩ = some (.int .i64 y.a) ∧ W.cell? ⟨g2, 1, none⟩ = some (.int .u32 y.b) ∧ W.cell? ⟨g2, 2, none⟩ = some (.int .i64 y.c) ∧ W.cell? ⟨g2, 3, none⟩ = some (.int .i64 y.d)) (by kernel_rfl) (Z1.out.drew.s) (fun hHeld => ?_)
          refine wpAnyH_take (i := 0) (oi := ⟨(some 33), _, _, _, _, _⟩) (v := ?_) rfl (by kernel_rfl) (by kernel_rfl) (by kernel_rfl) (fun _ _ _ h => h) (Or.inl ⟨by kernel_rfl, ?_⟩) (by assumption) ?_; rotate_left; (focus (intro w hSw; (try dsimp only at hSw); go_simp; (try with_reducible rfl)))
          simp only [Act.put, List.setIfInBounds_toArray, List.set_cons_zero, List.set_cons_succ]
          refine wpAnyH_take (i := 1) (oi := ⟨(some 34), _, _, _, _, _⟩) (v := ?_) rfl (by kernel_rfl) (by kernel_rfl) (by kernel_rfl) (fun _ _ _ h => h) (Or.inl ⟨by kernel_rfl, ?_⟩) (by assumption) ?_; rotate_left; (focus (intro w hSw; (try dsimp only at hSw); go_simp; (try with_reducible rfl)))
          simp only [Act.put, List.setIfInBounds_toArray, List.set_cons_zero, List.set_cons_succ]
          refine wpAnyH_take (i := 3) (oi := ⟨(some 36), _, _, _, _, _⟩) (v := ?_) rfl (by kernel_rfl) (by kernel_rfl) (by kernel_rfl) (fun _ _ _ h => h) (Or.inl ⟨by kernel_rfl, ?_⟩) (by assumption) ?_; rotate_left; (focus (intro w hSw; (try dsimp only at hSw); go_simp; (try with_reducible rfl)))
          simp only [Act.put, List.setIfInBounds_toArray, List.set_cons_zero, List.set_cons_succ]
          refine wpAnyH_take (i := 4) (oi := ⟨(some 37), _, _, _, _, _⟩) (v := ?_) rfl (by kernel_rfl) (by kernel_rfl) (by kernel_rfl) (fun _ _ _ h => h) (Or.inl ⟨by kernel_rfl, ?_⟩) (by assumption) ?_; rotate_left; (focus (intro w hSw; (try dsimp only at hSw); go_simp; (try with_reducible rfl)))
          simp only [Act.put, List.setIfInBounds_toArray, List.set_cons_zero, List.set_cons_succ]
          refine wpAnyH_ready (rs := [2]) (by kernel_rfl) (by simp) ?_
          refine AllReadyH.cons (o := ⟨(some 35), _, _, _, _, _⟩) rfl (fun K hK => ?_) AllReadyH.nil
          go_simp
          ((with_reducible refine (FX1.out _ (by assumption)).mono ?_); rintro r w9 ⟨rfl, hs9⟩)
          go_simp
          refine hK.out _ _ (by assumption) (fun hHeld => ?_)
          clear hK K
          refine wpAnyH_ready (rs := [5]) (by kernel_rfl) (by simp) ?_
          refine AllReadyH.cons (o := ⟨(some 38), _, _, _, _, _⟩) rfl (fun K hK => ?_) AllReadyH.nil
          go_simp
          ((with_reducible refine (FY1.out _ (by assumption)).mono ?_); rintro r w9 ⟨rfl, hs9⟩)
          go_simp
          refine hK.out _ _ (by assumption) (fun hHeld => ?_)
          clear hK K
          refine wpAnyH_take (i := 6) (oi := ⟨(some 7), _, _, _, _, _⟩) (v := ?_) rfl (by kernel_rfl) (by kernel_rfl) (by kernel_rfl) (fun _ _ _ h => h) (Or.inl ⟨by kernel_rfl, ?_⟩) (by assumption) ?_; rotate_left; (focus (intro w hSw; (try dsimp only at hSw); go_simp; (try with_reducible rfl)))
          simp only [Act.put, List.setIfInBounds_toArray, List.set_cons_zero, List.set_cons_succ]
          refine wpAnyH_take (i := 7) (oi := ⟨(some 8), _, _, _, _, _⟩) (v := ?_) rfl (by kernel_rfl) (by kernel_rfl) (by kernel_rfl) (fun _ _ _ h => h) (Or.inl ⟨by kernel_rfl, ?_⟩) (by assumption) ?_; rotate_left; (focus (intro w hSw; (try dsimp only at hSw); go_simp; (try with_reducible rfl)))
          simp only [Act.put, List.setIfInBounds_toArray, List.set_cons_zero, List.set_cons_succ]
          refine wpAnyH_done (by kernel_rfl) ?_ _
          obtain ⟨Z, b0, b1, b2, b3, b4, b5, b6, b7, b8, d0, d1, d2, d3, f0, f1, f2, f3⟩ := hHeld
          clear a0 a1 a2 a3 a4 a5 a6 a7 a8 e0 e1 e2 e3 y0 y1 y2 y3
          have ZD := Lib.hid Z.out.drew.s
          clear b0 b1 b2 b3 b4 b5 b6 b7 b8 d0 d1 d2 d3 f0 f1 f2 f3
          go_wp2_with fail
          refine wp_region_held_drew (S := fun W : World => Hid (GX w g g2 c D (some ⟨b, off, none⟩) L nd cd ne ce nl cl x y W) ∧ W.cell? ⟨w.heap.size, 0, none⟩ = some (.int .i64 c.hosts) ∧ W.cell? ⟨w.heap.size, 1, none⟩ = some (.int .i64 c.cycle) ∧ W.cell? ⟨w.heap.size, 2, none⟩ = some (.int .i64 c.delay) ∧ W.cell? ⟨w.heap.size, 3, none⟩ = some (.int .i64 c.window) ∧ W.cell? ⟨w.heap.size, 4, none⟩ = some (.int .i64 c.precision) ∧ W.cell? ⟨w.heap.size, 5, none⟩ = some (.slice D nd cd) ∧ W.cell? ⟨w.heap.size, 6, none⟩ = some (.slice (some ⟨b, off, none⟩) ne ce) ∧ W.cell? ⟨w.heap.size, 7, none⟩ = some (.slice L nl cl) ∧ W.cell? ⟨w.heap.size, 8, none⟩ = some (.int .i64 c.queue) ∧ W.cell? ⟨g, 0, none⟩ = some (.int .i64 x.a) ∧ W.cell? ⟨g, 1, none⟩ = some (.int .u32 x.b) ∧ W.cell? ⟨g, 2, none⟩ = some (.int .i64 x.c) ∧ W.cell? ⟨g, 3, none⟩ = some (.int .i64 x.d) ∧ W.cell? ⟨g2, 0, none⟩ = some (.int .i64 y.a) ∧ W.cell? ⟨g2, 1, none⟩ = some (.int .u32 y.b) ∧ W.cell? ⟨g2, 2, none⟩ = some (.int .i64 y.c) ∧ W.cell? ⟨g2, 3, none⟩ = some (.int .i64 y.d)) (by kernel_rfl) (ZD.out) (fun hHeld => ?_)
          refine wpAnyH_take (i := 0) (oi := ⟨(some 39), _, _, _, _, _⟩) (v := ?_) rfl (by kernel_rfl) (by kernel_rfl) (by kernel_rfl) (fun _ _ _ h => h) (Or.inl ⟨by kernel_rfl, ?_⟩) (by assumption) ?_; rotate_left; (focus (intro w hSw; (try dsimp only at hSw); go_simp; (try with_reducible rfl)))
          simp only [Act.put, List.setIfInBounds_toArray, List.set_cons_zero, List.set_cons_succ]
          refine wpAnyH_take (i := 1) (oi := ⟨(some 40), _, _, _, _, _⟩) (v := ?_) rfl (by kernel_rfl) (by kernel_rfl) (by kernel_rfl) (fun _ _ _ h => h) (Or.inl ⟨by kernel_rfl, ?_⟩) (by assumption) ?_; rotate_left; (focus (intro w hSw; (try dsimp only at hSw); go_simp; (try with_reducible rfl)))
          simp only [Act.put, List.setIfInBounds_toArray, List.set_cons_zero, List.set_cons_succ]
          refine wpAnyH_take (i := 3) (oi := ⟨(some 42), _, _, _, _, _⟩) (v := ?_) rfl (by kernel_rfl) (by kernel_rfl) (by kernel_rfl) (fun _ _ _ h => h) (Or.inl ⟨by kernel_rfl, ?_⟩) (by assumption) ?_; rotate_left; (focus (intro w hSw; (try dsimp only at hSw); go_simp; (try with_reducible rfl)))
          simp only [Act.put, List.setIfInBounds_toArray, List.set_cons_zero, List.set_cons_succ]
          refine wpAnyH_take (i := 4) (oi := ⟨(some 43), _, _, _, _, _⟩) (v := ?_) rfl (by kernel_rfl) (by kernel_rfl) (by kernel_rfl) (fun _ _ _ h => h) (Or.inl ⟨by kernel_rfl, ?_⟩) (by assumption) ?_; rotate_left; (focus (intro w hSw; (try dsimp only at hSw); go_simp; (try with_reducible rfl)))
          simp only [Act.put, List.setIfInBounds_toArray, List.set_cons_zero, List.set_cons_succ]
          refine wpAnyH_ready (rs := [2]) (by kernel_rfl) (by simp) ?_
          refine AllReadyH.cons (o := ⟨(some 41), _, _, _, _, _⟩) rfl (fun K hK => ?_) AllReadyH.nil
          go_simp
          ((with_reducible refine (TX.out _ (by assumption)).mono ?_); rintro r w9 ⟨rfl, hs9⟩)
          go_simp
          refine hK.out _ _ (by assumption) (fun hHeld => ?_)
          clear hK K
          refine wpAnyH_ready (rs := [5]) (by kernel_rfl) (by simp) ?_
          refine AllReadyH.cons (o := ⟨(some 44), _, _, _, _, _⟩) rfl (fun K hK => ?_) AllReadyH.nil
          go_simp
          ((with_reducible refine (TY.out _ (by assumption)).mono ?_); rintro r w9 ⟨rfl, hs9⟩)
          go_simp
          refine hK.out _ _ (by assumption) (fun hHeld => ?_)
          clear hK K
          refine wpAnyH_take (i := 6) (oi := ⟨(some 9), _, _, _, _, _⟩) (v := ?_) rfl (by kernel_rfl) (by kernel_rfl) (by kernel_rfl) (fun _ _ _ h => h) (Or.inl ⟨by kernel_rfl, ?_⟩) (by assumption) ?_; rotate_left; (focus (intro w hSw; (try dsimp only at hSw); go_simp; (try with_reducible rfl)))
          simp only [Act.put, List.setIfInBounds_toArray, List.set_cons_zero, List.set_cons_succ]
          refine wpAnyH_take (i := 7) (oi := ⟨(some 10), _, _, _, _, _⟩) (v := ?_) rfl (by kernel_rfl) (by kernel_rfl) (by kernel_rfl) (fun _ _ _ h => h) (Or.inl ⟨by kernel_rfl, ?_⟩) (by assumption) ?_; rotate_left; (focus (intro w hSw; (try dsimp only at hSw); go_simp; (try with_reducible rfl)))
          simp only [Act.put, List.setIfInBounds_toArray, List.set_cons_zero, List.set_cons_succ]
          refine wpAnyH_done (by kernel_rfl) ?_ _
          obtain ⟨V, b0, b1, b2, b3, b4, b5, b6, b7, b8, d0, d1, d2, d3, f0, f1, f2, f3⟩ := hHeld
          have V2 := Lib.hid V.out.ex
          have hw : ∀ (a b : Nat), True := fun _ _ => trivial
          clear hw Z ZD FX1 FY1 TX TY
          rcases HNA.out with q0 | ⟨q0, u1⟩ | ⟨q0, u1, u2⟩ <;> rcases HNB.out with q3 | ⟨q3, v1⟩ | ⟨q3, v1, v2⟩
          all_goals
            go_wp2
            go_roundw
            case rel => exact ⟨j + 1, by omega, by go_num, V2⟩
            case measure => simp [intOf]; omega
        · obtain rfl : j = n := by omega
          have Y1 := Lib.hid Y.out.cx
          clear Y a0 a1 a2 a3 a4 a5 a6 a7 a8 e0 e1 e2 e3
          go_wp2
          exact ⟨⟨j + 1, by omega, by go_num, Y1⟩, by simp [intOf]; omega⟩
    · go_wp2
      go_ret
      exact ⟨rfl, X.out.b⟩
set_option maxRecDepth 100000 in
/-- What the walk gives, for every argument and every world. -/
theorem contract (H : Type) (enc : TypeId × Value → H) (W : World) (base : Nat) (args : Array Value) (ds gs : List (DataW H)) (before : List MemPlace)
    (hval : ∀ (j : Nat) t v, Try.f5.params[j]? = some t → args[j]? = some v → Value.okWide Try.prog W .any base t v)
    (hW : DataW.Whole enc Try.prog Try.f5.params.toList Rows.confForwardsSpec.vars false W args.toList ds gs before) : 
    Calls Try.prog 5 args W fun e W' => ∃ v, e = .returned v ∧ Rows.confForwardsSpec.post enc Try.prog Try.f5 false true false false W args v W' := by
  have hW' := hW
  obtain ⟨p, q, hA0, hV, rfl, hfz, hnd⟩ := hW
  have hA : DataW.TrodAll enc Try.prog W 0 (fun _ => true) true Try.f5.params.toList args.toList ds p := hA0
  rw [Try.params5] at hA hval
  obtain ⟨v0, vs0, d0, ds0, p0, q0, hargs, rfl, rfl, h0, r0⟩ := trodAll_cons hA
  obtain ⟨rfl, rfl, rfl⟩ := trodAll_nil r0
  obtain rfl : args = #[v0] := by cases args; simp_all
  obtain ⟨rfl, rfl⟩ := trodVars_none hV
  obtain ⟨c0, D0, E0, L0, nd0, cd0, ne0, ce0, nl0, cl0, rfl, m0, s0⟩ := open_cfg (hval 0 26 v0 rfl rfl) h0
  refine (walk c0 D0 E0 L0 nd0 cd0 ne0 ce0 nl0 cl0 W m0).mono fun e W' ⟨he, hb⟩ => ?_
  exact ⟨_, he, Shell.post_law laidOut (by kernel_rfl) rfl Try.underlying4 rfl hW' rfl hb⟩
theorem reads (os : Os) {H : Type} (enc : TypeId × Value → H) : ∃ places, DataW.whole enc Try.prog ((World.holding Try.prog os ⟨#[], #[], []⟩).forCall (fun _ _ => 0) ⟨#[], #[.agg #[.int .i64 0, .int .i64 0, .int .i64 0, .int .i64 0, .int .i64 0, .slice none 0 0, .slice none 0 0, .slice none 0 0, .int .i64 0]], []⟩).memory Try.f5.params.toList Rows.confForwardsSpec.vars false (#[Value.agg #[.int .i64 0, .int .i64 0, .int .i64 0, .int .i64 0, .int .i64 0, .slice none 0 0, .slice none 0 0, .slice none 0 0, .int .i64 0]]).toList 8 = some ([.agg [.lit (.int .i64 0), .lit (.int .i64 0), .lit (.int .i64 0), .lit (.int .i64 0), .lit (.int .i64 0), .nil, .nil, .nil, .lit (.int .i64 0)]], [], places) :=
  ⟨[], by kernel_rfl⟩
set_option maxRecDepth 100000 in
theorem lifted (os : Os) (started : os.Started) (H : Type) (enc : TypeId × Value → H) (F : Stop.Interp) :
    ReturnsInHanded {} Try.checked os 5 .any ((OpenSpec.ofChange Rows.confForwardsSpec).preRow enc Try.prog Try.f5 Rows.confForwardsRow.domain false Rows.confForwardsRow.laid) (((OpenSpec.ofChange Rows.confForwardsSpec).at F).post enc Try.prog Try.f5 false true false false) := by
  obtain ⟨places, hx⟩ := reads os enc
  refine returnsInHanded_of_row (C := Try.checked) (s := OpenSpec.ofChange Rows.confForwardsSpec) own started (by kernel_rfl) Try.func5
    (witness_row_atRef (enc := enc) (C := Try.checked) false (World.holding Try.prog os ⟨#[], #[], []⟩) #[.agg #[.int .i64 0, .int .i64 0, .int .i64 0, .int .i64 0, .int .i64 0, .slice none 0 0, .slice none 0 0, .slice none 0 0, .int .i64 0]] rfl (by kernel_rfl) (by kernel_rfl) (by kernel_rfl)
      (OpenSpec.preRow_of_cond 8 hx (by kernel_rfl) (fun k hk => by cases hk) (by kernel_rfl) (laid_met os _))) ?_
  intro W base args ds gs before hval hW _ _ _ hL _ _
  exact contract H enc W base args ds gs before hval hW
theorem said : Rows.ConfForwardsSaid :=
  OpenClaim.holds_of_cond 5 Try.f5 rfl rfl rfl rfl rfl rfl rfl ⟨rfl, rfl, rfl, rfl, rfl⟩ rfl rfl rfl rfl rfl (by kernel_rfl) Try.func5 (by kernel_rfl)
    (of_decide_eq_true (by kernel_rfl)) (by unfold Func.isWrapper; first | (rw [if_pos (by decide +kernel)]; kernel_rfl) | (rw [if_neg (by decide +kernel)]; exact ⟨rfl, rfl⟩))
    (fun os started H enc _ F => by rw [OpenClaim.pre_eq_preRow]; exact lifted os started H enc F)
end Go.Proofs.Ytooamddipdjaoaa.ConfW.ConfForwards
