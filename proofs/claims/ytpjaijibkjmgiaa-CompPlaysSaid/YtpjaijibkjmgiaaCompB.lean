/- A collection and one frame more, by each host. -/
import Derived.Test.YtpjaijibkjmgiaaCompA
import Derived.Deep.RegionLaw
import Derived.Deep.RegionHeld3
namespace Go.Proofs.Ytpjaijibkjmgiaa.CompW
open Go.RowKit Shell
open CrewW (only has of has_any of_any mem)
open FrameW (CV rightC control_ok control_bad)
theorem ret_g {fn : Func} {R : Ending → World → Prop} {p : Tmp} (h : fn.results = #[.cell p 62]) {tmps : Array Value} {w : World} {g : Nat} {x0 x1 x2 x3 x4 x5 x6 x7 x8 x9 x10 x11 x12 x13 : Value} {t : TypeId} {fr : Nat × Nat}
    (hp : tmps.getD p undef = .pointer (some ⟨g, 0, none⟩)) (hg : w.heap[g]? = some (.cells #[x0, x1, x2, x3, x4, x5, x6, x7, x8, x9, x10, x11, x12, x13] t fr)) (hR : R (.returned (.agg #[x0, x1, x2, x3, x4, x5, x6, x7, x8, x9, x10, x11, x12, x13])) w) :
    bodyPost Try.prog fn R .ret { tmps := tmps, defers := [] } w :=
  bodyPost_ret (results_cell_row h tmps w g t _ fr _ hp hg Try.underlying62 rfl (by kernel_rfl)) rfl hR
theorem whole14 {w : World} {g : Nat} {v0 v1 v2 v3 v4 v5 v6 v7 v8 v9 v10 v11 v12 v13 : Value} {t : TypeId} (h : w.heap[g]? = some (.cells #[v0, v1, v2, v3, v4, v5, v6, v7, v8, v9, v10, v11, v12, v13] t (0, 0))) (u0 u1 u2 u3 u4 u5 u6 u7 u8 u9 u10 u11 u12 u13 : Value) : ((((((((((((((w.setCell ⟨g, 0, none⟩ u0).setCell ⟨g, 1, none⟩ u1).setCell ⟨g, 2, none⟩ u2).setCell ⟨g, 3, none⟩ u3).setCell ⟨g, 4, none⟩ u4).setCell ⟨g, 5, none⟩ u5).setCell ⟨g, 6, none⟩ u6).setCell ⟨g, 7, none⟩ u7).setCell ⟨g, 8, none⟩ u8).setCell ⟨g, 9, none⟩ u9).setCell ⟨g, 10, none⟩ u10).setCell ⟨g, 11, none⟩ u11).setCell ⟨g, 12, none⟩ u12).setCell ⟨g, 13, none⟩ u13).heap[g]? = some (.cells #[u0, u1, u2, u3, u4, u5, u6, u7, u8, u9, u10, u11, u12, u13] t (0, 0)) := by
  have h := heap_setCell_same w g 0 _ _ u0 h
  replace h : (w.setCell ⟨g, 0, none⟩ u0).heap[g]? = some (.cells #[u0, v1, v2, v3, v4, v5, v6, v7, v8, v9, v10, v11, v12, v13] t (0, 0)) := h
  have h := heap_setCell_same (w.setCell ⟨g, 0, none⟩ u0) g 1 _ _ u1 h
  replace h : ((w.setCell ⟨g, 0, none⟩ u0).setCell ⟨g, 1, none⟩ u1).heap[g]? = some (.cells #[u0, u1, v2, v3, v4, v5, v6, v7, v8, v9, v10, v11, v12, v13] t (0, 0)) := h
  have h := heap_setCell_same ((w.setCell ⟨g, 0, none⟩ u0).setCell ⟨g, 1, none⟩ u1) g 2 _ _ u2 h
  replace h : (((w.setCell ⟨g, 0, none⟩ u0).setCell ⟨g, 1, none⟩ u1).setCell ⟨g, 2, none⟩ u2).heap[g]? = some (.cells #[u0, u1, u2, v3, v4, v5, v6, v7, v8, v9, v10, v11, v12, v13] t (0, 0)) := h
  have h := heap_setCell_same (((w.setCell ⟨g, 0, none⟩ u0).setCell ⟨g, 1, none⟩ u1).setCell ⟨g, 2, none⟩ u2) g 3 _ _ u3 h
  replace h : ((((w.setCell ⟨g, 0, none⟩ u0).setCell ⟨g, 1, none⟩ u1).setCell ⟨g, 2, none⟩ u2).setCell ⟨g, 3, none⟩ u3).heap[g]? = some (.cells #[u0, u1, u2, u3, v4, v5, v6, v7, v8, v9, v10, v11, v12, v13] t (0, 0)) := h
  have h := heap_setCell_same ((((w.setCell ⟨g, 0, none⟩ u0).setCell ⟨g, 1, none⟩ u1).setCell ⟨g, 2, none⟩ u2).setCell ⟨g, 3, none⟩ u3) g 4 _ _ u4 h
  replace h : (((((w.setCell ⟨g, 0, none⟩ u0).setCell ⟨g, 1, none⟩ u1).setCell ⟨g, 2, none⟩ u2).setCell ⟨g, 3, none⟩ u3).setCell ⟨g, 4, none⟩ u4).heap[g]? = some (.cells #[u0, u1, u2, u3, u4, v5, v6, v7, v8, v9, v10, v11, v12, v13] t (0, 0)) := h
  have h := heap_setCell_same (((((w.setCell ⟨g, 0, none⟩ u0).setCell ⟨g, 1, none⟩ u1).setCell ⟨g, 2, none⟩ u2).setCell ⟨g, 3, none⟩ u3).setCell ⟨g, 4, none⟩ u4) g 5 _ _ u5 h
  replace h : ((((((w.setCell ⟨g, 0, none⟩ u0).setCell ⟨g, 1, none⟩ u1).setCell ⟨g, 2, none⟩ u2).setCell ⟨g, 3, none⟩ u3).setCell ⟨g, 4, none⟩ u4).setCell ⟨g, 5, none⟩ u5).heap[g]? = some (.cells #[u0, u1, u2, u3, u4, u5, v6, v7, v8, v9, v10, v11, v12, v13] t (0, 0)) := h
  have h := heap_setCell_same ((((((w.setCell ⟨g, 0, none⟩ u0).setCell ⟨g, 1, none⟩ u1).setCell ⟨g, 2, none⟩ u2).setCell ⟨g, 3, none⟩ u3).setCell ⟨g, 4, none⟩ u4).setCell ⟨g, 5, none⟩ u5) g 6 _ _ u6 h
  replace h : (((((((w.setCell ⟨g, 0, none⟩ u0).setCell ⟨g, 1, none⟩ u1).setCell ⟨g, 2, none⟩ u2).setCell ⟨g, 3, none⟩ u3).setCell ⟨g, 4, none⟩ u4).setCell ⟨g, 5, none⟩ u5).setCell ⟨g, 6, none⟩ u6).heap[g]? = some (.cells #[u0, u1, u2, u3, u4, u5, u6, v7, v8, v9, v10, v11, v12, v13] t (0, 0)) := h
  have h := heap_setCell_same (((((((w.setCell ⟨g, 0, none⟩ u0).setCell ⟨g, 1, none⟩ u1).setCell ⟨g, 2, none⟩ u2).setCell ⟨g, 3, none⟩ u3).setCell ⟨g, 4, none⟩ u4).setCell ⟨g, 5, none⟩ u5).setCell ⟨g, 6, none⟩ u6) g 7 _ _ u7 h
  replace h : ((((((((w.setCell ⟨g, 0, none⟩ u0).setCell ⟨g, 1, none⟩ u1).setCell ⟨g, 2, none⟩ u2).setCell ⟨g, 3, none⟩ u3).setCell ⟨g, 4, none⟩ u4).setCell ⟨g, 5, none⟩ u5).setCell ⟨g, 6, none⟩ u6).setCell ⟨g, 7, none⟩ u7).heap[g]? = some (.cells #[u0, u1, u2, u3, u4, u5, u6, u7, v8, v9, v10, v11, v12, v13] t (0, 0)) := h
  have h := heap_setCell_same ((((((((w.setCell ⟨g, 0, none⟩ u0).setCell ⟨g, 1, none⟩ u1).setCell ⟨g, 2, none⟩ u2).setCell ⟨g, 3, none⟩ u3).setCell ⟨g, 4, none⟩ u4).setCell ⟨g, 5, none⟩ u5).setCell ⟨g, 6, none⟩ u6).setCell ⟨g, 7, none⟩ u7) g 8 _ _ u8 h
  replace h : (((((((((w.setCell ⟨g, 0, none⟩ u0).setCell ⟨g, 1, none⟩ u1).setCell ⟨g, 2, none⟩ u2).setCell ⟨g, 3, none⟩ u3).setCell ⟨g, 4, none⟩ u4).setCell ⟨g, 5, none⟩ u5).setCell ⟨g, 6, none⟩ u6).setCell ⟨g, 7, none⟩ u7).setCell ⟨g, 8, none⟩ u8).heap[g]? = some (.cells #[u0, u1, u2, u3, u4, u5, u6, u7, u8, v9, v10, v11, v12, v13] t (0, 0)) := h
  have h := heap_setCell_same (((((((((w.setCell ⟨g, 0, none⟩ u0).setCell ⟨g, 1, none⟩ u1).setCell ⟨g, 2, none⟩ u2).setCell ⟨g, 3, none⟩ u3).setCell ⟨g, 4, none⟩ u4).setCell ⟨g, 5, none⟩ u5).setCell ⟨g, 6, none⟩ u6).setCell ⟨g, 7, none⟩ u7).setCell ⟨g, 8, none⟩ u8) g 9 _ _ u9 h
  replace h : ((((((((((w.setCell ⟨g, 0, none⟩ u0).setCell ⟨g, 1, none⟩ u1).setCell ⟨g, 2, none⟩ u2).setCell ⟨g, 3, none⟩ u3).setCell ⟨g, 4, none⟩ u4).setCell ⟨g, 5, none⟩ u5).setCell ⟨g, 6, none⟩ u6).setCell ⟨g, 7, none⟩ u7).setCell ⟨g, 8, none⟩ u8).setCell ⟨g, 9, none⟩ u9).heap[g]? = some (.cells #[u0, u1, u2, u3, u4, u5, u6, u7, u8, u9, v10, v11, v12, v13] t (0, 0)) := h
  have h := heap_setCell_same ((((((((((w.setCell ⟨g, 0, none⟩ u0).setCell ⟨g, 1, none⟩ u1).setCell ⟨g, 2, none⟩ u2).setCell ⟨g, 3, none⟩ u3).setCell ⟨g, 4, none⟩ u4).setCell ⟨g, 5, none⟩ u5).setCell ⟨g, 6, none⟩ u6).setCell ⟨g, 7, none⟩ u7).setCell ⟨g, 8, none⟩ u8).setCell ⟨g, 9, none⟩ u9) g 10 _ _ u10 h
  replace h : (((((((((((w.setCell ⟨g, 0, none⟩ u0).setCell ⟨g, 1, none⟩ u1).setCell ⟨g, 2, none⟩ u2).setCell ⟨g, 3, none⟩ u3).setCell ⟨g, 4, none⟩ u4).setCell ⟨g, 5, none⟩ u5).setCell ⟨g, 6, none⟩ u6).setCell ⟨g, 7, none⟩ u7).setCell ⟨g, 8, none⟩ u8).setCell ⟨g, 9, none⟩ u9).setCell ⟨g, 10, none⟩ u10).heap[g]? = some (.cells #[u0, u1, u2, u3, u4, u5, u6, u7, u8, u9, u10, v11, v12, v13] t (0, 0)) := h
  have h := heap_setCell_same (((((((((((w.setCell ⟨g, 0, none⟩ u0).setCell ⟨g, 1, none⟩ u1).setCell ⟨g, 2, none⟩ u2).setCell ⟨g, 3, none⟩ u3).setCell ⟨g, 4, none⟩ u4).setCell ⟨g, 5, none⟩ u5).setCell ⟨g, 6, none⟩ u6).setCell ⟨g, 7, none⟩ u7).setCell ⟨g, 8, none⟩ u8).setCell ⟨g, 9, none⟩ u9).setCell ⟨g, 10, none⟩ u10) g 11 _ _ u11 h
  replace h : ((((((((((((w.setCell ⟨g, 0, none⟩ u0).setCell ⟨g, 1, none⟩ u1).setCell ⟨g, 2, none⟩ u2).setCell ⟨g, 3, none⟩ u3).setCell ⟨g, 4, none⟩ u4).setCell ⟨g, 5, none⟩ u5).setCell ⟨g, 6, none⟩ u6).setCell ⟨g, 7, none⟩ u7).setCell ⟨g, 8, none⟩ u8).setCell ⟨g, 9, none⟩ u9).setCell ⟨g, 10, none⟩ u10).setCell ⟨g, 11, none⟩ u11).heap[g]? = some (.cells #[u0, u1, u2, u3, u4, u5, u6, u7, u8, u9, u10, u11, v12, v13] t (0, 0)) := h
  have h := heap_setCell_same ((((((((((((w.setCell ⟨g, 0, none⟩ u0).setCell ⟨g, 1, none⟩ u1).setCell ⟨g, 2, none⟩ u2).setCell ⟨g, 3, none⟩ u3).setCell ⟨g, 4, none⟩ u4).setCell ⟨g, 5, none⟩ u5).setCell ⟨g, 6, none⟩ u6).setCell ⟨g, 7, none⟩ u7).setCell ⟨g, 8, none⟩ u8).setCell ⟨g, 9, none⟩ u9).setCell ⟨g, 10, none⟩ u10).setCell ⟨g, 11, none⟩ u11) g 12 _ _ u12 h
  replace h : (((((((((((((w.setCell ⟨g, 0, none⟩ u0).setCell ⟨g, 1, none⟩ u1).setCell ⟨g, 2, none⟩ u2).setCell ⟨g, 3, none⟩ u3).setCell ⟨g, 4, none⟩ u4).setCell ⟨g, 5, none⟩ u5).setCell ⟨g, 6, none⟩ u6).setCell ⟨g, 7, none⟩ u7).setCell ⟨g, 8, none⟩ u8).setCell ⟨g, 9, none⟩ u9).setCell ⟨g, 10, none⟩ u10).setCell ⟨g, 11, none⟩ u11).setCell ⟨g, 12, none⟩ u12).heap[g]? = some (.cells #[u0, u1, u2, u3, u4, u5, u6, u7, u8, u9, u10, u11, u12, v13] t (0, 0)) := h
  have h := heap_setCell_same (((((((((((((w.setCell ⟨g, 0, none⟩ u0).setCell ⟨g, 1, none⟩ u1).setCell ⟨g, 2, none⟩ u2).setCell ⟨g, 3, none⟩ u3).setCell ⟨g, 4, none⟩ u4).setCell ⟨g, 5, none⟩ u5).setCell ⟨g, 6, none⟩ u6).setCell ⟨g, 7, none⟩ u7).setCell ⟨g, 8, none⟩ u8).setCell ⟨g, 9, none⟩ u9).setCell ⟨g, 10, none⟩ u10).setCell ⟨g, 11, none⟩ u11).setCell ⟨g, 12, none⟩ u12) g 13 _ _ u13 h
  replace h : ((((((((((((((w.setCell ⟨g, 0, none⟩ u0).setCell ⟨g, 1, none⟩ u1).setCell ⟨g, 2, none⟩ u2).setCell ⟨g, 3, none⟩ u3).setCell ⟨g, 4, none⟩ u4).setCell ⟨g, 5, none⟩ u5).setCell ⟨g, 6, none⟩ u6).setCell ⟨g, 7, none⟩ u7).setCell ⟨g, 8, none⟩ u8).setCell ⟨g, 9, none⟩ u9).setCell ⟨g, 10, none⟩ u10).setCell ⟨g, 11, none⟩ u11).setCell ⟨g, 12, none⟩ u12).setCell ⟨g, 13, none⟩ u13).heap[g]? = some (.cells #[u0, u1, u2, u3, u4, u5, u6, u7, u8, u9, u10, u11, u12, u13] t (0, 0)) := h
  exact h
theorem hold14 (w : World) (g : Nat) (u0 u1 u2 u3 u4 u5 u6 u7 u8 u9 u10 u11 u12 u13 : Value) : Kept g w ((((((((((((((w.setCell ⟨g, 0, none⟩ u0).setCell ⟨g, 1, none⟩ u1).setCell ⟨g, 2, none⟩ u2).setCell ⟨g, 3, none⟩ u3).setCell ⟨g, 4, none⟩ u4).setCell ⟨g, 5, none⟩ u5).setCell ⟨g, 6, none⟩ u6).setCell ⟨g, 7, none⟩ u7).setCell ⟨g, 8, none⟩ u8).setCell ⟨g, 9, none⟩ u9).setCell ⟨g, 10, none⟩ u10).setCell ⟨g, 11, none⟩ u11).setCell ⟨g, 12, none⟩ u12).setCell ⟨g, 13, none⟩ u13) :=
  (((((((((((((kept1 w g 0 u0).trans (kept1 _ g 1 u1)).trans (kept1 _ g 2 u2)).trans (kept1 _ g 3 u3)).trans (kept1 _ g 4 u4)).trans (kept1 _ g 5 u5)).trans (kept1 _ g 6 u6)).trans (kept1 _ g 7 u7)).trans (kept1 _ g 8 u8)).trans (kept1 _ g 9 u9)).trans (kept1 _ g 10 u10)).trans (kept1 _ g 11 u11)).trans (kept1 _ g 12 u12)).trans (kept1 _ g 13 u13)
theorem some_in {w : World} {a : Addr} {v : Value} (h : w.cell? a = some v) : (w.cell? a).isSome = true := by rw [h]; rfl
set_option maxHeartbeats 2000000 in
theorem with_0 (b t y c l k : Int) (s : Nat) (R C : Nat → Int) (hs : s < 64) (ht : IntKind.i64.wrap (t - b) = t - b) (w : World) :
    Calls Try.prog 24 #[GV b s R C, .int .i64 t, CV k 0 y c l] w fun e w' => e = .returned (GV b (s ||| only 0) (upd R 0 (t - b)) (upd C 0 y)) ∧ Below w.heap.size w w' := by
  have HO := fun A W h => of_any A 1 1 [(0 : Int)] W h rfl (by decide)
  rw [CrewW.of_one] at HO
  have HB := Lib.hid (u32_or_nat s (only 0) (by omega) (by have := CrewW.only_lt 0; omega))
  generalize only 0 = o at *
  have HO := Lib.hid HO
  have X := (((Stay.start w).alloc (gbx b s R C)).alloc (cb k 0 y c l)).alloc gz
  simp only [World.size_alloc] at X
  have X := Lib.hid X
  go_enter Try.func24, Try.ntmps24
  go_upto_region 1 with (fail)
  generalize ((w.alloc (gbx b s R C)).alloc (cb k 0 y c l)).alloc gz = W at *
  generalize hg0 : w.heap.size = g0 at *
  have HG := Lib.hid hg0
  clear hg0
  obtain ⟨a0, a1, a2, a3, a4, a5, a6, a7, a8, a9, a10, a11, a12, a13⟩ := cells14 (X.out.at 2 rfl)
  obtain ⟨f0, f1, f2, f3, f4, f5, f6, f7, f8, f9, f10, f11, f12, f13⟩ := frozen14 (X.out.at 2 rfl)
  obtain ⟨d0, d1, d2, d3, d4⟩ := FrameW.cells5 (X.out.at 1 rfl)
  clear f0 f2 f3 f4 f5 f6 f7 f8 f9 f10 f11 f12 f13
  have e9 : bits BinOp.or IntKind.u32 (s : Int) (o : Int) = ((s ||| o : Nat) : Int) := HB.out
  clear a0 a2 a3 a4 a5 a6 a7 a8 a9 a10 a11 a12 a13 d0 d2 d3 d4
  have g9 := lt_of_heap (X.out.at 2 rfl)
  have k1 : (W.alloc (.cells #[.int .i64 0] 3)).cell? ⟨g0, 1, none⟩ = some (.int .u32 (s : Int)) := cell_keep a1 (al (Below.refl _ _) _)
  have k2 : (W.alloc (.cells #[.int .i64 0] 3)).frozen? ⟨g0, 1, none⟩ = false := ((al (Below.refl _ _) _).frozen g9).trans f1
  clear g9
  apply wp_one
  case h =>
    refine wp_region_noPanic ?_
    go_region_law (first | (go_at_call 32; refine (HO.out _ _ ?_).mono ?_; exact CrewW.one_cl W 0 (by decide) (by decide) _; rintro e w1 ⟨rfl, hw⟩; obtain rfl := hw.symm) | (go_simp; go_at_call 32; refine (HO.out _ _ ?_).mono ?_; exact CrewW.one_cl W 0 (by decide) (by decide) _; rintro e w1 ⟨rfl, hw⟩; obtain rfl := hw.symm))
    all_goals exact NoPanic.normal ⟨rfl, rfl, rfl⟩
  case hm =>
    clear a1 f1 d1 k1 k2 e9 HO HB
    have Y : Stay w [(g0, gbx b (s ||| o) R C), (g0 + 1 + 1, gz), (g0 + 1, cb k 0 y c l)] ((W.alloc (.cells #[.int .i64 0] 3)).setCell ⟨g0, 1, none⟩ (.int .u32 ((s ||| o : Nat) : Int))).drew := by
      have Y := ((X.out.alloc (.cells #[.int .i64 0] 3)).sub (M := [(g0, gbx b s R C), (g0 + 1 + 1, gz), (g0 + 1, cb k 0 y c l)]) (by simp))
      refine (Y.turn (kept1 _ g0 1 _) (heap_setCell_same _ g0 1 _ _ _ (Y.at 0 rfl)) (by have := HG.out; omega) ?_).drew
      intro x hx
      simp only [List.mem_cons, List.not_mem_nil, or_false] at hx
      rcases hx with rfl | rfl <;> (dsimp only; omega)
    have X := Lib.hid Y
    clear Y
    generalize ((W.alloc (.cells #[.int .i64 0] 3)).setCell ⟨g0, 1, none⟩ (.int .u32 ((s ||| o : Nat) : Int))).drew = W2 at *
    obtain ⟨a0, a1, a2, a3, a4, a5, a6, a7, a8, a9, a10, a11, a12, a13⟩ := cells14 (X.out.at 0 rfl)
    obtain ⟨f0, f1, f2, f3, f4, f5, f6, f7, f8, f9, f10, f11, f12, f13⟩ := frozen14 (X.out.at 0 rfl)
    obtain ⟨d0, d1, d2, d3, d4⟩ := FrameW.cells5 (X.out.at 2 rfl)
    clear f0 f1 f3 f4 f5 f6 f7 f8 f9 f10 f11 f12 f13
    go_upto_region 3 with (fail)
    have Y : Stay w [(g0, .cells #[.int .i64 b, .int .u32 ((s ||| o : Nat) : Int), .int .i64 (t - b), .int .i64 (R 1), .int .i64 (R 2), .int .i64 (R 3), .int .i64 (R 4), .int .i64 (R 5), .int .i64 (C 0), .int .i64 (C 1), .int .i64 (C 2), .int .i64 (C 3), .int .i64 (C 4), .int .i64 (C 5)] 62 (0, 0)), (g0 + 1 + 1, gz), (g0 + 1, cb k 0 y c l)] (W2.setCell ⟨g0, 2, none⟩ (.int .i64 (t - b))) := by
      refine (X.out.turn (kept1 _ g0 2 _) (heap_setCell_same _ g0 2 _ _ _ (X.out.at 0 rfl)) (by have := HG.out; omega) ?_)
      intro x hx
      simp only [List.mem_cons, List.not_mem_nil, or_false] at hx
      rcases hx with rfl | rfl <;> (dsimp only; omega)
    clear a0 a1 a2 a3 a4 a5 a6 a7 a8 a9 a10 a11 a12 a13 d0 d1 d2 d3 d4 f2 X
    have X := Lib.hid Y
    clear Y
    generalize W2.setCell ⟨g0, 2, none⟩ (.int .i64 (t - b)) = W3 at *
    obtain ⟨a0, a1, a2, a3, a4, a5, a6, a7, a8, a9, a10, a11, a12, a13⟩ := cells14 (X.out.at 0 rfl)
    obtain ⟨f0, f1, f2, f3, f4, f5, f6, f7, f8, f9, f10, f11, f12, f13⟩ := frozen14 (X.out.at 0 rfl)
    obtain ⟨d0, d1, d2, d3, d4⟩ := FrameW.cells5 (X.out.at 2 rfl)
    clear f0 f1 f2 f3 f4 f5 f6 f7 f9 f10 f11 f12 f13
    go_upto_region 4 with (fail)
    have Y : Stay w [(g0, .cells #[.int .i64 b, .int .u32 ((s ||| o : Nat) : Int), .int .i64 (t - b), .int .i64 (R 1), .int .i64 (R 2), .int .i64 (R 3), .int .i64 (R 4), .int .i64 (R 5), .int .i64 y, .int .i64 (C 1), .int .i64 (C 2), .int .i64 (C 3), .int .i64 (C 4), .int .i64 (C 5)] 62 (0, 0)), (g0 + 1 + 1, gz), (g0 + 1, cb k 0 y c l)] (W3.setCell ⟨g0, 8, none⟩ (.int .i64 y)) := by
      refine (X.out.turn (kept1 _ g0 8 _) (heap_setCell_same _ g0 8 _ _ _ (X.out.at 0 rfl)) (by have := HG.out; omega) ?_)
      intro x hx
      simp only [List.mem_cons, List.not_mem_nil, or_false] at hx
      rcases hx with rfl | rfl <;> (dsimp only; omega)
    clear a0 a1 a2 a3 a4 a5 a6 a7 a8 a9 a10 a11 a12 a13 d0 d1 d2 d3 d4 f8 X
    have X := Lib.hid Y
    clear Y
    generalize W3.setCell ⟨g0, 8, none⟩ (.int .i64 y) = W4 at *
    obtain ⟨a0, a1, a2, a3, a4, a5, a6, a7, a8, a9, a10, a11, a12, a13⟩ := cells14 (X.out.at 0 rfl)
    obtain ⟨z0, z1, z2, z3, z4, z5, z6, z7, z8, z9, z10, z11, z12, z13⟩ := cells14 (X.out.at 1 rfl)
    obtain ⟨f0, f1, f2, f3, f4, f5, f6, f7, f8, f9, f10, f11, f12, f13⟩ := frozen14 (X.out.at 1 rfl)
    go_wp2
    refine ret_g rfl rfl (whole14 (X.out.at 1 rfl) _ _ _ _ _ _ _ _ _ _ _ _ _ _) ⟨?_, X.out.b.trans ((hold14 W4 (g0 + 1 + 1) _ _ _ _ _ _ _ _ _ _ _ _ _ _).below (by have := HG.out; omega) X.out.b.size)⟩
    rfl
set_option maxHeartbeats 2000000 in
theorem with_1 (b t y c l k : Int) (s : Nat) (R C : Nat → Int) (hs : s < 64) (ht : IntKind.i64.wrap (t - b) = t - b) (w : World) :
    Calls Try.prog 24 #[GV b s R C, .int .i64 t, CV k 1 y c l] w fun e w' => e = .returned (GV b (s ||| only 1) (upd R 1 (t - b)) (upd C 1 y)) ∧ Below w.heap.size w w' := by
  have HO := fun A W h => of_any A 1 1 [(1 : Int)] W h rfl (by decide)
  rw [CrewW.of_one] at HO
  have HB := Lib.hid (u32_or_nat s (only 1) (by omega) (by have := CrewW.only_lt 1; omega))
  generalize only 1 = o at *
  have HO := Lib.hid HO
  have X := (((Stay.start w).alloc (gbx b s R C)).alloc (cb k 1 y c l)).alloc gz
  simp only [World.size_alloc] at X
  have X := Lib.hid X
  go_enter Try.func24, Try.ntmps24
  go_upto_region 1 with (fail)
  generalize ((w.alloc (gbx b s R C)).alloc (cb k 1 y c l)).alloc gz = W at *
  generalize hg0 : w.heap.size = g0 at *
  have HG := Lib.hid hg0
  clear hg0
  obtain ⟨a0, a1, a2, a3, a4, a5, a6, a7, a8, a9, a10, a11, a12, a13⟩ := cells14 (X.out.at 2 rfl)
  obtain ⟨f0, f1, f2, f3, f4, f5, f6, f7, f8, f9, f10, f11, f12, f13⟩ := frozen14 (X.out.at 2 rfl)
  obtain ⟨d0, d1, d2, d3, d4⟩ := FrameW.cells5 (X.out.at 1 rfl)
  clear f0 f2 f3 f4 f5 f6 f7 f8 f9 f10 f11 f12 f13
  have e9 : bits BinOp.or IntKind.u32 (s : Int) (o : Int) = ((s ||| o : Nat) : Int) := HB.out
  clear a0 a2 a3 a4 a5 a6 a7 a8 a9 a10 a11 a12 a13 d0 d2 d3 d4
  have g9 := lt_of_heap (X.out.at 2 rfl)
  have k1 : (W.alloc (.cells #[.int .i64 1] 3)).cell? ⟨g0, 1, none⟩ = some (.int .u32 (s : Int)) := cell_keep a1 (al (Below.refl _ _) _)
  have k2 : (W.alloc (.cells #[.int .i64 1] 3)).frozen? ⟨g0, 1, none⟩ = false := ((al (Below.refl _ _) _).frozen g9).trans f1
  clear g9
  apply wp_one
  case h =>
    refine wp_region_noPanic ?_
    go_region_law (first | (go_at_call 32; refine (HO.out _ _ ?_).mono ?_; exact CrewW.one_cl W 1 (by decide) (by decide) _; rintro e w1 ⟨rfl, hw⟩; obtain rfl := hw.symm) | (go_simp; go_at_call 32; refine (HO.out _ _ ?_).mono ?_; exact CrewW.one_cl W 1 (by decide) (by decide) _; rintro e w1 ⟨rfl, hw⟩; obtain rfl := hw.symm))
    all_goals exact NoPanic.normal ⟨rfl, rfl, rfl⟩
  case hm =>
    clear a1 f1 d1 k1 k2 e9 HO HB
    have Y : Stay w [(g0, gbx b (s ||| o) R C), (g0 + 1 + 1, gz), (g0 + 1, cb k 1 y c l)] ((W.alloc (.cells #[.int .i64 1] 3)).setCell ⟨g0, 1, none⟩ (.int .u32 ((s ||| o : Nat) : Int))).drew := by
      have Y := ((X.out.alloc (.cells #[.int .i64 1] 3)).sub (M := [(g0, gbx b s R C), (g0 + 1 + 1, gz), (g0 + 1, cb k 1 y c l)]) (by simp))
      refine (Y.turn (kept1 _ g0 1 _) (heap_setCell_same _ g0 1 _ _ _ (Y.at 0 rfl)) (by have := HG.out; omega) ?_).drew
      intro x hx
      simp only [List.mem_cons, List.not_mem_nil, or_false] at hx
      rcases hx with rfl | rfl <;> (dsimp only; omega)
    have X := Lib.hid Y
    clear Y
    generalize ((W.alloc (.cells #[.int .i64 1] 3)).setCell ⟨g0, 1, none⟩ (.int .u32 ((s ||| o : Nat) : Int))).drew = W2 at *
    obtain ⟨a0, a1, a2, a3, a4, a5, a6, a7, a8, a9, a10, a11, a12, a13⟩ := cells14 (X.out.at 0 rfl)
    obtain ⟨f0, f1, f2, f3, f4, f5, f6, f7, f8, f9, f10, f11, f12, f13⟩ := frozen14 (X.out.at 0 rfl)
    obtain ⟨d0, d1, d2, d3, d4⟩ := FrameW.cells5 (X.out.at 2 rfl)
    clear f0 f1 f2 f4 f5 f6 f7 f8 f9 f10 f11 f12 f13
    go_upto_region 3 with (fail)
    have Y : Stay w [(g0, .cells #[.int .i64 b, .int .u32 ((s ||| o : Nat) : Int), .int .i64 (R 0), .int .i64 (t - b), .int .i64 (R 2), .int .i64 (R 3), .int .i64 (R 4), .int .i64 (R 5), .int .i64 (C 0), .int .i64 (C 1), .int .i64 (C 2), .int .i64 (C 3), .int .i64 (C 4), .int .i64 (C 5)] 62 (0, 0)), (g0 + 1 + 1, gz), (g0 + 1, cb k 1 y c l)] (W2.setCell ⟨g0, 3, none⟩ (.int .i64 (t - b))) := by
      refine (X.out.turn (kept1 _ g0 3 _) (heap_setCell_same _ g0 3 _ _ _ (X.out.at 0 rfl)) (by have := HG.out; omega) ?_)
      intro x hx
      simp only [List.mem_cons, List.not_mem_nil, or_false] at hx
      rcases hx with rfl | rfl <;> (dsimp only; omega)
    clear a0 a1 a2 a3 a4 a5 a6 a7 a8 a9 a10 a11 a12 a13 d0 d1 d2 d3 d4 f3 X
    have X := Lib.hid Y
    clear Y
    generalize W2.setCell ⟨g0, 3, none⟩ (.int .i64 (t - b)) = W3 at *
    obtain ⟨a0, a1, a2, a3, a4, a5, a6, a7, a8, a9, a10, a11, a12, a13⟩ := cells14 (X.out.at 0 rfl)
    obtain ⟨f0, f1, f2, f3, f4, f5, f6, f7, f8, f9, f10, f11, f12, f13⟩ := frozen14 (X.out.at 0 rfl)
    obtain ⟨d0, d1, d2, d3, d4⟩ := FrameW.cells5 (X.out.at 2 rfl)
    clear f0 f1 f2 f3 f4 f5 f6 f7 f8 f10 f11 f12 f13
    go_upto_region 4 with (fail)
    have Y : Stay w [(g0, .cells #[.int .i64 b, .int .u32 ((s ||| o : Nat) : Int), .int .i64 (R 0), .int .i64 (t - b), .int .i64 (R 2), .int .i64 (R 3), .int .i64 (R 4), .int .i64 (R 5), .int .i64 (C 0), .int .i64 y, .int .i64 (C 2), .int .i64 (C 3), .int .i64 (C 4), .int .i64 (C 5)] 62 (0, 0)), (g0 + 1 + 1, gz), (g0 + 1, cb k 1 y c l)] (W3.setCell ⟨g0, 9, none⟩ (.int .i64 y)) := by
      refine (X.out.turn (kept1 _ g0 9 _) (heap_setCell_same _ g0 9 _ _ _ (X.out.at 0 rfl)) (by have := HG.out; omega) ?_)
      intro x hx
      simp only [List.mem_cons, List.not_mem_nil, or_false] at hx
      rcases hx with rfl | rfl <;> (dsimp only; omega)
    clear a0 a1 a2 a3 a4 a5 a6 a7 a8 a9 a10 a11 a12 a13 d0 d1 d2 d3 d4 f9 X
    have X := Lib.hid Y
    clear Y
    generalize W3.setCell ⟨g0, 9, none⟩ (.int .i64 y) = W4 at *
    obtain ⟨a0, a1, a2, a3, a4, a5, a6, a7, a8, a9, a10, a11, a12, a13⟩ := cells14 (X.out.at 0 rfl)
    obtain ⟨z0, z1, z2, z3, z4, z5, z6, z7, z8, z9, z10, z11, z12, z13⟩ := cells14 (X.out.at 1 rfl)
    obtain ⟨f0, f1, f2, f3, f4, f5, f6, f7, f8, f9, f10, f11, f12, f13⟩ := frozen14 (X.out.at 1 rfl)
    go_wp2
    refine ret_g rfl rfl (whole14 (X.out.at 1 rfl) _ _ _ _ _ _ _ _ _ _ _ _ _ _) ⟨?_, X.out.b.trans ((hold14 W4 (g0 + 1 + 1) _ _ _ _ _ _ _ _ _ _ _ _ _ _).below (by have := HG.out; omega) X.out.b.size)⟩
    rfl
set_option maxHeartbeats 2000000 in
theorem with_2 (b t y c l k : Int) (s : Nat) (R C : Nat → Int) (hs : s < 64) (ht : IntKind.i64.wrap (t - b) = t - b) (w : World) :
    Calls Try.prog 24 #[GV b s R C, .int .i64 t, CV k 2 y c l] w fun e w' => e = .returned (GV b (s ||| only 2) (upd R 2 (t - b)) (upd C 2 y)) ∧ Below w.heap.size w w' := by
  have HO := fun A W h => of_any A 1 1 [(2 : Int)] W h rfl (by decide)
  rw [CrewW.of_one] at HO
  have HB := Lib.hid (u32_or_nat s (only 2) (by omega) (by have := CrewW.only_lt 2; omega))
  generalize only 2 = o at *
  have HO := Lib.hid HO
  have X := (((Stay.start w).alloc (gbx b s R C)).alloc (cb k 2 y c l)).alloc gz
  simp only [World.size_alloc] at X
  have X := Lib.hid X
  go_enter Try.func24, Try.ntmps24
  go_upto_region 1 with (fail)
  generalize ((w.alloc (gbx b s R C)).alloc (cb k 2 y c l)).alloc gz = W at *
  generalize hg0 : w.heap.size = g0 at *
  have HG := Lib.hid hg0
  clear hg0
  obtain ⟨a0, a1, a2, a3, a4, a5, a6, a7, a8, a9, a10, a11, a12, a13⟩ := cells14 (X.out.at 2 rfl)
  obtain ⟨f0, f1, f2, f3, f4, f5, f6, f7, f8, f9, f10, f11, f12, f13⟩ := frozen14 (X.out.at 2 rfl)
  obtain ⟨d0, d1, d2, d3, d4⟩ := FrameW.cells5 (X.out.at 1 rfl)
  clear f0 f2 f3 f4 f5 f6 f7 f8 f9 f10 f11 f12 f13
  have e9 : bits BinOp.or IntKind.u32 (s : Int) (o : Int) = ((s ||| o : Nat) : Int) := HB.out
  clear a0 a2 a3 a4 a5 a6 a7 a8 a9 a10 a11 a12 a13 d0 d2 d3 d4
  have g9 := lt_of_heap (X.out.at 2 rfl)
  have k1 : (W.alloc (.cells #[.int .i64 2] 3)).cell? ⟨g0, 1, none⟩ = some (.int .u32 (s : Int)) := cell_keep a1 (al (Below.refl _ _) _)
  have k2 : (W.alloc (.cells #[.int .i64 2] 3)).frozen? ⟨g0, 1, none⟩ = false := ((al (Below.refl _ _) _).frozen g9).trans f1
  clear g9
  apply wp_one
  case h =>
    refine wp_region_noPanic ?_
    go_region_law (first | (go_at_call 32; refine (HO.out _ _ ?_).mono ?_; exact CrewW.one_cl W 2 (by decide) (by decide) _; rintro e w1 ⟨rfl, hw⟩; obtain rfl := hw.symm) | (go_simp; go_at_call 32; refine (HO.out _ _ ?_).mono ?_; exact CrewW.one_cl W 2 (by decide) (by decide) _; rintro e w1 ⟨rfl, hw⟩; obtain rfl := hw.symm))
    all_goals exact NoPanic.normal ⟨rfl, rfl, rfl⟩
  case hm =>
    clear a1 f1 d1 k1 k2 e9 HO HB
    have Y : Stay w [(g0, gbx b (s ||| o) R C), (g0 + 1 + 1, gz), (g0 + 1, cb k 2 y c l)] ((W.alloc (.cells #[.int .i64 2] 3)).setCell ⟨g0, 1, none⟩ (.int .u32 ((s ||| o : Nat) : Int))).drew := by
      have Y := ((X.out.alloc (.cells #[.int .i64 2] 3)).sub (M := [(g0, gbx b s R C), (g0 + 1 + 1, gz), (g0 + 1, cb k 2 y c l)]) (by simp))
      refine (Y.turn (kept1 _ g0 1 _) (heap_setCell_same _ g0 1 _ _ _ (Y.at 0 rfl)) (by have := HG.out; omega) ?_).drew
      intro x hx
      simp only [List.mem_cons, List.not_mem_nil, or_false] at hx
      rcases hx with rfl | rfl <;> (dsimp only; omega)
    have X := Lib.hid Y
    clear Y
    generalize ((W.alloc (.cells #[.int .i64 2] 3)).setCell ⟨g0, 1, none⟩ (.int .u32 ((s ||| o : Nat) : Int))).drew = W2 at *
    obtain ⟨a0, a1, a2, a3, a4, a5, a6, a7, a8, a9, a10, a11, a12, a13⟩ := cells14 (X.out.at 0 rfl)
    obtain ⟨f0, f1, f2, f3, f4, f5, f6, f7, f8, f9, f10, f11, f12, f13⟩ := frozen14 (X.out.at 0 rfl)
    obtain ⟨d0, d1, d2, d3, d4⟩ := FrameW.cells5 (X.out.at 2 rfl)
    clear f0 f1 f2 f3 f5 f6 f7 f8 f9 f10 f11 f12 f13
    go_upto_region 3 with (fail)
    have Y : Stay w [(g0, .cells #[.int .i64 b, .int .u32 ((s ||| o : Nat) : Int), .int .i64 (R 0), .int .i64 (R 1), .int .i64 (t - b), .int .i64 (R 3), .int .i64 (R 4), .int .i64 (R 5), .int .i64 (C 0), .int .i64 (C 1), .int .i64 (C 2), .int .i64 (C 3), .int .i64 (C 4), .int .i64 (C 5)] 62 (0, 0)), (g0 + 1 + 1, gz), (g0 + 1, cb k 2 y c l)] (W2.setCell ⟨g0, 4, none⟩ (.int .i64 (t - b))) := by
      refine (X.out.turn (kept1 _ g0 4 _) (heap_setCell_same _ g0 4 _ _ _ (X.out.at 0 rfl)) (by have := HG.out; omega) ?_)
      intro x hx
      simp only [List.mem_cons, List.not_mem_nil, or_false] at hx
      rcases hx with rfl | rfl <;> (dsimp only; omega)
    clear a0 a1 a2 a3 a4 a5 a6 a7 a8 a9 a10 a11 a12 a13 d0 d1 d2 d3 d4 f4 X
    have X := Lib.hid Y
    clear Y
    generalize W2.setCell ⟨g0, 4, none⟩ (.int .i64 (t - b)) = W3 at *
    obtain ⟨a0, a1, a2, a3, a4, a5, a6, a7, a8, a9, a10, a11, a12, a13⟩ := cells14 (X.out.at 0 rfl)
    obtain ⟨f0, f1, f2, f3, f4, f5, f6, f7, f8, f9, f10, f11, f12, f13⟩ := frozen14 (X.out.at 0 rfl)
    obtain ⟨d0, d1, d2, d3, d4⟩ := FrameW.cells5 (X.out.at 2 rfl)
    clear f0 f1 f2 f3 f4 f5 f6 f7 f8 f9 f11 f12 f13
    go_upto_region 4 with (fail)
    have Y : Stay w [(g0, .cells #[.int .i64 b, .int .u32 ((s ||| o : Nat) : Int), .int .i64 (R 0), .int .i64 (R 1), .int .i64 (t - b), .int .i64 (R 3), .int .i64 (R 4), .int .i64 (R 5), .int .i64 (C 0), .int .i64 (C 1), .int .i64 y, .int .i64 (C 3), .int .i64 (C 4), .int .i64 (C 5)] 62 (0, 0)), (g0 + 1 + 1, gz), (g0 + 1, cb k 2 y c l)] (W3.setCell ⟨g0, 10, none⟩ (.int .i64 y)) := by
      refine (X.out.turn (kept1 _ g0 10 _) (heap_setCell_same _ g0 10 _ _ _ (X.out.at 0 rfl)) (by have := HG.out; omega) ?_)
      intro x hx
      simp only [List.mem_cons, List.not_mem_nil, or_false] at hx
      rcases hx with rfl | rfl <;> (dsimp only; omega)
    clear a0 a1 a2 a3 a4 a5 a6 a7 a8 a9 a10 a11 a12 a13 d0 d1 d2 d3 d4 f10 X
    have X := Lib.hid Y
    clear Y
    generalize W3.setCell ⟨g0, 10, none⟩ (.int .i64 y) = W4 at *
    obtain ⟨a0, a1, a2, a3, a4, a5, a6, a7, a8, a9, a10, a11, a12, a13⟩ := cells14 (X.out.at 0 rfl)
    obtain ⟨z0, z1, z2, z3, z4, z5, z6, z7, z8, z9, z10, z11, z12, z13⟩ := cells14 (X.out.at 1 rfl)
    obtain ⟨f0, f1, f2, f3, f4, f5, f6, f7, f8, f9, f10, f11, f12, f13⟩ := frozen14 (X.out.at 1 rfl)
    go_wp2
    refine ret_g rfl rfl (whole14 (X.out.at 1 rfl) _ _ _ _ _ _ _ _ _ _ _ _ _ _) ⟨?_, X.out.b.trans ((hold14 W4 (g0 + 1 + 1) _ _ _ _ _ _ _ _ _ _ _ _ _ _).below (by have := HG.out; omega) X.out.b.size)⟩
    rfl
set_option maxHeartbeats 2000000 in
theorem with_3 (b t y c l k : Int) (s : Nat) (R C : Nat → Int) (hs : s < 64) (ht : IntKind.i64.wrap (t - b) = t - b) (w : World) :
    Calls Try.prog 24 #[GV b s R C, .int .i64 t, CV k 3 y c l] w fun e w' => e = .returned (GV b (s ||| only 3) (upd R 3 (t - b)) (upd C 3 y)) ∧ Below w.heap.size w w' := by
  have HO := fun A W h => of_any A 1 1 [(3 : Int)] W h rfl (by decide)
  rw [CrewW.of_one] at HO
  have HB := Lib.hid (u32_or_nat s (only 3) (by omega) (by have := CrewW.only_lt 3; omega))
  generalize only 3 = o at *
  have HO := Lib.hid HO
  have X := (((Stay.start w).alloc (gbx b s R C)).alloc (cb k 3 y c l)).alloc gz
  simp only [World.size_alloc] at X
  have X := Lib.hid X
  go_enter Try.func24, Try.ntmps24
  go_upto_region 1 with (fail)
  generalize ((w.alloc (gbx b s R C)).alloc (cb k 3 y c l)).alloc gz = W at *
  generalize hg0 : w.heap.size = g0 at *
  have HG := Lib.hid hg0
  clear hg0
  obtain ⟨a0, a1, a2, a3, a4, a5, a6, a7, a8, a9, a10, a11, a12, a13⟩ := cells14 (X.out.at 2 rfl)
  obtain ⟨f0, f1, f2, f3, f4, f5, f6, f7, f8, f9, f10, f11, f12, f13⟩ := frozen14 (X.out.at 2 rfl)
  obtain ⟨d0, d1, d2, d3, d4⟩ := FrameW.cells5 (X.out.at 1 rfl)
  clear f0 f2 f3 f4 f5 f6 f7 f8 f9 f10 f11 f12 f13
  have e9 : bits BinOp.or IntKind.u32 (s : Int) (o : Int) = ((s ||| o : Nat) : Int) := HB.out
  clear a0 a2 a3 a4 a5 a6 a7 a8 a9 a10 a11 a12 a13 d0 d2 d3 d4
  have g9 := lt_of_heap (X.out.at 2 rfl)
  have k1 : (W.alloc (.cells #[.int .i64 3] 3)).cell? ⟨g0, 1, none⟩ = some (.int .u32 (s : Int)) := cell_keep a1 (al (Below.refl _ _) _)
  have k2 : (W.alloc (.cells #[.int .i64 3] 3)).frozen? ⟨g0, 1, none⟩ = false := ((al (Below.refl _ _) _).frozen g9).trans f1
  clear g9
  apply wp_one
  case h =>
    refine wp_region_noPanic ?_
    go_region_law (first | (go_at_call 32; refine (HO.out _ _ ?_).mono ?_; exact CrewW.one_cl W 3 (by decide) (by decide) _; rintro e w1 ⟨rfl, hw⟩; obtain rfl := hw.symm) | (go_simp; go_at_call 32; refine (HO.out _ _ ?_).mono ?_; exact CrewW.one_cl W 3 (by decide) (by decide) _; rintro e w1 ⟨rfl, hw⟩; obtain rfl := hw.symm))
    all_goals exact NoPanic.normal ⟨rfl, rfl, rfl⟩
  case hm =>
    clear a1 f1 d1 k1 k2 e9 HO HB
    have Y : Stay w [(g0, gbx b (s ||| o) R C), (g0 + 1 + 1, gz), (g0 + 1, cb k 3 y c l)] ((W.alloc (.cells #[.int .i64 3] 3)).setCell ⟨g0, 1, none⟩ (.int .u32 ((s ||| o : Nat) : Int))).drew := by
      have Y := ((X.out.alloc (.cells #[.int .i64 3] 3)).sub (M := [(g0, gbx b s R C), (g0 + 1 + 1, gz), (g0 + 1, cb k 3 y c l)]) (by simp))
      refine (Y.turn (kept1 _ g0 1 _) (heap_setCell_same _ g0 1 _ _ _ (Y.at 0 rfl)) (by have := HG.out; omega) ?_).drew
      intro x hx
      simp only [List.mem_cons, List.not_mem_nil, or_false] at hx
      rcases hx with rfl | rfl <;> (dsimp only; omega)
    have X := Lib.hid Y
    clear Y
    generalize ((W.alloc (.cells #[.int .i64 3] 3)).setCell ⟨g0, 1, none⟩ (.int .u32 ((s ||| o : Nat) : Int))).drew = W2 at *
    obtain ⟨a0, a1, a2, a3, a4, a5, a6, a7, a8, a9, a10, a11, a12, a13⟩ := cells14 (X.out.at 0 rfl)
    obtain ⟨f0, f1, f2, f3, f4, f5, f6, f7, f8, f9, f10, f11, f12, f13⟩ := frozen14 (X.out.at 0 rfl)
    obtain ⟨d0, d1, d2, d3, d4⟩ := FrameW.cells5 (X.out.at 2 rfl)
    clear f0 f1 f2 f3 f4 f6 f7 f8 f9 f10 f11 f12 f13
    go_upto_region 3 with (fail)
    have Y : Stay w [(g0, .cells #[.int .i64 b, .int .u32 ((s ||| o : Nat) : Int), .int .i64 (R 0), .int .i64 (R 1), .int .i64 (R 2), .int .i64 (t - b), .int .i64 (R 4), .int .i64 (R 5), .int .i64 (C 0), .int .i64 (C 1), .int .i64 (C 2), .int .i64 (C 3), .int .i64 (C 4), .int .i64 (C 5)] 62 (0, 0)), (g0 + 1 + 1, gz), (g0 + 1, cb k 3 y c l)] (W2.setCell ⟨g0, 5, none⟩ (.int .i64 (t - b))) := by
      refine (X.out.turn (kept1 _ g0 5 _) (heap_setCell_same _ g0 5 _ _ _ (X.out.at 0 rfl)) (by have := HG.out; omega) ?_)
      intro x hx
      simp only [List.mem_cons, List.not_mem_nil, or_false] at hx
      rcases hx with rfl | rfl <;> (dsimp only; omega)
    clear a0 a1 a2 a3 a4 a5 a6 a7 a8 a9 a10 a11 a12 a13 d0 d1 d2 d3 d4 f5 X
    have X := Lib.hid Y
    clear Y
    generalize W2.setCell ⟨g0, 5, none⟩ (.int .i64 (t - b)) = W3 at *
    obtain ⟨a0, a1, a2, a3, a4, a5, a6, a7, a8, a9, a10, a11, a12, a13⟩ := cells14 (X.out.at 0 rfl)
    obtain ⟨f0, f1, f2, f3, f4, f5, f6, f7, f8, f9, f10, f11, f12, f13⟩ := frozen14 (X.out.at 0 rfl)
    obtain ⟨d0, d1, d2, d3, d4⟩ := FrameW.cells5 (X.out.at 2 rfl)
    clear f0 f1 f2 f3 f4 f5 f6 f7 f8 f9 f10 f12 f13
    go_upto_region 4 with (fail)
    have Y : Stay w [(g0, .cells #[.int .i64 b, .int .u32 ((s ||| o : Nat) : Int), .int .i64 (R 0), .int .i64 (R 1), .int .i64 (R 2), .int .i64 (t - b), .int .i64 (R 4), .int .i64 (R 5), .int .i64 (C 0), .int .i64 (C 1), .int .i64 (C 2), .int .i64 y, .int .i64 (C 4), .int .i64 (C 5)] 62 (0, 0)), (g0 + 1 + 1, gz), (g0 + 1, cb k 3 y c l)] (W3.setCell ⟨g0, 11, none⟩ (.int .i64 y)) := by
      refine (X.out.turn (kept1 _ g0 11 _) (heap_setCell_same _ g0 11 _ _ _ (X.out.at 0 rfl)) (by have := HG.out; omega) ?_)
      intro x hx
      simp only [List.mem_cons, List.not_mem_nil, or_false] at hx
      rcases hx with rfl | rfl <;> (dsimp only; omega)
    clear a0 a1 a2 a3 a4 a5 a6 a7 a8 a9 a10 a11 a12 a13 d0 d1 d2 d3 d4 f11 X
    have X := Lib.hid Y
    clear Y
    generalize W3.setCell ⟨g0, 11, none⟩ (.int .i64 y) = W4 at *
    obtain ⟨a0, a1, a2, a3, a4, a5, a6, a7, a8, a9, a10, a11, a12, a13⟩ := cells14 (X.out.at 0 rfl)
    obtain ⟨z0, z1, z2, z3, z4, z5, z6, z7, z8, z9, z10, z11, z12, z13⟩ := cells14 (X.out.at 1 rfl)
    obtain ⟨f0, f1, f2, f3, f4, f5, f6, f7, f8, f9, f10, f11, f12, f13⟩ := frozen14 (X.out.at 1 rfl)
    go_wp2
    refine ret_g rfl rfl (whole14 (X.out.at 1 rfl) _ _ _ _ _ _ _ _ _ _ _ _ _ _) ⟨?_, X.out.b.trans ((hold14 W4 (g0 + 1 + 1) _ _ _ _ _ _ _ _ _ _ _ _ _ _).below (by have := HG.out; omega) X.out.b.size)⟩
    rfl
set_option maxHeartbeats 2000000 in
theorem with_4 (b t y c l k : Int) (s : Nat) (R C : Nat → Int) (hs : s < 64) (ht : IntKind.i64.wrap (t - b) = t - b) (w : World) :
    Calls Try.prog 24 #[GV b s R C, .int .i64 t, CV k 4 y c l] w fun e w' => e = .returned (GV b (s ||| only 4) (upd R 4 (t - b)) (upd C 4 y)) ∧ Below w.heap.size w w' := by
  have HO := fun A W h => of_any A 1 1 [(4 : Int)] W h rfl (by decide)
  rw [CrewW.of_one] at HO
  have HB := Lib.hid (u32_or_nat s (only 4) (by omega) (by have := CrewW.only_lt 4; omega))
  generalize only 4 = o at *
  have HO := Lib.hid HO
  have X := (((Stay.start w).alloc (gbx b s R C)).alloc (cb k 4 y c l)).alloc gz
  simp only [World.size_alloc] at X
  have X := Lib.hid X
  go_enter Try.func24, Try.ntmps24
  go_upto_region 1 with (fail)
  generalize ((w.alloc (gbx b s R C)).alloc (cb k 4 y c l)).alloc gz = W at *
  generalize hg0 : w.heap.size = g0 at *
  have HG := Lib.hid hg0
  clear hg0
  obtain ⟨a0, a1, a2, a3, a4, a5, a6, a7, a8, a9, a10, a11, a12, a13⟩ := cells14 (X.out.at 2 rfl)
  obtain ⟨f0, f1, f2, f3, f4, f5, f6, f7, f8, f9, f10, f11, f12, f13⟩ := frozen14 (X.out.at 2 rfl)
  obtain ⟨d0, d1, d2, d3, d4⟩ := FrameW.cells5 (X.out.at 1 rfl)
  clear f0 f2 f3 f4 f5 f6 f7 f8 f9 f10 f11 f12 f13
  have e9 : bits BinOp.or IntKind.u32 (s : Int) (o : Int) = ((s ||| o : Nat) : Int) := HB.out
  clear a0 a2 a3 a4 a5 a6 a7 a8 a9 a10 a11 a12 a13 d0 d2 d3 d4
  have g9 := lt_of_heap (X.out.at 2 rfl)
  have k1 : (W.alloc (.cells #[.int .i64 4] 3)).cell? ⟨g0, 1, none⟩ = some (.int .u32 (s : Int)) := cell_keep a1 (al (Below.refl _ _) _)
  have k2 : (W.alloc (.cells #[.int .i64 4] 3)).frozen? ⟨g0, 1, none⟩ = false := ((al (Below.refl _ _) _).frozen g9).trans f1
  clear g9
  apply wp_one
  case h =>
    refine wp_region_noPanic ?_
    go_region_law (first | (go_at_call 32; refine (HO.out _ _ ?_).mono ?_; exact CrewW.one_cl W 4 (by decide) (by decide) _; rintro e w1 ⟨rfl, hw⟩; obtain rfl := hw.symm) | (go_simp; go_at_call 32; refine (HO.out _ _ ?_).mono ?_; exact CrewW.one_cl W 4 (by decide) (by decide) _; rintro e w1 ⟨rfl, hw⟩; obtain rfl := hw.symm))
    all_goals exact NoPanic.normal ⟨rfl, rfl, rfl⟩
  case hm =>
    clear a1 f1 d1 k1 k2 e9 HO HB
    have Y : Stay w [(g0, gbx b (s ||| o) R C), (g0 + 1 + 1, gz), (g0 + 1, cb k 4 y c l)] ((W.alloc (.cells #[.int .i64 4] 3)).setCell ⟨g0, 1, none⟩ (.int .u32 ((s ||| o : Nat) : Int))).drew := by
      have Y := ((X.out.alloc (.cells #[.int .i64 4] 3)).sub (M := [(g0, gbx b s R C), (g0 + 1 + 1, gz), (g0 + 1, cb k 4 y c l)]) (by simp))
      refine (Y.turn (kept1 _ g0 1 _) (heap_setCell_same _ g0 1 _ _ _ (Y.at 0 rfl)) (by have := HG.out; omega) ?_).drew
      intro x hx
      simp only [List.mem_cons, List.not_mem_nil, or_false] at hx
      rcases hx with rfl | rfl <;> (dsimp only; omega)
    have X := Lib.hid Y
    clear Y
    generalize ((W.alloc (.cells #[.int .i64 4] 3)).setCell ⟨g0, 1, none⟩ (.int .u32 ((s ||| o : Nat) : Int))).drew = W2 at *
    obtain ⟨a0, a1, a2, a3, a4, a5, a6, a7, a8, a9, a10, a11, a12, a13⟩ := cells14 (X.out.at 0 rfl)
    obtain ⟨f0, f1, f2, f3, f4, f5, f6, f7, f8, f9, f10, f11, f12, f13⟩ := frozen14 (X.out.at 0 rfl)
    obtain ⟨d0, d1, d2, d3, d4⟩ := FrameW.cells5 (X.out.at 2 rfl)
    clear f0 f1 f2 f3 f4 f5 f7 f8 f9 f10 f11 f12 f13
    go_upto_region 3 with (fail)
    have Y : Stay w [(g0, .cells #[.int .i64 b, .int .u32 ((s ||| o : Nat) : Int), .int .i64 (R 0), .int .i64 (R 1), .int .i64 (R 2), .int .i64 (R 3), .int .i64 (t - b), .int .i64 (R 5), .int .i64 (C 0), .int .i64 (C 1), .int .i64 (C 2), .int .i64 (C 3), .int .i64 (C 4), .int .i64 (C 5)] 62 (0, 0)), (g0 + 1 + 1, gz), (g0 + 1, cb k 4 y c l)] (W2.setCell ⟨g0, 6, none⟩ (.int .i64 (t - b))) := by
      refine (X.out.turn (kept1 _ g0 6 _) (heap_setCell_same _ g0 6 _ _ _ (X.out.at 0 rfl)) (by have := HG.out; omega) ?_)
      intro x hx
      simp only [List.mem_cons, List.not_mem_nil, or_false] at hx
      rcases hx with rfl | rfl <;> (dsimp only; omega)
    clear a0 a1 a2 a3 a4 a5 a6 a7 a8 a9 a10 a11 a12 a13 d0 d1 d2 d3 d4 f6 X
    have X := Lib.hid Y
    clear Y
    generalize W2.setCell ⟨g0, 6, none⟩ (.int .i64 (t - b)) = W3 at *
    obtain ⟨a0, a1, a2, a3, a4, a5, a6, a7, a8, a9, a10, a11, a12, a13⟩ := cells14 (X.out.at 0 rfl)
    obtain ⟨f0, f1, f2, f3, f4, f5, f6, f7, f8, f9, f10, f11, f12, f13⟩ := frozen14 (X.out.at 0 rfl)
    obtain ⟨d0, d1, d2, d3, d4⟩ := FrameW.cells5 (X.out.at 2 rfl)
    clear f0 f1 f2 f3 f4 f5 f6 f7 f8 f9 f10 f11 f13
    go_upto_region 4 with (fail)
    have Y : Stay w [(g0, .cells #[.int .i64 b, .int .u32 ((s ||| o : Nat) : Int), .int .i64 (R 0), .int .i64 (R 1), .int .i64 (R 2), .int .i64 (R 3), .int .i64 (t - b), .int .i64 (R 5), .int .i64 (C 0), .int .i64 (C 1), .int .i64 (C 2), .int .i64 (C 3), .int .i64 y, .int .i64 (C 5)] 62 (0, 0)), (g0 + 1 + 1, gz), (g0 + 1, cb k 4 y c l)] (W3.setCell ⟨g0, 12, none⟩ (.int .i64 y)) := by
      refine (X.out.turn (kept1 _ g0 12 _) (heap_setCell_same _ g0 12 _ _ _ (X.out.at 0 rfl)) (by have := HG.out; omega) ?_)
      intro x hx
      simp only [List.mem_cons, List.not_mem_nil, or_false] at hx
      rcases hx with rfl | rfl <;> (dsimp only; omega)
    clear a0 a1 a2 a3 a4 a5 a6 a7 a8 a9 a10 a11 a12 a13 d0 d1 d2 d3 d4 f12 X
    have X := Lib.hid Y
    clear Y
    generalize W3.setCell ⟨g0, 12, none⟩ (.int .i64 y) = W4 at *
    obtain ⟨a0, a1, a2, a3, a4, a5, a6, a7, a8, a9, a10, a11, a12, a13⟩ := cells14 (X.out.at 0 rfl)
    obtain ⟨z0, z1, z2, z3, z4, z5, z6, z7, z8, z9, z10, z11, z12, z13⟩ := cells14 (X.out.at 1 rfl)
    obtain ⟨f0, f1, f2, f3, f4, f5, f6, f7, f8, f9, f10, f11, f12, f13⟩ := frozen14 (X.out.at 1 rfl)
    go_wp2
    refine ret_g rfl rfl (whole14 (X.out.at 1 rfl) _ _ _ _ _ _ _ _ _ _ _ _ _ _) ⟨?_, X.out.b.trans ((hold14 W4 (g0 + 1 + 1) _ _ _ _ _ _ _ _ _ _ _ _ _ _).below (by have := HG.out; omega) X.out.b.size)⟩
    rfl
set_option maxHeartbeats 2000000 in
theorem with_5 (b t y c l k : Int) (s : Nat) (R C : Nat → Int) (hs : s < 64) (ht : IntKind.i64.wrap (t - b) = t - b) (w : World) :
    Calls Try.prog 24 #[GV b s R C, .int .i64 t, CV k 5 y c l] w fun e w' => e = .returned (GV b (s ||| only 5) (upd R 5 (t - b)) (upd C 5 y)) ∧ Below w.heap.size w w' := by
  have HO := fun A W h => of_any A 1 1 [(5 : Int)] W h rfl (by decide)
  rw [CrewW.of_one] at HO
  have HB := Lib.hid (u32_or_nat s (only 5) (by omega) (by have := CrewW.only_lt 5; omega))
  generalize only 5 = o at *
  have HO := Lib.hid HO
  have X := (((Stay.start w).alloc (gbx b s R C)).alloc (cb k 5 y c l)).alloc gz
  simp only [World.size_alloc] at X
  have X := Lib.hid X
  go_enter Try.func24, Try.ntmps24
  go_upto_region 1 with (fail)
  generalize ((w.alloc (gbx b s R C)).alloc (cb k 5 y c l)).alloc gz = W at *
  generalize hg0 : w.heap.size = g0 at *
  have HG := Lib.hid hg0
  clear hg0
  obtain ⟨a0, a1, a2, a3, a4, a5, a6, a7, a8, a9, a10, a11, a12, a13⟩ := cells14 (X.out.at 2 rfl)
  obtain ⟨f0, f1, f2, f3, f4, f5, f6, f7, f8, f9, f10, f11, f12, f13⟩ := frozen14 (X.out.at 2 rfl)
  obtain ⟨d0, d1, d2, d3, d4⟩ := FrameW.cells5 (X.out.at 1 rfl)
  clear f0 f2 f3 f4 f5 f6 f7 f8 f9 f10 f11 f12 f13
  have e9 : bits BinOp.or IntKind.u32 (s : Int) (o : Int) = ((s ||| o : Nat) : Int) := HB.out
  clear a0 a2 a3 a4 a5 a6 a7 a8 a9 a10 a11 a12 a13 d0 d2 d3 d4
  have g9 := lt_of_heap (X.out.at 2 rfl)
  have k1 : (W.alloc (.cells #[.int .i64 5] 3)).cell? ⟨g0, 1, none⟩ = some (.int .u32 (s : Int)) := cell_keep a1 (al (Below.refl _ _) _)
  have k2 : (W.alloc (.cells #[.int .i64 5] 3)).frozen? ⟨g0, 1, none⟩ = false := ((al (Below.refl _ _) _).frozen g9).trans f1
  clear g9
  apply wp_one
  case h =>
    refine wp_region_noPanic ?_
    go_region_law (first | (go_at_call 32; refine (HO.out _ _ ?_).mono ?_; exact CrewW.one_cl W 5 (by decide) (by decide) _; rintro e w1 ⟨rfl, hw⟩; obtain rfl := hw.symm) | (go_simp; go_at_call 32; refine (HO.out _ _ ?_).mono ?_; exact CrewW.one_cl W 5 (by decide) (by decide) _; rintro e w1 ⟨rfl, hw⟩; obtain rfl := hw.symm))
    all_goals exact NoPanic.normal ⟨rfl, rfl, rfl⟩
  case hm =>
    clear a1 f1 d1 k1 k2 e9 HO HB
    have Y : Stay w [(g0, gbx b (s ||| o) R C), (g0 + 1 + 1, gz), (g0 + 1, cb k 5 y c l)] ((W.alloc (.cells #[.int .i64 5] 3)).setCell ⟨g0, 1, none⟩ (.int .u32 ((s ||| o : Nat) : Int))).drew := by
      have Y := ((X.out.alloc (.cells #[.int .i64 5] 3)).sub (M := [(g0, gbx b s R C), (g0 + 1 + 1, gz), (g0 + 1, cb k 5 y c l)]) (by simp))
      refine (Y.turn (kept1 _ g0 1 _) (heap_setCell_same _ g0 1 _ _ _ (Y.at 0 rfl)) (by have := HG.out; omega) ?_).drew
      intro x hx
      simp only [List.mem_cons, List.not_mem_nil, or_false] at hx
      rcases hx with rfl | rfl <;> (dsimp only; omega)
    have X := Lib.hid Y
    clear Y
    generalize ((W.alloc (.cells #[.int .i64 5] 3)).setCell ⟨g0, 1, none⟩ (.int .u32 ((s ||| o : Nat) : Int))).drew = W2 at *
    obtain ⟨a0, a1, a2, a3, a4, a5, a6, a7, a8, a9, a10, a11, a12, a13⟩ := cells14 (X.out.at 0 rfl)
    obtain ⟨f0, f1, f2, f3, f4, f5, f6, f7, f8, f9, f10, f11, f12, f13⟩ := frozen14 (X.out.at 0 rfl)
    obtain ⟨d0, d1, d2, d3, d4⟩ := FrameW.cells5 (X.out.at 2 rfl)
    clear f0 f1 f2 f3 f4 f5 f6 f8 f9 f10 f11 f12 f13
    go_upto_region 3 with (fail)
    have Y : Stay w [(g0, .cells #[.int .i64 b, .int .u32 ((s ||| o : Nat) : Int), .int .i64 (R 0), .int .i64 (R 1), .int .i64 (R 2), .int .i64 (R 3), .int .i64 (R 4), .int .i64 (t - b), .int .i64 (C 0), .int .i64 (C 1), .int .i64 (C 2), .int .i64 (C 3), .int .i64 (C 4), .int .i64 (C 5)] 62 (0, 0)), (g0 + 1 + 1, gz), (g0 + 1, cb k 5 y c l)] (W2.setCell ⟨g0, 7, none⟩ (.int .i64 (t - b))) := by
      refine (X.out.turn (kept1 _ g0 7 _) (heap_setCell_same _ g0 7 _ _ _ (X.out.at 0 rfl)) (by have := HG.out; omega) ?_)
      intro x hx
      simp only [List.mem_cons, List.not_mem_nil, or_false] at hx
      rcases hx with rfl | rfl <;> (dsimp only; omega)
    clear a0 a1 a2 a3 a4 a5 a6 a7 a8 a9 a10 a11 a12 a13 d0 d1 d2 d3 d4 f7 X
    have X := Lib.hid Y
    clear Y
    generalize W2.setCell ⟨g0, 7, none⟩ (.int .i64 (t - b)) = W3 at *
    obtain ⟨a0, a1, a2, a3, a4, a5, a6, a7, a8, a9, a10, a11, a12, a13⟩ := cells14 (X.out.at 0 rfl)
    obtain ⟨f0, f1, f2, f3, f4, f5, f6, f7, f8, f9, f10, f11, f12, f13⟩ := frozen14 (X.out.at 0 rfl)
    obtain ⟨d0, d1, d2, d3, d4⟩ := FrameW.cells5 (X.out.at 2 rfl)
    clear f0 f1 f2 f3 f4 f5 f6 f7 f8 f9 f10 f11 f12
    go_upto_region 4 with (fail)
    have Y : Stay w [(g0, .cells #[.int .i64 b, .int .u32 ((s ||| o : Nat) : Int), .int .i64 (R 0), .int .i64 (R 1), .int .i64 (R 2), .int .i64 (R 3), .int .i64 (R 4), .int .i64 (t - b), .int .i64 (C 0), .int .i64 (C 1), .int .i64 (C 2), .int .i64 (C 3), .int .i64 (C 4), .int .i64 y] 62 (0, 0)), (g0 + 1 + 1, gz), (g0 + 1, cb k 5 y c l)] (W3.setCell ⟨g0, 13, none⟩ (.int .i64 y)) := by
      refine (X.out.turn (kept1 _ g0 13 _) (heap_setCell_same _ g0 13 _ _ _ (X.out.at 0 rfl)) (by have := HG.out; omega) ?_)
      intro x hx
      simp only [List.mem_cons, List.not_mem_nil, or_false] at hx
      rcases hx with rfl | rfl <;> (dsimp only; omega)
    clear a0 a1 a2 a3 a4 a5 a6 a7 a8 a9 a10 a11 a12 a13 d0 d1 d2 d3 d4 f13 X
    have X := Lib.hid Y
    clear Y
    generalize W3.setCell ⟨g0, 13, none⟩ (.int .i64 y) = W4 at *
    obtain ⟨a0, a1, a2, a3, a4, a5, a6, a7, a8, a9, a10, a11, a12, a13⟩ := cells14 (X.out.at 0 rfl)
    obtain ⟨z0, z1, z2, z3, z4, z5, z6, z7, z8, z9, z10, z11, z12, z13⟩ := cells14 (X.out.at 1 rfl)
    obtain ⟨f0, f1, f2, f3, f4, f5, f6, f7, f8, f9, f10, f11, f12, f13⟩ := frozen14 (X.out.at 1 rfl)
    go_wp2
    refine ret_g rfl rfl (whole14 (X.out.at 1 rfl) _ _ _ _ _ _ _ _ _ _ _ _ _ _) ⟨?_, X.out.b.trans ((hold14 W4 (g0 + 1 + 1) _ _ _ _ _ _ _ _ _ _ _ _ _ _).below (by have := HG.out; omega) X.out.b.size)⟩
    rfl
/-- A collection and one frame more. -/
theorem with_any (b t y c l k : Int) (f s : Nat) (R C : Nat → Int) (hf : f < 6) (hs : s < 64) (ht : IntKind.i64.wrap (t - b) = t - b) (w : World) :
    Calls Try.prog 24 #[GV b s R C, .int .i64 t, CV k (f : Int) y c l] w fun e w' => e = .returned (GV b (s ||| only (f : Int)) (upd R f (t - b)) (upd C f y)) ∧ Below w.heap.size w w' := by
  match f, hf with
  | 0, _ => exact with_0 b t y c l k s R C hs ht w
  | 1, _ => exact with_1 b t y c l k s R C hs ht w
  | 2, _ => exact with_2 b t y c l k s R C hs ht w
  | 3, _ => exact with_3 b t y c l k s R C hs ht w
  | 4, _ => exact with_4 b t y c l k s R C hs ht w
  | 5, _ => exact with_5 b t y c l k s R C hs ht w
end Go.Proofs.Ytpjaijibkjmgiaa.CompW
