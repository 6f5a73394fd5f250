/- Package plan: Where, find, Send, Relay, Land. -/
import Derived.Test.YtdaoemjkefpmcaaPlanQ
import Derived.Test.YtdaoemjkefpmcaaConfJ
import Derived.Test.YtdaoemjkefpmcaaSmall
import Derived.Deep.RegionHeld3
import Derived.Deep.RegionLaw
import Derived.Deep.RegionWith
import Derived.Deep.DeepCutAuto
import Derived.Deep.CutBlock
import Derived.Laws.Unary
import Derived.Laws.Cover2
import Derived.Laws.NewBlocks
import Derived.WalkKit
namespace Go.Proofs.Ytdaoemjkefpmcaa.PlanW
open Go.RowKit Shell
open ConfW (Cfg R4 CM ML chk tim fwd ear lat at0 at1 check_any forward_any early_any late_any at_any)
theorem cells9 {w : World} {j : Nat} {v0 v1 v2 v3 v4 v5 v6 v7 v8 : Value} {t : TypeId} (h : w.heap[j]? = some (.cells #[v0, v1, v2, v3, v4, v5, v6, v7, v8] t (0, 0))) : w.cell? ⟨j, 0, none⟩ = some v0 ∧ w.cell? ⟨j, 1, none⟩ = some v1 ∧ w.cell? ⟨j, 2, none⟩ = some v2 ∧ w.cell? ⟨j, 3, none⟩ = some v3 ∧ w.cell? ⟨j, 4, none⟩ = some v4 ∧ w.cell? ⟨j, 5, none⟩ = some v5 ∧ w.cell? ⟨j, 6, none⟩ = some v6 ∧ w.cell? ⟨j, 7, none⟩ = some v7 ∧ w.cell? ⟨j, 8, none⟩ = some v8 :=
  ⟨cell_of_row w j 0 _ _ _ h, cell_of_row w j 1 _ _ _ h, cell_of_row w j 2 _ _ _ h, cell_of_row w j 3 _ _ _ h, cell_of_row w j 4 _ _ _ h, cell_of_row w j 5 _ _ _ h, cell_of_row w j 6 _ _ _ h, cell_of_row w j 7 _ _ _ h, cell_of_row w j 8 _ _ _ h⟩
theorem cells4 {w : World} {j : Nat} {v0 v1 v2 v3 : Value} {t : TypeId} (h : w.heap[j]? = some (.cells #[v0, v1, v2, v3] t (0, 0))) : w.cell? ⟨j, 0, none⟩ = some v0 ∧ w.cell? ⟨j, 1, none⟩ = some v1 ∧ w.cell? ⟨j, 2, none⟩ = some v2 ∧ w.cell? ⟨j, 3, none⟩ = some v3 :=
  ⟨cell_of_row w j 0 _ _ _ h, cell_of_row w j 1 _ _ _ h, cell_of_row w j 2 _ _ _ h, cell_of_row w j 3 _ _ _ h⟩
theorem frozen4 {w : World} {j : Nat} {v0 v1 v2 v3 : Value} {t : TypeId} (h : w.heap[j]? = some (.cells #[v0, v1, v2, v3] t (0, 0))) : w.frozen? ⟨j, 0, none⟩ = false ∧ w.frozen? ⟨j, 1, none⟩ = false ∧ w.frozen? ⟨j, 2, none⟩ = false ∧ w.frozen? ⟨j, 3, none⟩ = false :=
  ⟨frozen_of_row w j 0 _ _ h, frozen_of_row w j 1 _ _ h, frozen_of_row w j 2 _ _ h, frozen_of_row w j 3 _ _ h⟩
theorem put4 {w : World} {k : Nat} {m b r q : Value} {t : TypeId} (h : w.heap[k]? = some (.cells #[m, b, r, q] t (0, 0))) (x y z u : Value) : ((((w.setCell ⟨k, 0, none⟩ x).setCell ⟨k, 1, none⟩ y).setCell ⟨k, 2, none⟩ z).setCell ⟨k, 3, none⟩ u).heap[k]? = some (.cells #[x, y, z, u] t (0, 0)) := by
  replace h : (w.setCell ⟨k, 0, none⟩ x).heap[k]? = some (.cells #[x, b, r, q] t (0, 0)) := heap_setCell_same w k 0 _ _ _ h
  replace h : ((w.setCell ⟨k, 0, none⟩ x).setCell ⟨k, 1, none⟩ y).heap[k]? = some (.cells #[x, y, r, q] t (0, 0)) := heap_setCell_same _ k 1 _ _ _ h
  replace h : (((w.setCell ⟨k, 0, none⟩ x).setCell ⟨k, 1, none⟩ y).setCell ⟨k, 2, none⟩ z).heap[k]? = some (.cells #[x, y, z, q] t (0, 0)) := heap_setCell_same _ k 2 _ _ _ h
  exact heap_setCell_same _ k 3 _ _ _ h
theorem below4 {w0 w : World} {k : Nat} (h : Below w0.heap.size w0 w) (hk : w0.heap.size ≤ k) (x y z u : Value) : Below w0.heap.size w0 ((((w.setCell ⟨k, 0, none⟩ x).setCell ⟨k, 1, none⟩ y).setCell ⟨k, 2, none⟩ z).setCell ⟨k, 3, none⟩ u) :=
  (((h.setCell hk _).setCell hk _).setCell hk _).setCell hk _
/-- What is told of an entry: itself, the cycle and the place. -/
theorem results_ent {fn : Func} {p u1 u2 u3 : Tmp} (h : fn.results = #[.cell p 40, .tmp u1, .tmp u2, .tmp u3]) (tmps : Array Value) (w : World) (g : Nat) (t : TypeId) (x1 x2 x3 x4 : Value) (fr : Nat × Nat)
    (hp : tmps.getD p undef = .pointer (some ⟨g, 0, none⟩)) (hg : w.heap[g]? = some (.cells #[x1, x2, x3, x4] t fr)) :
    (results fn tmps).run Try.prog w = .ok (.tuple #[.agg #[x1, x2, x3, x4], tmps.getD u1 undef, tmps.getD u2 undef, tmps.getD u3 undef]) w := by
  have hp' : tmps[p]?.getD undef = .pointer (some ⟨g, 0, none⟩) := by simpa using hp
  simp [results, h, hp', asAddr, run_loadVar_row w g t 40 #[x1, x2, x3, x4] fr _ hg Try.underlying40 rfl (by kernel_rfl)]
theorem ret_ent {fn : Func} {R : Ending → World → Prop} {p u1 u2 u3 : Tmp} (h : fn.results = #[.cell p 40, .tmp u1, .tmp u2, .tmp u3]) {tmps : Array Value} {w : World} {g : Nat} {x1 x2 x3 x4 : Value} {t : TypeId} {fr : Nat × Nat}
    (hp : tmps.getD p undef = .pointer (some ⟨g, 0, none⟩)) (hg : w.heap[g]? = some (.cells #[x1, x2, x3, x4] t fr)) (hR : R (.returned (.tuple #[.agg #[x1, x2, x3, x4], tmps.getD u1 undef, tmps.getD u2 undef, tmps.getD u3 undef])) w) :
    bodyPost Try.prog fn R .ret { tmps := tmps, defers := [] } w :=
  bodyPost_ret (results_ent h tmps w g t x1 x2 x3 x4 fr hp hg) rfl hR
set_option maxHeartbeats 1000000 in
theorem where_ok (c : Cfg) (D E L : Option Addr) (nd cd ne ce nl cl : Nat) (t : Int) (w : World) (h : CM w c D E L nd cd ne ce nl cl) (g : god c t = true) : Calls Try.prog 9 #[.agg #[.int .i64 c.hosts, .int .i64 c.cycle, .int .i64 c.delay, .int .i64 c.window, .int .i64 c.precision, .slice D nd cd, .slice E ne ce, .slice L nl cl, .int .i64 c.queue], .int .i64 t] w fun r w' => r = .returned (.tuple #[.int .i64 (t / c.cycle), .int .i64 (t % c.cycle), .bool true]) ∧ Below w.heap.size w w' := by
  obtain ⟨⟨t0, t1⟩, hz⟩ := god_iff.1 g
  have sp := (chk_span hz).1
  have K : ∀ W, CM W c D E L nd cd ne ce nl cl → Calls Try.prog 27 #[.agg #[.int .i64 c.hosts, .int .i64 c.cycle, .int .i64 c.delay, .int .i64 c.window, .int .i64 c.precision, .slice D nd cd, .slice E ne ce, .slice L nl cl, .int .i64 c.queue]] W fun r W' => r = .returned (.int .i64 0) ∧ Below W.heap.size W W' := fun W hW => by have := check_any c D E L nd cd ne ce nl cl W hW; rwa [hz] at this
  have KH := Lib.hid K
  have S0 := Lib.hid ((Stay.start w).alloc (Obj.cells #[.int .i64 c.hosts, .int .i64 c.cycle, .int .i64 c.delay, .int .i64 c.window, .int .i64 c.precision, .slice D nd cd, .slice E ne ce, .slice L nl cl, .int .i64 c.queue] 26))
  have HM := Lib.hid (h.below (al (Below.refl _ _) (Obj.cells #[.int .i64 c.hosts, .int .i64 c.cycle, .int .i64 c.delay, .int .i64 c.window, .int .i64 c.precision, .slice D nd cd, .slice E ne ce, .slice L nl cl, .int .i64 c.queue] 26)))
  have dv := div_ok t0 (show 0 < c.cycle by omega)
  generalize t / c.cycle = q at *
  generalize t % c.cycle = p at *
  obtain ⟨dq, dp, dq2, dp2, db, dr, ds⟩ := dv
  have w1 : IntKind.i64.wrap q = q := by rw [IntKind.wrap_i64]; omega
  have w2 : wrap64 q = q := by unfold wrap64; omega
  have nz : ¬ c.cycle = 0 := by omega
  obtain ⟨a0, a1, a2, a3, a4, a5, a6, a7, a8⟩ := cells9 (S0.out.at 0 rfl)
  clear g h hz K sp db dr ds
  go_enter Try.func9, Try.ntmps9
  go_wp2_with (go_at_call 27; refine (KH.out _ HM.out).mono ?_; rintro r w5 ⟨rfl, b5⟩; have S := Lib.hid (S0.out.next b5); clear b5 a0 a1 a2 a3 a4 a5 a6 a7 a8; obtain ⟨a0, a1, a2, a3, a4, a5, a6, a7, a8⟩ := cells9 (S.out.at 0 rfl))
  go_region
  go_wp2
  go_ret3
  exact ⟨rfl, S.out.drew.b⟩
set_option maxHeartbeats 1000000 in
theorem where_no (c : Cfg) (D E L : Option Addr) (nd cd ne ce nl cl : Nat) (t : Int) (w : World) (h : CM w c D E L nd cd ne ce nl cl) (g : god c t = false) : Calls Try.prog 9 #[.agg #[.int .i64 c.hosts, .int .i64 c.cycle, .int .i64 c.delay, .int .i64 c.window, .int .i64 c.precision, .slice D nd cd, .slice E ne ce, .slice L nl cl, .int .i64 c.queue], .int .i64 t] w fun r w' => r = .returned (.tuple #[.int .i64 0, .int .i64 0, .bool false]) ∧ Below w.heap.size w w' := by
  have S0 := Lib.hid ((Stay.start w).alloc (Obj.cells #[.int .i64 c.hosts, .int .i64 c.cycle, .int .i64 c.delay, .int .i64 c.window, .int .i64 c.precision, .slice D nd cd, .slice E ne ce, .slice L nl cl, .int .i64 c.queue] 26))
  have HM := Lib.hid (h.below (al (Below.refl _ _) (Obj.cells #[.int .i64 c.hosts, .int .i64 c.cycle, .int .i64 c.delay, .int .i64 c.window, .int .i64 c.precision, .slice D nd cd, .slice E ne ce, .slice L nl cl, .int .i64 c.queue] 26)))
  obtain ⟨a0, a1, a2, a3, a4, a5, a6, a7, a8⟩ := cells9 (S0.out.at 0 rfl)
  by_cases h1 : t < 0
  · clear g h
    go_enter Try.func9, Try.ntmps9
    go_wp2
    go_ret3
    exact ⟨rfl, S0.out.b⟩
  by_cases h2 : 1125899906842624 < t
  · clear g h
    go_enter Try.func9, Try.ntmps9
    go_wp2
    go_ret3
    exact ⟨rfl, S0.out.b⟩
  have hz : chk c ≠ 0 := fun hz => by rw [god_iff.2 ⟨by omega, hz⟩] at g; cases g
  have KH := Lib.hid (fun W (hW : CM W c D E L nd cd ne ce nl cl) => check_any c D E L nd cd ne ce nl cl W hW)
  generalize chk c = z at *
  have z1 : (z == 0) = false := by rw [beq_eq_false_iff_ne]; exact hz
  have z2 : (z != 0) = true := by rw [bne_iff_ne]; exact hz
  clear g h
  go_enter Try.func9, Try.ntmps9
  go_wp2_with (go_at_call 27; refine (KH.out _ HM.out).mono ?_; rintro r w5 ⟨rfl, b5⟩; have S := Lib.hid (S0.out.next b5); clear b5 a0 a1 a2 a3 a4 a5 a6 a7 a8; obtain ⟨a0, a1, a2, a3, a4, a5, a6, a7, a8⟩ := cells9 (S.out.at 0 rfl))
  go_ret3
  exact ⟨rfl, S.out.b⟩
abbrev eb (e : R4) : Obj := Obj.cells #[.int .i64 e.a, .int .u32 e.b, .int .i64 e.c, .int .i64 e.d] 40
set_option maxHeartbeats 1000000 in
theorem find_bad (c : Cfg) (D E L : Option Addr) (nd cd ne ce nl cl : Nat) (k t : Int) (w : World) (h : CM w c D E L nd cd ne ce nl cl) (g : god c t = false) : Calls Try.prog 28 #[.agg #[.int .i64 c.hosts, .int .i64 c.cycle, .int .i64 c.delay, .int .i64 c.window, .int .i64 c.precision, .slice D nd cd, .slice E ne ce, .slice L nl cl, .int .i64 c.queue], .int .i64 k, .int .i64 t] w fun r w' => r = .returned (.tuple #[.agg #[.int .i64 0, .int .u32 0, .int .i64 0, .int .i64 0], .int .i64 0, .int .i64 0, .bool false]) ∧ Below w.heap.size w w' := by
  have S0 := Lib.hid (show Stay w [(w.heap.size + 1, .cells #[.int .i64 0, .int .u32 0, .int .i64 0, .int .i64 0] 40), (w.heap.size, Obj.cells #[.int .i64 c.hosts, .int .i64 c.cycle, .int .i64 c.delay, .int .i64 c.window, .int .i64 c.precision, .slice D nd cd, .slice E ne ce, .slice L nl cl, .int .i64 c.queue] 26)] ((w.alloc (Obj.cells #[.int .i64 c.hosts, .int .i64 c.cycle, .int .i64 c.delay, .int .i64 c.window, .int .i64 c.precision, .slice D nd cd, .slice E ne ce, .slice L nl cl, .int .i64 c.queue] 26)).alloc (.cells #[.int .i64 0, .int .u32 0, .int .i64 0, .int .i64 0] 40)) by
    have := ((Stay.start w).alloc (Obj.cells #[.int .i64 c.hosts, .int .i64 c.cycle, .int .i64 c.delay, .int .i64 c.window, .int .i64 c.precision, .slice D nd cd, .slice E ne ce, .slice L nl cl, .int .i64 c.queue] 26)).alloc (.cells #[.int .i64 0, .int .u32 0, .int .i64 0, .int .i64 0] 40)
    rwa [World.size_alloc] at this)
  have HM := Lib.hid (h.below S0.out.b)
  obtain ⟨a0, a1, a2, a3, a4, a5, a6, a7, a8⟩ := cells9 (S0.out.at 1 rfl)
  have KH := Lib.hid (where_no c D E L nd cd ne ce nl cl t _ HM.out g)
  clear g h
  go_enter Try.func28, Try.ntmps28
  go_wp2_with (go_at_call 9; refine KH.out.mono ?_; rintro r w5 ⟨rfl, b5⟩; have S := Lib.hid (S0.out.next b5); clear b5 a0 a1 a2 a3 a4 a5 a6 a7 a8; obtain ⟨a0, a1, a2, a3, a4, a5, a6, a7, a8⟩ := cells9 (S.out.at 1 rfl); obtain ⟨f0, f1, f2, f3⟩ := frozen4 (S.out.at 0 rfl); obtain ⟨e0, e1, e2, e3⟩ := cells4 (S.out.at 0 rfl))
  refine ret_ent rfl rfl (put4 (S.out.at 0 rfl) _ _ _ _) ⟨rfl, below4 S.out.b (by omega) _ _ _ _⟩
set_option maxHeartbeats 1000000 in
theorem find_out (c : Cfg) (D E L : Option Addr) (nd cd ne ce nl cl : Nat) (k t : Int) (w : World) (h : CM w c D E L nd cd ne ce nl cl) (g : god c t = true) (hk : ¬ (0 ≤ k ∧ k < (c.entries.length : Int))) : Calls Try.prog 28 #[.agg #[.int .i64 c.hosts, .int .i64 c.cycle, .int .i64 c.delay, .int .i64 c.window, .int .i64 c.precision, .slice D nd cd, .slice E ne ce, .slice L nl cl, .int .i64 c.queue], .int .i64 k, .int .i64 t] w fun r w' => r = .returned (.tuple #[.agg #[.int .i64 0, .int .u32 0, .int .i64 0, .int .i64 0], .int .i64 0, .int .i64 0, .bool false]) ∧ Below w.heap.size w w' := by
  have S0 := Lib.hid (show Stay w [(w.heap.size + 1, .cells #[.int .i64 0, .int .u32 0, .int .i64 0, .int .i64 0] 40), (w.heap.size, Obj.cells #[.int .i64 c.hosts, .int .i64 c.cycle, .int .i64 c.delay, .int .i64 c.window, .int .i64 c.precision, .slice D nd cd, .slice E ne ce, .slice L nl cl, .int .i64 c.queue] 26)] ((w.alloc (Obj.cells #[.int .i64 c.hosts, .int .i64 c.cycle, .int .i64 c.delay, .int .i64 c.window, .int .i64 c.precision, .slice D nd cd, .slice E ne ce, .slice L nl cl, .int .i64 c.queue] 26)).alloc (.cells #[.int .i64 0, .int .u32 0, .int .i64 0, .int .i64 0] 40)) by
    have := ((Stay.start w).alloc (Obj.cells #[.int .i64 c.hosts, .int .i64 c.cycle, .int .i64 c.delay, .int .i64 c.window, .int .i64 c.precision, .slice D nd cd, .slice E ne ce, .slice L nl cl, .int .i64 c.queue] 26)).alloc (.cells #[.int .i64 0, .int .u32 0, .int .i64 0, .int .i64 0] 40)
    rwa [World.size_alloc] at this)
  have HM := Lib.hid (h.below S0.out.b)
  obtain ⟨a0, a1, a2, a3, a4, a5, a6, a7, a8⟩ := cells9 (S0.out.at 1 rfl)
  have KH := Lib.hid (where_ok c D E L nd cd ne ce nl cl t _ HM.out g)
  rw [← h.nE] at hk
  generalize t / c.cycle = q at *
  generalize t % c.cycle = p at *
  clear g h
  by_cases h1 : k < 0
  · clear hk
    go_enter Try.func28, Try.ntmps28
    go_wp2_with (go_at_call 9; refine KH.out.mono ?_; rintro r w5 ⟨rfl, b5⟩; have S := Lib.hid (S0.out.next b5); clear b5 a0 a1 a2 a3 a4 a5 a6 a7 a8; obtain ⟨a0, a1, a2, a3, a4, a5, a6, a7, a8⟩ := cells9 (S.out.at 1 rfl); obtain ⟨f0, f1, f2, f3⟩ := frozen4 (S.out.at 0 rfl); obtain ⟨e0, e1, e2, e3⟩ := cells4 (S.out.at 0 rfl))
    refine ret_ent rfl rfl (put4 (S.out.at 0 rfl) _ _ _ _) ⟨rfl, below4 S.out.b (by omega) _ _ _ _⟩
  · have h2 : (ne : Int) ≤ k := by omega
    clear hk
    go_enter Try.func28, Try.ntmps28
    go_wp2_with (go_at_call 9; refine KH.out.mono ?_; rintro r w5 ⟨rfl, b5⟩; have S := Lib.hid (S0.out.next b5); clear b5 a0 a1 a2 a3 a4 a5 a6 a7 a8; obtain ⟨a0, a1, a2, a3, a4, a5, a6, a7, a8⟩ := cells9 (S.out.at 1 rfl); obtain ⟨f0, f1, f2, f3⟩ := frozen4 (S.out.at 0 rfl); obtain ⟨e0, e1, e2, e3⟩ := cells4 (S.out.at 0 rfl))
    refine ret_ent rfl rfl (put4 (S.out.at 0 rfl) _ _ _ _) ⟨rfl, below4 S.out.b (by omega) _ _ _ _⟩
set_option maxHeartbeats 1000000 in
theorem find_ok (c : Cfg) (D E L : Option Addr) (nd cd ne ce nl cl : Nat) (k : Nat) (t : Int) (e : R4) (w : World) (h : CM w c D E L nd cd ne ce nl cl) (g : god c t = true) (hk : c.entries[k]? = some e) : Calls Try.prog 28 #[.agg #[.int .i64 c.hosts, .int .i64 c.cycle, .int .i64 c.delay, .int .i64 c.window, .int .i64 c.precision, .slice D nd cd, .slice E ne ce, .slice L nl cl, .int .i64 c.queue], .int .i64 (k : Int), .int .i64 t] w fun r w' => r = .returned (.tuple #[.agg #[.int .i64 e.a, .int .u32 e.b, .int .i64 e.c, .int .i64 e.d], .int .i64 (t / c.cycle), .int .i64 (t % c.cycle), .bool true]) ∧ Below w.heap.size w w' := by
  have S0 := Lib.hid (show Stay w [(w.heap.size + 1, .cells #[.int .i64 0, .int .u32 0, .int .i64 0, .int .i64 0] 40), (w.heap.size, Obj.cells #[.int .i64 c.hosts, .int .i64 c.cycle, .int .i64 c.delay, .int .i64 c.window, .int .i64 c.precision, .slice D nd cd, .slice E ne ce, .slice L nl cl, .int .i64 c.queue] 26)] ((w.alloc (Obj.cells #[.int .i64 c.hosts, .int .i64 c.cycle, .int .i64 c.delay, .int .i64 c.window, .int .i64 c.precision, .slice D nd cd, .slice E ne ce, .slice L nl cl, .int .i64 c.queue] 26)).alloc (.cells #[.int .i64 0, .int .u32 0, .int .i64 0, .int .i64 0] 40)) by
    have := ((Stay.start w).alloc (Obj.cells #[.int .i64 c.hosts, .int .i64 c.cycle, .int .i64 c.delay, .int .i64 c.window, .int .i64 c.precision, .slice D nd cd, .slice E ne ce, .slice L nl cl, .int .i64 c.queue] 26)).alloc (.cells #[.int .i64 0, .int .u32 0, .int .i64 0, .int .i64 0] 40)
    rwa [World.size_alloc] at this)
  have HM := Lib.hid (h.below S0.out.b)
  obtain ⟨a0, a1, a2, a3, a4, a5, a6, a7, a8⟩ := cells9 (S0.out.at 1 rfl)
  have KH := Lib.hid (where_ok c D E L nd cd ne ce nl cl t _ HM.out g)
  have h1 : (k : Int) < (ne : Int) := by
    have := h.nE
    have : k < c.entries.length := by
      rcases Nat.lt_or_ge k c.entries.length with h | h
      · exact h
      · rw [List.getElem?_eq_none h] at hk; cases hk
    omega
  obtain ⟨b, off, rfl, -⟩ := HM.out.he k e hk
  have HN := Lib.hid h.mE
  generalize t / c.cycle = q at *
  generalize t % c.cycle = p at *
  have ME := Lib.hid (fun W (hW : CM W c D (some ⟨b, off, none⟩) L nd cd ne ce nl cl) => hW.he k e hk)
  clear g h hk
  go_enter Try.func28, Try.ntmps28
  go_wp2_with (go_at_call 9; refine KH.out.mono ?_; rintro r w5 ⟨rfl, b5⟩; have S := Lib.hid (S0.out.next b5); have HM2 := HM.out.below b5; obtain ⟨b', off', hb', ⟨x0, x1, x2, x3⟩, -⟩ := ME.out _ HM2; cases hb'; clear HM2; clear b5 a0 a1 a2 a3 a4 a5 a6 a7 a8; obtain ⟨a0, a1, a2, a3, a4, a5, a6, a7, a8⟩ := cells9 (S.out.at 1 rfl); obtain ⟨f0, f1, f2, f3⟩ := frozen4 (S.out.at 0 rfl); obtain ⟨e0, e1, e2, e3⟩ := cells4 (S.out.at 0 rfl))
  refine ret_ent rfl rfl (put4 (S.out.at 0 rfl) _ _ _ _) ⟨rfl, below4 S.out.b (by omega) _ _ _ _⟩
theorem find_no (c : Cfg) (D E L : Option Addr) (nd cd ne ce nl cl : Nat) (k t : Int) (w : World) (h : CM w c D E L nd cd ne ce nl cl) (g : got c k t = false) : Calls Try.prog 28 #[.agg #[.int .i64 c.hosts, .int .i64 c.cycle, .int .i64 c.delay, .int .i64 c.window, .int .i64 c.precision, .slice D nd cd, .slice E ne ce, .slice L nl cl, .int .i64 c.queue], .int .i64 k, .int .i64 t] w fun r w' => r = .returned (.tuple #[.agg #[.int .i64 0, .int .u32 0, .int .i64 0, .int .i64 0], .int .i64 0, .int .i64 0, .bool false]) ∧ Below w.heap.size w w' := by
  cases hg : god c t with
  | false => exact find_bad c D E L nd cd ne ce nl cl k t w h hg
  | true => exact find_out c D E L nd cd ne ce nl cl k t w h hg (fun hk => by rw [got_iff.2 ⟨hg, hk⟩] at g; cases g)
abbrev Z4 : Obj := .cells #[.int .i64 0, .int .u32 0, .int .i64 0, .int .i64 0] 40
set_option maxHeartbeats 1000000 in
theorem send_any (c : Cfg) (D E L : Option Addr) (nd cd ne ce nl cl : Nat) (k t : Int) (w : World) (h : CM w c D E L nd cd ne ce nl cl) : Calls Try.prog 11 #[.agg #[.int .i64 c.hosts, .int .i64 c.cycle, .int .i64 c.delay, .int .i64 c.window, .int .i64 c.precision, .slice D nd cd, .slice E ne ce, .slice L nl cl, .int .i64 c.queue], .int .i64 k, .int .i64 t] w fun r w' => r = .returned (.tuple #[.int .i64 (sendV c k t).1, .bool (sendV c k t).2]) ∧ Below w.heap.size w w' := by
  have S0 := Lib.hid ((Stay.start w).alloc (Obj.cells #[.int .i64 c.hosts, .int .i64 c.cycle, .int .i64 c.delay, .int .i64 c.window, .int .i64 c.precision, .slice D nd cd, .slice E ne ce, .slice L nl cl, .int .i64 c.queue] 26))
  have HM := Lib.hid (h.below S0.out.b)
  obtain ⟨a0, a1, a2, a3, a4, a5, a6, a7, a8⟩ := cells9 (S0.out.at 0 rfl)
  cases hg : got c k t with
  | false =>
    have KH := Lib.hid (find_no c D E L nd cd ne ce nl cl k t _ HM.out hg)
    rw [show sendV c k t = (0, false) by unfold sendV; rw [hg]; rfl]
    clear hg h
    go_enter Try.func11, Try.ntmps11
    go_wp2_with (go_at_call 28; refine KH.out.mono ?_; rintro r w5 ⟨rfl, b5⟩; have S := Lib.hid ((S0.out.next b5).alloc Z4); clear b5 a0 a1 a2 a3 a4 a5 a6 a7 a8)
    go_ret2
    exact ⟨rfl, S.out.b⟩
  | true =>
    obtain ⟨n, e, rfl, he, g, ok, hea⟩ := got_ent hg
    have KH := Lib.hid (find_ok c D E L nd cd ne ce nl cl n t e _ HM.out g he)
    rw [show sendV c n t = (snd c.cycle e.c t, true) by unfold sendV; rw [hg, hea]; rfl]
    obtain ⟨⟨t0, t1⟩, hz⟩ := god_iff.1 g
    have sp := (chk_span hz).1
    have dv := div_ok t0 (show 0 < c.cycle by omega)
    have sn := snd_p (f := e.c) dv.eq dv.es
    generalize t / c.cycle = q at *
    generalize t % c.cycle = p at *
    have l1 := ok.lo
    have l2 := ok.hi
    have l3 := ok.tp
    have l4 := chk_span hz
    have l5 := dv.bp
    have w1 : IntKind.i64.wrap (e.c - p) = e.c - p := by rw [IntKind.wrap_i64]; omega
    have w2 : wrap64 (e.c - p) = e.c - p := by unfold wrap64; omega
    have w3 : IntKind.i64.wrap (e.c - p + c.cycle) = e.c - p + c.cycle := by rw [IntKind.wrap_i64]; omega
    have w4 : wrap64 (e.c - p + c.cycle) = e.c - p + c.cycle := by unfold wrap64; omega
    have w5 : IntKind.i64.wrap (t + (e.c - p)) = t + (e.c - p) := by rw [IntKind.wrap_i64]; omega
    have w6 : wrap64 (t + (e.c - p)) = t + (e.c - p) := by unfold wrap64; omega
    have w7 : IntKind.i64.wrap (t + (e.c - p + c.cycle)) = t + (e.c - p + c.cycle) := by rw [IntKind.wrap_i64]; omega
    have w8 : wrap64 (t + (e.c - p + c.cycle)) = t + (e.c - p + c.cycle) := by unfold wrap64; omega
    clear hg h l1 l2 l3 l4 l5 ok dv hz t0 t1 sp hea he g
    generalize hd : e.c - p = d at *
    have HD := Lib.hid hd
    clear hd
    rw [sn]
    clear sn
    by_cases hneg : d < 0
    · rw [if_pos hneg]
      go_enter Try.func11, Try.ntmps11
      go_wp2_with (go_at_call 28; refine KH.out.mono ?_; rintro r w5 ⟨rfl, b5⟩; have S1 := Lib.hid (S0.out.next b5); have S := Lib.hid (S1.out.alloc (eb e)); clear b5 a0 a1 a2 a3 a4 a5 a6 a7 a8; obtain ⟨a0, a1, a2, a3, a4, a5, a6, a7, a8⟩ := cells9 (S.out.at 1 rfl); obtain ⟨e0, e1, e2, e3⟩ := cells4 (S.out.at 0 rfl); have hd := HD.out)
      go_ret2
      exact ⟨rfl, S.out.b⟩
    · rw [if_neg hneg]
      go_enter Try.func11, Try.ntmps11
      go_wp2_with (go_at_call 28; refine KH.out.mono ?_; rintro r w5 ⟨rfl, b5⟩; have S1 := Lib.hid (S0.out.next b5); have S := Lib.hid (S1.out.alloc (eb e)); clear b5 a0 a1 a2 a3 a4 a5 a6 a7 a8; obtain ⟨a0, a1, a2, a3, a4, a5, a6, a7, a8⟩ := cells9 (S.out.at 1 rfl); obtain ⟨e0, e1, e2, e3⟩ := cells4 (S.out.at 0 rfl); have hd := HD.out)
      go_ret2
      exact ⟨rfl, S.out.b⟩
end Go.Proofs.Ytdaoemjkefpmcaa.PlanW
