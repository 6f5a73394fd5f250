/- Plain: what a configuration reserves. -/
import Derived.Test.YtnlimdlmhfnkiaaConfZ
import Derived.Test.YtnlimdlmhfnkiaaPlanP
import Derived.Test.YtnlimdlmhfnkiaaConfHJa
import Derived.Test.YtnlimdlmhfnkiaaSmallJa
import Derived.Deep.RegionHeld3
import Derived.Deep.RegionLaw
import Derived.Deep.RegionWith
import Derived.Deep.DeepCutAuto
import Derived.Deep.CutBlock
import Derived.Laws.Unary
import Derived.Laws.Cover2
import Derived.Laws.NewBlocks
import Derived.WalkKit
namespace Go.Proofs.Ytnlimdlmhfnkiaa.PlanW
open ConfW
/-- May the local time and the configuration be? -/
def god (c : Cfg) (t : Int) : Bool := decide (0 ≤ t) && (decide (t ≤ 1125899906842624) && decide (chk c = 0))
theorem god_iff {c : Cfg} {t : Int} : god c t = true ↔ (0 ≤ t ∧ t ≤ 1125899906842624) ∧ chk c = 0 := by
  unfold god
  simp only [Bool.and_eq_true, decide_eq_true_eq, and_assoc]
/-- And is there such an entry? -/
def got (c : Cfg) (k t : Int) : Bool := god c t && (decide (0 ≤ k) && decide (k < (c.entries.length : Int)))
theorem got_iff {c : Cfg} {k t : Int} : got c k t = true ↔ god c t = true ∧ 0 ≤ k ∧ k < (c.entries.length : Int) := by
  unfold got
  simp only [Bool.and_eq_true, decide_eq_true_eq]
/-- Is an entry's stretch on this wire, and which one? -/
def onW (h : Int) (down : Bool) (e : R4) : Bool := if down then CrewW.has e.b h else decide (e.a = h)
def str (c : Cfg) (down : Bool) (e : R4) : Int × Int := (if down then fwd c e else e.c, tim e.d)
def rs (c : Cfg) (h : Int) (down : Bool) : List R4 → List (Int × Int)
  | [] => []
  | e :: l => if onW h down e then str c down e :: rs c h down l else rs c h down l
/-- What holds of an entry of a configuration that may be. -/
structure EntOk (c : Cfg) (e : R4) : Prop where
  pl : placed c e = true
  lo : 2 * c.delay + c.window + 4 * c.precision ≤ e.c
  hi : e.c + tim e.d + c.delay + 2 * c.precision + tim e.d + c.delay + c.precision < c.cycle
  b : e.b < 4294967296
  tp : 512 ≤ tim e.d ∧ tim e.d ≤ 12144
theorem chk_spans {c : Cfg} (h : chk c = 0) : spans c = true := by
  obtain ⟨h1, h2, h3, h4, h5, h6, h7⟩ := chk_ok h
  exact spans_iff.2 ⟨btw_iff.1 h2, h3⟩
theorem chk_span {c : Cfg} (h : chk c = 0) : (1 ≤ c.cycle ∧ c.cycle ≤ 1073741824) ∧ (0 ≤ c.delay ∧ c.delay ≤ 1048576) ∧ (0 ≤ c.window ∧ c.window ≤ 1048576) ∧ 0 ≤ c.precision ∧ c.precision ≤ 1048576 := by
  obtain ⟨h1, h2⟩ := spans_iff.1 (chk_spans h)
  exact ⟨h1, spansT_iff.1 h2⟩
theorem chk_hosts {c : Cfg} (h : chk c = 0) : 1 ≤ c.hosts ∧ c.hosts ≤ 6 := btw_iff.1 (chk_ok h).1
theorem ent_ok {c : Cfg} {e : R4} (h : chk c = 0) (he : e ∈ c.entries) : EntOk c e := by
  obtain ⟨h1, h2, h3, h4, h5, h6, h7⟩ := chk_ok h
  have hs := chk_spans h
  have sp := chk_span h
  have hw := way_six (btw_iff.1 h1) ((entOk_iff.1 h5).2 e he)
  have hp := ph_iff.1 (List.all_eq_true.1 h6 e he)
  have hq : quiet c = 2 * c.delay + c.window + 4 * c.precision := by unfold quiet; rw [if_pos hs]
  rw [hq] at hp
  have pl : placed c e = true := placed_iff.2 ⟨hs, hw, by omega, by omega⟩
  have hl : lat c e = e.c + tim e.d + c.delay + 2 * c.precision + tim e.d + c.delay + c.precision := by unfold lat; rw [if_pos pl]
  rw [hl] at hp
  have hb := (way_iff.1 hw).2.2.1
  exact ⟨pl, hp.1, hp.2.2, by have : (2 : Nat) ^ (6 : Int).toNat = 64 := rfl; omega, tim_pos e.d⟩
/-- All its times lie within the cycle. -/
structure EntIn (c : Cfg) (e : R4) : Prop where
  a0 : at0 c e = e.c + tim e.d - c.precision
  a1 : at1 c e = e.c + tim e.d + c.delay + c.precision
  f : fwd c e = e.c + tim e.d + c.delay + c.precision + c.precision
  er : ear c e = e.c + tim e.d + c.delay + c.precision + c.precision + tim e.d - c.precision
  la : lat c e = e.c + tim e.d + c.delay + c.precision + c.precision + tim e.d + c.delay + c.precision
  lo : 2 * c.delay + c.window + 4 * c.precision ≤ e.c
  hi : lat c e < c.cycle
theorem ent_in {c : Cfg} {e : R4} (g : EntOk c e) : EntIn c e := by
  have f : fwd c e = e.c + tim e.d + c.delay + c.precision + c.precision := by unfold fwd; rw [if_pos g.pl]; omega
  have la : lat c e = e.c + tim e.d + c.delay + c.precision + c.precision + tim e.d + c.delay + c.precision := by unfold lat; rw [if_pos g.pl]; omega
  exact ⟨by unfold at0; rw [if_pos g.pl], by unfold at1; rw [if_pos g.pl], f, by unfold ear; rw [if_pos g.pl]; omega, la, g.lo, by have := g.hi; omega⟩
/-- The entry of that number. -/
def entA (c : Cfg) (k : Int) : R4 := (c.entries[k.toNat]?).getD ⟨0, 0, 0, 0⟩
def relayV (c : Cfg) (k t : Int) : Int × Bool := if got c k t && (decide (at0 c (entA c k) ≤ t % c.cycle) && decide (t % c.cycle ≤ at1 c (entA c k))) then (t / c.cycle * c.cycle + fwd c (entA c k), true) else (0, false)
def landV (c : Cfg) (k t : Int) : Int × Bool := if got c k t && (decide (ear c (entA c k) ≤ t % c.cycle) && decide (t % c.cycle ≤ lat c (entA c k))) then (t / c.cycle, true) else (0, false)
theorem got_ent {c : Cfg} {k t : Int} (h : got c k t = true) : ∃ (n : Nat) (e : R4), k = (n : Int) ∧ c.entries[n]? = some e ∧ god c t = true ∧ EntOk c e ∧ entA c k = e := by
  obtain ⟨g, h0, h1⟩ := got_iff.1 h
  obtain ⟨n, rfl⟩ := Int.eq_ofNat_of_zero_le h0
  have hn : n < c.entries.length := by omega
  refine ⟨n, c.entries[n], rfl, List.getElem?_eq_getElem hn, g, ent_ok (god_iff.1 g).2 (List.getElem_mem hn), ?_⟩
  unfold entA
  rw [Int.toNat_natCast, List.getElem?_eq_getElem hn]
  rfl
end Go.Proofs.Ytnlimdlmhfnkiaa.PlanW


/- Package plan: Where, find, Send, Relay, Land. -/
namespace Go.Proofs.Ytnlimdlmhfnkiaa.PlanW
open Go.RowKit Shell
open ConfW (Cfg R4 CM ML chk tim fwd ear lat at0 at1 check_any forward_any early_any late_any)
theorem cells9 {w : World} {j : Nat} {v0 v1 v2 v3 v4 v5 v6 v7 v8 : Value} {t : TypeId} (h : w.heap[j]? = some (.cells #[v0, v1, v2, v3, v4, v5, v6, v7, v8] t (0, 0))) : w.cell? ⟨j, 0, none⟩ = some v0 ∧ w.cell? ⟨j, 1, none⟩ = some v1 ∧ w.cell? ⟨j, 2, none⟩ = some v2 ∧ w.cell? ⟨j, 3, none⟩ = some v3 ∧ w.cell? ⟨j, 4, none⟩ = some v4 ∧ w.cell? ⟨j, 5, none⟩ = some v5 ∧ w.cell? ⟨j, 6, none⟩ = some v6 ∧ w.cell? ⟨j, 7, none⟩ = some v7 ∧ w.cell? ⟨j, 8, none⟩ = some v8 :=
  ⟨cell_of_row w j 0 _ _ _ h, cell_of_row w j 1 _ _ _ h, cell_of_row w j 2 _ _ _ h, cell_of_row w j 3 _ _ _ h, cell_of_row w j 4 _ _ _ h, cell_of_row w j 5 _ _ _ h, cell_of_row w j 6 _ _ _ h, cell_of_row w j 7 _ _ _ h, cell_of_row w j 8 _ _ _ h⟩
theorem cells4 {w : World} {j : Nat} {v0 v1 v2 v3 : Value} {t : TypeId} (h : w.heap[j]? = some (.cells #[v0, v1, v2, v3] t (0, 0))) : w.cell? ⟨j, 0, none⟩ = some v0 ∧ w.cell? ⟨j, 1, none⟩ = some v1 ∧ w.cell? ⟨j, 2, none⟩ = some v2 ∧ w.cell? ⟨j, 3, none⟩ = some v3 :=
  ⟨cell_of_row w j 0 _ _ _ h, cell_of_row w j 1 _ _ _ h, cell_of_row w j 2 _ _ _ h, cell_of_row w j 3 _ _ _ h⟩
theorem frozen4 {w : World} {j : Nat} {v0 v1 v2 v3 : Value} {t : TypeId} (h : w.heap[j]? = some (.cells #[v0, v1, v2, v3] t (0, 0))) : w.frozen? ⟨j, 0, none⟩ = false ∧ w.frozen? ⟨j, 1, none⟩ = false ∧ w.frozen? ⟨j, 2, none⟩ = false ∧ w.frozen? ⟨j, 3, none⟩ = false :=
  ⟨frozen_of_row w j 0 _ _ h, frozen_of_row w j 1 _ _ h, frozen_of_row w j 2 _ _ h, frozen_of_row w j 3 _ _ h⟩
theorem put4 {w : World} {k : Nat} {m b r q : Value} {t : TypeId} (h : w.heap[k]? = some (.cells #[m, b, r, q] t (0, 0))) (x y z u : Value) : ((((w.setCell ⟨k, 0, none⟩ x).setCell ⟨k, 1, none⟩ y).setCell ⟨k, 2, none⟩ z).setCell ⟨k, 3, none⟩ u).heap[k]? = some (.cells #[x, y, z, u] t (0, 0)) := by
  replace h : (w.setCell ⟨k, 0, none⟩ x).heap[k]? = some (.cells #[x, b, r, q] t (0, 0)) := heap_setCell_same w k 0 _ _ _ h
  replace h : ((w.setCell ⟨k, 0, none⟩ x).setCell ⟨k, 1, none⟩ y).heap[k]? = some (.cells #[x, y, r, q] t (0, 0)) := heap_setCell_same _ k 1 _ _ _ h
  replace h : (((w.setCell ⟨k, 0, none⟩ x).setCell ⟨k, 1, none⟩ y).setCell ⟨k, 2, none⟩ z).heap[k]? = some (.cells #[x, y, z, q] t (0, 0)) := heap_setCell_same _ k 2 _ _ _ h
  exact heap_setCell_same _ k 3 _ _ _ h
theorem below4 {w0 w : World} {k : Nat} (h : Below w0.heap.size w0 w) (hk : w0.heap.size ≤ k) (x y z u : Value) : Below w0.heap.size w0 ((((w.setCell ⟨k, 0, none⟩ x).setCell ⟨k, 1, none⟩ y).setCell ⟨k, 2, none⟩ z).setCell ⟨k, 3, none⟩ u) :=
  (((h.setCell hk _).setCell hk _).setCell hk _).setCell hk _
/-- What is told of an entry: itself, the cycle and the place. -/
theorem results_ent {fn : Func} {p u1 u2 u3 : Tmp} (h : fn.results = #[.cell p 56, .tmp u1, .tmp u2, .tmp u3]) (tmps : Array Value) (w : World) (g : Nat) (t : TypeId) (x1 x2 x3 x4 : Value) (fr : Nat × Nat)
    (hp : tmps.getD p undef = .pointer (some ⟨g, 0, none⟩)) (hg : w.heap[g]? = some (.cells #[x1, x2, x3, x4] t fr)) :
    (results fn tmps).run Try.prog w = .ok (.tuple #[.agg #[x1, x2, x3, x4], tmps.getD u1 undef, tmps.getD u2 undef, tmps.getD u3 undef]) w := by
  have hp' : tmps[p]?.getD undef = .pointer (some ⟨g, 0, none⟩) := by simpa using hp
  simp [results, h, hp', asAddr, run_loadVar_row w g t 56 #[x1, x2, x3, x4] fr _ hg Try.underlying56 rfl (by kernel_rfl)]
theorem ret_ent {fn : Func} {R : Ending → World → Prop} {p u1 u2 u3 : Tmp} (h : fn.results = #[.cell p 56, .tmp u1, .tmp u2, .tmp u3]) {tmps : Array Value} {w : World} {g : Nat} {x1 x2 x3 x4 : Value} {t : TypeId} {fr : Nat × Nat}
    (hp : tmps.getD p undef = .pointer (some ⟨g, 0, none⟩)) (hg : w.heap[g]? = some (.cells #[x1, x2, x3, x4] t fr)) (hR : R (.returned (.tuple #[.agg #[x1, x2, x3, x4], tmps.getD u1 undef, tmps.getD u2 undef, tmps.getD u3 undef])) w) :
    bodyPost Try.prog fn R .ret { tmps := tmps, defers := [] } w :=
  bodyPost_ret (results_ent h tmps w g t x1 x2 x3 x4 fr hp hg) rfl hR
set_option maxHeartbeats 1000000 in
theorem where_ok (c : Cfg) (D E L : Option Addr) (nd cd ne ce nl cl : Nat) (t : Int) (w : World) (h : CM w c D E L nd cd ne ce nl cl) (g : god c t = true) : Calls Try.prog 87 #[.agg #[.int .i64 c.hosts, .int .i64 c.cycle, .int .i64 c.delay, .int .i64 c.window, .int .i64 c.precision, .slice D nd cd, .slice E ne ce, .slice L nl cl, .int .i64 c.queue], .int .i64 t] w fun r w' => r = .returned (.tuple #[.int .i64 (t / c.cycle), .int .i64 (t % c.cycle), .bool true]) ∧ Below w.heap.size w w' := by
  obtain ⟨⟨t0, t1⟩, hz⟩ := god_iff.1 g
  have sp := (chk_span hz).1
  have K : ∀ W, CM W c D E L nd cd ne ce nl cl → Calls Try.prog 20 #[.agg #[.int .i64 c.hosts, .int .i64 c.cycle, .int .i64 c.delay, .int .i64 c.window, .int .i64 c.precision, .slice D nd cd, .slice E ne ce, .slice L nl cl, .int .i64 c.queue]] W fun r W' => r = .returned (.int .i64 0) ∧ Below W.heap.size W W' := fun W hW => by have := check_any c D E L nd cd ne ce nl cl W hW; rwa [hz] at this
  have KH := Lib.hid K
  have S0 := Lib.hid ((Stay.start w).alloc (Obj.cells #[.int .i64 c.hosts, .int .i64 c.cycle, .int .i64 c.delay, .int .i64 c.window, .int .i64 c.precision, .slice D nd cd, .slice E ne ce, .slice L nl cl, .int .i64 c.queue] 26))
  have HM := Lib.hid (h.below (al (Below.refl _ _) (Obj.cells #[.int .i64 c.hosts, .int .i64 c.cycle, .int .i64 c.delay, .int .i64 c.window, .int .i64 c.precision, .slice D nd cd, .slice E ne ce, .slice L nl cl, .int .i64 c.queue] 26)))
  have dv := div_ok t0 (show 0 < c.cycle by omega)
  generalize t / c.cycle = q at *
  generalize t % c.cycle = p at *
  obtain ⟨dq, dp, dq2, dp2, db, dr, ds⟩ := dv
  have w1 : IntKind.i64.wrap q = q := by rw [IntKind.wrap_i64]; omega
  have w2 : wrap64 q = q := by unfold wrap64; omega
  have nz : ¬ c.cycle = 0 := by omega
  obtain ⟨a0, a1, a2, a3, a4, a5, a6, a7, a8⟩ := cells9 (S0.out.at 0 rfl)
  clear g h hz K sp db dr ds
  go_enter Try.func87, Try.ntmps87
  go_wp2_with (go_at_call 20; refine (KH.out _ HM.out).mono ?_; rintro r w5 ⟨rfl, b5⟩; have S := Lib.hid (S0.out.next b5); clear b5 a0 a1 a2 a3 a4 a5 a6 a7 a8; obtain ⟨a0, a1, a2, a3, a4, a5, a6, a7, a8⟩ := cells9 (S.out.at 0 rfl))
  go_region
  go_wp2
  go_ret3
  exact ⟨rfl, S.out.drew.b⟩
set_option maxHeartbeats 1000000 in
theorem where_no (c : Cfg) (D E L : Option Addr) (nd cd ne ce nl cl : Nat) (t : Int) (w : World) (h : CM w c D E L nd cd ne ce nl cl) (g : god c t = false) : Calls Try.prog 87 #[.agg #[.int .i64 c.hosts, .int .i64 c.cycle, .int .i64 c.delay, .int .i64 c.window, .int .i64 c.precision, .slice D nd cd, .slice E ne ce, .slice L nl cl, .int .i64 c.queue], .int .i64 t] w fun r w' => r = .returned (.tuple #[.int .i64 0, .int .i64 0, .bool false]) ∧ Below w.heap.size w w' := by
  have S0 := Lib.hid ((Stay.start w).alloc (Obj.cells #[.int .i64 c.hosts, .int .i64 c.cycle, .int .i64 c.delay, .int .i64 c.window, .int .i64 c.precision, .slice D nd cd, .slice E ne ce, .slice L nl cl, .int .i64 c.queue] 26))
  have HM := Lib.hid (h.below (al (Below.refl _ _) (Obj.cells #[.int .i64 c.hosts, .int .i64 c.cycle, .int .i64 c.delay, .int .i64 c.window, .int .i64 c.precision, .slice D nd cd, .slice E ne ce, .slice L nl cl, .int .i64 c.queue] 26)))
  obtain ⟨a0, a1, a2, a3, a4, a5, a6, a7, a8⟩ := cells9 (S0.out.at 0 rfl)
  by_cases h1 : t < 0
  · clear g h
    go_enter Try.func87, Try.ntmps87
    go_wp2
    go_ret3
    exact ⟨rfl, S0.out.b⟩
  by_cases h2 : 1125899906842624 < t
  · clear g h
    go_enter Try.func87, Try.ntmps87
    go_wp2
    go_ret3
    exact ⟨rfl, S0.out.b⟩
  have hz : chk c ≠ 0 := fun hz => by rw [god_iff.2 ⟨by omega, hz⟩] at g; cases g
  have KH := Lib.hid (fun W (hW : CM W c D E L nd cd ne ce nl cl) => check_any c D E L nd cd ne ce nl cl W hW)
  generalize chk c = z at *
  have z1 : (z == 0) = false := by rw [beq_eq_false_iff_ne]; exact hz
  have z2 : (z != 0) = true := by rw [bne_iff_ne]; exact hz
  clear g h
  go_enter Try.func87, Try.ntmps87
  go_wp2_with (go_at_call 20; refine (KH.out _ HM.out).mono ?_; rintro r w5 ⟨rfl, b5⟩; have S := Lib.hid (S0.out.next b5); clear b5 a0 a1 a2 a3 a4 a5 a6 a7 a8; obtain ⟨a0, a1, a2, a3, a4, a5, a6, a7, a8⟩ := cells9 (S.out.at 0 rfl))
  go_ret3
  exact ⟨rfl, S.out.b⟩
abbrev eb (e : R4) : Obj := Obj.cells #[.int .i64 e.a, .int .u32 e.b, .int .i64 e.c, .int .i64 e.d] 56
set_option maxHeartbeats 1000000 in
theorem find_bad (c : Cfg) (D E L : Option Addr) (nd cd ne ce nl cl : Nat) (k t : Int) (w : World) (h : CM w c D E L nd cd ne ce nl cl) (g : god c t = false) : Calls Try.prog 84 #[.agg #[.int .i64 c.hosts, .int .i64 c.cycle, .int .i64 c.delay, .int .i64 c.window, .int .i64 c.precision, .slice D nd cd, .slice E ne ce, .slice L nl cl, .int .i64 c.queue], .int .i64 k, .int .i64 t] w fun r w' => r = .returned (.tuple #[.agg #[.int .i64 0, .int .u32 0, .int .i64 0, .int .i64 0], .int .i64 0, .int .i64 0, .bool false]) ∧ Below w.heap.size w w' := by
  have S0 := Lib.hid (show Stay w [(w.heap.size + 1, .cells #[.int .i64 0, .int .u32 0, .int .i64 0, .int .i64 0] 56), (w.heap.size, Obj.cells #[.int .i64 c.hosts, .int .i64 c.cycle, .int .i64 c.delay, .int .i64 c.window, .int .i64 c.precision, .slice D nd cd, .slice E ne ce, .slice L nl cl, .int .i64 c.queue] 26)] ((w.alloc (Obj.cells #[.int .i64 c.hosts, .int .i64 c.cycle, .int .i64 c.delay, .int .i64 c.window, .int .i64 c.precision, .slice D nd cd, .slice E ne ce, .slice L nl cl, .int .i64 c.queue] 26)).alloc (.cells #[.int .i64 0, .int .u32 0, .int .i64 0, .int .i64 0] 56)) by
    have := ((Stay.start w).alloc (Obj.cells #[.int .i64 c.hosts, .int .i64 c.cycle, .int .i64 c.delay, .int .i64 c.window, .int .i64 c.precision, .slice D nd cd, .slice E ne ce, .slice L nl cl, .int .i64 c.queue] 26)).alloc (.cells #[.int .i64 0, .int .u32 0, .int .i64 0, .int .i64 0] 56)
    rwa [World.size_alloc] at this)
  have HM := Lib.hid (h.below S0.out.b)
  obtain ⟨a0, a1, a2, a3, a4, a5, a6, a7, a8⟩ := cells9 (S0.out.at 1 rfl)
  have KH := Lib.hid (where_no c D E L nd cd ne ce nl cl t _ HM.out g)
  clear g h
  go_enter Try.func84, Try.ntmps84
  go_wp2_with (go_at_call 87; refine KH.out.mono ?_; rintro r w5 ⟨rfl, b5⟩; have S := Lib.hid (S0.out.next b5); clear b5 a0 a1 a2 a3 a4 a5 a6 a7 a8; obtain ⟨a0, a1, a2, a3, a4, a5, a6, a7, a8⟩ := cells9 (S.out.at 1 rfl); obtain ⟨f0, f1, f2, f3⟩ := frozen4 (S.out.at 0 rfl); obtain ⟨e0, e1, e2, e3⟩ := cells4 (S.out.at 0 rfl))
  refine ret_ent rfl rfl (put4 (S.out.at 0 rfl) _ _ _ _) ⟨rfl, below4 S.out.b (by omega) _ _ _ _⟩
set_option maxHeartbeats 1000000 in
theorem find_out (c : Cfg) (D E L : Option Addr) (nd cd ne ce nl cl : Nat) (k t : Int) (w : World) (h : CM w c D E L nd cd ne ce nl cl) (g : god c t = true) (hk : ¬ (0 ≤ k ∧ k < (c.entries.length : Int))) : Calls Try.prog 84 #[.agg #[.int .i64 c.hosts, .int .i64 c.cycle, .int .i64 c.delay, .int .i64 c.window, .int .i64 c.precision, .slice D nd cd, .slice E ne ce, .slice L nl cl, .int .i64 c.queue], .int .i64 k, .int .i64 t] w fun r w' => r = .returned (.tuple #[.agg #[.int .i64 0, .int .u32 0, .int .i64 0, .int .i64 0], .int .i64 0, .int .i64 0, .bool false]) ∧ Below w.heap.size w w' := by
  have S0 := Lib.hid (show Stay w [(w.heap.size + 1, .cells #[.int .i64 0, .int .u32 0, .int .i64 0, .int .i64 0] 56), (w.heap.size, Obj.cells #[.int .i64 c.hosts, .int .i64 c.cycle, .int .i64 c.delay, .int .i64 c.window, .int .i64 c.precision, .slice D nd cd, .slice E ne ce, .slice L nl cl, .int .i64 c.queue] 26)] ((w.alloc (Obj.cells #[.int .i64 c.hosts, .int .i64 c.cycle, .int .i64 c.delay, .int .i64 c.window, .int .i64 c.precision, .slice D nd cd, .slice E ne ce, .slice L nl cl, .int .i64 c.queue] 26)).alloc (.cells #[.int .i64 0, .int .u32 0, .int .i64 0, .int .i64 0] 56)) by
    have := ((Stay.start w).alloc (Obj.cells #[.int .i64 c.hosts, .int .i64 c.cycle, .int .i64 c.delay, .int .i64 c.window, .int .i64 c.precision, .slice D nd cd, .slice E ne ce, .slice L nl cl, .int .i64 c.queue] 26)).alloc (.cells #[.int .i64 0, .int .u32 0, .int .i64 0, .int .i64 0] 56)
    rwa [World.size_alloc] at this)
  have HM := Lib.hid (h.below S0.out.b)
  obtain ⟨a0, a1, a2, a3, a4, a5, a6, a7, a8⟩ := cells9 (S0.out.at 1 rfl)
  have KH := Lib.hid (where_ok c D E L nd cd ne ce nl cl t _ HM.out g)
  rw [← h.nE] at hk
  generalize t / c.cycle = q at *
  generalize t % c.cycle = p at *
  clear g h
  by_cases h1 : k < 0
  · clear hk
    go_enter Try.func84, Try.ntmps84
    go_wp2_with (go_at_call 87; refine KH.out.mono ?_; rintro r w5 ⟨rfl, b5⟩; have S := Lib.hid (S0.out.next b5); clear b5 a0 a1 a2 a3 a4 a5 a6 a7 a8; obtain ⟨a0, a1, a2, a3, a4, a5, a6, a7, a8⟩ := cells9 (S.out.at 1 rfl); obtain ⟨f0, f1, f2, f3⟩ := frozen4 (S.out.at 0 rfl); obtain ⟨e0, e1, e2, e3⟩ := cells4 (S.out.at 0 rfl))
    refine ret_ent rfl rfl (put4 (S.out.at 0 rfl) _ _ _ _) ⟨rfl, below4 S.out.b (by omega) _ _ _ _⟩
  · have h2 : (ne : Int) ≤ k := by omega
    clear hk
    go_enter Try.func84, Try.ntmps84
    go_wp2_with (go_at_call 87; refine KH.out.mono ?_; rintro r w5 ⟨rfl, b5⟩; have S := Lib.hid (S0.out.next b5); clear b5 a0 a1 a2 a3 a4 a5 a6 a7 a8; obtain ⟨a0, a1, a2, a3, a4, a5, a6, a7, a8⟩ := cells9 (S.out.at 1 rfl); obtain ⟨f0, f1, f2, f3⟩ := frozen4 (S.out.at 0 rfl); obtain ⟨e0, e1, e2, e3⟩ := cells4 (S.out.at 0 rfl))
    refine ret_ent rfl rfl (put4 (S.out.at 0 rfl) _ _ _ _) ⟨rfl, below4 S.out.b (by omega) _ _ _ _⟩
set_option maxHeartbeats 1000000 in
theorem find_ok (c : Cfg) (D E L : Option Addr) (nd cd ne ce nl cl : Nat) (k : Nat) (t : Int) (e : R4) (w : World) (h : CM w c D E L nd cd ne ce nl cl) (g : god c t = true) (hk : c.entries[k]? = some e) : Calls Try.prog 84 #[.agg #[.int .i64 c.hosts, .int .i64 c.cycle, .int .i64 c.delay, .int .i64 c.window, .int .i64 c.precision, .slice D nd cd, .slice E ne ce, .slice L nl cl, .int .i64 c.queue], .int .i64 (k : Int), .int .i64 t] w fun r w' => r = .returned (.tuple #[.agg #[.int .i64 e.a, .int .u32 e.b, .int .i64 e.c, .int .i64 e.d], .int .i64 (t / c.cycle), .int .i64 (t % c.cycle), .bool true]) ∧ Below w.heap.size w w' := by
  have S0 := Lib.hid (show Stay w [(w.heap.size + 1, .cells #[.int .i64 0, .int .u32 0, .int .i64 0, .int .i64 0] 56), (w.heap.size, Obj.cells #[.int .i64 c.hosts, .int .i64 c.cycle, .int .i64 c.delay, .int .i64 c.window, .int .i64 c.precision, .slice D nd cd, .slice E ne ce, .slice L nl cl, .int .i64 c.queue] 26)] ((w.alloc (Obj.cells #[.int .i64 c.hosts, .int .i64 c.cycle, .int .i64 c.delay, .int .i64 c.window, .int .i64 c.precision, .slice D nd cd, .slice E ne ce, .slice L nl cl, .int .i64 c.queue] 26)).alloc (.cells #[.int .i64 0, .int .u32 0, .int .i64 0, .int .i64 0] 56)) by
    have := ((Stay.start w).alloc (Obj.cells #[.int .i64 c.hosts, .int .i64 c.cycle, .int .i64 c.delay, .int .i64 c.window, .int .i64 c.precision, .slice D nd cd, .slice E ne ce, .slice L nl cl, .int .i64 c.queue] 26)).alloc (.cells #[.int .i64 0, .int .u32 0, .int .i64 0, .int .i64 0] 56)
    rwa [World.size_alloc] at this)
  have HM := Lib.hid (h.below S0.out.b)
  obtain ⟨a0, a1, a2, a3, a4, a5, a6, a7, a8⟩ := cells9 (S0.out.at 1 rfl)
  have KH := Lib.hid (where_ok c D E L nd cd ne ce nl cl t _ HM.out g)
  have h1 : (k : Int) < (ne : Int) := by
    have := h.nE
    have : k < c.entries.length := by
      rcases Nat.lt_or_ge k c.entries.length with h | h
      · exact h
      · rw [List.getElem?_eq_none h] at hk; cases hk
    omega
  obtain ⟨b, off, rfl, -⟩ := HM.out.he k e hk
  have HN := Lib.hid h.mE
  generalize t / c.cycle = q at *
  generalize t % c.cycle = p at *
  have ME := Lib.hid (fun W (hW : CM W c D (some ⟨b, off, none⟩) L nd cd ne ce nl cl) => hW.he k e hk)
  clear g h hk
  go_enter Try.func84, Try.ntmps84
  go_wp2_with (go_at_call 87; refine KH.out.mono ?_; rintro r w5 ⟨rfl, b5⟩; have S := Lib.hid (S0.out.next b5); have HM2 := HM.out.below b5; obtain ⟨b', off', hb', ⟨x0, x1, x2, x3⟩, -⟩ := ME.out _ HM2; cases hb'; clear HM2; clear b5 a0 a1 a2 a3 a4 a5 a6 a7 a8; obtain ⟨a0, a1, a2, a3, a4, a5, a6, a7, a8⟩ := cells9 (S.out.at 1 rfl); obtain ⟨f0, f1, f2, f3⟩ := frozen4 (S.out.at 0 rfl); obtain ⟨e0, e1, e2, e3⟩ := cells4 (S.out.at 0 rfl))
  refine ret_ent rfl rfl (put4 (S.out.at 0 rfl) _ _ _ _) ⟨rfl, below4 S.out.b (by omega) _ _ _ _⟩
theorem find_no (c : Cfg) (D E L : Option Addr) (nd cd ne ce nl cl : Nat) (k t : Int) (w : World) (h : CM w c D E L nd cd ne ce nl cl) (g : got c k t = false) : Calls Try.prog 84 #[.agg #[.int .i64 c.hosts, .int .i64 c.cycle, .int .i64 c.delay, .int .i64 c.window, .int .i64 c.precision, .slice D nd cd, .slice E ne ce, .slice L nl cl, .int .i64 c.queue], .int .i64 k, .int .i64 t] w fun r w' => r = .returned (.tuple #[.agg #[.int .i64 0, .int .u32 0, .int .i64 0, .int .i64 0], .int .i64 0, .int .i64 0, .bool false]) ∧ Below w.heap.size w w' := by
  cases hg : god c t with
  | false => exact find_bad c D E L nd cd ne ce nl cl k t w h hg
  | true => exact find_out c D E L nd cd ne ce nl cl k t w h hg (fun hk => by rw [got_iff.2 ⟨hg, hk⟩] at g; cases g)
abbrev Z4 : Obj := .cells #[.int .i64 0, .int .u32 0, .int .i64 0, .int .i64 0] 56
end Go.Proofs.Ytnlimdlmhfnkiaa.PlanW

