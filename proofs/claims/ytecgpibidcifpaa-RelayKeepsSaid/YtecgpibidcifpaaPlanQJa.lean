/- Plain: what a configuration reserves. -/
import Derived.Test.YtecgpibidcifpaaConfZ
import Derived.Test.YtecgpibidcifpaaPlanP
import Derived.Test.YtecgpibidcifpaaConfHJa
import Derived.Test.YtecgpibidcifpaaSmallJa
import Derived.Deep.RegionHeld3
import Derived.Deep.RegionLaw
import Derived.Deep.RegionWith
import Derived.Deep.DeepCutAuto
import Derived.Deep.CutBlock
import Derived.Laws.Unary
import Derived.Laws.Cover2
import Derived.Laws.NewBlocks
import Derived.WalkKit
import Derived.Test.YtecgpibidcifpaaConfNJa
import Derived.Test.YtecgpibidcifpaaTake
namespace Go.Proofs.Ytecgpibidcifpaa.PlanW
open ConfW
/-- May the local time and the configuration be? -/
def god (c : Cfg) (t : Int) : Bool := decide (0 ≤ t) && (decide (t ≤ 1125899906842624) && decide (chk c = 0))
theorem god_iff {c : Cfg} {t : Int} : god c t = true ↔ (0 ≤ t ∧ t ≤ 1125899906842624) ∧ chk c = 0 := by
  unfold god
  simp only [Bool.and_eq_true, decide_eq_true_eq, and_assoc]
/-- And is there such an entry? -/
def got (c : Cfg) (k t : Int) : Bool := god c t && (decide (0 ≤ k) && decide (k < (c.entries.length : Int)))
theorem got_iff {c : Cfg} {k t : Int} : got c k t = true ↔ god c t = true ∧ 0 ≤ k ∧ k < (c.entries.length : Int) := by
  unfold got
  simp only [Bool.and_eq_true, decide_eq_true_eq]
/-- Is an entry's stretch on this wire, and which one? -/
def onW (h : Int) (down : Bool) (e : R4) : Bool := if down then CrewW.has e.b h else decide (e.a = h)
def str (c : Cfg) (down : Bool) (e : R4) : Int × Int := (if down then fwd c e else e.c, tim e.d)
def rs (c : Cfg) (h : Int) (down : Bool) : List R4 → List (Int × Int)
  | [] => []
  | e :: l => if onW h down e then str c down e :: rs c h down l else rs c h down l
/-- What holds of an entry of a configuration that may be. -/
structure EntOk (c : Cfg) (e : R4) : Prop where
  pl : placed c e = true
  lo : 2 * c.delay + c.window + 4 * c.precision ≤ e.c
  hi : e.c + tim e.d + c.delay + 2 * c.precision + tim e.d + c.delay + c.precision < c.cycle
  b : e.b < 4294967296
  tp : 512 ≤ tim e.d ∧ tim e.d ≤ 12144
theorem chk_spans {c : Cfg} (h : chk c = 0) : spans c = true := by
  obtain ⟨h1, h2, h3, h4, h5, h6, h7⟩ := chk_ok h
  exact spans_iff.2 ⟨btw_iff.1 h2, h3⟩
theorem chk_span {c : Cfg} (h : chk c = 0) : (1 ≤ c.cycle ∧ c.cycle ≤ 1073741824) ∧ (0 ≤ c.delay ∧ c.delay ≤ 1048576) ∧ (0 ≤ c.window ∧ c.window ≤ 1048576) ∧ 0 ≤ c.precision ∧ c.precision ≤ 1048576 := by
  obtain ⟨h1, h2⟩ := spans_iff.1 (chk_spans h)
  exact ⟨h1, spansT_iff.1 h2⟩
theorem chk_hosts {c : Cfg} (h : chk c = 0) : 1 ≤ c.hosts ∧ c.hosts ≤ 6 := btw_iff.1 (chk_ok h).1
theorem ent_ok {c : Cfg} {e : R4} (h : chk c = 0) (he : e ∈ c.entries) : EntOk c e := by
  obtain ⟨h1, h2, h3, h4, h5, h6, h7⟩ := chk_ok h
  have hs := chk_spans h
  have sp := chk_span h
  have hw := way_six (btw_iff.1 h1) ((entOk_iff.1 h5).2 e he)
  have hp := ph_iff.1 (List.all_eq_true.1 h6 e he)
  have hq : quiet c = 2 * c.delay + c.window + 4 * c.precision := by unfold quiet; rw [if_pos hs]
  rw [hq] at hp
  have pl : placed c e = true := placed_iff.2 ⟨hs, hw, by omega, by omega⟩
  have hl : lat c e = e.c + tim e.d + c.delay + 2 * c.precision + tim e.d + c.delay + c.precision := by unfold lat; rw [if_pos pl]
  rw [hl] at hp
  have hb := (way_iff.1 hw).2.2.1
  exact ⟨pl, hp.1, hp.2.2, by have : (2 : Nat) ^ (6 : Int).toNat = 64 := rfl; omega, tim_pos e.d⟩
/-- All its times lie within the cycle. -/
structure EntIn (c : Cfg) (e : R4) : Prop where
  a0 : at0 c e = e.c + tim e.d - c.precision
  a1 : at1 c e = e.c + tim e.d + c.delay + c.precision
  f : fwd c e = e.c + tim e.d + c.delay + c.precision + c.precision
  er : ear c e = e.c + tim e.d + c.delay + c.precision + c.precision + tim e.d - c.precision
  la : lat c e = e.c + tim e.d + c.delay + c.precision + c.precision + tim e.d + c.delay + c.precision
  lo : 2 * c.delay + c.window + 4 * c.precision ≤ e.c
  hi : lat c e < c.cycle
theorem ent_in {c : Cfg} {e : R4} (g : EntOk c e) : EntIn c e := by
  have f : fwd c e = e.c + tim e.d + c.delay + c.precision + c.precision := by unfold fwd; rw [if_pos g.pl]; omega
  have la : lat c e = e.c + tim e.d + c.delay + c.precision + c.precision + tim e.d + c.delay + c.precision := by unfold lat; rw [if_pos g.pl]; omega
  exact ⟨by unfold at0; rw [if_pos g.pl], by unfold at1; rw [if_pos g.pl], f, by unfold ear; rw [if_pos g.pl]; omega, la, g.lo, by have := g.hi; omega⟩
/-- The entry of that number. -/
def entA (c : Cfg) (k : Int) : R4 := (c.entries[k.toNat]?).getD ⟨0, 0, 0, 0⟩
def relayV (c : Cfg) (k t : Int) : Int × Bool := if got c k t && (decide (at0 c (entA c k) ≤ t % c.cycle) && decide (t % c.cycle ≤ at1 c (entA c k))) then (t / c.cycle * c.cycle + fwd c (entA c k), true) else (0, false)
theorem got_ent {c : Cfg} {k t : Int} (h : got c k t = true) : ∃ (n : Nat) (e : R4), k = (n : Int) ∧ c.entries[n]? = some e ∧ god c t = true ∧ EntOk c e ∧ entA c k = e := by
  obtain ⟨g, h0, h1⟩ := got_iff.1 h
  obtain ⟨n, rfl⟩ := Int.eq_ofNat_of_zero_le h0
  have hn : n < c.entries.length := by omega
  refine ⟨n, c.entries[n], rfl, List.getElem?_eq_getElem hn, g, ent_ok (god_iff.1 g).2 (List.getElem_mem hn), ?_⟩
  unfold entA
  rw [Int.toNat_natCast, List.getElem?_eq_getElem hn]
  rfl
end Go.Proofs.Ytecgpibidcifpaa.PlanW


/- Package plan: Where, find, Send, Relay, Land. -/
namespace Go.Proofs.Ytecgpibidcifpaa.PlanW
open Go.RowKit Shell
open ConfW (Cfg R4 CM ML chk tim fwd ear lat at0 at1 check_any forward_any late_any at_any)
theorem cells9 {w : World} {j : Nat} {v0 v1 v2 v3 v4 v5 v6 v7 v8 : Value} {t : TypeId} (h : w.heap[j]? = some (.cells #[v0, v1, v2, v3, v4, v5, v6, v7, v8] t (0, 0))) : w.cell? ⟨j, 0, none⟩ = some v0 ∧ w.cell? ⟨j, 1, none⟩ = some v1 ∧ w.cell? ⟨j, 2, none⟩ = some v2 ∧ w.cell? ⟨j, 3, none⟩ = some v3 ∧ w.cell? ⟨j, 4, none⟩ = some v4 ∧ w.cell? ⟨j, 5, none⟩ = some v5 ∧ w.cell? ⟨j, 6, none⟩ = some v6 ∧ w.cell? ⟨j, 7, none⟩ = some v7 ∧ w.cell? ⟨j, 8, none⟩ = some v8 :=
  ⟨cell_of_row w j 0 _ _ _ h, cell_of_row w j 1 _ _ _ h, cell_of_row w j 2 _ _ _ h, cell_of_row w j 3 _ _ _ h, cell_of_row w j 4 _ _ _ h, cell_of_row w j 5 _ _ _ h, cell_of_row w j 6 _ _ _ h, cell_of_row w j 7 _ _ _ h, cell_of_row w j 8 _ _ _ h⟩
theorem cells4 {w : World} {j : Nat} {v0 v1 v2 v3 : Value} {t : TypeId} (h : w.heap[j]? = some (.cells #[v0, v1, v2, v3] t (0, 0))) : w.cell? ⟨j, 0, none⟩ = some v0 ∧ w.cell? ⟨j, 1, none⟩ = some v1 ∧ w.cell? ⟨j, 2, none⟩ = some v2 ∧ w.cell? ⟨j, 3, none⟩ = some v3 :=
  ⟨cell_of_row w j 0 _ _ _ h, cell_of_row w j 1 _ _ _ h, cell_of_row w j 2 _ _ _ h, cell_of_row w j 3 _ _ _ h⟩
theorem frozen4 {w : World} {j : Nat} {v0 v1 v2 v3 : Value} {t : TypeId} (h : w.heap[j]? = some (.cells #[v0, v1, v2, v3] t (0, 0))) : w.frozen? ⟨j, 0, none⟩ = false ∧ w.frozen? ⟨j, 1, none⟩ = false ∧ w.frozen? ⟨j, 2, none⟩ = false ∧ w.frozen? ⟨j, 3, none⟩ = false :=
  ⟨frozen_of_row w j 0 _ _ h, frozen_of_row w j 1 _ _ h, frozen_of_row w j 2 _ _ h, frozen_of_row w j 3 _ _ h⟩
theorem put4 {w : World} {k : Nat} {m b r q : Value} {t : TypeId} (h : w.heap[k]? = some (.cells #[m, b, r, q] t (0, 0))) (x y z u : Value) : ((((w.setCell ⟨k, 0, none⟩ x).setCell ⟨k, 1, none⟩ y).setCell ⟨k, 2, none⟩ z).setCell ⟨k, 3, none⟩ u).heap[k]? = some (.cells #[x, y, z, u] t (0, 0)) := by
  replace h : (w.setCell ⟨k, 0, none⟩ x).heap[k]? = some (.cells #[x, b, r, q] t (0, 0)) := heap_setCell_same w k 0 _ _ _ h
  replace h : ((w.setCell ⟨k, 0, none⟩ x).setCell ⟨k, 1, none⟩ y).heap[k]? = some (.cells #[x, y, r, q] t (0, 0)) := heap_setCell_same _ k 1 _ _ _ h
  replace h : (((w.setCell ⟨k, 0, none⟩ x).setCell ⟨k, 1, none⟩ y).setCell ⟨k, 2, none⟩ z).heap[k]? = some (.cells #[x, y, z, q] t (0, 0)) := heap_setCell_same _ k 2 _ _ _ h
  exact heap_setCell_same _ k 3 _ _ _ h
theorem below4 {w0 w : World} {k : Nat} (h : Below w0.heap.size w0 w) (hk : w0.heap.size ≤ k) (x y z u : Value) : Below w0.heap.size w0 ((((w.setCell ⟨k, 0, none⟩ x).setCell ⟨k, 1, none⟩ y).setCell ⟨k, 2, none⟩ z).setCell ⟨k, 3, none⟩ u) :=
  (((h.setCell hk _).setCell hk _).setCell hk _).setCell hk _
/-- What is told of an entry: itself, the cycle and the place. -/
theorem results_ent {fn : Func} {p u1 u2 u3 : Tmp} (h : fn.results = #[.cell p 58, .tmp u1, .tmp u2, .tmp u3]) (tmps : Array Value) (w : World) (g : Nat) (t : TypeId) (x1 x2 x3 x4 : Value) (fr : Nat × Nat)
    (hp : tmps.getD p undef = .pointer (some ⟨g, 0, none⟩)) (hg : w.heap[g]? = some (.cells #[x1, x2, x3, x4] t fr)) :
    (results fn tmps).run Try.prog w = .ok (.tuple #[.agg #[x1, x2, x3, x4], tmps.getD u1 undef, tmps.getD u2 undef, tmps.getD u3 undef]) w := by
  have hp' : tmps[p]?.getD undef = .pointer (some ⟨g, 0, none⟩) := by simpa using hp
  simp [results, h, hp', asAddr, run_loadVar_row w g t 58 #[x1, x2, x3, x4] fr _ hg Try.underlying58 rfl (by kernel_rfl)]
theorem ret_ent {fn : Func} {R : Ending → World → Prop} {p u1 u2 u3 : Tmp} (h : fn.results = #[.cell p 58, .tmp u1, .tmp u2, .tmp u3]) {tmps : Array Value} {w : World} {g : Nat} {x1 x2 x3 x4 : Value} {t : TypeId} {fr : Nat × Nat}
    (hp : tmps.getD p undef = .pointer (some ⟨g, 0, none⟩)) (hg : w.heap[g]? = some (.cells #[x1, x2, x3, x4] t fr)) (hR : R (.returned (.tuple #[.agg #[x1, x2, x3, x4], tmps.getD u1 undef, tmps.getD u2 undef, tmps.getD u3 undef])) w) :
    bodyPost Try.prog fn R .ret { tmps := tmps, defers := [] } w :=
  bodyPost_ret (results_ent h tmps w g t x1 x2 x3 x4 fr hp hg) rfl hR
set_option maxHeartbeats 1000000 in
theorem where_ok (c : Cfg) (D E L : Option Addr) (nd cd ne ce nl cl : Nat) (t : Int) (w : World) (h : CM w c D E L nd cd ne ce nl cl) (g : god c t = true) : Calls Try.prog 95 #[.agg #[.int .i64 c.hosts, .int .i64 c.cycle, .int .i64 c.delay, .int .i64 c.window, .int .i64 c.precision, .slice D nd cd, .slice E ne ce, .slice L nl cl, .int .i64 c.queue], .int .i64 t] w fun r w' => r = .returned (.tuple #[.int .i64 (t / c.cycle), .int .i64 (t % c.cycle), .bool true]) ∧ Below w.heap.size w w' := by
  obtain ⟨⟨t0, t1⟩, hz⟩ := god_iff.1 g
  have sp := (chk_span hz).1
  have K : ∀ W, CM W c D E L nd cd ne ce nl cl → Calls Try.prog 20 #[.agg #[.int .i64 c.hosts, .int .i64 c.cycle, .int .i64 c.delay, .int .i64 c.window, .int .i64 c.precision, .slice D nd cd, .slice E ne ce, .slice L nl cl, .int .i64 c.queue]] W fun r W' => r = .returned (.int .i64 0) ∧ Below W.heap.size W W' := fun W hW => by have := check_any c D E L nd cd ne ce nl cl W hW; rwa [hz] at this
  have KH := Lib.hid K
  have S0 := Lib.hid ((Stay.start w).alloc (Obj.cells #[.int .i64 c.hosts, .int .i64 c.cycle, .int .i64 c.delay, .int .i64 c.window, .int .i64 c.precision, .slice D nd cd, .slice E ne ce, .slice L nl cl, .int .i64 c.queue] 26))
  have HM := Lib.hid (h.below (al (Below.refl _ _) (Obj.cells #[.int .i64 c.hosts, .int .i64 c.cycle, .int .i64 c.delay, .int .i64 c.window, .int .i64 c.precision, .slice D nd cd, .slice E ne ce, .slice L nl cl, .int .i64 c.queue] 26)))
  have dv := div_ok t0 (show 0 < c.cycle by omega)
  generalize t / c.cycle = q at *
  generalize t % c.cycle = p at *
  obtain ⟨dq, dp, dq2, dp2, db, dr, ds⟩ := dv
  have w1 : IntKind.i64.wrap q = q := by rw [IntKind.wrap_i64]; omega
  have w2 : wrap64 q = q := by unfold wrap64; omega
  have nz : ¬ c.cycle = 0 := by omega
  obtain ⟨a0, a1, a2, a3, a4, a5, a6, a7, a8⟩ := cells9 (S0.out.at 0 rfl)
  clear g h hz K sp db dr ds
  go_enter Try.func95, Try.ntmps95
  go_wp2_with (go_at_call 20; refine (KH.out _ HM.out).mono ?_; rintro r w5 ⟨rfl, b5⟩; have S := Lib.hid (S0.out.next b5); clear b5 a0 a1 a2 a3 a4 a5 a6 a7 a8; obtain ⟨a0, a1, a2, a3, a4, a5, a6, a7, a8⟩ := cells9 (S.out.at 0 rfl))
  go_region
  go_wp2
  go_ret3
  exact ⟨rfl, S.out.drew.b⟩
set_option maxHeartbeats 1000000 in
theorem where_no (c : Cfg) (D E L : Option Addr) (nd cd ne ce nl cl : Nat) (t : Int) (w : World) (h : CM w c D E L nd cd ne ce nl cl) (g : god c t = false) : Calls Try.prog 95 #[.agg #[.int .i64 c.hosts, .int .i64 c.cycle, .int .i64 c.delay, .int .i64 c.window, .int .i64 c.precision, .slice D nd cd, .slice E ne ce, .slice L nl cl, .int .i64 c.queue], .int .i64 t] w fun r w' => r = .returned (.tuple #[.int .i64 0, .int .i64 0, .bool false]) ∧ Below w.heap.size w w' := by
  have S0 := Lib.hid ((Stay.start w).alloc (Obj.cells #[.int .i64 c.hosts, .int .i64 c.cycle, .int .i64 c.delay, .int .i64 c.window, .int .i64 c.precision, .slice D nd cd, .slice E ne ce, .slice L nl cl, .int .i64 c.queue] 26))
  have HM := Lib.hid (h.below (al (Below.refl _ _) (Obj.cells #[.int .i64 c.hosts, .int .i64 c.cycle, .int .i64 c.delay, .int .i64 c.window, .int .i64 c.precision, .slice D nd cd, .slice E ne ce, .slice L nl cl, .int .i64 c.queue] 26)))
  obtain ⟨a0, a1, a2, a3, a4, a5, a6, a7, a8⟩ := cells9 (S0.out.at 0 rfl)
  by_cases h1 : t < 0
  · clear g h
    go_enter Try.func95, Try.ntmps95
    go_wp2
    go_ret3
    exact ⟨rfl, S0.out.b⟩
  by_cases h2 : 1125899906842624 < t
  · clear g h
    go_enter Try.func95, Try.ntmps95
    go_wp2
    go_ret3
    exact ⟨rfl, S0.out.b⟩
  have hz : chk c ≠ 0 := fun hz => by rw [god_iff.2 ⟨by omega, hz⟩] at g; cases g
  have KH := Lib.hid (fun W (hW : CM W c D E L nd cd ne ce nl cl) => check_any c D E L nd cd ne ce nl cl W hW)
  generalize chk c = z at *
  have z1 : (z == 0) = false := by rw [beq_eq_false_iff_ne]; exact hz
  have z2 : (z != 0) = true := by rw [bne_iff_ne]; exact hz
  clear g h
  go_enter Try.func95, Try.ntmps95
  go_wp2_with (go_at_call 20; refine (KH.out _ HM.out).mono ?_; rintro r w5 ⟨rfl, b5⟩; have S := Lib.hid (S0.out.next b5); clear b5 a0 a1 a2 a3 a4 a5 a6 a7 a8; obtain ⟨a0, a1, a2, a3, a4, a5, a6, a7, a8⟩ := cells9 (S.out.at 0 rfl))
  go_ret3
  exact ⟨rfl, S.out.b⟩
abbrev eb (e : R4) : Obj := Obj.cells #[.int .i64 e.a, .int .u32 e.b, .int .i64 e.c, .int .i64 e.d] 58
set_option maxHeartbeats 1000000 in
theorem find_bad (c : Cfg) (D E L : Option Addr) (nd cd ne ce nl cl : Nat) (k t : Int) (w : World) (h : CM w c D E L nd cd ne ce nl cl) (g : god c t = false) : Calls Try.prog 89 #[.agg #[.int .i64 c.hosts, .int .i64 c.cycle, .int .i64 c.delay, .int .i64 c.window, .int .i64 c.precision, .slice D nd cd, .slice E ne ce, .slice L nl cl, .int .i64 c.queue], .int .i64 k, .int .i64 t] w fun r w' => r = .returned (.tuple #[.agg #[.int .i64 0, .int .u32 0, .int .i64 0, .int .i64 0], .int .i64 0, .int .i64 0, .bool false]) ∧ Below w.heap.size w w' := by
  have S0 := Lib.hid (show Stay w [(w.heap.size + 1, .cells #[.int .i64 0, .int .u32 0, .int .i64 0, .int .i64 0] 58), (w.heap.size, Obj.cells #[.int .i64 c.hosts, .int .i64 c.cycle, .int .i64 c.delay, .int .i64 c.window, .int .i64 c.precision, .slice D nd cd, .slice E ne ce, .slice L nl cl, .int .i64 c.queue] 26)] ((w.alloc (Obj.cells #[.int .i64 c.hosts, .int .i64 c.cycle, .int .i64 c.delay, .int .i64 c.window, .int .i64 c.precision, .slice D nd cd, .slice E ne ce, .slice L nl cl, .int .i64 c.queue] 26)).alloc (.cells #[.int .i64 0, .int .u32 0, .int .i64 0, .int .i64 0] 58)) by
    have := ((Stay.start w).alloc (Obj.cells #[.int .i64 c.hosts, .int .i64 c.cycle, .int .i64 c.delay, .int .i64 c.window, .int .i64 c.precision, .slice D nd cd, .slice E ne ce, .slice L nl cl, .int .i64 c.queue] 26)).alloc (.cells #[.int .i64 0, .int .u32 0, .int .i64 0, .int .i64 0] 58)
    rwa [World.size_alloc] at this)
  have HM := Lib.hid (h.below S0.out.b)
  obtain ⟨a0, a1, a2, a3, a4, a5, a6, a7, a8⟩ := cells9 (S0.out.at 1 rfl)
  have KH := Lib.hid (where_no c D E L nd cd ne ce nl cl t _ HM.out g)
  clear g h
  go_enter Try.func89, Try.ntmps89
  go_wp2_with (go_at_call 95; refine KH.out.mono ?_; rintro r w5 ⟨rfl, b5⟩; have S := Lib.hid (S0.out.next b5); clear b5 a0 a1 a2 a3 a4 a5 a6 a7 a8; obtain ⟨a0, a1, a2, a3, a4, a5, a6, a7, a8⟩ := cells9 (S.out.at 1 rfl); obtain ⟨f0, f1, f2, f3⟩ := frozen4 (S.out.at 0 rfl); obtain ⟨e0, e1, e2, e3⟩ := cells4 (S.out.at 0 rfl))
  refine ret_ent rfl rfl (put4 (S.out.at 0 rfl) _ _ _ _) ⟨rfl, below4 S.out.b (by omega) _ _ _ _⟩
set_option maxHeartbeats 1000000 in
theorem find_out (c : Cfg) (D E L : Option Addr) (nd cd ne ce nl cl : Nat) (k t : Int) (w : World) (h : CM w c D E L nd cd ne ce nl cl) (g : god c t = true) (hk : ¬ (0 ≤ k ∧ k < (c.entries.length : Int))) : Calls Try.prog 89 #[.agg #[.int .i64 c.hosts, .int .i64 c.cycle, .int .i64 c.delay, .int .i64 c.window, .int .i64 c.precision, .slice D nd cd, .slice E ne ce, .slice L nl cl, .int .i64 c.queue], .int .i64 k, .int .i64 t] w fun r w' => r = .returned (.tuple #[.agg #[.int .i64 0, .int .u32 0, .int .i64 0, .int .i64 0], .int .i64 0, .int .i64 0, .bool false]) ∧ Below w.heap.size w w' := by
  have S0 := Lib.hid (show Stay w [(w.heap.size + 1, .cells #[.int .i64 0, .int .u32 0, .int .i64 0, .int .i64 0] 58), (w.heap.size, Obj.cells #[.int .i64 c.hosts, .int .i64 c.cycle, .int .i64 c.delay, .int .i64 c.window, .int .i64 c.precision, .slice D nd cd, .slice E ne ce, .slice L nl cl, .int .i64 c.queue] 26)] ((w.alloc (Obj.cells #[.int .i64 c.hosts, .int .i64 c.cycle, .int .i64 c.delay, .int .i64 c.window, .int .i64 c.precision, .slice D nd cd, .slice E ne ce, .slice L nl cl, .int .i64 c.queue] 26)).alloc (.cells #[.int .i64 0, .int .u32 0, .int .i64 0, .int .i64 0] 58)) by
    have := ((Stay.start w).alloc (Obj.cells #[.int .i64 c.hosts, .int .i64 c.cycle, .int .i64 c.delay, .int .i64 c.window, .int .i64 c.precision, .slice D nd cd, .slice E ne ce, .slice L nl cl, .int .i64 c.queue] 26)).alloc (.cells #[.int .i64 0, .int .u32 0, .int .i64 0, .int .i64 0] 58)
    rwa [World.size_alloc] at this)
  have HM := Lib.hid (h.below S0.out.b)
  obtain ⟨a0, a1, a2, a3, a4, a5, a6, a7, a8⟩ := cells9 (S0.out.at 1 rfl)
  have KH := Lib.hid (where_ok c D E L nd cd ne ce nl cl t _ HM.out g)
  rw [← h.nE] at hk
  generalize t / c.cycle = q at *
  generalize t % c.cycle = p at *
  clear g h
  by_cases h1 : k < 0
  · clear hk
    go_enter Try.func89, Try.ntmps89
    go_wp2_with (go_at_call 95; refine KH.out.mono ?_; rintro r w5 ⟨rfl, b5⟩; have S := Lib.hid (S0.out.next b5); clear b5 a0 a1 a2 a3 a4 a5 a6 a7 a8; obtain ⟨a0, a1, a2, a3, a4, a5, a6, a7, a8⟩ := cells9 (S.out.at 1 rfl); obtain ⟨f0, f1, f2, f3⟩ := frozen4 (S.out.at 0 rfl); obtain ⟨e0, e1, e2, e3⟩ := cells4 (S.out.at 0 rfl))
    refine ret_ent rfl rfl (put4 (S.out.at 0 rfl) _ _ _ _) ⟨rfl, below4 S.out.b (by omega) _ _ _ _⟩
  · have h2 : (ne : Int) ≤ k := by omega
    clear hk
    go_enter Try.func89, Try.ntmps89
    go_wp2_with (go_at_call 95; refine KH.out.mono ?_; rintro r w5 ⟨rfl, b5⟩; have S := Lib.hid (S0.out.next b5); clear b5 a0 a1 a2 a3 a4 a5 a6 a7 a8; obtain ⟨a0, a1, a2, a3, a4, a5, a6, a7, a8⟩ := cells9 (S.out.at 1 rfl); obtain ⟨f0, f1, f2, f3⟩ := frozen4 (S.out.at 0 rfl); obtain ⟨e0, e1, e2, e3⟩ := cells4 (S.out.at 0 rfl))
    refine ret_ent rfl rfl (put4 (S.out.at 0 rfl) _ _ _ _) ⟨rfl, below4 S.out.b (by omega) _ _ _ _⟩
set_option maxHeartbeats 1000000 in
theorem find_ok (c : Cfg) (D E L : Option Addr) (nd cd ne ce nl cl : Nat) (k : Nat) (t : Int) (e : R4) (w : World) (h : CM w c D E L nd cd ne ce nl cl) (g : god c t = true) (hk : c.entries[k]? = some e) : Calls Try.prog 89 #[.agg #[.int .i64 c.hosts, .int .i64 c.cycle, .int .i64 c.delay, .int .i64 c.window, .int .i64 c.precision, .slice D nd cd, .slice E ne ce, .slice L nl cl, .int .i64 c.queue], .int .i64 (k : Int), .int .i64 t] w fun r w' => r = .returned (.tuple #[.agg #[.int .i64 e.a, .int .u32 e.b, .int .i64 e.c, .int .i64 e.d], .int .i64 (t / c.cycle), .int .i64 (t % c.cycle), .bool true]) ∧ Below w.heap.size w w' := by
  have S0 := Lib.hid (show Stay w [(w.heap.size + 1, .cells #[.int .i64 0, .int .u32 0, .int .i64 0, .int .i64 0] 58), (w.heap.size, Obj.cells #[.int .i64 c.hosts, .int .i64 c.cycle, .int .i64 c.delay, .int .i64 c.window, .int .i64 c.precision, .slice D nd cd, .slice E ne ce, .slice L nl cl, .int .i64 c.queue] 26)] ((w.alloc (Obj.cells #[.int .i64 c.hosts, .int .i64 c.cycle, .int .i64 c.delay, .int .i64 c.window, .int .i64 c.precision, .slice D nd cd, .slice E ne ce, .slice L nl cl, .int .i64 c.queue] 26)).alloc (.cells #[.int .i64 0, .int .u32 0, .int .i64 0, .int .i64 0] 58)) by
    have := ((Stay.start w).alloc (Obj.cells #[.int .i64 c.hosts, .int .i64 c.cycle, .int .i64 c.delay, .int .i64 c.window, .int .i64 c.precision, .slice D nd cd, .slice E ne ce, .slice L nl cl, .int .i64 c.queue] 26)).alloc (.cells #[.int .i64 0, .int .u32 0, .int .i64 0, .int .i64 0] 58)
    rwa [World.size_alloc] at this)
  have HM := Lib.hid (h.below S0.out.b)
  obtain ⟨a0, a1, a2, a3, a4, a5, a6, a7, a8⟩ := cells9 (S0.out.at 1 rfl)
  have KH := Lib.hid (where_ok c D E L nd cd ne ce nl cl t _ HM.out g)
  have h1 : (k : Int) < (ne : Int) := by
    have := h.nE
    have : k < c.entries.length := by
      rcases Nat.lt_or_ge k c.entries.length with h | h
      · exact h
      · rw [List.getElem?_eq_none h] at hk; cases hk
    omega
  obtain ⟨b, off, rfl, -⟩ := HM.out.he k e hk
  have HN := Lib.hid h.mE
  generalize t / c.cycle = q at *
  generalize t % c.cycle = p at *
  have ME := Lib.hid (fun W (hW : CM W c D (some ⟨b, off, none⟩) L nd cd ne ce nl cl) => hW.he k e hk)
  clear g h hk
  go_enter Try.func89, Try.ntmps89
  go_wp2_with (go_at_call 95; refine KH.out.mono ?_; rintro r w5 ⟨rfl, b5⟩; have S := Lib.hid (S0.out.next b5); have HM2 := HM.out.below b5; obtain ⟨b', off', hb', ⟨x0, x1, x2, x3⟩, -⟩ := ME.out _ HM2; cases hb'; clear HM2; clear b5 a0 a1 a2 a3 a4 a5 a6 a7 a8; obtain ⟨a0, a1, a2, a3, a4, a5, a6, a7, a8⟩ := cells9 (S.out.at 1 rfl); obtain ⟨f0, f1, f2, f3⟩ := frozen4 (S.out.at 0 rfl); obtain ⟨e0, e1, e2, e3⟩ := cells4 (S.out.at 0 rfl))
  refine ret_ent rfl rfl (put4 (S.out.at 0 rfl) _ _ _ _) ⟨rfl, below4 S.out.b (by omega) _ _ _ _⟩
theorem find_no (c : Cfg) (D E L : Option Addr) (nd cd ne ce nl cl : Nat) (k t : Int) (w : World) (h : CM w c D E L nd cd ne ce nl cl) (g : got c k t = false) : Calls Try.prog 89 #[.agg #[.int .i64 c.hosts, .int .i64 c.cycle, .int .i64 c.delay, .int .i64 c.window, .int .i64 c.precision, .slice D nd cd, .slice E ne ce, .slice L nl cl, .int .i64 c.queue], .int .i64 k, .int .i64 t] w fun r w' => r = .returned (.tuple #[.agg #[.int .i64 0, .int .u32 0, .int .i64 0, .int .i64 0], .int .i64 0, .int .i64 0, .bool false]) ∧ Below w.heap.size w w' := by
  cases hg : god c t with
  | false => exact find_bad c D E L nd cd ne ce nl cl k t w h hg
  | true => exact find_out c D E L nd cd ne ce nl cl k t w h hg (fun hk => by rw [got_iff.2 ⟨hg, hk⟩] at g; cases g)
abbrev Z4 : Obj := .cells #[.int .i64 0, .int .u32 0, .int .i64 0, .int .i64 0] 58
end Go.Proofs.Ytecgpibidcifpaa.PlanW


/- Package plan: Relay, Land. -/
namespace Go.Proofs.Ytecgpibidcifpaa.PlanW
open Go.RowKit Shell
open ConfW (Cfg R4 CM ML chk tim fwd ear lat at0 at1 check_any forward_any late_any at_any)
theorem relay_no {c : Cfg} {k t : Int} (h : got c k t = false) : relayV c k t = (0, false) := by unfold relayV; rw [h]; rfl
theorem relay_yes {c : Cfg} {k t : Int} {e : R4} (h : got c k t = true) (he : entA c k = e) : relayV c k t = if at0 c e ≤ t % c.cycle ∧ t % c.cycle ≤ at1 c e then (t / c.cycle * c.cycle + fwd c e, true) else (0, false) := by
  unfold relayV
  rw [h, he, Bool.true_and]
  by_cases g : at0 c e ≤ t % c.cycle ∧ t % c.cycle ≤ at1 c e
  · rw [if_pos g, if_pos (by simp [g.1, g.2])]
  · rw [if_neg g, if_neg (by simp only [Bool.and_eq_true, decide_eq_true_eq]; exact g)]
set_option maxHeartbeats 2000000 in
theorem relay_any (c : Cfg) (D E L : Option Addr) (nd cd ne ce nl cl : Nat) (k t : Int) (w : World) (h : CM w c D E L nd cd ne ce nl cl) : Calls Try.prog 77 #[.agg #[.int .i64 c.hosts, .int .i64 c.cycle, .int .i64 c.delay, .int .i64 c.window, .int .i64 c.precision, .slice D nd cd, .slice E ne ce, .slice L nl cl, .int .i64 c.queue], .int .i64 k, .int .i64 t] w fun r w' => r = .returned (.tuple #[.int .i64 (relayV c k t).1, .bool (relayV c k t).2]) ∧ Below w.heap.size w w' := by
  have S0 := Lib.hid ((Stay.start w).alloc (Obj.cells #[.int .i64 c.hosts, .int .i64 c.cycle, .int .i64 c.delay, .int .i64 c.window, .int .i64 c.precision, .slice D nd cd, .slice E ne ce, .slice L nl cl, .int .i64 c.queue] 26))
  have HM := Lib.hid (h.below S0.out.b)
  obtain ⟨a0, a1, a2, a3, a4, a5, a6, a7, a8⟩ := cells9 (S0.out.at 0 rfl)
  cases hg : got c k t with
  | false =>
    have KH := Lib.hid (find_no c D E L nd cd ne ce nl cl k t _ HM.out hg)
    rw [relay_no hg]
    clear hg h
    go_enter Try.func77, Try.ntmps77
    go_wp2_with (go_at_call 89; refine KH.out.mono ?_; rintro r w5 ⟨rfl, b5⟩; have S := Lib.hid ((S0.out.next b5).alloc Z4); clear b5 a0 a1 a2 a3 a4 a5 a6 a7 a8)
    go_ret2
    exact ⟨rfl, S.out.b⟩
  | true =>
    obtain ⟨n, e, rfl, he, g, ok, hea⟩ := got_ent hg
    have KH := Lib.hid (find_ok c D E L nd cd ne ce nl cl n t e _ HM.out g he)
    have KA := Lib.hid (fun W => at_any c D E L nd cd ne ce nl cl e W ok.b)
    have KF := Lib.hid (fun W => forward_any c D E L nd cd ne ce nl cl e W ok.b)
    rw [relay_yes hg hea]
    obtain ⟨⟨t0, t1⟩, hz⟩ := god_iff.1 g
    have sp := (chk_span hz).1
    have dv := div_ok t0 (show 0 < c.cycle by omega)
    generalize t / c.cycle = q at *
    generalize t % c.cycle = p at *
    have l1 := ok.lo
    have l2 := ok.hi
    have l3 := ok.tp
    have l4 := chk_span hz
    have l5 := dv.bp
    have l6 := dv.es
    have l7 := (ent_in ok).f
    generalize fwd c e = f at *
    generalize at0 c e = x0 at *
    generalize at1 c e = x1 at *
    obtain ⟨z, hz1⟩ : ∃ z, t + f = z := ⟨_, rfl⟩
    have w1 : IntKind.i64.wrap (t + f) = z := by rw [IntKind.wrap_i64]; omega
    have w2 : wrap64 (t + f) = z := by unfold wrap64; omega
    have w3 : IntKind.i64.wrap (z - p) = z - p := by rw [IntKind.wrap_i64]; omega
    have w4 : wrap64 (z - p) = z - p := by unfold wrap64; omega
    have HD := Lib.hid (show q * c.cycle + f = z - p by omega)
    clear hg h l1 l2 l3 l4 l5 l6 l7 ok dv hz t0 t1 sp hea he g hz1
    rw [HD.out]
    by_cases h0 : p < x0
    · rw [if_neg (by omega)]
      go_enter Try.func77, Try.ntmps77
      go_wp2_with (first
        | (go_at_call 89; refine KH.out.mono ?_; rintro r w5 ⟨rfl, b5⟩; have S := Lib.hid ((S0.out.next b5).alloc (eb e)); clear b5 a0 a1 a2 a3 a4 a5 a6 a7 a8; obtain ⟨a0, a1, a2, a3, a4, a5, a6, a7, a8⟩ := cells9 (S.out.at 1 rfl); obtain ⟨e0, e1, e2, e3⟩ := cells4 (S.out.at 0 rfl))
        | (go_at_call 90; refine (KA.out _).mono ?_; rintro r w6 ⟨rfl, b6⟩; have S6 := Lib.hid (S.out.next b6); clear b6))
      go_ret2
      exact ⟨rfl, S6.out.b⟩
    by_cases h1 : x1 < p
    · rw [if_neg (by omega)]
      go_enter Try.func77, Try.ntmps77
      go_wp2_with (first
        | (go_at_call 89; refine KH.out.mono ?_; rintro r w5 ⟨rfl, b5⟩; have S := Lib.hid ((S0.out.next b5).alloc (eb e)); clear b5 a0 a1 a2 a3 a4 a5 a6 a7 a8; obtain ⟨a0, a1, a2, a3, a4, a5, a6, a7, a8⟩ := cells9 (S.out.at 1 rfl); obtain ⟨e0, e1, e2, e3⟩ := cells4 (S.out.at 0 rfl))
        | (go_at_call 90; refine (KA.out _).mono ?_; rintro r w6 ⟨rfl, b6⟩; have S6 := Lib.hid (S.out.next b6); clear b6))
      go_ret2
      exact ⟨rfl, S6.out.b⟩
    · rw [if_pos (by omega)]
      go_enter Try.func77, Try.ntmps77
      go_wp2_with (first
        | (go_at_call 89; refine KH.out.mono ?_; rintro r w5 ⟨rfl, b5⟩; have S := Lib.hid ((S0.out.next b5).alloc (eb e)); clear b5 a0 a1 a2 a3 a4 a5 a6 a7 a8; obtain ⟨a0, a1, a2, a3, a4, a5, a6, a7, a8⟩ := cells9 (S.out.at 1 rfl); obtain ⟨e0, e1, e2, e3⟩ := cells4 (S.out.at 0 rfl))
        | (go_at_call 90; refine (KA.out _).mono ?_; rintro r w6 ⟨rfl, b6⟩; have S6 := Lib.hid (S.out.next b6); clear b6 a0 a1 a2 a3 a4 a5 a6 a7 a8 e0 e1 e2 e3; obtain ⟨a0, a1, a2, a3, a4, a5, a6, a7, a8⟩ := cells9 (S6.out.at 1 rfl); obtain ⟨e0, e1, e2, e3⟩ := cells4 (S6.out.at 0 rfl))
        | (go_at_call 72; refine (KF.out _).mono ?_; rintro r w7 ⟨rfl, b7⟩; have S7 := Lib.hid (S6.out.next b7); clear b7))
      go_ret2
      exact ⟨rfl, S7.out.b⟩
end Go.Proofs.Ytecgpibidcifpaa.PlanW


/- The document's own position in the schedule: Good, Entry, Wire, Send, Relay, Land. -/
namespace Go.Proofs.Ytecgpibidcifpaa.PlanW
open Go.RowKit Shell
open ConfW (Cfg R4 CM ML chk tim fwd ear lat at0 at1 refCheck_any times_any placed_iff)
set_option maxHeartbeats 2000000 in
theorem good_any (c : Cfg) (D E L : Option Addr) (nd cd ne ce nl cl : Nat) (t : Int) (w : World) (m : CM w c D E L nd cd ne ce nl cl) : Calls Try.prog 80 #[.agg #[.int .i64 c.hosts, .int .i64 c.cycle, .int .i64 c.delay, .int .i64 c.window, .int .i64 c.precision, .slice D nd cd, .slice E ne ce, .slice L nl cl, .int .i64 c.queue], .int .i64 t] w fun r w' => r = .returned (.bool (god c t)) ∧ Below w.heap.size w w' := by
  have S0 := Lib.hid ((Stay.start w).alloc (Obj.cells #[.int .i64 c.hosts, .int .i64 c.cycle, .int .i64 c.delay, .int .i64 c.window, .int .i64 c.precision, .slice D nd cd, .slice E ne ce, .slice L nl cl, .int .i64 c.queue] 26))
  have HM := Lib.hid (m.below S0.out.b)
  have K := Lib.hid (refCheck_any c D E L nd cd ne ce nl cl _ HM.out)
  obtain ⟨a0, a1, a2, a3, a4, a5, a6, a7, a8⟩ := cells9 (S0.out.at 0 rfl)
  unfold god
  generalize chk c = z at *
  clear m
  by_cases h1 : 0 ≤ t
  case neg =>
    rw [decide_eq_false h1, Bool.false_and]
    go_enter Try.func80, Try.ntmps80
    go_wp2
    go_ret
    exact ⟨by first | rfl | exact congrArg (fun z => Ending.returned (.bool z)) (decide_eq_false (by omega)) | exact congrArg (fun z => Ending.returned (.bool z)) (decide_eq_true (by omega)), S0.out.b⟩
  by_cases h2 : t ≤ 1125899906842624
  case neg =>
    rw [decide_eq_false h2, Bool.false_and, Bool.and_false]
    go_enter Try.func80, Try.ntmps80
    go_wp2
    go_ret
    exact ⟨by first | rfl | exact congrArg (fun z => Ending.returned (.bool z)) (decide_eq_false (by omega)) | exact congrArg (fun z => Ending.returned (.bool z)) (decide_eq_true (by omega)), S0.out.b⟩
  rw [decide_eq_true h1, decide_eq_true h2]
  by_cases h3 : z = 0
  · subst h3
    go_enter Try.func80, Try.ntmps80
    go_wp2_with (go_at_call 10; refine K.out.mono ?_; rintro r w5 ⟨rfl, b5⟩; have S := Lib.hid (S0.out.next b5); clear b5)
    go_ret
    exact ⟨rfl, S.out.b⟩
  · have e1 : (z == 0) = false := by rw [beq_eq_false_iff_ne]; exact h3
    have HZ := Lib.hid (decide_eq_false h3)
    clear h3
    go_enter Try.func80, Try.ntmps80
    go_wp2_with (go_at_call 10; refine K.out.mono ?_; rintro r w5 ⟨rfl, b5⟩; have S := Lib.hid (S0.out.next b5); clear b5)
    go_ret
    exact ⟨by rw [HZ.out]; rfl, S.out.b⟩
set_option maxHeartbeats 2000000 in
theorem entry_any (c : Cfg) (D E L : Option Addr) (nd cd ne ce nl cl : Nat) (k t : Int) (w : World) (m : CM w c D E L nd cd ne ce nl cl) : Calls Try.prog 62 #[.agg #[.int .i64 c.hosts, .int .i64 c.cycle, .int .i64 c.delay, .int .i64 c.window, .int .i64 c.precision, .slice D nd cd, .slice E ne ce, .slice L nl cl, .int .i64 c.queue], .int .i64 k, .int .i64 t] w fun r w' => r = .returned (.bool (got c k t)) ∧ Below w.heap.size w w' := by
  have S0 := Lib.hid ((Stay.start w).alloc (Obj.cells #[.int .i64 c.hosts, .int .i64 c.cycle, .int .i64 c.delay, .int .i64 c.window, .int .i64 c.precision, .slice D nd cd, .slice E ne ce, .slice L nl cl, .int .i64 c.queue] 26))
  have HM := Lib.hid (m.below S0.out.b)
  have K := Lib.hid (good_any c D E L nd cd ne ce nl cl t _ HM.out)
  obtain ⟨a0, a1, a2, a3, a4, a5, a6, a7, a8⟩ := cells9 (S0.out.at 0 rfl)
  unfold got
  rw [← m.nE]
  generalize god c t = z at *
  clear m
  cases z with
  | false =>
    rw [Bool.false_and]
    go_enter Try.func62, Try.ntmps62
    go_wp2_with (go_at_call 80; refine K.out.mono ?_; rintro r w5 ⟨rfl, b5⟩; have S := Lib.hid (S0.out.next b5); clear b5 a0 a1 a2 a3 a4 a5 a6 a7 a8; obtain ⟨a0, a1, a2, a3, a4, a5, a6, a7, a8⟩ := cells9 (S.out.at 0 rfl))
    go_ret
    exact ⟨by first | rfl | exact congrArg (fun z => Ending.returned (.bool z)) (decide_eq_false (by omega)) | exact congrArg (fun z => Ending.returned (.bool z)) (decide_eq_true (by omega)), S.out.b⟩
  | true =>
    rw [Bool.true_and]
    by_cases h1 : 0 ≤ k
    case neg =>
      rw [decide_eq_false h1, Bool.false_and]
      go_enter Try.func62, Try.ntmps62
      go_wp2_with (go_at_call 80; refine K.out.mono ?_; rintro r w5 ⟨rfl, b5⟩; have S := Lib.hid (S0.out.next b5); clear b5 a0 a1 a2 a3 a4 a5 a6 a7 a8; obtain ⟨a0, a1, a2, a3, a4, a5, a6, a7, a8⟩ := cells9 (S.out.at 0 rfl))
      go_ret
      exact ⟨by first | rfl | exact congrArg (fun z => Ending.returned (.bool z)) (decide_eq_false (by omega)) | exact congrArg (fun z => Ending.returned (.bool z)) (decide_eq_true (by omega)), S.out.b⟩
    by_cases h2 : k < (ne : Int)
    · rw [decide_eq_true h1, decide_eq_true h2]
      go_enter Try.func62, Try.ntmps62
      go_wp2_with (go_at_call 80; refine K.out.mono ?_; rintro r w5 ⟨rfl, b5⟩; have S := Lib.hid (S0.out.next b5); clear b5 a0 a1 a2 a3 a4 a5 a6 a7 a8; obtain ⟨a0, a1, a2, a3, a4, a5, a6, a7, a8⟩ := cells9 (S.out.at 0 rfl))
      go_ret
      exact ⟨by first | rfl | exact congrArg (fun z => Ending.returned (.bool z)) (decide_eq_false (by omega)) | exact congrArg (fun z => Ending.returned (.bool z)) (decide_eq_true (by omega)), S.out.b⟩
    · rw [decide_eq_true h1, decide_eq_false h2]
      go_enter Try.func62, Try.ntmps62
      go_wp2_with (go_at_call 80; refine K.out.mono ?_; rintro r w5 ⟨rfl, b5⟩; have S := Lib.hid (S0.out.next b5); clear b5 a0 a1 a2 a3 a4 a5 a6 a7 a8; obtain ⟨a0, a1, a2, a3, a4, a5, a6, a7, a8⟩ := cells9 (S.out.at 0 rfl))
      go_ret
      exact ⟨by first | rfl | exact congrArg (fun z => Ending.returned (.bool z)) (decide_eq_false (by omega)) | exact congrArg (fun z => Ending.returned (.bool z)) (decide_eq_true (by omega)), S.out.b⟩
/-- The document's five times of an entry that may be. -/
theorem times_ok (c : Cfg) (D E L : Option Addr) (nd cd ne ce nl cl : Nat) (e : R4) (w : World) (g : EntOk c e) : Calls Try.prog 54 #[.agg #[.int .i64 c.hosts, .int .i64 c.cycle, .int .i64 c.delay, .int .i64 c.window, .int .i64 c.precision, .slice D nd cd, .slice E ne ce, .slice L nl cl, .int .i64 c.queue], .agg #[.int .i64 e.a, .int .u32 e.b, .int .i64 e.c, .int .i64 e.d]] w fun r w' => r = .returned (.agg #[.int .i64 (at0 c e), .int .i64 (at1 c e), .int .i64 (fwd c e), .int .i64 (ear c e), .int .i64 (lat c e)]) ∧ Below w.heap.size w w' := by
  have hp := placed_iff.1 g.pl
  have h := times_any c D E L nd cd ne ce nl cl e w hp.1 hp.2.2
  have i := ent_in g
  rw [i.a0, i.a1, i.f, i.er, i.la]
  exact h
end Go.Proofs.Ytecgpibidcifpaa.PlanW


/- The document's own Relay and Land. -/
namespace Go.Proofs.Ytecgpibidcifpaa.PlanW
open Shell (takeR skipR aput lset)
open Go.RowKit Shell
open ConfW (Cfg R4 CM ML chk tim fwd ear lat at0 at1)
theorem wr_id {z : Int} (hz : 0 ≤ z ∧ z ≤ 1125899906842624) : IntKind.i64.wrap z = z ∧ wrap64 z = z := by
  constructor
  · rw [IntKind.wrap_i64]; omega
  · unfold wrap64; omega
theorem wr_at {x z : Int} (h : x = z) (hz : 0 ≤ z ∧ z ≤ 1125899906842624) : IntKind.i64.wrap x = z ∧ wrap64 x = z := by
  subst h
  exact wr_id hz
theorem wr_add {z y s : Int} (h : z + y = s) (hz : 0 ≤ z ∧ z ≤ 1125899906842624) (hy : -1099511627776 ≤ y ∧ y ≤ 1099511627776) : IntKind.i64.wrap (z + y) = s ∧ wrap64 (z + y) = s := by
  constructor
  · rw [IntKind.wrap_i64]; omega
  · unfold wrap64; omega
theorem cells5 {w : World} {j : Nat} {v0 v1 v2 v3 v4 : Value} {t : TypeId} (h : w.heap[j]? = some (.cells #[v0, v1, v2, v3, v4] t (0, 0))) : w.cell? ⟨j, 0, none⟩ = some v0 ∧ w.cell? ⟨j, 1, none⟩ = some v1 ∧ w.cell? ⟨j, 2, none⟩ = some v2 ∧ w.cell? ⟨j, 3, none⟩ = some v3 ∧ w.cell? ⟨j, 4, none⟩ = some v4 :=
  ⟨cell_of_row w j 0 _ _ _ h, cell_of_row w j 1 _ _ _ h, cell_of_row w j 2 _ _ _ h, cell_of_row w j 3 _ _ _ h, cell_of_row w j 4 _ _ _ h⟩
theorem frozen5 {w : World} {j : Nat} {v0 v1 v2 v3 v4 : Value} {t : TypeId} (h : w.heap[j]? = some (.cells #[v0, v1, v2, v3, v4] t (0, 0))) : w.frozen? ⟨j, 0, none⟩ = false ∧ w.frozen? ⟨j, 1, none⟩ = false ∧ w.frozen? ⟨j, 2, none⟩ = false ∧ w.frozen? ⟨j, 3, none⟩ = false ∧ w.frozen? ⟨j, 4, none⟩ = false :=
  ⟨frozen_of_row w j 0 _ _ h, frozen_of_row w j 1 _ _ h, frozen_of_row w j 2 _ _ h, frozen_of_row w j 3 _ _ h, frozen_of_row w j 4 _ _ h⟩
/-- Five numbers stored into a box of the call's own. -/
theorem store5 {w0 w : World} {L : List (Nat × Obj)} {g : Nat} {t : TypeId} {v0 v1 v2 v3 v4 : Value} (S : Stay w0 L w) (B : w.heap[g]? = some (.cells #[v0, v1, v2, v3, v4] t (0, 0))) (hw : w0.heap.size ≤ g) (hL : ∀ x ∈ L, x.1 ≠ g) (x0 x1 x2 x3 x4 : Value) :
    Stay w0 ((g, .cells #[x0, x1, x2, x3, x4] t (0, 0)) :: L) (((((w.setCell ⟨g, 0, none⟩ x0).setCell ⟨g, 1, none⟩ x1).setCell ⟨g, 2, none⟩ x2).setCell ⟨g, 3, none⟩ x3).setCell ⟨g, 4, none⟩ x4) := by
  have k : Kept g w (((((w.setCell ⟨g, 0, none⟩ x0).setCell ⟨g, 1, none⟩ x1).setCell ⟨g, 2, none⟩ x2).setCell ⟨g, 3, none⟩ x3).setCell ⟨g, 4, none⟩ x4) := (kept3 w g x0 x1 x2).trans (kept2 _ g 3 4 x3 x4)
  refine (S.add B).turn k ?_ hw hL
  replace B : (w.setCell ⟨g, 0, none⟩ x0).heap[g]? = some (.cells #[x0, v1, v2, v3, v4] t (0, 0)) := heap_setCell_same w g 0 _ _ _ B
  replace B : ((w.setCell ⟨g, 0, none⟩ x0).setCell ⟨g, 1, none⟩ x1).heap[g]? = some (.cells #[x0, x1, v2, v3, v4] t (0, 0)) := heap_setCell_same _ g 1 _ _ _ B
  replace B : (((w.setCell ⟨g, 0, none⟩ x0).setCell ⟨g, 1, none⟩ x1).setCell ⟨g, 2, none⟩ x2).heap[g]? = some (.cells #[x0, x1, x2, v3, v4] t (0, 0)) := heap_setCell_same _ g 2 _ _ _ B
  replace B : ((((w.setCell ⟨g, 0, none⟩ x0).setCell ⟨g, 1, none⟩ x1).setCell ⟨g, 2, none⟩ x2).setCell ⟨g, 3, none⟩ x3).heap[g]? = some (.cells #[x0, x1, x2, x3, v4] t (0, 0)) := heap_setCell_same _ g 3 _ _ _ B
  exact heap_setCell_same _ g 4 _ _ _ B
set_option maxHeartbeats 8000000 in
set_option maxRecDepth 100000 in
theorem refRelay_any (c : Cfg) (D E L : Option Addr) (nd cd ne ce nl cl : Nat) (k t : Int) (w : World) (m : CM w c D E L nd cd ne ce nl cl) : Calls Try.prog 28 #[.agg #[.int .i64 c.hosts, .int .i64 c.cycle, .int .i64 c.delay, .int .i64 c.window, .int .i64 c.precision, .slice D nd cd, .slice E ne ce, .slice L nl cl, .int .i64 c.queue], .int .i64 k, .int .i64 t] w fun r w' => r = .returned (.tuple #[.int .i64 (relayV c k t).1, .bool (relayV c k t).2]) ∧ Below w.heap.size w w' := by
  have S0 := Lib.hid ((Stay.start w).alloc (Obj.cells #[.int .i64 c.hosts, .int .i64 c.cycle, .int .i64 c.delay, .int .i64 c.window, .int .i64 c.precision, .slice D nd cd, .slice E ne ce, .slice L nl cl, .int .i64 c.queue] 26))
  have HM := Lib.hid (m.below S0.out.b)
  have K := Lib.hid (entry_any c D E L nd cd ne ce nl cl k t _ HM.out)
  obtain ⟨a0, a1, a2, a3, a4, a5, a6, a7, a8⟩ := cells9 (S0.out.at 0 rfl)
  cases hg : got c k t with
  | false =>
    rw [relay_no hg]
    rw [hg] at K
    clear hg m
    go_enter Try.func28, Try.ntmps28
    go_wp2_with (go_at_call 62; refine K.out.mono ?_; rintro r w5 ⟨rfl, b5⟩; have S := Lib.hid (S0.out.next b5); clear b5)
    go_ret2
    exact ⟨rfl, S.out.b⟩
  | true =>
    obtain ⟨n, e, rfl, he, g, ok, hea⟩ := got_ent hg
    rw [relay_yes hg hea]
    rw [hg] at K
    obtain ⟨⟨t0, t1⟩, hz⟩ := god_iff.1 g
    have sp := (chk_span hz).1
    have dv := div_ok t0 (show 0 < c.cycle by omega)
    generalize t / c.cycle = q at *
    generalize t % c.cycle = p at *
    obtain ⟨z, hzq⟩ : ∃ z, q * c.cycle = z := ⟨_, rfl⟩
    have l1 := ok.lo
    have l2 := ok.hi
    have l3 := ok.tp
    have l4 := chk_span hz
    have l5 := dv.bp
    have l6 := dv.es
    have l7 := dv.bq
    have dq2 := dv.eq2
    have lin := ent_in ok
    have ia0 := lin.a0
    have ia1 := lin.a1
    have if1 := lin.f
    have ier := lin.er
    have ila := lin.la
    rw [hzq] at l6
    obtain ⟨b, off, rfl, -⟩ := HM.out.he n e he
    have KT := Lib.hid (fun W => times_ok c D (some ⟨b, off, none⟩) L nd cd ne ce nl cl e W ok)
    generalize at0 c e = y0 at *
    generalize at1 c e = y1 at *
    generalize fwd c e = y2 at *
    generalize ear c e = y3 at *
    generalize lat c e = y4 at *
    obtain ⟨s0, hs0⟩ : ∃ s, z + y0 = s := ⟨_, rfl⟩
    obtain ⟨s1, hs1⟩ : ∃ s, z + y1 = s := ⟨_, rfl⟩
    obtain ⟨s2, hs2⟩ : ∃ s, z + y2 = s := ⟨_, rfl⟩
    obtain ⟨s3, hs3⟩ : ∃ s, z + y3 = s := ⟨_, rfl⟩
    obtain ⟨s4, hs4⟩ : ∃ s, z + y4 = s := ⟨_, rfl⟩
    have P0 := Lib.hid (show y0 ≤ p ↔ s0 ≤ t by omega)
    have P1 := Lib.hid (show p ≤ y1 ↔ t ≤ s1 by omega)
    have P3 := Lib.hid (show y3 ≤ p ↔ s3 ≤ t by omega)
    have P4 := Lib.hid (show p ≤ y4 ↔ t ≤ s4 by omega)
    have HS2 := Lib.hid hs2
    have zb : 0 ≤ z := by rw [← hzq]; exact Int.mul_nonneg dv.bq.1 (by omega)
    have bz : 0 ≤ z ∧ z ≤ 1125899906842624 := by omega
    have bq : 0 ≤ q ∧ q ≤ 1125899906842624 := by omega
    have b0 : -1099511627776 ≤ y0 ∧ y0 ≤ 1099511627776 := by omega
    have b1 : -1099511627776 ≤ y1 ∧ y1 ≤ 1099511627776 := by omega
    have b2 : -1099511627776 ≤ y2 ∧ y2 ≤ 1099511627776 := by omega
    have b3 : -1099511627776 ≤ y3 ∧ y3 ≤ 1099511627776 := by omega
    have b4 : -1099511627776 ≤ y4 ∧ y4 ≤ 1099511627776 := by omega
    have nz : ¬ c.cycle = 0 := by omega
    obtain ⟨w1, w2⟩ := wr_id bq
    obtain ⟨w3, w4⟩ := wr_at hzq bz
    obtain ⟨u0, v0⟩ := wr_add hs0 bz b0
    obtain ⟨u1, v1⟩ := wr_add hs1 bz b1
    obtain ⟨u2, v2⟩ := wr_add hs2 bz b2
    obtain ⟨u3, v3⟩ := wr_add hs3 bz b3
    obtain ⟨u4, v4⟩ := wr_add hs4 bz b4
    have h1 : (n : Int) < (ne : Int) := by
      have := (got_iff.1 hg).2.2
      rw [m.nE]; exact this
    have HN := Lib.hid m.mE
    have HM0 := Lib.hid m
    have ME := Lib.hid (fun W (hW : CM W c D (some ⟨b, off, none⟩) L nd cd ne ce nl cl) => hW.he n e he)
    have HZQ := Lib.hid hzq
    clear hg m l1 l2 l3 l4 l5 l6 l7 ok dv hz t0 t1 sp hea he g lin ia0 ia1 if1 ier ila hzq hs0 hs1 hs2 hs3 hs4 bz bq b0 b1 b2 b3 b4 zb
    generalize hV : (if y0 ≤ p ∧ p ≤ y1 then (q * c.cycle + y2, true) else (0, false) : Int × Bool) = V at *
    have E0 := Lib.hid (show t < s0 → V = (0, false) from fun h => by rw [← hV, if_neg (fun g => by have := P0.out.1 g.1; omega)])
    have E1 := Lib.hid (show s1 < t → V = (0, false) from fun h => by rw [← hV, if_neg (fun g => by have := P1.out.1 g.2; omega)])
    have E2 := Lib.hid (show s0 ≤ t → t ≤ s1 → V = (s2, true) from fun h g => by rw [← hV, if_pos ⟨P0.out.2 h, P1.out.2 g⟩, HZQ.out, HS2.out])
    clear hV P0 P1 P3 P4
    go_enter Try.func28, Try.ntmps28
    go_wp2_with (go_at_call 62; refine K.out.mono ?_; rintro r w5 ⟨rfl, b5⟩; have S := Lib.hid (S0.out.next b5); clear b5 a0 a1 a2 a3 a4 a5 a6 a7 a8; obtain ⟨a0, a1, a2, a3, a4, a5, a6, a7, a8⟩ := cells9 (S.out.at 0 rfl))
    go_region
    have S2 := Lib.hid S.out.drew
    generalize w5.drew = w6 at *
    go_wp2_with fail
    refine wp_region_held_drew (S := fun W : World => Stay w [(w.heap.size, Obj.cells #[.int .i64 c.hosts, .int .i64 c.cycle, .int .i64 c.delay, .int .i64 c.window, .int .i64 c.precision, .slice D nd cd, .slice (some ⟨b, off, none⟩) ne ce, .slice L nl cl, .int .i64 c.queue] 26)] W) (by kernel_rfl) (S2.out.drew) (fun hHeld => ?_)
    refine takeR 0 (some 22) ?_ ?_ ?_; rotate_left; (focus (intro w hSw; (try dsimp only at hSw); obtain ⟨a0, a1, a2, a3, a4, a5, a6, a7, a8⟩ := cells9 (Stay.at hSw 0 rfl); obtain ⟨b', off', hb', ⟨x0, x1, x2, x3⟩, -⟩ := ME.out _ (HM0.out.below (Stay.b hSw)); cases hb'; go_simp; (try with_reducible rfl)))
    simp only [aput, lset]
    refine takeR 1 (some 23) ?_ ?_ ?_; rotate_left; (focus (intros; go_simp; (try with_reducible rfl)))
    simp only [aput, lset]
    refine takeR 2 (some 24) ?_ ?_ ?_; rotate_left; (focus (intro w hSw; (try dsimp only at hSw); obtain ⟨a0, a1, a2, a3, a4, a5, a6, a7, a8⟩ := cells9 (Stay.at hSw 0 rfl); obtain ⟨b', off', hb', ⟨x0, x1, x2, x3⟩, -⟩ := ME.out _ (HM0.out.below (Stay.b hSw)); cases hb'; go_simp; (try with_reducible rfl)))
    simp only [aput, lset]
    refine takeR 3 (some 25) ?_ ?_ ?_; rotate_left; (focus (intros; go_simp; (try with_reducible rfl)))
    simp only [aput, lset]
    refine takeR 4 (some 26) ?_ ?_ ?_; rotate_left; (focus (intros; go_simp; (try with_reducible rfl)))
    simp only [aput, lset]
    refine takeR 5 (some 27) ?_ ?_ ?_; rotate_left; (focus (intro w hSw; (try dsimp only at hSw); obtain ⟨a0, a1, a2, a3, a4, a5, a6, a7, a8⟩ := cells9 (Stay.at hSw 0 rfl); obtain ⟨b', off', hb', ⟨x0, x1, x2, x3⟩, -⟩ := ME.out _ (HM0.out.below (Stay.b hSw)); cases hb'; go_simp; (try with_reducible rfl)))
    simp only [aput, lset]
    refine wpAnyH_ready (rs := [6, 7]) (by kernel_rfl) (by simp) ?_
    refine AllReadyH.cons (o := ⟨some 28, _, _, _, _, _⟩) rfl (fun K hK => ?_) ?_
    · rw [if_pos (by kernel_rfl)]
      go_simp
      refine (KT.out _).mono ?_
      rintro r w9 ⟨rfl, b9⟩
      have hS9 := Stay.next hHeld b9
      clear b9
      go_simp
      refine hK.out _ _ (by assumption) (fun hHeld => ?_)
      clear hK K
      refine wpAnyH_ready (rs := [7]) (by kernel_rfl) (by simp) ?_
      refine AllReadyH.cons (o := ⟨some 9, _, _, _, _, _⟩) rfl (fun K hK => ?_) AllReadyH.nil
      rw [if_pos (by kernel_rfl)]
      go_simp
      have hS7 := Stay.next hHeld (al (Below.refl _ _) (.cells #[.int .i64 0, .int .i64 0, .int .i64 0, .int .i64 0, .int .i64 0] 104))
      have B7 : (World.alloc w9 (.cells #[.int .i64 0, .int .i64 0, .int .i64 0, .int .i64 0, .int .i64 0] 104)).heap[w9.heap.size]? = some (.cells #[.int .i64 0, .int .i64 0, .int .i64 0, .int .i64 0, .int .i64 0] 104) := heap_alloc_new w9 (.cells #[.int .i64 0, .int .i64 0, .int .i64 0, .int .i64 0, .int .i64 0] 104)
      have hg7 : w.heap.size < w9.heap.size := lt_of_heap (Stay.at hHeld 0 rfl)
      go_simp
      refine hK.out _ _ (by assumption) (fun hHeld => ?_)
      clear hK K
      refine wpAnyH_ready (rs := [8]) (by kernel_rfl) (by simp) ?_
      refine AllReadyH.cons (o := ⟨none, _, _, _, _, _⟩) rfl (fun K hK => ?_) AllReadyH.nil
      rw [if_pos (by kernel_rfl)]
      go_simp
      have HB8 := Lib.hid (Stay.alloc hS9 (.cells #[.int .i64 y0, .int .i64 y1, .int .i64 y2, .int .i64 y3, .int .i64 y4] 104))
      have hS8 := Stay.drop HB8.out
      go_simp
      refine hK.out _ _ (by assumption) (fun hHeld => ?_)
      clear hK K
      refine wpAnyH_done (by kernel_rfl) ?_ _
      clear B7 hg7
      clear a0 a1 a2 a3 a4 a5 a6 a7 a8
      obtain ⟨a0, a1, a2, a3, a4, a5, a6, a7, a8⟩ := cells9 (HB8.out.at 1 rfl)
      obtain ⟨z0, z1, z2, z3, z4⟩ := cells5 (HB8.out.at 0 rfl)
      by_cases g1 : t < s0
      · have G := Lib.hid (E0.out g1)
        go_wp2
        go_ret2
        exact ⟨by rw [G.out]; rfl, HB8.out.b⟩
      by_cases g2 : s1 < t
      · have G := Lib.hid (E1.out g2)
        go_wp2
        go_ret2
        exact ⟨by rw [G.out]; rfl, HB8.out.b⟩
      · have G := Lib.hid (E2.out (by omega) (by omega))
        go_wp2
        go_ret2
        exact ⟨by rw [G.out]; rfl, HB8.out.b⟩
    refine AllReadyH.cons (o := ⟨some 9, _, _, _, _, _⟩) rfl (fun K hK => ?_) AllReadyH.nil
    rw [if_pos (by kernel_rfl)]
    go_simp
    have hS7 := Stay.next hHeld (al (Below.refl _ _) (.cells #[.int .i64 0, .int .i64 0, .int .i64 0, .int .i64 0, .int .i64 0] 104))
    have B7 : (World.alloc w6.drew (.cells #[.int .i64 0, .int .i64 0, .int .i64 0, .int .i64 0, .int .i64 0] 104)).heap[w6.heap.size]? = some (.cells #[.int .i64 0, .int .i64 0, .int .i64 0, .int .i64 0, .int .i64 0] 104) := heap_alloc_new w6.drew (.cells #[.int .i64 0, .int .i64 0, .int .i64 0, .int .i64 0, .int .i64 0] 104)
    have hg7 : w.heap.size < w6.heap.size := lt_of_heap (Stay.at hHeld 0 rfl)
    go_simp
    refine hK.out _ _ (by assumption) (fun hHeld => ?_)
    clear hK K
    refine wpAnyH_ready (rs := [6]) (by kernel_rfl) (by simp) ?_
    refine AllReadyH.cons (o := ⟨some 28, _, _, _, _, _⟩) rfl (fun K hK => ?_) AllReadyH.nil
    rw [if_pos (by kernel_rfl)]
    go_simp
    refine (KT.out _).mono ?_
    rintro r w9 ⟨rfl, b9⟩
    have hS9 := Stay.next hHeld b9
    have B9 := row_below b9 B7
    clear b9
    go_simp
    refine hK.out _ _ (by assumption) (fun hHeld => ?_)
    clear hK K
    refine wpAnyH_ready (rs := [8]) (by kernel_rfl) (by simp) ?_
    refine AllReadyH.cons (o := ⟨none, _, _, _, _, _⟩) rfl (fun K hK => ?_) AllReadyH.nil
    rw [if_pos (by kernel_rfl)]
    go_simp
    obtain ⟨z0, z1, z2, z3, z4⟩ := cells5 B9
    obtain ⟨g0, g1, g2, g3, g4⟩ := frozen5 B9
    have HB8 := Lib.hid (store5 hHeld B9 (Nat.le_of_lt hg7) (fun x hx e => by rw [List.mem_singleton] at hx; subst hx; omega) (.int .i64 y0) (.int .i64 y1) (.int .i64 y2) (.int .i64 y3) (.int .i64 y4))
    have hS8 := Stay.drop HB8.out
    go_simp
    refine hK.out _ _ (by assumption) (fun hHeld => ?_)
    clear hK K
    refine wpAnyH_done (by kernel_rfl) ?_ _
    clear B7 B9 hg7 z0 z1 z2 z3 z4 g0 g1 g2 g3 g4 hS9
    generalize World.setCell _ _ _ = w8 at *
    clear a0 a1 a2 a3 a4 a5 a6 a7 a8
    obtain ⟨a0, a1, a2, a3, a4, a5, a6, a7, a8⟩ := cells9 (HB8.out.at 1 rfl)
    obtain ⟨z0, z1, z2, z3, z4⟩ := cells5 (HB8.out.at 0 rfl)
    by_cases g1 : t < s0
    · have G := Lib.hid (E0.out g1)
      go_wp2
      go_ret2
      exact ⟨by rw [G.out]; rfl, HB8.out.b⟩
    by_cases g2 : s1 < t
    · have G := Lib.hid (E1.out g2)
      go_wp2
      go_ret2
      exact ⟨by rw [G.out]; rfl, HB8.out.b⟩
    · have G := Lib.hid (E2.out (by omega) (by omega))
      go_wp2
      go_ret2
      exact ⟨by rw [G.out]; rfl, HB8.out.b⟩
end Go.Proofs.Ytecgpibidcifpaa.PlanW

