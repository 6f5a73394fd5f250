/- tick's numbers of 128 bits: widen, plus, minus: what they answer, as whole numbers modulo 2^128. -/
import Derived.Test.YtmpceabhnhipcaaRows
import Derived.WalkKit
import Derived.Carry
import Derived.Laws.Bits64b
import Derived.Laws.NewBlocks
import Derived.Laws.Externs
import Derived.Laws.Rows
import Derived.WalkLawsBesides
import Derived.Lib.Hide
import Derived.WalkSpells
import Derived.Deep.RegionHeld3
import Derived.Lib.AtoiErrMem
namespace Go.Proofs.Ytmpceabhnhipcaa.TickW
open Go.RowKit
def wv (z : Int) : Value := .agg #[.int .u64 (z / 18446744073709551616 % 18446744073709551616), .int .u64 (z % 18446744073709551616)]
theorem al {w w1 : World} (h : Below w.heap.size w w1) (o : Obj) : Below w.heap.size w (w1.alloc o) := h.alloc h.size o
theorem heap_at {w : World} {g : Nat} (h : w.heap.size = g) (o : Obj) : (w.alloc o).heap[g]? = some o := by
  subst h; exact heap_alloc_new _ _
theorem ret_wide {fn : Func} {R : Ending → World → Prop} {p : Tmp} (h : fn.results = #[.cell p 64]) {tmps : Array Value} {w : World} {g : Nat} {x y : Value} {t : TypeId} {fr : Nat × Nat}
    (hp : tmps.getD p undef = .pointer (some ⟨g, 0, none⟩)) (hg : w.heap[g]? = some (.cells #[x, y] t fr)) (hR : R (.returned (.agg #[x, y])) w) :
    bodyPost Try.prog fn R .ret { tmps := tmps, defers := [] } w :=
  bodyPost_ret (results_cell_row h tmps w g t #[x, y] fr _ hp hg Try.underlying64 rfl (by kernel_rfl)) rfl hR
theorem widen_any (n : Int) (h0 : -9223372036854775808 ≤ n) (h1 : n ≤ 9223372036854775807) (w : World) :
    Calls Try.prog 55 #[.int .i64 n] w fun e w' => e = .returned (wv n) ∧ Below w.heap.size w w' := by
  go_enter Try.func55, Try.ntmps55
  go_wp2
  refine ret_wide rfl rfl (heap_alloc_new _ _) ⟨?_, (Below.refl _ _).alloc (Nat.le_refl _) _⟩
  unfold wv
  rw [IntKind.wrap_u64, IntKind.wrap_u64]
  congr 5
  omega
theorem row_below {w w1 : World} (b : Below w.heap.size w w1) {g : Nat} {o : Obj} (h : w.heap[g]? = some o) : w1.heap[g]? = some o := by
  have hlt : g < w.heap.size := by
    rcases Nat.lt_or_ge g w.heap.size with h1 | h1
    · exact h1
    · rw [Array.getElem?_eq_none h1] at h; cases h
  exact (b.block g hlt).trans h
theorem cell_keep {w1 w2 : World} {a : Addr} {v : Value} (h : w1.cell? a = some v) (b : Below w1.heap.size w1 w2) : w2.cell? a = some v := (b.cell (Lib.lt_of_cell h)).trans h
theorem of_drew {W w1 : World} (b : Below W.drew.heap.size W.drew w1) : Below W.heap.size W w1 := ⟨b.os, b.tape, b.output, b.size, b.block⟩
theorem narrow_in (n : Int) (h0 : -9223372036854775808 ≤ n) (h1 : n ≤ 9223372036854775807) (w : World) :
    Calls Try.prog 50 #[wv n] w fun e w' => e = .returned (.int .i64 n) ∧ Below w.heap.size w w' := by
  have e0 : wrap64 (n % 18446744073709551616) = n := by unfold wrap64; omega
  have H : ∀ W : World, Calls Try.prog 55 #[.int .i64 (wrap64 (n % 18446744073709551616))] W fun e w' => e = .returned (wv n) ∧ Below W.heap.size W w' := by
    intro W
    rw [e0]
    exact widen_any n h0 h1 W
  have E := Lib.hid e0
  clear e0
  unfold wv at *
  generalize n / 18446744073709551616 % 18446744073709551616 = hi at *
  generalize n % 18446744073709551616 = lo at *
  go_enter Try.func50, Try.ntmps50
  go_wp2_with fail
  have hb := al (Below.refl w.heap.size w) (Obj.cells #[.int .u64 hi, .int .u64 lo] 64)
  have c0 : (w.alloc (Obj.cells #[.int .u64 hi, .int .u64 lo] 64)).heap[w.heap.size]? = some (.cells #[.int .u64 hi, .int .u64 lo] 64 (0, 0)) := heap_alloc_new _ _
  generalize w.alloc (Obj.cells #[.int .u64 hi, .int .u64 lo] 64) = W at *
  have a0 := Lib.hid (cell_of_row W w.heap.size 0 _ _ _ c0)
  have a1 := Lib.hid (cell_of_row W w.heap.size 1 _ _ _ c0)
  go_region_held3 (fun w' => w'.cell? ⟨w.heap.size, 0, none⟩ = some (.int .u64 hi) ∧ w'.cell? ⟨w.heap.size, 1, none⟩ = some (.int .u64 lo)) (first | exact ⟨a0.out, a1.out⟩ | exact ⟨g0, g1⟩) (first | (go_at_call 55; (with_reducible refine (H _).mono ?_); rintro e w1 ⟨rfl, b1⟩; have g0 := cell_keep (show W.drew.cell? _ = some _ from a0.out) b1; have g1 := cell_keep (show W.drew.cell? _ = some _ from a1.out) b1))
  go_wp2
  go_ret
  exact ⟨by show Ending.returned (.int .i64 (wrap64 lo)) = _; rw [E.out], hb.trans ((of_drew b1).mono hb.size)⟩
/-- What is none of 64 bits gives up. -/
theorem narrow_out (n : Int) (h : n < -9223372036854775808 ∨ 9223372036854775807 < n) (hl : -170141183460469231731687303715884105728 ≤ n) (hg : n < 170141183460469231731687303715884105728) (w : World) :
    Calls Try.prog 50 #[wv n] w fun e w' => e = .panicked [{ v := .iface 26 (.int .i64 4), recovered := false }] ∧ Below w.heap.size w w' := by
  have b0 : -9223372036854775808 ≤ wrap64 (n % 18446744073709551616) := by unfold wrap64; omega
  have b1 : wrap64 (n % 18446744073709551616) ≤ 9223372036854775807 := by unfold wrap64; omega
  have e1 : wrap64 (n % 18446744073709551616) % 18446744073709551616 = n % 18446744073709551616 := by unfold wrap64; omega
  have e2 : ¬ wrap64 (n % 18446744073709551616) / 18446744073709551616 % 18446744073709551616 = n / 18446744073709551616 % 18446744073709551616 := by unfold wrap64; omega
  have H := fun W => widen_any (wrap64 (n % 18446744073709551616)) b0 b1 W
  unfold wv at *
  rw [e1] at H
  generalize wrap64 (n % 18446744073709551616) / 18446744073709551616 % 18446744073709551616 = hi2 at *
  generalize n / 18446744073709551616 % 18446744073709551616 = hi at *
  generalize n % 18446744073709551616 = lo at *
  have k1 : (hi2 == hi) = false := by simpa using e2
  have E := Lib.hid h
  clear h hl hg b0 b1 e1 e2
  go_enter Try.func50, Try.ntmps50
  go_wp2_with fail
  have hb := al (Below.refl w.heap.size w) (Obj.cells #[.int .u64 hi, .int .u64 lo] 64)
  have c0 : (w.alloc (Obj.cells #[.int .u64 hi, .int .u64 lo] 64)).heap[w.heap.size]? = some (.cells #[.int .u64 hi, .int .u64 lo] 64 (0, 0)) := heap_alloc_new _ _
  generalize w.alloc (Obj.cells #[.int .u64 hi, .int .u64 lo] 64) = W at *
  have a0 := Lib.hid (cell_of_row W w.heap.size 0 _ _ _ c0)
  have a1 := Lib.hid (cell_of_row W w.heap.size 1 _ _ _ c0)
  go_region_held3 (fun w' => w'.cell? ⟨w.heap.size, 0, none⟩ = some (.int .u64 hi) ∧ w'.cell? ⟨w.heap.size, 1, none⟩ = some (.int .u64 lo)) (first | exact ⟨a0.out, a1.out⟩ | exact ⟨g0, g1⟩) (first | (go_at_call 55; (with_reducible refine (H _).mono ?_); rintro e w1 ⟨rfl, b1⟩; have g0 := cell_keep (show W.drew.cell? _ = some _ from a0.out) b1; have g1 := cell_keep (show W.drew.cell? _ = some _ from a1.out) b1))
  go_wp2
  exact ⟨rfl, rfl, hb.trans ((of_drew b1).mono hb.size)⟩
end Go.Proofs.Ytmpceabhnhipcaa.TickW

