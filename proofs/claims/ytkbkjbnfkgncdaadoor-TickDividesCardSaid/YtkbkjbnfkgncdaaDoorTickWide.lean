/- tick's numbers of 128 bits: widen, plus, minus: what they answer, as whole numbers modulo 2^128. -/
import Derived.Test.YtkbkjbnfkgncdaaDoorRows
import Derived.WalkKit
import Derived.Carry
import Derived.Laws.Bits64b
import Derived.Laws.NewBlocks
import Derived.Laws.Externs
import Derived.Laws.Rows
import Derived.WalkLawsBesides
import Derived.Lib.Hide
import Derived.WalkSpells
import Derived.Deep.RegionHeld3
import Derived.Lib.AtoiErrMem
namespace Go.Proofs.YtkbkjbnfkgncdaaDoor.TickW
open Go.RowKit
def wv (z : Int) : Value := .agg #[.int .u64 (z / 18446744073709551616 % 18446744073709551616), .int .u64 (z % 18446744073709551616)]
theorem add64 (x y c : Int) (hx : 0 ≤ x) (hy : 0 ≤ y) (hc0 : 0 ≤ c) (hc : c ≤ 1) (w : World) :
    (callFunc 51 #[.int .u64 x, .int .u64 y, .int .u64 c]).run Tryd.prog w =
      .ok (.value (.tuple #[.int .u64 ((x + y + c) % 18446744073709551616), .int .u64 ((x + y + c) / 18446744073709551616)])) w := by
  rw [run_callFunc_extern Tryd.func51 (by kernel_rfl) (by kernel_rfl) (by kernel_rfl) (e := add64Entry) (by kernel_rfl), run_add64 x y c hx hy hc0 hc]
  rfl
def sub64Entry : Array Value → Sem Value := fun args => do
  let (x, y, b) ← Extern.MathBitsCarry.three "Sub64" args
  pure (Extern.MathBitsCarry.pair ((x + Extern.MathBitsCarry.m64 - y - b) % Extern.MathBitsCarry.m64) (if x < y + b then 1 else 0))
theorem run_sub64 (x y b : Nat) (hb : b ≤ 1) (w : World) :
    (sub64Entry #[.int .u64 x, .int .u64 y, .int .u64 b]).run Tryd.prog w =
      .ok (.tuple #[.int .u64 (((x + 18446744073709551616 - y - b) % 18446744073709551616 : Nat) : Int), .int .u64 ((if x < y + b then 1 else 0 : Nat) : Int)]) w := by
  have : b = 0 ∨ b = 1 := by omega
  rcases this with rfl | rfl <;> rfl
theorem sub64 (x y b : Int) (hx : 0 ≤ x) (hx1 : x < 18446744073709551616) (hy : 0 ≤ y) (hy1 : y < 18446744073709551616) (hb0 : 0 ≤ b) (hb : b ≤ 1) (w : World) :
    (callFunc 52 #[.int .u64 x, .int .u64 y, .int .u64 b]).run Tryd.prog w =
      .ok (.value (.tuple #[.int .u64 ((x - y - b) % 18446744073709551616), .int .u64 (-((x - y - b) / 18446744073709551616))])) w := by
  obtain ⟨x, rfl⟩ := Int.eq_ofNat_of_zero_le hx
  obtain ⟨y, rfl⟩ := Int.eq_ofNat_of_zero_le hy
  obtain ⟨b, rfl⟩ := Int.eq_ofNat_of_zero_le hb0
  rw [run_callFunc_extern Tryd.func52 (by kernel_rfl) (by kernel_rfl) (by kernel_rfl) (e := sub64Entry) (by kernel_rfl), run_sub64 x y b (by omega)]
  have e1 : (((x + 18446744073709551616 - y - b) % 18446744073709551616 : Nat) : Int) = ((x : Int) - y - b) % 18446744073709551616 := by omega
  have e2 : ((if x < y + b then 1 else 0 : Nat) : Int) = -(((x : Int) - y - b) / 18446744073709551616) := by split <;> omega
  rw [e1, e2]
  rfl
theorem al {w w1 : World} (h : Below w.heap.size w w1) (o : Obj) : Below w.heap.size w (w1.alloc o) := h.alloc h.size o
theorem heap_at {w : World} {g : Nat} (h : w.heap.size = g) (o : Obj) : (w.alloc o).heap[g]? = some o := by
  subst h; exact heap_alloc_new _ _
theorem ret_wide {fn : Func} {R : Ending → World → Prop} {p : Tmp} (h : fn.results = #[.cell p 49]) {tmps : Array Value} {w : World} {g : Nat} {x y : Value} {t : TypeId} {fr : Nat × Nat}
    (hp : tmps.getD p undef = .pointer (some ⟨g, 0, none⟩)) (hg : w.heap[g]? = some (.cells #[x, y] t fr)) (hR : R (.returned (.agg #[x, y])) w) :
    bodyPost Tryd.prog fn R .ret { tmps := tmps, defers := [] } w :=
  bodyPost_ret (results_cell_row h tmps w g t #[x, y] fr _ hp hg Tryd.underlying49 rfl (by kernel_rfl)) rfl hR
theorem widen_any (n : Int) (h0 : -9223372036854775808 ≤ n) (h1 : n ≤ 9223372036854775807) (w : World) :
    Calls Tryd.prog 32 #[.int .i64 n] w fun e w' => e = .returned (wv n) ∧ Below w.heap.size w w' := by
  go_enter Tryd.func32, Tryd.ntmps32
  go_wp2
  refine ret_wide rfl rfl (heap_alloc_new _ _) ⟨?_, (Below.refl _ _).alloc (Nat.le_refl _) _⟩
  unfold wv
  rw [IntKind.wrap_u64, IntKind.wrap_u64]
  congr 5
  omega
theorem row_below {w w1 : World} (b : Below w.heap.size w w1) {g : Nat} {o : Obj} (h : w.heap[g]? = some o) : w1.heap[g]? = some o := by
  have hlt : g < w.heap.size := by
    rcases Nat.lt_or_ge g w.heap.size with h1 | h1
    · exact h1
    · rw [Array.getElem?_eq_none h1] at h; cases h
  exact (b.block g hlt).trans h
theorem plus_raw (x1 x0 y1 y0 s c s1 c1 : Int) (a1 : ∀ w, (callFunc 51 #[.int .u64 x0, .int .u64 y0, .int .u64 0]).run Tryd.prog w = .ok (.value (.tuple #[.int .u64 s, .int .u64 c])) w)
    (a2 : ∀ w, (callFunc 51 #[.int .u64 x1, .int .u64 y1, .int .u64 c]).run Tryd.prog w = .ok (.value (.tuple #[.int .u64 s1, .int .u64 c1])) w) (w : World) :
    Calls Tryd.prog 33 #[.agg #[.int .u64 x1, .int .u64 x0], .agg #[.int .u64 y1, .int .u64 y0]] w fun e w' => e = .returned (.agg #[.int .u64 s1, .int .u64 s]) ∧ Below w.heap.size w w' := by
  go_enter Tryd.func33, Tryd.ntmps33
  go_wp2
  exact ret_wide rfl rfl (heap_at (by simp) _) ⟨rfl, al (al (al (Below.refl _ _) _) _) _⟩
theorem plus_any (x y : Int) (w : World) :
    Calls Tryd.prog 33 #[wv x, wv y] w fun e w' => e = .returned (wv (x + y)) ∧ Below w.heap.size w w' := by
  refine (plus_raw _ _ _ _ _ _ _ _ (fun w => add64 _ _ _ (by omega) (by omega) (by omega) (by omega) w) (fun w => add64 _ _ _ (by omega) (by omega) (by omega) (by omega) w) w).mono ?_
  rintro e w' ⟨rfl, hb⟩
  refine ⟨?_, hb⟩
  unfold wv
  have e1 : (x / 18446744073709551616 % 18446744073709551616 + y / 18446744073709551616 % 18446744073709551616 + (x % 18446744073709551616 + y % 18446744073709551616 + 0) / 18446744073709551616) % 18446744073709551616 = (x + y) / 18446744073709551616 % 18446744073709551616 := by omega
  have e2 : (x % 18446744073709551616 + y % 18446744073709551616 + 0) % 18446744073709551616 = (x + y) % 18446744073709551616 := by omega
  rw [e1, e2]
theorem minus_raw (x1 x0 y1 y0 s c s1 c1 : Int) (a1 : ∀ w, (callFunc 52 #[.int .u64 x0, .int .u64 y0, .int .u64 0]).run Tryd.prog w = .ok (.value (.tuple #[.int .u64 s, .int .u64 c])) w)
    (a2 : ∀ w, (callFunc 52 #[.int .u64 x1, .int .u64 y1, .int .u64 c]).run Tryd.prog w = .ok (.value (.tuple #[.int .u64 s1, .int .u64 c1])) w) (w : World) :
    Calls Tryd.prog 35 #[.agg #[.int .u64 x1, .int .u64 x0], .agg #[.int .u64 y1, .int .u64 y0]] w fun e w' => e = .returned (.agg #[.int .u64 s1, .int .u64 s]) ∧ Below w.heap.size w w' := by
  go_enter Tryd.func35, Tryd.ntmps35
  go_wp2
  exact ret_wide rfl rfl (heap_at (by simp) _) ⟨rfl, al (al (al (Below.refl _ _) _) _) _⟩
theorem minus_any (x y : Int) (w : World) :
    Calls Tryd.prog 35 #[wv x, wv y] w fun e w' => e = .returned (wv (x - y)) ∧ Below w.heap.size w w' := by
  refine (minus_raw _ _ _ _ _ _ _ _ (fun w => sub64 _ _ _ (by omega) (by omega) (by omega) (by omega) (by omega) (by omega) w) (fun w => sub64 _ _ _ (by omega) (by omega) (by omega) (by omega) (by omega) (by omega) w) w).mono ?_
  rintro e w' ⟨rfl, hb⟩
  refine ⟨?_, hb⟩
  unfold wv
  have e1 : (x / 18446744073709551616 % 18446744073709551616 - y / 18446744073709551616 % 18446744073709551616 - -((x % 18446744073709551616 - y % 18446744073709551616 - 0) / 18446744073709551616)) % 18446744073709551616 = (x - y) / 18446744073709551616 % 18446744073709551616 := by omega
  have e2 : (x % 18446744073709551616 - y % 18446744073709551616 - 0) % 18446744073709551616 = (x - y) % 18446744073709551616 := by omega
  rw [e1, e2]
theorem cell_keep {w1 w2 : World} {a : Addr} {v : Value} (h : w1.cell? a = some v) (b : Below w1.heap.size w1 w2) : w2.cell? a = some v := (b.cell (Lib.lt_of_cell h)).trans h
theorem of_drew {W w1 : World} (b : Below W.drew.heap.size W.drew w1) : Below W.heap.size W w1 := ⟨b.os, b.tape, b.output, b.size, b.block⟩
theorem narrow_in (n : Int) (h0 : -9223372036854775808 ≤ n) (h1 : n ≤ 9223372036854775807) (w : World) :
    Calls Tryd.prog 50 #[wv n] w fun e w' => e = .returned (.int .i64 n) ∧ Below w.heap.size w w' := by
  have e0 : wrap64 (n % 18446744073709551616) = n := by unfold wrap64; omega
  have H : ∀ W : World, Calls Tryd.prog 32 #[.int .i64 (wrap64 (n % 18446744073709551616))] W fun e w' => e = .returned (wv n) ∧ Below W.heap.size W w' := by
    intro W
    rw [e0]
    exact widen_any n h0 h1 W
  have E := Lib.hid e0
  clear e0
  unfold wv at *
  generalize n / 18446744073709551616 % 18446744073709551616 = hi at *
  generalize n % 18446744073709551616 = lo at *
  go_enter Tryd.func50, Tryd.ntmps50
  go_wp2_with fail
  have hb := al (Below.refl w.heap.size w) (Obj.cells #[.int .u64 hi, .int .u64 lo] 49)
  have c0 : (w.alloc (Obj.cells #[.int .u64 hi, .int .u64 lo] 49)).heap[w.heap.size]? = some (.cells #[.int .u64 hi, .int .u64 lo] 49 (0, 0)) := heap_alloc_new _ _
  generalize w.alloc (Obj.cells #[.int .u64 hi, .int .u64 lo] 49) = W at *
  have a0 := Lib.hid (cell_of_row W w.heap.size 0 _ _ _ c0)
  have a1 := Lib.hid (cell_of_row W w.heap.size 1 _ _ _ c0)
  go_region_held3 (fun w' => w'.cell? ⟨w.heap.size, 0, none⟩ = some (.int .u64 hi) ∧ w'.cell? ⟨w.heap.size, 1, none⟩ = some (.int .u64 lo)) (first | exact ⟨a0.out, a1.out⟩ | exact ⟨g0, g1⟩) (first | (go_at_call 32; (with_reducible refine (H _).mono ?_); rintro e w1 ⟨rfl, b1⟩; have g0 := cell_keep (show W.drew.cell? _ = some _ from a0.out) b1; have g1 := cell_keep (show W.drew.cell? _ = some _ from a1.out) b1))
  go_wp2
  go_ret
  exact ⟨by show Ending.returned (.int .i64 (wrap64 lo)) = _; rw [E.out], hb.trans ((of_drew b1).mono hb.size)⟩
/-- What is none of 64 bits gives up. -/
theorem narrow_out (n : Int) (h : n < -9223372036854775808 ∨ 9223372036854775807 < n) (hl : -170141183460469231731687303715884105728 ≤ n) (hg : n < 170141183460469231731687303715884105728) (w : World) :
    Calls Tryd.prog 50 #[wv n] w fun e w' => e = .panicked [{ v := .iface 23 (.int .i64 4), recovered := false }] ∧ Below w.heap.size w w' := by
  have b0 : -9223372036854775808 ≤ wrap64 (n % 18446744073709551616) := by unfold wrap64; omega
  have b1 : wrap64 (n % 18446744073709551616) ≤ 9223372036854775807 := by unfold wrap64; omega
  have e1 : wrap64 (n % 18446744073709551616) % 18446744073709551616 = n % 18446744073709551616 := by unfold wrap64; omega
  have e2 : ¬ wrap64 (n % 18446744073709551616) / 18446744073709551616 % 18446744073709551616 = n / 18446744073709551616 % 18446744073709551616 := by unfold wrap64; omega
  have H := fun W => widen_any (wrap64 (n % 18446744073709551616)) b0 b1 W
  unfold wv at *
  rw [e1] at H
  generalize wrap64 (n % 18446744073709551616) / 18446744073709551616 % 18446744073709551616 = hi2 at *
  generalize n / 18446744073709551616 % 18446744073709551616 = hi at *
  generalize n % 18446744073709551616 = lo at *
  have k1 : (hi2 == hi) = false := by simpa using e2
  have E := Lib.hid h
  clear h hl hg b0 b1 e1 e2
  go_enter Tryd.func50, Tryd.ntmps50
  go_wp2_with fail
  have hb := al (Below.refl w.heap.size w) (Obj.cells #[.int .u64 hi, .int .u64 lo] 49)
  have c0 : (w.alloc (Obj.cells #[.int .u64 hi, .int .u64 lo] 49)).heap[w.heap.size]? = some (.cells #[.int .u64 hi, .int .u64 lo] 49 (0, 0)) := heap_alloc_new _ _
  generalize w.alloc (Obj.cells #[.int .u64 hi, .int .u64 lo] 49) = W at *
  have a0 := Lib.hid (cell_of_row W w.heap.size 0 _ _ _ c0)
  have a1 := Lib.hid (cell_of_row W w.heap.size 1 _ _ _ c0)
  go_region_held3 (fun w' => w'.cell? ⟨w.heap.size, 0, none⟩ = some (.int .u64 hi) ∧ w'.cell? ⟨w.heap.size, 1, none⟩ = some (.int .u64 lo)) (first | exact ⟨a0.out, a1.out⟩ | exact ⟨g0, g1⟩) (first | (go_at_call 32; (with_reducible refine (H _).mono ?_); rintro e w1 ⟨rfl, b1⟩; have g0 := cell_keep (show W.drew.cell? _ = some _ from a0.out) b1; have g1 := cell_keep (show W.drew.cell? _ = some _ from a1.out) b1))
  go_wp2
  exact ⟨rfl, rfl, hb.trans ((of_drew b1).mono hb.size)⟩
end Go.Proofs.YtkbkjbnfkgncdaaDoor.TickW
