/- tick's numbers of 128 bits: widen, plus, minus: what they answer, as whole numbers modulo 2^128. -/
import Derived.Test.YtmagjekmlnpfpaaGreatRows
import Derived.WalkKit
import Derived.Carry
import Derived.Laws.Bits64b
import Derived.Laws.NewBlocks
import Derived.Laws.Externs
import Derived.Laws.Rows
import Derived.WalkLawsBesides
import Derived.Lib.Hide
import Derived.WalkSpells
import Derived.Deep.RegionHeld3
import Derived.Lib.AtoiErrMem
import Derived.Tactics
import Derived.Tactics2
import Derived.Defers
import Derived.Recover
import Derived.Laws.Pointers
import Derived.Test.YtmagjekmlnpfpaaGreatShelf
namespace Go.Proofs.YtmagjekmlnpfpaaGreat.TickW
open Go.RowKit
def wv (z : Int) : Value := .agg #[.int .u64 (z / 18446744073709551616 % 18446744073709551616), .int .u64 (z % 18446744073709551616)]
theorem al {w w1 : World} (h : Below w.heap.size w w1) (o : Obj) : Below w.heap.size w (w1.alloc o) := h.alloc h.size o
theorem heap_at {w : World} {g : Nat} (h : w.heap.size = g) (o : Obj) : (w.alloc o).heap[g]? = some o := by
  subst h; exact heap_alloc_new _ _
theorem ret_wide {fn : Func} {R : Ending → World → Prop} {p : Tmp} (h : fn.results = #[.cell p 225]) {tmps : Array Value} {w : World} {g : Nat} {x y : Value} {t : TypeId} {fr : Nat × Nat}
    (hp : tmps.getD p undef = .pointer (some ⟨g, 0, none⟩)) (hg : w.heap[g]? = some (.cells #[x, y] t fr)) (hR : R (.returned (.agg #[x, y])) w) :
    bodyPost Tryz.prog fn R .ret { tmps := tmps, defers := [] } w :=
  bodyPost_ret (results_cell_row h tmps w g t #[x, y] fr _ hp hg Tryz.underlying225 rfl (by kernel_rfl)) rfl hR
theorem widen_any (n : Int) (h0 : -9223372036854775808 ≤ n) (h1 : n ≤ 9223372036854775807) (w : World) :
    Calls Tryz.prog 210 #[.int .i64 n] w fun e w' => e = .returned (wv n) ∧ Below w.heap.size w w' := by
  go_enter Tryz.func210, Tryz.ntmps210
  go_wp2
  refine ret_wide rfl rfl (heap_alloc_new _ _) ⟨?_, (Below.refl _ _).alloc (Nat.le_refl _) _⟩
  unfold wv
  rw [IntKind.wrap_u64, IntKind.wrap_u64]
  congr 5
  omega
theorem row_below {w w1 : World} (b : Below w.heap.size w w1) {g : Nat} {o : Obj} (h : w.heap[g]? = some o) : w1.heap[g]? = some o := by
  have hlt : g < w.heap.size := by
    rcases Nat.lt_or_ge g w.heap.size with h1 | h1
    · exact h1
    · rw [Array.getElem?_eq_none h1] at h; cases h
  exact (b.block g hlt).trans h
theorem cell_keep {w1 w2 : World} {a : Addr} {v : Value} (h : w1.cell? a = some v) (b : Below w1.heap.size w1 w2) : w2.cell? a = some v := (b.cell (Lib.lt_of_cell h)).trans h
theorem of_drew {W w1 : World} (b : Below W.drew.heap.size W.drew w1) : Below W.heap.size W w1 := ⟨b.os, b.tape, b.output, b.size, b.block⟩
theorem narrow_in (n : Int) (h0 : -9223372036854775808 ≤ n) (h1 : n ≤ 9223372036854775807) (w : World) :
    Calls Tryz.prog 194 #[wv n] w fun e w' => e = .returned (.int .i64 n) ∧ Below w.heap.size w w' := by
  have e0 : wrap64 (n % 18446744073709551616) = n := by unfold wrap64; omega
  have H : ∀ W : World, Calls Tryz.prog 210 #[.int .i64 (wrap64 (n % 18446744073709551616))] W fun e w' => e = .returned (wv n) ∧ Below W.heap.size W w' := by
    intro W
    rw [e0]
    exact widen_any n h0 h1 W
  have E := Lib.hid e0
  clear e0
  unfold wv at *
  generalize n / 18446744073709551616 % 18446744073709551616 = hi at *
  generalize n % 18446744073709551616 = lo at *
  go_enter Tryz.func194, Tryz.ntmps194
  go_wp2_with fail
  have hb := al (Below.refl w.heap.size w) (Obj.cells #[.int .u64 hi, .int .u64 lo] 225)
  have c0 : (w.alloc (Obj.cells #[.int .u64 hi, .int .u64 lo] 225)).heap[w.heap.size]? = some (.cells #[.int .u64 hi, .int .u64 lo] 225 (0, 0)) := heap_alloc_new _ _
  generalize w.alloc (Obj.cells #[.int .u64 hi, .int .u64 lo] 225) = W at *
  have a0 := Lib.hid (cell_of_row W w.heap.size 0 _ _ _ c0)
  have a1 := Lib.hid (cell_of_row W w.heap.size 1 _ _ _ c0)
  go_region_held3 (fun w' => w'.cell? ⟨w.heap.size, 0, none⟩ = some (.int .u64 hi) ∧ w'.cell? ⟨w.heap.size, 1, none⟩ = some (.int .u64 lo)) (first | exact ⟨a0.out, a1.out⟩ | exact ⟨g0, g1⟩) (first | (go_at_call 210; (with_reducible refine (H _).mono ?_); rintro e w1 ⟨rfl, b1⟩; have g0 := cell_keep (show W.drew.cell? _ = some _ from a0.out) b1; have g1 := cell_keep (show W.drew.cell? _ = some _ from a1.out) b1))
  go_wp2
  go_ret
  exact ⟨by show Ending.returned (.int .i64 (wrap64 lo)) = _; rw [E.out], hb.trans ((of_drew b1).mono hb.size)⟩
/-- What is none of 64 bits gives up. -/
theorem narrow_out (n : Int) (h : n < -9223372036854775808 ∨ 9223372036854775807 < n) (hl : -170141183460469231731687303715884105728 ≤ n) (hg : n < 170141183460469231731687303715884105728) (w : World) :
    Calls Tryz.prog 194 #[wv n] w fun e w' => e = .panicked [{ v := .iface 39 (.int .i64 4), recovered := false }] ∧ Below w.heap.size w w' := by
  have b0 : -9223372036854775808 ≤ wrap64 (n % 18446744073709551616) := by unfold wrap64; omega
  have b1 : wrap64 (n % 18446744073709551616) ≤ 9223372036854775807 := by unfold wrap64; omega
  have e1 : wrap64 (n % 18446744073709551616) % 18446744073709551616 = n % 18446744073709551616 := by unfold wrap64; omega
  have e2 : ¬ wrap64 (n % 18446744073709551616) / 18446744073709551616 % 18446744073709551616 = n / 18446744073709551616 % 18446744073709551616 := by unfold wrap64; omega
  have H := fun W => widen_any (wrap64 (n % 18446744073709551616)) b0 b1 W
  unfold wv at *
  rw [e1] at H
  generalize wrap64 (n % 18446744073709551616) / 18446744073709551616 % 18446744073709551616 = hi2 at *
  generalize n / 18446744073709551616 % 18446744073709551616 = hi at *
  generalize n % 18446744073709551616 = lo at *
  have k1 : (hi2 == hi) = false := by simpa using e2
  have E := Lib.hid h
  clear h hl hg b0 b1 e1 e2
  go_enter Tryz.func194, Tryz.ntmps194
  go_wp2_with fail
  have hb := al (Below.refl w.heap.size w) (Obj.cells #[.int .u64 hi, .int .u64 lo] 225)
  have c0 : (w.alloc (Obj.cells #[.int .u64 hi, .int .u64 lo] 225)).heap[w.heap.size]? = some (.cells #[.int .u64 hi, .int .u64 lo] 225 (0, 0)) := heap_alloc_new _ _
  generalize w.alloc (Obj.cells #[.int .u64 hi, .int .u64 lo] 225) = W at *
  have a0 := Lib.hid (cell_of_row W w.heap.size 0 _ _ _ c0)
  have a1 := Lib.hid (cell_of_row W w.heap.size 1 _ _ _ c0)
  go_region_held3 (fun w' => w'.cell? ⟨w.heap.size, 0, none⟩ = some (.int .u64 hi) ∧ w'.cell? ⟨w.heap.size, 1, none⟩ = some (.int .u64 lo)) (first | exact ⟨a0.out, a1.out⟩ | exact ⟨g0, g1⟩) (first | (go_at_call 210; (with_reducible refine (H _).mono ?_); rintro e w1 ⟨rfl, b1⟩; have g0 := cell_keep (show W.drew.cell? _ = some _ from a0.out) b1; have g1 := cell_keep (show W.drew.cell? _ = some _ from a1.out) b1))
  go_wp2
  exact ⟨rfl, rfl, hb.trans ((of_drew b1).mono hb.size)⟩
end Go.Proofs.YtmagjekmlnpfpaaGreat.TickW



/- tick.answer: the deferred closure that recovers, and what a reckoning comes to. -/
namespace Go.Proofs.YtmagjekmlnpfpaaGreat.TickW
open Go.RowKit
theorem assert_errno (n : Int) (w : World) : (Instr.typeAssert (.iface 39 (.int .i64 n)) 20 39 true).run Tryz.prog w = .ok (.tuple #[.int .i64 n, .bool true]) w := by kernel_rfl
theorem assert_nil (w : World) : (Instr.typeAssert .nilIface 20 39 true).run Tryz.prog w = .ok (.tuple #[.int .i64 0, .bool false]) w := by kernel_rfl
theorem neq_nil (w : World) : (binOp .neq 20 .nilIface .nilIface).run Tryz.prog w = .ok (.bool false) w := by kernel_rfl
set_option maxHeartbeats 1000000 in
theorem catch_panicking (p : Addr) (x : Int) (older : List PanicEntry) (w : World) (hc : w.cell? p = some (.int .i64 x)) (hz : w.frozen? p = false) :
    CallsD Tryz.prog 193 #[.pointer (some p)] (.panicking ({ v := .iface 39 (.int .i64 4), recovered := false } :: older)) w fun e u' w' =>
      e = .returned (.tuple #[]) ∧ u' = .panicking ({ v := .iface 39 (.int .i64 4), recovered := true } :: older) ∧ w' = w.setCell p (.int .i64 4) := by
  have kT := fun w => assert_errno 4 w
  refine callsD_of_wpS Tryz.func193 rfl fun c₀ cs hu => ?_
  apply wpS_seq
  apply wpS_region
  simp [wpOpsS, go_sem, recoverD, hu, Tryz.ntmps193, Exit.thenS]
  apply wpS_of_wp
  change Code.wp _ _ _ { tmps := #[.pointer (some p), .iface 39 (.int .i64 4), undef, undef, .iface 39 (.int .i64 4), undef, undef, undef, undef, undef, undef, undef, undef, undef, undef], defers := [] } w
  go_wp2
  simp [bodyPostS, results, Tryz.results193]
set_option maxHeartbeats 1000000 in
theorem catch_idle (p : Addr) (w : World) :
    CallsD Tryz.prog 193 #[.pointer (some p)] .returning w fun e u' w' => e = .returned (.tuple #[]) ∧ u' = .returning ∧ w' = w := by
  have kT := assert_nil
  have kN := neq_nil
  refine callsD_of_wpS Tryz.func193 rfl fun c₀ cs hu => ?_
  apply wpS_seq
  apply wpS_region
  simp [wpOpsS, go_sem, recoverD, hu, Tryz.ntmps193, Exit.thenS]
  apply wpS_of_wp
  change Code.wp _ _ _ { tmps := #[.pointer (some p), .nilIface, undef, undef, .nilIface, undef, undef, undef, undef, undef, undef, undef, undef, undef, undef], defers := [] } w
  go_wp2
  cases c₀
  simp_all [bodyPostS, results, Tryz.results193]
set_option maxHeartbeats 1000000 in
/-- What fits in 64 bits is answered. -/
theorem answer_in (K : FuncId) (hK : ∀ args w, (callFunc K args).run Tryz.prog w = .ok (.enter K args) w) (caps : Array Value) (z : Int) (h0 : -9223372036854775808 ≤ z) (h1 : z ≤ 9223372036854775807) (w : World)
    (H : ∀ W, Below w.heap.size w W → Calls Tryz.prog K caps W fun e w' => e = .returned (wv z) ∧ Below W.heap.size W w') :
    Calls Tryz.prog 161 #[.func (.func K) #[] caps] w fun e w' => e = .returned (.tuple #[.int .i64 z, .int .i64 0]) ∧ Below w.heap.size w w' := by
  have hmf : ∀ (fn : Fn) (first cap : Array Value) (w : World), (Instr.makeFunc fn first cap).run Tryz.prog w = .ok (.func fn first cap) w := fun _ _ _ _ => rfl
  go_enter_defers Tryz.func161, Tryz.ntmps161
  go_wp2_with fail
  have hb := al (Below.refl w.heap.size w) (Obj.cells #[.int .i64 0] 39)
  have c0 := heap_alloc_new w (Obj.cells #[.int .i64 0] 39)
  generalize w.alloc (Obj.cells #[.int .i64 0] 39) = W at *
  refine (H W hb).mono ?_
  rintro e W1 ⟨rfl, b1⟩
  have c1 := row_below b1 c0
  have hb1 := hb.trans (b1.mono hb.size)
  clear c0 hb b1 H
  go_wp2_with fail
  refine (narrow_in z h0 h1 _).mono ?_
  rintro e W2 ⟨rfl, b2⟩
  have c2 := row_below b2 c1
  have hb2 := hb1.trans (b2.mono hb1.size)
  have z0 := cell_of_row W2 w.heap.size 0 _ _ _ c2
  have fr0 := frozen_of_row W2 w.heap.size 0 _ _ c2
  have HC := Lib.hid c2
  have HB := Lib.hid hb2
  clear c1 hb1 b2 c2 hb2
  go_wp2
  refine leaves_cons (f := 193) (args := #[.pointer (some ⟨w.heap.size, 0, none⟩)]) (by simp) (by simp [go_sem]) ?_
  refine (catch_idle _ _).mono ?_
  rintro e u' w'' ⟨rfl, rfl, rfl⟩
  have hB := HB.out.setCell (p := ⟨w.heap.size, 0, none⟩) (Nat.le_refl _) (.int .i64 0)
  simp [Leaves, settle, results, Tryz.results161, go_sem, z0]
  exact hB
set_option maxHeartbeats 1000000 in
/-- What is none of 64 bits is refused. -/
theorem answer_out (K : FuncId) (hK : ∀ args w, (callFunc K args).run Tryz.prog w = .ok (.enter K args) w) (caps : Array Value) (z : Int) (h : z < -9223372036854775808 ∨ 9223372036854775807 < z) (hl : -170141183460469231731687303715884105728 ≤ z) (hg : z < 170141183460469231731687303715884105728) (w : World)
    (H : ∀ W, Below w.heap.size w W → Calls Tryz.prog K caps W fun e w' => e = .returned (wv z) ∧ Below W.heap.size W w') :
    Calls Tryz.prog 161 #[.func (.func K) #[] caps] w fun e w' => e = .returned (.tuple #[.int .i64 0, .int .i64 4]) ∧ Below w.heap.size w w' := by
  have hmf : ∀ (fn : Fn) (first cap : Array Value) (w : World), (Instr.makeFunc fn first cap).run Tryz.prog w = .ok (.func fn first cap) w := fun _ _ _ _ => rfl
  go_enter_defers Tryz.func161, Tryz.ntmps161
  go_wp2_with fail
  have hb := al (Below.refl w.heap.size w) (Obj.cells #[.int .i64 0] 39)
  have c0 := heap_alloc_new w (Obj.cells #[.int .i64 0] 39)
  generalize w.alloc (Obj.cells #[.int .i64 0] 39) = W at *
  refine (H W hb).mono ?_
  rintro e W1 ⟨rfl, b1⟩
  have c1 := row_below b1 c0
  have hb1 := hb.trans (b1.mono hb.size)
  clear c0 hb b1 H
  go_wp2_with fail
  refine (narrow_out z h hl hg _).mono ?_
  rintro e W2 ⟨rfl, b2⟩
  have c2 := row_below b2 c1
  have hb2 := hb1.trans (b2.mono hb1.size)
  have z0 := cell_of_row W2 w.heap.size 0 _ _ _ c2
  have fr0 := frozen_of_row W2 w.heap.size 0 _ _ c2
  have HC := Lib.hid c2
  have HB := Lib.hid hb2
  clear h hl hg
  clear c1 hb1 b2 c2 hb2
  go_wp2
  refine leaves_cons (f := 193) (args := #[.pointer (some ⟨w.heap.size, 0, none⟩)]) (by simp) (by simp [go_sem]) ?_
  refine (catch_panicking _ 0 [] _ z0 fr0).mono ?_
  rintro e u' w'' ⟨rfl, rfl, rfl⟩
  have hB := HB.out.setCell (p := ⟨w.heap.size, 0, none⟩) (Nat.le_refl _) (.int .i64 4)
  simp [Leaves, settle, results, Tryz.results161, go_sem, z0]
  exact hB
end Go.Proofs.YtmagjekmlnpfpaaGreat.TickW



/- tick.product: the product of any two numbers of 64 bits, of 128 bits. -/
namespace Go.Proofs.YtmagjekmlnpfpaaGreat.TickW
open Go.RowKit
theorem and_zero_u64 (x : Int) (h0 : 0 ≤ x) (h1 : x < 18446744073709551616) : bits .and .u64 0 x = 0 := by
  obtain ⟨x, rfl⟩ := Int.eq_ofNat_of_zero_le h0
  have := bits_and_u64_nat 0 x (by omega) (by omega)
  simpa using this
theorem and_ones_u64 (x : Int) (h0 : 0 ≤ x) (h1 : x < 18446744073709551616) : bits .and .u64 18446744073709551615 x = x := by
  obtain ⟨x, rfl⟩ := Int.eq_ofNat_of_zero_le h0
  have := bits_and_u64_nat 18446744073709551615 x (by omega) (by omega)
  have e : 18446744073709551615 &&& x = x := by
    rw [Nat.and_comm, show (18446744073709551615 : Nat) = 2 ^ 64 - 1 by decide, Nat.and_two_pow_sub_one_eq_mod]
    omega
  rw [e] at this
  exact this
theorem product_raw (a b ua ub h l fa fb da db : Int) (w : World) (ea : IntKind.u64.wrap a = ua) (eb : IntKind.u64.wrap b = ub) (esa : IntKind.u64.wrap (a / 9223372036854775808) = fa) (esb : IntKind.u64.wrap (b / 9223372036854775808) = fb)
    (H : ∀ W : World, Calls Tryz.prog 195 #[.int .u64 ua, .int .u64 ub] W fun e w' => e = .returned (.tuple #[.int .u64 h, .int .u64 l]) ∧ w' = W)
    (eda : bits .and .u64 fa ub = da) (edb : bits .and .u64 fb ua = db) :
    Calls Tryz.prog 163 #[.int .i64 a, .int .i64 b] w fun e w' => e = .returned (.agg #[.int .u64 (IntKind.u64.wrap (IntKind.u64.wrap (h - da) - db)), .int .u64 l]) ∧ Below w.heap.size w w' := by
  go_enter Tryz.func163, Tryz.ntmps163
  go_wp2_with (first | (go_at_call 195; (with_reducible refine (H _).mono ?_); rintro e w' ⟨rfl, rfl⟩))
  exact ret_wide rfl rfl (heap_at (by simp) _) ⟨rfl, al (Below.refl _ _) _⟩
theorem cast_mul (ua ub : Int) (h0 : 0 ≤ ua) (h1 : 0 ≤ ub) : ((ua.toNat * ub.toNat / 18446744073709551616 : Nat) : Int) = ua * ub / 18446744073709551616 ∧ ((ua.toNat * ub.toNat % 18446744073709551616 : Nat) : Int) = ua * ub % 18446744073709551616 := by
  have e : ((ua.toNat * ub.toNat : Nat) : Int) = ua * ub := by rw [Int.natCast_mul, Int.toNat_of_nonneg h0, Int.toNat_of_nonneg h1]
  constructor <;> omega
/-- Of any two numbers of 64 bits the product, of 128 bits. -/
theorem product_any (a b : Int) (ha0 : -9223372036854775808 ≤ a) (ha1 : a ≤ 9223372036854775807) (hb0 : -9223372036854775808 ≤ b) (hb1 : b ≤ 9223372036854775807) (w : World) :
    Calls Tryz.prog 163 #[.int .i64 a, .int .i64 b] w fun e w' => e = .returned (wv (a * b)) ∧ Below w.heap.size w w' := by
  have ea : IntKind.u64.wrap a = a % 18446744073709551616 := IntKind.wrap_u64 _
  have eb : IntKind.u64.wrap b = b % 18446744073709551616 := IntKind.wrap_u64 _
  have ea0 : 0 ≤ a % 18446744073709551616 := by omega
  have eb0 : 0 ≤ b % 18446744073709551616 := by omega
  obtain ⟨eh, el⟩ := cast_mul _ _ ea0 eb0
  have H : ∀ W : World, Calls Tryz.prog 195 #[.int .u64 (a % 18446744073709551616), .int .u64 (b % 18446744073709551616)] W fun e w' => e = .returned (.tuple #[.int .u64 (a % 18446744073709551616 * (b % 18446744073709551616) / 18446744073709551616), .int .u64 (a % 18446744073709551616 * (b % 18446744073709551616) % 18446744073709551616)]) ∧ w' = W := by
    intro W
    have h := Tryz.bits_Mul64 (a % 18446744073709551616).toNat (b % 18446744073709551616).toNat (by omega) (by omega) W
    rw [eh, el, Int.toNat_of_nonneg ea0, Int.toNat_of_nonneg eb0] at h
    exact h
  have F : ∀ x : Int, -9223372036854775808 ≤ x → x ≤ 9223372036854775807 → (0 ≤ x ∧ x % 18446744073709551616 = x ∧ IntKind.u64.wrap (x / 9223372036854775808) = 0) ∨ (x < 0 ∧ x % 18446744073709551616 = x + 18446744073709551616 ∧ IntKind.u64.wrap (x / 9223372036854775808) = 18446744073709551615) := by
    intro x h0 h1
    rw [IntKind.wrap_u64]
    omega
  have D : ∀ x y fx : Int, fx = 0 ∧ 0 ≤ x ∨ fx = 18446744073709551615 ∧ x < 0 → bits .and .u64 fx (y % 18446744073709551616) = if 0 ≤ x then 0 else y % 18446744073709551616 := by
    rintro x y fx (⟨rfl, h⟩ | ⟨rfl, h⟩)
    · rw [and_zero_u64 _ (by omega) (by omega), if_pos h]
    · rw [and_ones_u64 _ (by omega) (by omega), if_neg (by omega)]
  have Fa := F a ha0 ha1
  have Fb := F b hb0 hb1
  have da := D a b (IntKind.u64.wrap (a / 9223372036854775808)) (by omega)
  have db := D b a (IntKind.u64.wrap (b / 9223372036854775808)) (by omega)
  refine (product_raw a b _ _ _ _ _ _ _ _ w ea eb rfl rfl H da db).mono ?_
  rintro e w' ⟨rfl, hb⟩
  refine ⟨?_, hb⟩
  unfold wv
  rw [IntKind.wrap_u64, IntKind.wrap_u64]
  have key : a % 18446744073709551616 * (b % 18446744073709551616) = a * b + 18446744073709551616 * ((if 0 ≤ a then 0 else b) + (if 0 ≤ b then 0 else a) + (if 0 ≤ a ∨ 0 ≤ b then 0 else 18446744073709551616)) := by
    rcases Fa with ⟨h, e, _⟩ | ⟨h, e, _⟩ <;> rcases Fb with ⟨k, f, _⟩ | ⟨k, f, _⟩ <;> rw [e, f]
    · rw [if_pos h, if_pos k, if_pos (Or.inl h)]; omega
    · rw [if_pos h, if_neg (by omega), if_pos (Or.inl h), Int.mul_add]; omega
    · rw [if_neg (by omega), if_pos k, if_pos (Or.inr k), Int.add_mul]; omega
    · rw [if_neg (by omega), if_neg (by omega), if_neg (by omega), Int.mul_add, Int.add_mul, Int.add_mul]; omega
  rw [key]
  generalize a * b = p
  have e1 : ((((p + 18446744073709551616 * ((if 0 ≤ a then 0 else b) + (if 0 ≤ b then 0 else a) + (if 0 ≤ a ∨ 0 ≤ b then 0 else 18446744073709551616))) / 18446744073709551616) - (if 0 ≤ a then 0 else b % 18446744073709551616)) % 18446744073709551616 - (if 0 ≤ b then 0 else a % 18446744073709551616)) % 18446744073709551616 = p / 18446744073709551616 % 18446744073709551616 := by
    rcases Fa with ⟨h, e, _⟩ | ⟨h, e, _⟩ <;> rcases Fb with ⟨k, f, _⟩ | ⟨k, f, _⟩
    · simp only [if_pos h, if_pos k, if_pos (Or.inl h : 0 ≤ a ∨ 0 ≤ b)]; omega
    · simp only [if_pos h, if_neg (show ¬ 0 ≤ b by omega), if_pos (Or.inl h : 0 ≤ a ∨ 0 ≤ b)]; omega
    · simp only [if_neg (show ¬ 0 ≤ a by omega), if_pos k, if_pos (Or.inr k : 0 ≤ a ∨ 0 ≤ b)]; omega
    · simp only [if_neg (show ¬ 0 ≤ a by omega), if_neg (show ¬ 0 ≤ b by omega), if_neg (show ¬ (0 ≤ a ∨ 0 ≤ b) by omega)]; omega
  rw [e1, Int.add_mul_emod_self_left]
end Go.Proofs.YtmagjekmlnpfpaaGreat.TickW


