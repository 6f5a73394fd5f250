/- tick.Add, Sub, Mul, MulDiv: of any numbers, by their reckonings. -/
import Derived.Test.YtkbkjbnfkgncdaaDoorTickCatch
import Derived.Test.YtkbkjbnfkgncdaaDoorTickOver
namespace Go.Proofs.YtkbkjbnfkgncdaaDoor.TickW
open Go.RowKit
def ansV (z : Int) : Value := if -9223372036854775808 ≤ z ∧ z ≤ 9223372036854775807 then .tuple #[.int .i64 z, .int .i64 0] else .tuple #[.int .i64 0, .int .i64 4]
theorem answer_any (K : FuncId) (hK : ∀ args w, (callFunc K args).run Tryd.prog w = .ok (.enter K args) w) (caps : Array Value) (z : Int) (hl : -170141183460469231731687303715884105728 ≤ z) (hg : z < 170141183460469231731687303715884105728) (w : World)
    (H : ∀ W, Below w.heap.size w W → Calls Tryd.prog K caps W fun e w' => e = .returned (wv z) ∧ Below W.heap.size W w') :
    Calls Tryd.prog 30 #[.func (.func K) #[] caps] w fun e w' => e = .returned (ansV z) ∧ Below w.heap.size w w' := by
  unfold ansV
  by_cases h : -9223372036854775808 ≤ z ∧ z ≤ 9223372036854775807
  · rw [if_pos h]; exact answer_in K hK caps z h.1 h.2 w H
  · rw [if_neg h]; exact answer_out K hK caps z (by omega) hl hg w H
theorem set2_keep {w : World} {p : Addr} {v : Value} {g : Nat} (h : w.cell? p = some v) (hp : p.block < g) (x y : Value) : ((w.setCell ⟨g, 0, none⟩ x).setCell ⟨g, 1, none⟩ y).cell? p = some v := by
  have b1 : Below g w ((w.setCell ⟨g, 0, none⟩ x).setCell ⟨g, 1, none⟩ y) := ((Below.refl g w).setCell (Nat.le_refl _) _).setCell (Nat.le_refl _) _
  exact (b1.cell hp).trans h
set_option maxHeartbeats 1000000 in
theorem add_reckon (p q : Addr) (a b : Int) (ha0 : -9223372036854775808 ≤ a) (ha1 : a ≤ 9223372036854775807) (hb0 : -9223372036854775808 ≤ b) (hb1 : b ≤ 9223372036854775807) (w : World) (hp : w.cell? p = some (.int .i64 a)) (hq : w.cell? q = some (.int .i64 b)) :
    Calls Tryd.prog 31 #[.pointer (some p), .pointer (some q)] w fun e w' => e = .returned (wv (a + b)) ∧ Below w.heap.size w w' := by
  have Ha := fun W => widen_any a ha0 ha1 W
  have Hb := fun W => widen_any b hb0 hb1 W
  have Hp := fun W => plus_any a b W
  obtain ⟨s1, s0, hs⟩ : ∃ s1 s0 : Int, wv (a + b) = .agg #[.int .u64 s1, .int .u64 s0] := ⟨_, _, rfl⟩
  rw [hs] at Hp ⊢
  clear ha0 ha1 hb0 hb1 hs
  have LP := Lib.hid (Lib.lt_of_cell hp)
  have LQ := Lib.hid (Lib.lt_of_cell hq)
  have P := Lib.hid hp
  have Q := Lib.hid hq
  clear hp hq
  go_enter Tryd.func31, Tryd.ntmps31
  go_wp2_with fail
  have hb := al (Below.refl w.heap.size w) (Obj.cells #[.int .u64 0, .int .u64 0] 49)
  have c0 := heap_alloc_new w (Obj.cells #[.int .u64 0, .int .u64 0] 49)
  generalize w.alloc (Obj.cells #[.int .u64 0, .int .u64 0] 49) = W at *
  have P1 := Lib.hid (cell_keep P.out hb)
  have Q1 := Lib.hid (cell_keep Q.out hb)
  have HB := Lib.hid hb
  have HC := Lib.hid c0
  clear hb c0
  go_region_held3 (fun w' => w'.cell? p = some (.int .i64 a) ∧ w'.cell? q = some (.int .i64 b)) (first | exact ⟨P1.out, Q1.out⟩ | exact ⟨g2.out, h2.out⟩ | exact ⟨g3.out, h3.out⟩ | exact ⟨g4.out, h4.out⟩ | exact ⟨set2_keep g4.out LP.out _ _, set2_keep h4.out LQ.out _ _⟩) (first
    | (go_at_call 32; (with_reducible refine (Ha _).mono ?_); rintro e w1 ⟨rfl, b1⟩; have g2 := Lib.hid (cell_keep (show W.drew.cell? _ = some _ from P1.out) b1); have h2 := Lib.hid (cell_keep (show W.drew.cell? _ = some _ from Q1.out) b1); have r2 := Lib.hid (row_below b1 (show W.drew.heap[w.heap.size]? = _ from HC.out)); have k2 := Lib.hid (HB.out.trans ((of_drew b1).mono HB.out.size)); clear b1)
    | (go_at_call 32; (with_reducible refine (Hb _).mono ?_); rintro e w2 ⟨rfl, b2⟩; have g3 := Lib.hid (cell_keep g2.out b2); have h3 := Lib.hid (cell_keep h2.out b2); have r3 := Lib.hid (row_below b2 r2.out); have k3 := Lib.hid (k2.out.trans (b2.mono k2.out.size)); clear b2)
    | (go_at_call 33; (with_reducible refine (Hp _).mono ?_); rintro e w3 ⟨rfl, b3⟩; have g4 := Lib.hid (cell_keep g3.out b3); have h4 := Lib.hid (cell_keep h3.out b3); have r4 := Lib.hid (row_below b3 r3.out); have k4 := Lib.hid (k3.out.trans (b3.mono k3.out.size)); have z0 : w3.cell? ⟨w.heap.size, 0, none⟩ = some (.int .u64 0) := cell_of_row w3 w.heap.size 0 _ _ _ r4.out; have z1 : w3.cell? ⟨w.heap.size, 1, none⟩ = some (.int .u64 0) := cell_of_row w3 w.heap.size 1 _ _ _ r4.out; have fr0 := frozen_of_row w3 w.heap.size 0 _ _ r4.out; have fr1 := frozen_of_row w3 w.heap.size 1 _ _ r4.out; clear b3))
  go_wp2
  exact ret_wide_set rfl rfl r4.out ⟨rfl, (k4.out.setCell (Nat.le_refl _) _).setCell (Nat.le_refl _) _⟩
set_option maxHeartbeats 1000000 in
theorem sub_reckon (p q : Addr) (a b : Int) (ha0 : -9223372036854775808 ≤ a) (ha1 : a ≤ 9223372036854775807) (hb0 : -9223372036854775808 ≤ b) (hb1 : b ≤ 9223372036854775807) (w : World) (hp : w.cell? p = some (.int .i64 a)) (hq : w.cell? q = some (.int .i64 b)) :
    Calls Tryd.prog 34 #[.pointer (some p), .pointer (some q)] w fun e w' => e = .returned (wv (a - b)) ∧ Below w.heap.size w w' := by
  have Ha := fun W => widen_any a ha0 ha1 W
  have Hb := fun W => widen_any b hb0 hb1 W
  have Hp := fun W => minus_any a b W
  obtain ⟨s1, s0, hs⟩ : ∃ s1 s0 : Int, wv (a - b) = .agg #[.int .u64 s1, .int .u64 s0] := ⟨_, _, rfl⟩
  rw [hs] at Hp ⊢
  clear ha0 ha1 hb0 hb1 hs
  have LP := Lib.hid (Lib.lt_of_cell hp)
  have LQ := Lib.hid (Lib.lt_of_cell hq)
  have P := Lib.hid hp
  have Q := Lib.hid hq
  clear hp hq
  go_enter Tryd.func34, Tryd.ntmps34
  go_wp2_with fail
  have hb := al (Below.refl w.heap.size w) (Obj.cells #[.int .u64 0, .int .u64 0] 49)
  have c0 := heap_alloc_new w (Obj.cells #[.int .u64 0, .int .u64 0] 49)
  generalize w.alloc (Obj.cells #[.int .u64 0, .int .u64 0] 49) = W at *
  have P1 := Lib.hid (cell_keep P.out hb)
  have Q1 := Lib.hid (cell_keep Q.out hb)
  have HB := Lib.hid hb
  have HC := Lib.hid c0
  clear hb c0
  go_region_held3 (fun w' => w'.cell? p = some (.int .i64 a) ∧ w'.cell? q = some (.int .i64 b)) (first | exact ⟨P1.out, Q1.out⟩ | exact ⟨g2.out, h2.out⟩ | exact ⟨g3.out, h3.out⟩ | exact ⟨g4.out, h4.out⟩ | exact ⟨set2_keep g4.out LP.out _ _, set2_keep h4.out LQ.out _ _⟩) (first
    | (go_at_call 32; (with_reducible refine (Ha _).mono ?_); rintro e w1 ⟨rfl, b1⟩; have g2 := Lib.hid (cell_keep (show W.drew.cell? _ = some _ from P1.out) b1); have h2 := Lib.hid (cell_keep (show W.drew.cell? _ = some _ from Q1.out) b1); have r2 := Lib.hid (row_below b1 (show W.drew.heap[w.heap.size]? = _ from HC.out)); have k2 := Lib.hid (HB.out.trans ((of_drew b1).mono HB.out.size)); clear b1)
    | (go_at_call 32; (with_reducible refine (Hb _).mono ?_); rintro e w2 ⟨rfl, b2⟩; have g3 := Lib.hid (cell_keep g2.out b2); have h3 := Lib.hid (cell_keep h2.out b2); have r3 := Lib.hid (row_below b2 r2.out); have k3 := Lib.hid (k2.out.trans (b2.mono k2.out.size)); clear b2)
    | (go_at_call 35; (with_reducible refine (Hp _).mono ?_); rintro e w3 ⟨rfl, b3⟩; have g4 := Lib.hid (cell_keep g3.out b3); have h4 := Lib.hid (cell_keep h3.out b3); have r4 := Lib.hid (row_below b3 r3.out); have k4 := Lib.hid (k3.out.trans (b3.mono k3.out.size)); have z0 : w3.cell? ⟨w.heap.size, 0, none⟩ = some (.int .u64 0) := cell_of_row w3 w.heap.size 0 _ _ _ r4.out; have z1 : w3.cell? ⟨w.heap.size, 1, none⟩ = some (.int .u64 0) := cell_of_row w3 w.heap.size 1 _ _ _ r4.out; have fr0 := frozen_of_row w3 w.heap.size 0 _ _ r4.out; have fr1 := frozen_of_row w3 w.heap.size 1 _ _ r4.out; clear b3))
  go_wp2
  exact ret_wide_set rfl rfl r4.out ⟨rfl, (k4.out.setCell (Nat.le_refl _) _).setCell (Nat.le_refl _) _⟩
theorem ansV_tuple (z : Int) : ∃ n k : Int, ansV z = .tuple #[.int .i64 n, .int .i64 k] := by
  unfold ansV
  by_cases h : -9223372036854775808 ≤ z ∧ z ≤ 9223372036854775807
  · rw [if_pos h]; exact ⟨_, _, rfl⟩
  · rw [if_neg h]; exact ⟨_, _, rfl⟩
theorem add_any (a b : Int) (ha0 : -9223372036854775808 ≤ a) (ha1 : a ≤ 9223372036854775807) (hb0 : -9223372036854775808 ≤ b) (hb1 : b ≤ 9223372036854775807) (w : World) :
    Calls Tryd.prog 11 #[.int .i64 a, .int .i64 b] w fun e w' => e = .returned (ansV (a + b)) ∧ Below w.heap.size w w' := by
  have hmf : ∀ (fn : Fn) (first cap : Array Value) (w : World), (Instr.makeFunc fn first cap).run Tryd.prog w = .ok (.func fn first cap) w := fun _ _ _ _ => rfl
  go_enter Tryd.func11, Tryd.ntmps11
  go_wp2_with fail
  have hb := al (al (Below.refl w.heap.size w) (Obj.cells #[.int .i64 a] 2)) (Obj.cells #[.int .i64 b] 2)
  have c0 := heap_alloc2_old w (Obj.cells #[.int .i64 a] 2) (Obj.cells #[.int .i64 b] 2)
  have c1 := heap_alloc2_new w (Obj.cells #[.int .i64 a] 2) (Obj.cells #[.int .i64 b] 2)
  generalize (w.alloc (Obj.cells #[.int .i64 a] 2)).alloc (Obj.cells #[.int .i64 b] 2) = W at *
  refine (answer_any 31 (fun args w => enters_of Tryd.func31 (by kernel_rfl) rfl args w) _ (a + b) (by omega) (by omega) W (fun W2 b2 => add_reckon _ _ a b ha0 ha1 hb0 hb1 W2 (cell_of_row W2 _ 0 _ _ _ (row_below b2 c0)) (cell_of_row W2 _ 0 _ _ _ (row_below b2 c1)))).mono ?_
  rintro e w2 ⟨rfl, b2⟩
  obtain ⟨n, k, hk⟩ := ansV_tuple (a + b)
  rw [hk]
  go_wp2
  go_ret2
  exact ⟨by rw [hk]; rfl, hb.trans (b2.mono hb.size)⟩
theorem sub_any (a b : Int) (ha0 : -9223372036854775808 ≤ a) (ha1 : a ≤ 9223372036854775807) (hb0 : -9223372036854775808 ≤ b) (hb1 : b ≤ 9223372036854775807) (w : World) :
    Calls Tryd.prog 12 #[.int .i64 a, .int .i64 b] w fun e w' => e = .returned (ansV (a - b)) ∧ Below w.heap.size w w' := by
  have hmf : ∀ (fn : Fn) (first cap : Array Value) (w : World), (Instr.makeFunc fn first cap).run Tryd.prog w = .ok (.func fn first cap) w := fun _ _ _ _ => rfl
  go_enter Tryd.func12, Tryd.ntmps12
  go_wp2_with fail
  have hb := al (al (Below.refl w.heap.size w) (Obj.cells #[.int .i64 a] 2)) (Obj.cells #[.int .i64 b] 2)
  have c0 := heap_alloc2_old w (Obj.cells #[.int .i64 a] 2) (Obj.cells #[.int .i64 b] 2)
  have c1 := heap_alloc2_new w (Obj.cells #[.int .i64 a] 2) (Obj.cells #[.int .i64 b] 2)
  generalize (w.alloc (Obj.cells #[.int .i64 a] 2)).alloc (Obj.cells #[.int .i64 b] 2) = W at *
  refine (answer_any 34 (fun args w => enters_of Tryd.func34 (by kernel_rfl) rfl args w) _ (a - b) (by omega) (by omega) W (fun W2 b2 => sub_reckon _ _ a b ha0 ha1 hb0 hb1 W2 (cell_of_row W2 _ 0 _ _ _ (row_below b2 c0)) (cell_of_row W2 _ 0 _ _ _ (row_below b2 c1)))).mono ?_
  rintro e w2 ⟨rfl, b2⟩
  obtain ⟨n, k, hk⟩ := ansV_tuple (a - b)
  rw [hk]
  go_wp2
  go_ret2
  exact ⟨by rw [hk]; rfl, hb.trans (b2.mono hb.size)⟩
theorem mul_reckon (p q : Addr) (a b : Int) (ha0 : -9223372036854775808 ≤ a) (ha1 : a ≤ 9223372036854775807) (hb0 : -9223372036854775808 ≤ b) (hb1 : b ≤ 9223372036854775807) (w : World) (hp : w.cell? p = some (.int .i64 a)) (hq : w.cell? q = some (.int .i64 b)) :
    Calls Tryd.prog 36 #[.pointer (some p), .pointer (some q)] w fun e w' => e = .returned (wv (a * b)) ∧ Below w.heap.size w w' := by
  have Hp := fun W => product_any a b ha0 ha1 hb0 hb1 W
  obtain ⟨s1, s0, hs⟩ : ∃ s1 s0 : Int, wv (a * b) = .agg #[.int .u64 s1, .int .u64 s0] := ⟨_, _, rfl⟩
  rw [hs] at Hp ⊢
  clear ha0 ha1 hb0 hb1 hs
  have hb := al (Below.refl w.heap.size w) (Obj.cells #[.int .u64 0, .int .u64 0] 49)
  have hp1 := cell_keep hp hb
  have hq1 := cell_keep hq hb
  clear hb
  go_enter Tryd.func36, Tryd.ntmps36
  go_wp2_with fail
  have hb := al (Below.refl w.heap.size w) (Obj.cells #[.int .u64 0, .int .u64 0] 49)
  have c0 := heap_alloc_new w (Obj.cells #[.int .u64 0, .int .u64 0] 49)
  generalize w.alloc (Obj.cells #[.int .u64 0, .int .u64 0] 49) = W at *
  refine (Hp W).mono ?_
  rintro e w3 ⟨rfl, b3⟩
  have HB := Lib.hid (hb.trans (b3.mono hb.size))
  have r4 := Lib.hid (row_below b3 c0)
  have z0 := cell_of_row w3 w.heap.size 0 _ _ _ r4.out
  have z1 := cell_of_row w3 w.heap.size 1 _ _ _ r4.out
  have fr0 := frozen_of_row w3 w.heap.size 0 _ _ r4.out
  have fr1 := frozen_of_row w3 w.heap.size 1 _ _ r4.out
  clear hp1 hq1 hp hq hb c0 b3
  go_wp2
  exact ret_wide_set rfl rfl r4.out ⟨rfl, (HB.out.setCell (Nat.le_refl _) _).setCell (Nat.le_refl _) _⟩
theorem mul_bounds (a b : Int) (ha0 : -9223372036854775808 ≤ a) (ha1 : a ≤ 9223372036854775807) (hb0 : -9223372036854775808 ≤ b) (hb1 : b ≤ 9223372036854775807) : -170141183460469231731687303715884105728 ≤ a * b ∧ a * b < 170141183460469231731687303715884105728 := by
  have hn : (a * b).natAbs ≤ 9223372036854775808 * 9223372036854775808 := by
    rw [Int.natAbs_mul]
    exact Nat.mul_le_mul (by omega) (by omega)
  generalize a * b = z at *
  omega
theorem mul_any (a b : Int) (ha0 : -9223372036854775808 ≤ a) (ha1 : a ≤ 9223372036854775807) (hb0 : -9223372036854775808 ≤ b) (hb1 : b ≤ 9223372036854775807) (w : World) :
    Calls Tryd.prog 13 #[.int .i64 a, .int .i64 b] w fun e w' => e = .returned (ansV (a * b)) ∧ Below w.heap.size w w' := by
  have hmf : ∀ (fn : Fn) (first cap : Array Value) (w : World), (Instr.makeFunc fn first cap).run Tryd.prog w = .ok (.func fn first cap) w := fun _ _ _ _ => rfl
  go_enter Tryd.func13, Tryd.ntmps13
  go_wp2_with fail
  have hb := al (al (Below.refl w.heap.size w) (Obj.cells #[.int .i64 a] 2)) (Obj.cells #[.int .i64 b] 2)
  have c0 := heap_alloc2_old w (Obj.cells #[.int .i64 a] 2) (Obj.cells #[.int .i64 b] 2)
  have c1 := heap_alloc2_new w (Obj.cells #[.int .i64 a] 2) (Obj.cells #[.int .i64 b] 2)
  generalize (w.alloc (Obj.cells #[.int .i64 a] 2)).alloc (Obj.cells #[.int .i64 b] 2) = W at *
  refine (answer_any 36 (fun args w => enters_of Tryd.func36 (by kernel_rfl) rfl args w) _ (a * b) (mul_bounds a b ha0 ha1 hb0 hb1).1 (mul_bounds a b ha0 ha1 hb0 hb1).2 W (fun W2 b2 => mul_reckon _ _ a b ha0 ha1 hb0 hb1 W2 (cell_of_row W2 _ 0 _ _ _ (row_below b2 c0)) (cell_of_row W2 _ 0 _ _ _ (row_below b2 c1)))).mono ?_
  rintro e w2 ⟨rfl, b2⟩
  obtain ⟨n, k, hk⟩ := ansV_tuple (a * b)
  rw [hk]
  go_wp2
  go_ret2
  exact ⟨by rw [hk]; rfl, hb.trans (b2.mono hb.size)⟩
end Go.Proofs.YtkbkjbnfkgncdaaDoor.TickW
