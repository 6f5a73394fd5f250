/- tick.MulDiv, Sum's reckoning, Half, Clamp. -/
import Derived.Test.YtmpceabhnhipcaaTickAdd
namespace Go.Proofs.Ytmpceabhnhipcaa.TickW
open Go.RowKit
set_option maxHeartbeats 1000000 in
theorem muldiv_reckon (p q r : Addr) (a b c : Int) (ha0 : -9223372036854775808 ≤ a) (ha1 : a ≤ 9223372036854775807) (hb0 : -9223372036854775808 ≤ b) (hb1 : b ≤ 9223372036854775807) (hc0 : 0 < c) (hc1 : c ≤ 9223372036854775807) (w : World)
    (hp : w.cell? p = some (.int .i64 a)) (hq : w.cell? q = some (.int .i64 b)) (hr : w.cell? r = some (.int .i64 c)) :
    Calls Try.prog 41 #[.pointer (some p), .pointer (some q), .pointer (some r)] w fun e w' => e = .returned (wv (a * b / c)) ∧ Below w.heap.size w w' := by
  have hm := mul_bounds a b ha0 ha1 hb0 hb1
  have Ha := fun W => product_any a b ha0 ha1 hb0 hb1 W
  have Hp := fun W => over_any (a * b) c hm.1 hm.2 hc0 hc1 W
  have ec : IntKind.u64.wrap c = c := by rw [IntKind.wrap_u64]; omega
  obtain ⟨s1, s0, hs⟩ : ∃ s1 s0 : Int, wv (a * b / c) = .agg #[.int .u64 s1, .int .u64 s0] := ⟨_, _, rfl⟩
  rw [hs] at Hp ⊢
  clear ha0 ha1 hb0 hb1 hs hm hc0 hc1
  generalize a * b = m at *
  have LP := Lib.hid (Lib.lt_of_cell hp)
  have LQ := Lib.hid (Lib.lt_of_cell hq)
  have LR := Lib.hid (Lib.lt_of_cell hr)
  have P := Lib.hid hp
  have Q := Lib.hid hq
  have R := Lib.hid hr
  clear hp hq hr
  go_enter Try.func41, Try.ntmps41
  go_wp2_with fail
  have hb := al (Below.refl w.heap.size w) (Obj.cells #[.int .u64 0, .int .u64 0] 64)
  have c0 := heap_alloc_new w (Obj.cells #[.int .u64 0, .int .u64 0] 64)
  generalize w.alloc (Obj.cells #[.int .u64 0, .int .u64 0] 64) = W at *
  have P1 := Lib.hid (cell_keep P.out hb)
  have Q1 := Lib.hid (cell_keep Q.out hb)
  have R1 := Lib.hid (cell_keep R.out hb)
  have HB := Lib.hid hb
  have HC := Lib.hid c0
  clear hb c0
  go_region_held3 (fun w' => w'.cell? p = some (.int .i64 a) ∧ w'.cell? q = some (.int .i64 b) ∧ w'.cell? r = some (.int .i64 c)) (first | exact ⟨P1.out, Q1.out, R1.out⟩ | exact ⟨g2.out, h2.out, i2.out⟩ | exact ⟨g4.out, h4.out, i4.out⟩ | exact ⟨set2_keep g4.out LP.out _ _, set2_keep h4.out LQ.out _ _, set2_keep i4.out LR.out _ _⟩) (first
    | (go_at_call 42; (with_reducible refine (Ha _).mono ?_); rintro e w1 ⟨rfl, b1⟩; have g2 := Lib.hid (cell_keep (show W.drew.cell? _ = some _ from P1.out) b1); have h2 := Lib.hid (cell_keep (show W.drew.cell? _ = some _ from Q1.out) b1); have i2 := Lib.hid (cell_keep (show W.drew.cell? _ = some _ from R1.out) b1); have r2 := Lib.hid (row_below b1 (show W.drew.heap[w.heap.size]? = _ from HC.out)); have k2 := Lib.hid (HB.out.trans ((of_drew b1).mono HB.out.size)); clear b1)
    | (go_at_call 43; (with_reducible refine (Hp _).mono ?_); rintro e w3 ⟨rfl, b3⟩; have g4 := Lib.hid (cell_keep g2.out b3); have h4 := Lib.hid (cell_keep h2.out b3); have i4 := Lib.hid (cell_keep i2.out b3); have r4 := Lib.hid (row_below b3 r2.out); have k4 := Lib.hid (k2.out.trans (b3.mono k2.out.size)); have z0 : w3.cell? ⟨w.heap.size, 0, none⟩ = some (.int .u64 0) := cell_of_row w3 w.heap.size 0 _ _ _ r4.out; have z1 : w3.cell? ⟨w.heap.size, 1, none⟩ = some (.int .u64 0) := cell_of_row w3 w.heap.size 1 _ _ _ r4.out; have fr0 := frozen_of_row w3 w.heap.size 0 _ _ r4.out; have fr1 := frozen_of_row w3 w.heap.size 1 _ _ r4.out; clear b3))
  go_wp2
  exact ret_wide_set rfl rfl r4.out ⟨rfl, (k4.out.setCell (Nat.le_refl _) _).setCell (Nat.le_refl _) _⟩
theorem div_bounds (a b c : Int) (ha0 : -9223372036854775808 ≤ a) (ha1 : a ≤ 9223372036854775807) (hb0 : -9223372036854775808 ≤ b) (hb1 : b ≤ 9223372036854775807) : -170141183460469231731687303715884105728 ≤ a * b / c ∧ a * b / c < 170141183460469231731687303715884105728 := by
  have h0 : (a * b).natAbs ≤ 9223372036854775808 * 9223372036854775808 := by
    rw [Int.natAbs_mul]
    exact Nat.mul_le_mul (by omega) (by omega)
  generalize a * b = z at *
  have e := Int.natAbs_ediv_le_natAbs z c
  generalize z / c = q at *
  omega
theorem muldiv_any (a b c : Int) (ha0 : -9223372036854775808 ≤ a) (ha1 : a ≤ 9223372036854775807) (hb0 : -9223372036854775808 ≤ b) (hb1 : b ≤ 9223372036854775807) (hc0 : 0 < c) (hc1 : c ≤ 9223372036854775807) (w : World) :
    Calls Try.prog 33 #[.int .i64 a, .int .i64 b, .int .i64 c] w fun e w' => e = .returned (ansV (a * b / c)) ∧ Below w.heap.size w w' := by
  have hmf : ∀ (fn : Fn) (first cap : Array Value) (w : World), (Instr.makeFunc fn first cap).run Try.prog w = .ok (.func fn first cap) w := fun _ _ _ _ => rfl
  have kc : ¬ c ≤ 0 := by omega
  go_enter Try.func33, Try.ntmps33
  go_wp2_with fail
  have hb := al (al (al (Below.refl w.heap.size w) (Obj.cells #[.int .i64 a] 2)) (Obj.cells #[.int .i64 b] 2)) (Obj.cells #[.int .i64 c] 2)
  have c0 := (Below.heap_alloc ((w.alloc (Obj.cells #[.int .i64 a] 2)).alloc (Obj.cells #[.int .i64 b] 2)) (Obj.cells #[.int .i64 c] 2) w.heap.size (by simp; omega)).trans (heap_alloc2_old w (Obj.cells #[.int .i64 a] 2) (Obj.cells #[.int .i64 b] 2))
  have c1 := (Below.heap_alloc ((w.alloc (Obj.cells #[.int .i64 a] 2)).alloc (Obj.cells #[.int .i64 b] 2)) (Obj.cells #[.int .i64 c] 2) (w.heap.size + 1) (by simp)).trans (heap_alloc2_new w (Obj.cells #[.int .i64 a] 2) (Obj.cells #[.int .i64 b] 2))
  have c2 : (((w.alloc (Obj.cells #[.int .i64 a] 2)).alloc (Obj.cells #[.int .i64 b] 2)).alloc (Obj.cells #[.int .i64 c] 2)).heap[w.heap.size + 1 + 1]? = some (Obj.cells #[.int .i64 c] 2) := heap_at (by simp) _
  generalize ((w.alloc (Obj.cells #[.int .i64 a] 2)).alloc (Obj.cells #[.int .i64 b] 2)).alloc (Obj.cells #[.int .i64 c] 2) = W at *
  refine (answer_any 41 (fun args w => enters_of Try.func41 (by kernel_rfl) rfl args w) _ (a * b / c) (div_bounds a b c ha0 ha1 hb0 hb1).1 (div_bounds a b c ha0 ha1 hb0 hb1).2 W (fun W2 b2 => muldiv_reckon _ _ _ a b c ha0 ha1 hb0 hb1 hc0 hc1 W2 (cell_of_row W2 _ 0 _ _ _ (row_below b2 c0)) (cell_of_row W2 _ 0 _ _ _ (row_below b2 c1)) (cell_of_row W2 _ 0 _ _ _ (row_below b2 c2)))).mono ?_
  rintro e w2 ⟨rfl, b2⟩
  obtain ⟨n, k, hk⟩ := ansV_tuple (a * b / c)
  rw [hk]
  go_wp2
  go_ret2
  exact ⟨by rw [hk]; rfl, hb.trans (b2.mono hb.size)⟩
end Go.Proofs.Ytmpceabhnhipcaa.TickW

