/- tick's wide.over: the greatest whole number not above the quotient. -/
import Derived.Test.YtmpceabhnhipcaaTickDiv
import Derived.Test.YtmpceabhnhipcaaTickMul
namespace Go.Proofs.Ytmpceabhnhipcaa.TickW
open Go.RowKit
theorem xor_zero (x : Nat) (h : x < 18446744073709551616) : bits .xor .u64 (x : Int) 0 = (x : Int) := by
  have := bits_xor_u64_nat x 0 h (by omega)
  simpa using this
theorem xor_ones (x : Nat) (h : x < 18446744073709551616) : bits .xor .u64 (x : Int) 18446744073709551615 = ((18446744073709551615 - x : Nat) : Int) := by
  have h1 := bits_xor_u64_nat x 18446744073709551615 h (by omega)
  have e : x ^^^ 18446744073709551615 = 18446744073709551615 - x := by
    have h2 : (BitVec.ofNat 64 x ^^^ BitVec.allOnes 64).toNat = (~~~ (BitVec.ofNat 64 x)).toNat := by rw [BitVec.xor_allOnes]
    rw [BitVec.toNat_xor, BitVec.toNat_not, BitVec.toNat_ofNat, BitVec.toNat_allOnes, Nat.mod_eq_of_lt h] at h2
    exact h2
  rw [e] at h1
  exact h1
theorem ret_wide_set {fn : Func} {R : Ending → World → Prop} {p : Tmp} (h : fn.results = #[.cell p 64]) {tmps : Array Value} {W : World} {g : Nat} {x y a b : Value} {t : TypeId}
    (hp : tmps.getD p undef = .pointer (some ⟨g, 0, none⟩)) (hg : W.heap[g]? = some (.cells #[a, b] t (0, 0))) (hR : R (.returned (.agg #[x, y])) ((W.setCell ⟨g, 0, none⟩ x).setCell ⟨g, 1, none⟩ y)) :
    bodyPost Try.prog fn R .ret { tmps := tmps, defers := [] } ((W.setCell ⟨g, 0, none⟩ x).setCell ⟨g, 1, none⟩ y) :=
  ret_wide h hp (heap_setCell_same _ g 1 _ t y (heap_setCell_same W g 0 _ t x hg)) hR
theorem over_raw (hi lo fl c x1 x0 q1 r q0 r0 o1 o0 : Int) (w : World) (ef : IntKind.u64.wrap (wrap64 hi / 9223372036854775808) = fl) (ex1 : bits .xor .u64 hi fl = x1) (ex0 : bits .xor .u64 lo fl = x0)
    (H1 : ∀ W : World, Calls Try.prog 52 #[.int .u64 0, .int .u64 x1, .int .u64 c] W fun e w' => e = .returned (.tuple #[.int .u64 q1, .int .u64 r]) ∧ Below W.heap.size W w')
    (H2 : ∀ W : World, Calls Try.prog 52 #[.int .u64 r, .int .u64 x0, .int .u64 c] W fun e w' => e = .returned (.tuple #[.int .u64 q0, .int .u64 r0]) ∧ Below W.heap.size W w')
    (eo1 : bits .xor .u64 q1 fl = o1) (eo0 : bits .xor .u64 q0 fl = o0) :
    Calls Try.prog 43 #[.agg #[.int .u64 hi, .int .u64 lo], .int .u64 c] w fun e w' => e = .returned (.agg #[.int .u64 o1, .int .u64 o0]) ∧ Below w.heap.size w w' := by
  go_enter Try.func43, Try.ntmps43
  go_wp2_with fail
  have hb := al (al (Below.refl w.heap.size w) (Obj.cells #[.int .u64 hi, .int .u64 lo] 64)) (Obj.cells #[.int .u64 0, .int .u64 0] 64)
  have c0 := heap_alloc2_old w (Obj.cells #[.int .u64 hi, .int .u64 lo] 64) (Obj.cells #[.int .u64 0, .int .u64 0] 64)
  have c1 := heap_alloc2_new w (Obj.cells #[.int .u64 hi, .int .u64 lo] 64) (Obj.cells #[.int .u64 0, .int .u64 0] 64)
  generalize (w.alloc (Obj.cells #[.int .u64 hi, .int .u64 lo] 64)).alloc (Obj.cells #[.int .u64 0, .int .u64 0] 64) = W at *
  refine (H1 W).mono ?_
  rintro e W1 ⟨rfl, b1⟩
  have hb1 := hb.trans (b1.mono hb.size)
  have c0' := row_below b1 c0
  have c1' := row_below b1 c1
  have d0 := cell_of_row W1 w.heap.size 1 _ _ _ c0'
  clear c0 c1 c0' hb b1 H1
  go_wp2_with fail
  refine (H2 _).mono ?_
  rintro e W2 ⟨rfl, b2⟩
  have c2 := row_below b2 c1'
  have hb2 := hb1.trans (b2.mono hb1.size)
  have fr0 := frozen_of_row W2 (w.heap.size + 1) 0 _ _ c2
  have fr1 := frozen_of_row W2 (w.heap.size + 1) 1 _ _ c2
  have z0 := cell_of_row W2 (w.heap.size + 1) 0 _ _ _ c2
  have z1 := cell_of_row W2 (w.heap.size + 1) 1 _ _ _ c2
  have HC := Lib.hid c2
  have HB := Lib.hid hb2
  clear c2 hb2 c1' d0 hb1 b2 H2
  go_wp2
  exact ret_wide_set rfl rfl HC.out ⟨rfl, (HB.out.setCell (by simp) _).setCell (by simp) _⟩
theorem long_gen (N c B : Nat) (hc : 0 < c) : N / c = N / B / c * B + (N / B % c * B + N % B) / c := by
  have d1 := Nat.div_add_mod N B
  have d2 := Nat.div_add_mod (N / B) c
  have d3 := Nat.div_add_mod (N / B % c * B + N % B) c
  have r3 := Nat.mod_lt (N / B % c * B + N % B) hc
  generalize (N / B % c * B + N % B) / c = q0 at *
  generalize (N / B % c * B + N % B) % c = R at *
  generalize N / B % c = r at *
  generalize N / B / c = q1 at *
  refine (qr_of N c _ R ?_ r3).1
  rw [← d1, ← d2]
  have e1 : (q1 * B + q0) * c + R = c * q1 * B + (c * q0 + R) := by rw [Nat.add_mul, Nat.mul_right_comm, Nat.mul_comm q1, Nat.mul_comm q0, Nat.add_assoc]
  have e2 : B * (c * q1 + r) + N % B = c * q1 * B + (r * B + N % B) := by rw [Nat.mul_comm B, Nat.add_mul, Nat.add_assoc]
  rw [e1, d3, e2]
theorem long2 (N c : Nat) (hc : 0 < c) : N / c = N / 18446744073709551616 / c * 18446744073709551616 + (N / 18446744073709551616 % c * 18446744073709551616 + N % 18446744073709551616) / c :=
  long_gen N c 18446744073709551616 hc
theorem over_vars (x1 x0 c fl hi lo q1 r q0 r0 : Nat) (e1 : x1 / c = q1) (e2 : x1 % c = r) (e3 : (r * 18446744073709551616 + x0) / c = q0) (e4 : (r * 18446744073709551616 + x0) % c = r0)
    (hx1 : x1 < 18446744073709551616) (hx0 : x0 < 18446744073709551616) (hc : 0 < c) (hc2 : c < 18446744073709551616) (hr : r < c) (w : World)
    (ef : IntKind.u64.wrap (wrap64 (hi : Int) / 9223372036854775808) = (fl : Int)) (o1 o0 : Nat) (eh : bits .xor .u64 (hi : Int) (fl : Int) = (x1 : Int)) (el : bits .xor .u64 (lo : Int) (fl : Int) = (x0 : Int))
    (eo1 : bits .xor .u64 (q1 : Int) (fl : Int) = (o1 : Int)) (eo0 : bits .xor .u64 (q0 : Int) (fl : Int) = (o0 : Int)) :
    Calls Try.prog 43 #[.agg #[.int .u64 hi, .int .u64 lo], .int .u64 c] w fun e w' => e = .returned (.agg #[.int .u64 (o1 : Int), .int .u64 (o0 : Int)]) ∧ Below w.heap.size w w' := by
  have H1 : ∀ W : World, Calls Try.prog 52 #[.int .u64 0, .int .u64 (x1 : Int), .int .u64 (c : Int)] W fun e w' => e = .returned (.tuple #[.int .u64 (q1 : Int), .int .u64 (r : Int)]) ∧ Below W.heap.size W w' := by
    intro W
    have h := div64_any 0 x1 c hx1 hc2 hc W
    rw [Nat.zero_mul, Nat.zero_add, e1, e2] at h
    exact h
  have H2 : ∀ W : World, Calls Try.prog 52 #[.int .u64 (r : Int), .int .u64 (x0 : Int), .int .u64 (c : Int)] W fun e w' => e = .returned (.tuple #[.int .u64 (q0 : Int), .int .u64 (r0 : Int)]) ∧ Below W.heap.size W w' := by
    intro W
    have h := div64_any r x0 c hx0 hc2 hr W
    rw [e3, e4] at h
    exact h
  exact over_raw (hi : Int) (lo : Int) (fl : Int) (c : Int) (x1 : Int) (x0 : Int) (q1 : Int) (r : Int) (q0 : Int) (r0 : Int) (o1 : Int) (o0 : Int) w ef eh el H1 H2 eo1 eo0
theorem over_nat (N c fl hi lo : Nat) (hN : N < 170141183460469231731687303715884105728) (hc : 0 < c) (hc2 : c < 18446744073709551616) (w : World)
    (ef : IntKind.u64.wrap (wrap64 (hi : Int) / 9223372036854775808) = (fl : Int)) (F : Nat → Nat) (ex : ∀ x : Nat, x < 18446744073709551616 → bits .xor .u64 (x : Int) (fl : Int) = (F x : Int))
    (h1 : F hi = N / 18446744073709551616) (h0 : F lo = N % 18446744073709551616) (hhi : hi < 18446744073709551616) (hlo : lo < 18446744073709551616) :
    Calls Try.prog 43 #[.agg #[.int .u64 hi, .int .u64 lo], .int .u64 c] w fun e w' =>
      e = .returned (.agg #[.int .u64 (F (N / c / 18446744073709551616) : Int), .int .u64 (F (N / c % 18446744073709551616) : Int)]) ∧ Below w.heap.size w w' := by
  have hx1 : N / 18446744073709551616 < 18446744073709551616 := by omega
  have hx0 : N % 18446744073709551616 < 18446744073709551616 := by omega
  have eN := long2 N c hc
  have eh := ex hi hhi
  have el := ex lo hlo
  rw [h1] at eh
  rw [h0] at el
  clear h1 h0
  generalize N / 18446744073709551616 = x1 at *
  generalize N % 18446744073709551616 = x0 at *
  have hq1 : x1 / c ≤ x1 := Nat.div_le_self _ _
  have hr : x1 % c < c := Nat.mod_lt _ hc
  have hq0 : (x1 % c * 18446744073709551616 + x0) / c < 18446744073709551616 := by
    rw [Nat.div_lt_iff_lt_mul hc, Nat.mul_comm 18446744073709551616]
    have : (x1 % c + 1) * 18446744073709551616 ≤ c * 18446744073709551616 := Nat.mul_le_mul_right _ hr
    omega
  have V := over_vars x1 x0 c fl hi lo (x1 / c) (x1 % c) ((x1 % c * 18446744073709551616 + x0) / c) ((x1 % c * 18446744073709551616 + x0) % c) rfl rfl rfl rfl hx1 hx0 hc hc2 hr w ef _ _ eh el (ex _ (by omega)) (ex _ hq0)
  generalize (x1 % c * 18446744073709551616 + x0) / c = q0 at *
  generalize x1 / c = q1 at *
  rw [show N / c / 18446744073709551616 = q1 by omega, show N / c % 18446744073709551616 = q0 by omega]
  exact V
theorem neg_parts (N : Nat) : (-(N : Int) - 1) / 18446744073709551616 = -((N / 18446744073709551616 : Nat) : Int) - 1 ∧ (-(N : Int) - 1) % 18446744073709551616 = 18446744073709551615 - ((N % 18446744073709551616 : Nat) : Int) := by
  constructor <;> omega
theorem xor_ones' (fl : Nat) (hfl : fl = 18446744073709551615) (x : Nat) (h : x < 18446744073709551616) : bits .xor .u64 (x : Int) (fl : Int) = ((fl - x : Nat) : Int) := by
  have e : (fl : Int) = 18446744073709551615 := by omega
  rw [e, xor_ones x h, hfl]
/-- The greatest whole number not above the quotient, by any c above 0. -/
theorem over_any (z c : Int) (hl : -170141183460469231731687303715884105728 ≤ z) (hg : z < 170141183460469231731687303715884105728) (hc : 0 < c) (hc2 : c ≤ 9223372036854775807) (w : World) :
    Calls Try.prog 43 #[wv z, .int .u64 c] w fun e w' => e = .returned (wv (z / c)) ∧ Below w.heap.size w w' := by
  obtain ⟨c, rfl⟩ := Int.eq_ofNat_of_zero_le (show 0 ≤ c by omega)
  have hc' : 0 < c := by omega
  rcases Int.lt_or_le z 0 with h | h
  · obtain ⟨N, hN⟩ := Int.eq_ofNat_of_zero_le (show 0 ≤ -z - 1 by omega)
    have hz : z = -(N : Int) - 1 := by omega
    obtain ⟨hi, ehi⟩ := Int.eq_ofNat_of_zero_le (show 0 ≤ z / 18446744073709551616 % 18446744073709551616 by omega)
    obtain ⟨lo, elo⟩ := Int.eq_ofNat_of_zero_le (show 0 ≤ z % 18446744073709551616 by omega)
    have eq : z / (c : Int) = -((N / c : Nat) : Int) - 1 := by
      rw [hz, show -(N : Int) - 1 = Int.negSucc N by omega, Int.negSucc_ediv N (by omega)]
      have : ((N : Int).ediv (c : Int)) = ((N / c : Nat) : Int) := rfl
      rw [this]; omega
    obtain ⟨fl, hfl⟩ : ∃ fl : Nat, fl = 18446744073709551615 := ⟨_, rfl⟩
    have s1 : z / 18446744073709551616 = -((N / 18446744073709551616 : Nat) : Int) - 1 := by rw [hz]; exact (neg_parts N).1
    have s2 : z % 18446744073709551616 = 18446744073709551615 - ((N % 18446744073709551616 : Nat) : Int) := by rw [hz]; exact (neg_parts N).2
    have s3 : N / 18446744073709551616 < 9223372036854775808 := by clear ehi elo s1 s2 eq; omega
    have s4 : N % 18446744073709551616 < 18446744073709551616 := Nat.mod_lt _ (by decide)
    have hN2 : N < 170141183460469231731687303715884105728 := by clear ehi elo s1 s2 eq s3 s4; omega
    have t1 : fl - hi = N / 18446744073709551616 := by rw [s1] at ehi; clear hN hz hN2 s2 elo eq hl hg h s4; generalize N / 18446744073709551616 = a at *; omega
    have t2 : fl - lo = N % 18446744073709551616 := by rw [s2] at elo; clear hN hz hN2 s1 ehi eq hl hg h s3 t1; generalize N % 18446744073709551616 = a at *; omega
    have t3 : hi < 18446744073709551616 := by clear hN hz hN2 s1 s2 s3 s4 t1 t2 elo eq hl hg h; omega
    have t4 : lo < 18446744073709551616 := by clear hN hz hN2 s1 s2 s3 s4 t1 t2 t3 ehi eq hl hg h; omega
    have t5 : 9223372036854775808 ≤ hi := by clear hN hz hN2 s1 s2 s4 t2 elo eq hl hg h ehi; generalize N / 18446744073709551616 = a at *; omega
    have t6 : IntKind.u64.wrap (wrap64 (hi : Int) / 9223372036854775808) = (fl : Int) := by rw [IntKind.wrap_u64]; unfold wrap64; clear hN hz hN2 s1 s2 s3 s4 t1 t2 t4 elo eq hl hg h ehi; omega
    have := over_nat N c fl hi lo hN2 hc' (by omega) w t6 (fun x => fl - x) (xor_ones' fl hfl) t1 t2 t3 t4
    unfold wv
    rw [ehi, elo, eq]
    refine this.mono ?_
    rintro e w' ⟨rfl, hb⟩
    refine ⟨?_, hb⟩
    have hle : N / c ≤ N := Nat.div_le_self _ _
    generalize N / c = Q at *
    rw [show (-(Q : Int) - 1) / 18446744073709551616 % 18446744073709551616 = ((fl - Q / 18446744073709551616 : Nat) : Int) by omega, show (-(Q : Int) - 1) % 18446744073709551616 = ((fl - Q % 18446744073709551616 : Nat) : Int) by omega]
  · obtain ⟨N, rfl⟩ := Int.eq_ofNat_of_zero_le h
    obtain ⟨hi, ehi⟩ := Int.eq_ofNat_of_zero_le (show 0 ≤ (N : Int) / 18446744073709551616 % 18446744073709551616 by omega)
    obtain ⟨lo, elo⟩ := Int.eq_ofNat_of_zero_le (show 0 ≤ (N : Int) % 18446744073709551616 by omega)
    have := over_nat N c 0 hi lo (by omega) hc' (by omega) w (by rw [IntKind.wrap_u64]; unfold wrap64; omega) (fun x => x) xor_zero (by show hi = _; omega) (by show lo = _; omega) (by omega) (by omega)
    unfold wv
    rw [ehi, elo, ← Int.natCast_ediv]
    refine this.mono ?_
    rintro e w' ⟨rfl, hb⟩
    refine ⟨?_, hb⟩
    have hle : N / c ≤ N := Nat.div_le_self _ _
    generalize N / c = Q at *
    rw [show (Q : Int) / 18446744073709551616 % 18446744073709551616 = ((Q / 18446744073709551616 : Nat) : Int) by omega, show (Q : Int) % 18446744073709551616 = ((Q % 18446744073709551616 : Nat) : Int) by omega]
end Go.Proofs.Ytmpceabhnhipcaa.TickW

