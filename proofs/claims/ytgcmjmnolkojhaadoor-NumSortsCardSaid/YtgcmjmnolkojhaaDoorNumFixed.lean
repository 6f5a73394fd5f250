/- The chapter's examples: each call at its constants, and the check of all of them. -/
import Derived.Test.YtgcmjmnolkojhaaDoorNumWalk10
namespace Go.Proofs.YtgcmjmnolkojhaaDoor.NumW
open Go.RowKit NumP
theorem c_int25 (w : World) : Calls Tryd.prog 29 #[.float .f64 4612811918334230528] w fun e w' => e = .returned (.tuple #[.int .i64 2, .int .i64 0]) ∧ w = w' :=
  int_ok 4612811918334230528 2 (by decide) (by decide +kernel) (by decide +kernel) (by decide +kernel) (by decide +kernel) w
theorem c_int35 (w : World) : Calls Tryd.prog 29 #[.float .f64 4615063718147915776] w fun e w' => e = .returned (.tuple #[.int .i64 4, .int .i64 0]) ∧ w = w' :=
  int_ok 4615063718147915776 4 (by decide) (by decide +kernel) (by decide +kernel) (by decide +kernel) (by decide +kernel) w
theorem c_int93 (w : World) : Calls Tryd.prog 29 #[.float .f64 4890946611321988160] w fun e w' => e = .returned (.tuple #[.int .i64 0, .int .i64 4]) ∧ w = w' :=
  int_high 4890946611321988160 (by decide) (by decide +kernel) (by decide +kernel) (by decide +kernel) w
theorem c_parse (w : World) (hT : Tz w) (hE : Es w) : Calls Tryd.prog 32 #[.string ⟨#[51, 102, 102, 48, 48, 48, 48, 48, 48, 48, 48, 48, 48, 48, 48, 48]⟩] w fun e w' => e = .returned (.tuple #[.float .f64 4607182418800017408, .int .i64 0]) ∧ Below w.heap.size w w' := by
  have := parse_any ⟨#[51, 102, 102, 48, 48, 48, 48, 48, 48, 48, 48, 48, 48, 48, 48, 48]⟩ w hT hE
  rw [show parseN ⟨#[51, 102, 102, 48, 48, 48, 48, 48, 48, 48, 48, 48, 48, 48, 48, 48]⟩ = some 4607182418800017408 by decide +kernel] at this
  exact this
theorem c_kindm (w : World) : Calls Tryd.prog 13 #[.float .f64 9223372036854775808] w fun e w' => e = .returned (.int .i64 4) ∧ w = w' := by
  have := kind_any 9223372036854775808 (by decide) w
  rwa [show kind 9223372036854775808 = 4 by decide +kernel] at this
theorem c_kind0 (w : World) : Calls Tryd.prog 13 #[.float .f64 0] w fun e w' => e = .returned (.int .i64 5) ∧ w = w' := by
  have := kind_any 0 (by decide) w
  rwa [show kind 0 = 5 by decide +kernel] at this
theorem c_cmp (w : World) : Calls Tryd.prog 18 #[.float .f64 9223372036854775808, .float .f64 0] w fun e w' => e = .returned (.int .i64 (-1)) ∧ w = w' := by
  have := cmp_any 9223372036854775808 0 (by decide) (by decide) w
  rwa [show cmpN 9223372036854775808 0 = -1 by decide +kernel] at this
theorem c_times (w : World) : Calls Tryd.prog 28 #[.float .f64 4611686018427387904, .float .f64 4613937818241073152] w fun e w' => e = .returned (.float .f64 4618441417868443648) ∧ w = w' := by
  have := times_ok 4611686018427387904 4613937818241073152 4618441417868443648 (by decide +kernel) w
  rwa [show oneN 4618441417868443648 = 4618441417868443648 by decide +kernel] at this
theorem c_one (w : World) : Calls Tryd.prog 16 #[.float .f64 4617315517961601024] w fun e w' => e = .returned (.float .f64 4617315517961601024) ∧ w = w' := by
  have := one_any 4617315517961601024 (by decide) w
  rwa [show oneN 4617315517961601024 = 4617315517961601024 by decide +kernel] at this
/-- A row of words that lies in a block of its own. -/
theorem fl_new (w : World) (xs : List Nat) (hx : ∀ x ∈ xs, x < 18446744073709551616) (g : Nat) (t : TypeId) (h : w.heap[g]? = some (.cells (xs.map (Value.float .f64)).toArray t (0, 0))) : FL w (some ⟨g, 0, none⟩) xs := by
  intro k x hk
  refine ⟨_, rfl, ?_, hx x (List.mem_of_getElem? hk)⟩
  rw [show (⟨g, 0, none⟩ : Addr).add k = ⟨g, k, none⟩ by unfold Addr.add; split <;> simp_all]
  unfold World.cell?
  rw [h]
  simp [hk]
theorem c_least (w : World) : Calls Tryd.prog 22 #[.slice (some ⟨w.heap.size, 0, none⟩) 3 3] (w.alloc (.cells #[.float .f64 4613937818241073152, .float .f64 9223372036854775808, .float .f64 0] 22)) fun e w' => e = .returned (.float .f64 9223372036854775808) ∧ Below w.heap.size w w' := by
  have := least_any (some ⟨w.heap.size, 0, none⟩) 3 [4613937818241073152, 9223372036854775808, 0] _ (fl_new _ _ (by decide) w.heap.size 22 (heap_alloc_new w _)) (by decide)
  rw [show outN (-1) [4613937818241073152, 9223372036854775808, 0] = 9223372036854775808 by decide +kernel] at this
  exact this.mono fun e w' h => ⟨h.1, h.2 ▸ (Below.refl _ _).alloc (Nat.le_refl _) _⟩
theorem c_greatest (w : World) : Calls Tryd.prog 24 #[.slice (some ⟨w.heap.size, 0, none⟩) 2 2] (w.alloc (.cells #[.float .f64 4607182418800017408, .float .f64 4611686018427387904] 22)) fun e w' => e = .returned (.float .f64 4611686018427387904) ∧ Below w.heap.size w w' := by
  have := greatest_any (some ⟨w.heap.size, 0, none⟩) 2 [4607182418800017408, 4611686018427387904] _ (fl_new _ _ (by decide) w.heap.size 22 (heap_alloc_new w _)) (by decide)
  rw [show outN 1 [4607182418800017408, 4611686018427387904] = 4611686018427387904 by decide +kernel] at this
  exact this.mono fun e w' h => ⟨h.1, h.2 ▸ (Below.refl _ _).alloc (Nat.le_refl _) _⟩
theorem c_sum (w : World) : Calls Tryd.prog 26 #[.slice (some ⟨w.heap.size, 0, none⟩) 1 1] (w.alloc (.cells #[.float .f64 9223372036854775808] 22)) fun e w' => e = .returned (.float .f64 0) ∧ Below w.heap.size w w' := by
  have := sum_any (some ⟨w.heap.size, 0, none⟩) 1 [9223372036854775808] _ (fl_new _ _ (by decide) w.heap.size 22 (heap_alloc_new w _)) (by decide)
  rw [show sumN [9223372036854775808] = 0 by decide +kernel] at this
  exact this.mono fun e w' ⟨he, n, hw⟩ => ⟨he, hw ▸ below_drewN ((Below.refl _ _).alloc (Nat.le_refl _) _) n⟩
theorem c_print (w : World) (hT : Tz w) : Calls Tryd.prog 31 #[.float .f64 9223372036854775808] w fun e w' => e = .returned (.string ⟨#[56, 48, 48, 48, 48, 48, 48, 48, 48, 48, 48, 48, 48, 48, 48, 48]⟩) ∧ Below w.heap.size w w' := by
  have := print_any 9223372036854775808 (by decide) w hT
  rwa [show text (oneN 9223372036854775808) = ⟨#[56, 48, 48, 48, 48, 48, 48, 48, 48, 48, 48, 48, 48, 48, 48, 48]⟩ by decide +kernel] at this
theorem c_sort (w : World) : Calls Tryd.prog 21 #[.slice (some ⟨w.heap.size, 0, none⟩) 1 1] (w.alloc (.cells #[.float .f64 4607182418800017408] 22)) fun e w' => e = .returned (.slice (some ⟨w.heap.size + 1, 0, none⟩) 1 1) ∧ Below w.heap.size w w' := by
  have := sort_any (some ⟨w.heap.size, 0, none⟩) 1 [4607182418800017408] _ (fl_new _ _ (by decide) w.heap.size 22 (heap_alloc_new w _)) (by decide)
  refine this.mono fun e w' h => ?_
  obtain ⟨he, hb, _⟩ := h
  rw [World.size_alloc] at he hb
  exact ⟨he, ((Below.refl _ _).alloc (Nat.le_refl _) _).trans (hb.mono (by omega))⟩
set_option maxHeartbeats 4000000 in
set_option maxRecDepth 100000 in
theorem fixed_any (w : World) (hT : Tz w) (hE : Es w) : Calls Tryd.prog 12 #[] w fun e w' => e = .returned (.bool true) ∧ Below w.heap.size w w' := by
  have HT := Lib.hid hT
  have HE := Lib.hid hE
  clear hT hE
  go_enter Tryd.func12, Tryd.ntmps12
  go_wp2_with fail
  refine (copysign_m _).mono ?_
  rintro e w1 ⟨rfl, rfl⟩
  go_wp2_with fail
  refine (c_int25 _).mono ?_
  rintro e w1 ⟨rfl, rfl⟩
  go_wp2_with fail
  refine (c_int35 _).mono ?_
  rintro e w1 ⟨rfl, rfl⟩
  go_wp2_with fail
  refine (c_int93 _).mono ?_
  rintro e w1 ⟨rfl, rfl⟩
  go_wp2_with fail
  refine (c_parse _ HT.out HE.out).mono ?_
  rintro e w1 ⟨rfl, hb1⟩
  have HT1 := Lib.hid (HT.out.below hb1 (Nat.le_refl _))
  go_wp2_with fail
  refine (c_kindm _).mono ?_
  rintro e w2 ⟨rfl, rfl⟩
  go_wp2_with fail
  refine (c_cmp _).mono ?_
  rintro e w2 ⟨rfl, rfl⟩
  go_wp2_with fail
  refine (c_least _).mono ?_
  rintro e w2 ⟨rfl, hb2⟩
  go_wp2_with fail
  refine (c_kindm _).mono ?_
  rintro e w3 ⟨rfl, rfl⟩
  go_wp2_with fail
  refine (c_greatest _).mono ?_
  rintro e w3 ⟨rfl, hb3⟩
  go_wp2_with fail
  refine (c_sum _).mono ?_
  rintro e w4 ⟨rfl, hb4⟩
  go_wp2_with fail
  refine (c_kind0 _).mono ?_
  rintro e w5 ⟨rfl, rfl⟩
  go_wp2_with fail
  refine (c_times _).mono ?_
  rintro e w5 ⟨rfl, rfl⟩
  have HT4 := Lib.hid (((HT1.out.below hb2 (Nat.le_refl _)).below hb3 (Nat.le_refl _)).below hb4 (Nat.le_refl _))
  go_wp2_with fail
  refine (c_print _ HT4.out).mono ?_
  rintro e w5 ⟨rfl, hb5⟩
  go_wp2_with fail
  refine (c_sort _).mono ?_
  rintro e w6 ⟨rfl, hb6⟩
  go_wp2_with fail
  refine (c_one _).mono ?_
  rintro e w7 ⟨rfl, rfl⟩
  go_wp2_with fail
  trace_state
  go_ret
  exact ⟨rfl, hb1.trans ((hb2.mono hb1.size).trans ((hb3.mono (by have := hb1.size; have := hb2.size; omega)).trans ((hb4.mono (by have := hb1.size; have := hb2.size; have := hb3.size; omega)).trans ((hb5.mono (by have := hb1.size; have := hb2.size; have := hb3.size; have := hb4.size; omega)).trans (hb6.mono (by have := hb1.size; have := hb2.size; have := hb3.size; have := hb4.size; have := hb5.size; omega))))))⟩
end Go.Proofs.YtgcmjmnolkojhaaDoor.NumW
