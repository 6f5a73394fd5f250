/- The chapter's examples. -/
import Derived.Test.YtelfbjldfdlpnaaMeanRates
import Derived.Test.YtelfbjldfdlpnaaMeanRef
namespace Go.Proofs.Ytelfbjldfdlpnaa.MeanW
open Go.RowKit TickW
theorem il_new (w : World) (l : List Int) (hb : ∀ x ∈ l, B64 x) : IL (w.alloc (.cells (i64s l).toArray 2)) (some ⟨w.heap.size, 0, none⟩) l := by
  intro k x hk
  have ha : (⟨w.heap.size, 0, none⟩ : Addr).add k = ⟨w.heap.size, k, none⟩ := by unfold Addr.add; split <;> simp_all
  refine ⟨_, rfl, ?_, hb x (List.mem_of_getElem? hk)⟩
  rw [ha, World.cell?_alloc_new]
  unfold i64s
  rw [List.getElem?_toArray, List.getElem?_map, hk]
  rfl
theorem fl_new (w : World) (l : List Nat) (hb : ∀ x ∈ l, x < 18446744073709551616) : NumP.FL (w.alloc (.cells (f64s l).toArray 31)) (some ⟨w.heap.size, 0, none⟩) l := by
  intro k x hk
  have ha : (⟨w.heap.size, 0, none⟩ : Addr).add k = ⟨w.heap.size, k, none⟩ := by unfold Addr.add; split <;> simp_all
  refine ⟨_, rfl, ?_, hb x (List.mem_of_getElem? hk)⟩
  rw [ha, World.cell?_alloc_new]
  unfold f64s
  rw [List.getElem?_toArray, List.getElem?_map, hk]
  rfl
theorem below_new {w : World} {o : Obj} {w' : World} (h : RowKit.Below (w.alloc o).heap.size (w.alloc o) w') : RowKit.Below w.heap.size w w' :=
  (Below.alloc (Below.refl _ _) (Nat.le_refl _) o).trans (h.mono (by rw [World.size_alloc]; exact Nat.le_succ _))
theorem b64_all (l : List Int) (h : (l.all fun x => decide (-9223372036854775808 ≤ x) && decide (x ≤ 9223372036854775807)) = true) : ∀ x ∈ l, B64 x := fun x hx => by
  have := List.all_eq_true.1 h x hx
  simpa [B64] using this
theorem srt1 : srt [9, 1, 1000] = [1, 9, 1000] := (srt_of (by decide) (by decide)).symm
theorem srt2 : srt [1, 2, 50, 8, 900] = [1, 2, 8, 50, 900] := (srt_of (by decide) (by decide)).symm
theorem srt3 : srt [1, 2, 900] = [1, 2, 900] := (srt_of (by decide) (by decide)).symm
theorem srt4 : srt [-9223372036854775808, 9223372036854775807] = [-9223372036854775808, 9223372036854775807] := (srt_of (by decide) (by decide)).symm
theorem c_tol1 (w : World) : Calls Try.prog 12 #[.slice (some ⟨w.heap.size, 0, none⟩) 3 3] (w.alloc (.cells #[.int .i64 9, .int .i64 1, .int .i64 1000] 2)) fun e w' => e = .returned (.tuple #[.int .i64 9, .int .i64 0]) ∧ RowKit.Below w.heap.size w w' := by
  have h := tolerant_any (some ⟨w.heap.size, 0, none⟩) 3 [9, 1, 1000] _ (il_new w [9, 1, 1000] (b64_all _ (by decide))) (by decide)
  have e : ansM [9, 1, 1000] (tolK [9, 1, 1000]) = .tuple #[.int .i64 9, .int .i64 0] := by unfold ansM halfAt; rw [srt1]; rfl
  rw [e] at h
  exact h.mono fun _ _ h => ⟨h.1, below_new h.2⟩
theorem c_tol2 (w : World) : Calls Try.prog 12 #[.slice (some ⟨w.heap.size, 0, none⟩) 5 5] (w.alloc (.cells #[.int .i64 1, .int .i64 2, .int .i64 50, .int .i64 8, .int .i64 900] 2)) fun e w' => e = .returned (.tuple #[.int .i64 26, .int .i64 0]) ∧ RowKit.Below w.heap.size w w' := by
  have h := tolerant_any (some ⟨w.heap.size, 0, none⟩) 5 [1, 2, 50, 8, 900] _ (il_new w [1, 2, 50, 8, 900] (b64_all _ (by decide))) (by decide)
  have e : ansM [1, 2, 50, 8, 900] (tolK [1, 2, 50, 8, 900]) = .tuple #[.int .i64 26, .int .i64 0] := by unfold ansM halfAt; rw [srt2]; rfl
  rw [e] at h
  exact h.mono fun _ _ h => ⟨h.1, below_new h.2⟩
theorem c_mid (w : World) : Calls Try.prog 13 #[.slice (some ⟨w.heap.size, 0, none⟩) 3 3] (w.alloc (.cells #[.int .i64 1, .int .i64 2, .int .i64 900] 2)) fun e w' => e = .returned (.tuple #[.int .i64 2, .int .i64 0]) ∧ RowKit.Below w.heap.size w w' := by
  have h := middle_any (some ⟨w.heap.size, 0, none⟩) 3 [1, 2, 900] _ (il_new w [1, 2, 900] (b64_all _ (by decide))) (by decide)
  have e : ansM [1, 2, 900] (midK [1, 2, 900]) = .tuple #[.int .i64 2, .int .i64 0] := by unfold ansM halfAt; rw [srt3]; rfl
  rw [e] at h
  exact h.mono fun _ _ h => ⟨h.1, below_new h.2⟩
theorem c_tol0 (w : World) : Calls Try.prog 12 #[.slice none 0 0] w fun e w' => e = .returned (.tuple #[.int .i64 0, .int .i64 5]) ∧ RowKit.Below w.heap.size w w' :=
  tolerant_any none 0 [] w (fun k x h => by simp at h) (by decide)
theorem c_spread (w : World) : Calls Try.prog 16 #[.slice (some ⟨w.heap.size, 0, none⟩) 2 2] (w.alloc (.cells #[.int .i64 (-9223372036854775808), .int .i64 9223372036854775807] 2)) fun e w' => e = .returned (.int .u64 18446744073709551615) ∧ RowKit.Below w.heap.size w w' := by
  have h := spread_any (some ⟨w.heap.size, 0, none⟩) 2 [-9223372036854775808, 9223372036854775807] _ (il_new w [-9223372036854775808, 9223372036854775807] (b64_all _ (by decide))) (by decide)
  have e : spreadN [-9223372036854775808, 9223372036854775807] = 18446744073709551615 := by unfold spreadN; rw [srt4]; rfl
  rw [e] at h
  exact h.mono fun _ _ h => ⟨h.1, by rw [h.2]; exact below_new (Below.refl _ _)⟩
theorem c_rates (w : World) : Calls Try.prog 18 #[.slice (some ⟨w.heap.size, 0, none⟩) 4 4] (w.alloc (.cells #[.float .f64 4607182418800017408, .float .f64 9221120237041090561, .float .f64 4613937818241073152, .float .f64 9218868437227405312] 31)) fun e w' => e = .returned (.tuple #[.float .f64 4611686018427387904, .int .i64 2]) ∧ RowKit.Below w.heap.size w w' := by
  have h := rates_any (some ⟨w.heap.size, 0, none⟩) 4 [4607182418800017408, 9221120237041090561, 4613937818241073152, 9218868437227405312] _ (fl_new w [4607182418800017408, 9221120237041090561, 4613937818241073152, 9218868437227405312] (by decide)) (by decide)
  have e : ratesV [4607182418800017408, 9221120237041090561, 4613937818241073152, 9218868437227405312] = .tuple #[.float .f64 4611686018427387904, .int .i64 2] := by
    unfold ratesV
    rw [show meanR [4607182418800017408, 9221120237041090561, 4613937818241073152, 9218868437227405312] = 4611686018427387904 by decide +kernel]
    rfl
  rw [e] at h
  exact h.mono fun _ _ h => ⟨h.1, below_new h.2⟩
theorem c_nan (w : World) : Calls Try.prog 23 #[] w fun e w' => e = .returned (.float .f64 9221120237041090561) ∧ w' = w := by
  go_enter Try.func23, Try.ntmps23
  go_wp2
  go_ret
  exact ⟨rfl, rfl⟩
theorem c_inf (w : World) : Calls Try.prog 24 #[.int .i64 1] w fun e w' => e = .returned (.float .f64 9218868437227405312) ∧ w' = w := by
  go_enter Try.func24, Try.ntmps24
  go_wp2
  go_ret
  exact ⟨rfl, rfl⟩
set_option maxHeartbeats 2000000 in
set_option maxRecDepth 100000 in
theorem fixed_any (w : World) : Calls Try.prog 11 #[] w fun e w' => e = .returned (.bool true) ∧ RowKit.Below w.heap.size w w' := by
  go_enter Try.func11, Try.ntmps11
  go_wp2_with fail
  refine (c_tol1 _).mono ?_
  rintro e w1 ⟨rfl, b1⟩
  have B1 := Lib.hid b1; clear b1
  go_wp2_with fail
  refine (c_tol2 _).mono ?_
  rintro e w2 ⟨rfl, b2⟩
  have B2 := Lib.hid (B1.out.trans (b2.mono B1.out.size)); clear b2
  go_wp2_with fail
  refine (c_mid _).mono ?_
  rintro e w3 ⟨rfl, b3⟩
  have B3 := Lib.hid (B2.out.trans (b3.mono B2.out.size)); clear b3
  go_wp2_with fail
  refine (c_tol0 _).mono ?_
  rintro e w4 ⟨rfl, b4⟩
  have B4 := Lib.hid (B3.out.trans (b4.mono B3.out.size)); clear b4
  go_wp2_with (first | (go_at_call 23; refine (c_nan _).mono ?_; rintro e w' ⟨rfl, rfl⟩) | (go_at_call 24; refine (c_inf _).mono ?_; rintro e w' ⟨rfl, rfl⟩))
  refine (c_rates _).mono ?_
  rintro e w5 ⟨rfl, b5⟩
  have B5 := Lib.hid (B4.out.trans (b5.mono B4.out.size)); clear b5
  have o : FloatKind.f64.format.order 4611686018427387904 4611686018427387904 = some .eq := order_self _ (by decide)
  go_wp2_with fail
  refine (c_spread _).mono ?_
  rintro e w6 ⟨rfl, b6⟩
  have B6 := Lib.hid (B5.out.trans (b6.mono B5.out.size)); clear b6
  go_wp2
  go_ret
  exact ⟨rfl, B6.out⟩
end Go.Proofs.Ytelfbjldfdlpnaa.MeanW
