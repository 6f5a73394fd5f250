/- Walks of mean.Rates and of the document's own. -/
import Derived.Test.YtelfbjldfdlpnaaMeanFlo
import Derived.BigQuiet
import Derived.Deep.RegionHeld3
import Derived.IntWalk
import Derived.DataElems
import Derived.Lib.AtoiErrMem
namespace Go.Proofs.Ytelfbjldfdlpnaa.MeanW
open Go.RowKit NumP NumW
theorem order_self (x : Nat) (h : mag x ≤ 9218868437227405312) : FloatKind.f64.format.order x x = some .eq := by
  show Ieee.double.order x x = _
  rw [order_fval x x h h, cmp_int, if_neg (Int.lt_irrefl _), if_pos rfl]
theorem isnan_no (x : Nat) (h : mag x ≤ 9218868437227405312) (w : World) : Calls Try.prog 30 #[.float .f64 x] w fun e w' => e = .returned (.bool false) ∧ w' = w := by
  have o := order_self x h
  go_enter Try.func30, Try.ntmps30
  go_wp2
  go_ret
  exact ⟨rfl, rfl⟩
theorem isnan_yes (x : Nat) (h : ¬ mag x ≤ 9218868437227405312) (w : World) : Calls Try.prog 30 #[.float .f64 x] w fun e w' => e = .returned (.bool true) ∧ w' = w := by
  have o : FloatKind.f64.format.order x x = none := order_nan x x (Or.inl (by omega))
  go_enter Try.func30, Try.ntmps30
  go_wp2
  go_ret
  exact ⟨rfl, rfl⟩
theorem abs_any (x : Nat) (hx : x < 18446744073709551616) (w : World) : Calls Try.prog 43 #[.float .f64 x] w fun e w' => e = .returned (.float .f64 (mag x)) ∧ w' = w := by
  have a := andNot_sign x hx
  clear hx
  go_enter Try.func43, Try.ntmps43
  go_wp2
  go_ret
  exact ⟨rfl, rfl⟩
theorem mag_mag (x : Nat) : mag (mag x) = mag x := by unfold mag; omega
theorem fval_mag (x : Nat) : fval (mag x) = (val (mag x) : Int) := by
  unfold fval
  rw [mag_mag, if_neg]
  unfold sgn mag
  rw [beq_iff_eq]
  omega
theorem order_max (x : Nat) (h : mag x ≤ 9218868437227405312) : (FloatKind.f64.format.order (mag x) 9218868437227405311 == some .gt) = !(fin x) := by
  have e : FloatKind.f64.format.order (mag x) 9218868437227405311 = some (compare (fval (mag x)) (fval 9218868437227405311)) := order_fval _ _ (by rw [mag_mag]; exact h) (by decide)
  have e2 : fval 9218868437227405311 = (val 9218868437227405311 : Int) := fval_mag 9218868437227405311
  rw [e, fval_mag, e2, cmp_int]
  by_cases hf : mag x < 9218868437227405312
  · rw [show fin x = true from fin_true.2 hf]
    rcases Nat.lt_or_ge (mag x) 9218868437227405311 with h1 | h1
    · have := val_mono h1
      rw [if_pos (by omega)]; rfl
    · rw [show mag x = 9218868437227405311 by omega, if_neg (Int.lt_irrefl _), if_pos rfl]; rfl
  · rw [show fin x = false from fin_false.2 hf]
    have := val_mono (show 9218868437227405311 < mag x by omega)
    rw [if_neg (by omega), if_neg (by omega)]; rfl
theorem isinf_any (x : Nat) (hx : x < 18446744073709551616) (h : mag x ≤ 9218868437227405312) (w : World) : Calls Try.prog 31 #[.float .f64 x, .int .i64 0] w fun e w' => e = .returned (.bool (!(fin x))) ∧ w' = w := by
  have o := order_max x h
  have HX := Lib.hid hx
  clear hx h
  go_enter Try.func31, Try.ntmps31
  go_wp2_with (go_at_call 43; refine (abs_any _ HX.out _).mono ?_; rintro e w' ⟨rfl, rfl⟩)
  go_ret
  exact ⟨rfl, rfl⟩
def f64s (l : List Nat) : List Value := l.map (Value.float .f64)
theorem f64s_snoc (rs : List Nat) (a : Nat) : f64s (rs ++ [a]) = f64s rs ++ [.float .f64 a] := by unfold f64s; rw [List.map_append]; rfl
theorem own_fl {w : World} {base n : Nat} {v : Value} {ys : List Nat} (h : w.ownsRow base 31 1 v n (f64s ys)) (hb : ∀ y ∈ ys, y < 18446744073709551616) : ∃ A c, v = .slice A n c ∧ FL w A ys ∧ ys.length = n := by
  have hlen : ys.length = n := by have := h.1; unfold f64s at this; rw [List.length_map] at this; omega
  rcases h.2 with ⟨hv, h0⟩ | ⟨g, cap, cur, hv, _, hg, _, _, _, htake⟩
  · have hd : ys = [] := List.eq_nil_of_length_eq_zero (by omega)
    subst hd; subst h0
    exact ⟨none, 0, hv, fun j y hy => by simp at hy, rfl⟩
  · refine ⟨_, cap, hv, fun j y hy => ⟨_, rfl, ?_, hb y (List.mem_of_getElem? hy)⟩, hlen⟩
    have hj : j < ys.length := by
      rcases Nat.lt_or_ge j ys.length with h4 | h4
      · exact h4
      · rw [List.getElem?_eq_none h4] at hy; cases hy
    have ha : (⟨g, 0, none⟩ : Addr).add j = ⟨g, j, none⟩ := by unfold Addr.add; split <;> simp_all
    have h5 : (f64s ys)[j]? = some (.float .f64 y) := by unfold f64s; rw [List.getElem?_map, hy]; rfl
    rw [← htake, List.getElem?_take_of_lt (by omega), Array.getElem?_toList] at h5
    rw [ha]
    unfold World.cell?
    rw [hg]
    simpa using h5
/-- The answer. -/
def ratesV (xs : List Nat) : Value := .tuple #[.float .f64 (meanR xs), .int .i64 ((fins xs).length : Int)]
theorem fl_lt {w : World} {A : Option Addr} {xs : List Nat} (h : FL w A xs) : ∀ x ∈ xs, x < 18446744073709551616 := fun x hm => by
  obtain ⟨j, hj⟩ := List.getElem?_of_mem hm
  exact (h j x hj).choose_spec.2.2
theorem fins_take_lt {xs : List Nat} (h : ∀ x ∈ xs, x < 18446744073709551616) (k : Nat) : ∀ x ∈ fins (xs.take k), x < 18446744073709551616 := fun x hx => h x (List.mem_of_mem_take (List.mem_filter.1 hx).1)
set_option maxHeartbeats 1000000 in
set_option maxRecDepth 100000 in
theorem rates_any (A : Option Addr) (c : Nat) (xs : List Nat) (w : World) (h : FL w A xs) (hl : xs.length * 8 ≤ 140737488355328) :
    Calls Try.prog 18 #[.slice A xs.length c] w fun e w' => e = .returned (ratesV xs) ∧ RowKit.Below w.heap.size w w' := by
  obtain ⟨i0, hi, hz0, hz1, hz2⟩ := info_parts (show (Try.prog.info? 31).map (fun i => (i.zero, i.size, i.bytes)) = some (some (.float .f64 0), 1, 8) by kernel_rfl)
  have HI := Lib.hid hi
  have HZ0 := Lib.hid hz0
  have HZ1 := Lib.hid hz1
  have HZ2 := Lib.hid hz2
  have HF := Lib.hid h
  have HX := Lib.hid (fl_lt h)
  have HL := Lib.hid (show xs.length ≤ 17592186044416 by omega)
  clear hi hz0 hz1 hz2 h hl
  go_enter Try.func18, Try.ntmps18
  go_wp2_with fail
  go_loopw [4, 9] (fun r i wr => ∃ k : Nat, k ≤ xs.length ∧ i = .int .i64 k ∧ Hid (wr.ownsRow w.heap.size 31 1 r (fins (xs.take k)).length (f64s (fins (xs.take k)))) ∧ Hid (RowKit.Below w.heap.size w wr)) (fun _ i _ => xs.length - (intOf i).toNat)
  case atStart => exact ⟨0, Nat.zero_le _, rfl, Lib.hid (World.ownsRow_nil _ _ _ _), Lib.hid (Below.refl _ _)⟩
  case round =>
    obtain ⟨k, hk, rfl, HO, HW⟩ := hrel
    by_cases hlt : k < xs.length
    · have hl3 := HL.out
      obtain ⟨x, hx⟩ := NumP.at_ hlt
      obtain ⟨ad, rfl, hc, hb⟩ := (HF.out.below HW.out) k x hx
      have HS := Lib.hid (fins_step hx)
      have HB := Lib.hid hb
      clear hx hb
      by_cases hnan : mag x ≤ 9218868437227405312
      · have HM := Lib.hid hnan
        cases hf : fin x with
        | true =>
          have HI2 : ∀ W, Calls Try.prog 31 #[.float .f64 x, .int .i64 0] W fun e w' => e = .returned (.bool false) ∧ w' = W := fun W => by have := isinf_any x HB.out HM.out W; rw [hf] at this; exact this
          have HN : Hid (fins (xs.take (k + 1)) = fins (xs.take k) ++ [x]) := Lib.hid (by rw [HS.out, hf]; rfl)
          clear hf HS hnan
          go_wp2_with (first | (go_at_call 30; refine (isnan_no _ HM.out _).mono ?_; rintro e w' ⟨rfl, rfl⟩) | (go_at_call 31; refine (HI2 _).mono ?_; rintro e w' ⟨rfl, rfl⟩) | (at_builtin; refine wpList_append_own _ rfl _ _ 30 rfl w.heap.size 31 i0 (.float .f64 0) 1 8 Try.underlying30 HI.out HZ0.out HZ1.out HZ2.out rfl (by decide) _ _ _ rfl (HO.out.alloc _) _ 1 1 [.float .f64 x] rfl rfl ?c1 ?c2 ?c3 ?c4 ?c5 ?_))
          case c1 => exact (cell_one_new _ _ _)
          case c2 => intro u hu; simp at hu; subst hu; rfl
          case c3 => unfold maxLen; have := HL.out; have := fins_len xs k hk; omega
          case c4 => have := HL.out; have := fins_len xs k hk; omega
          case c5 => rw [World.size_alloc]; exact Nat.le_succ_of_le HW.out.size
          intro v' w6 hown2 hgrow _
          rw [← f64s_snoc] at hown2
          have HN1 : Hid (w6.ownsRow w.heap.size 31 1 v' (fins (xs.take (k + 1))).length (f64s (fins (xs.take (k + 1))))) := Lib.hid (by rw [HN.out, List.length_append]; exact hown2)
          have HW6 : Hid (RowKit.Below w.heap.size w w6) := Lib.hid ((HW.out.alloc HW.out.size _).grown hgrow (by rw [World.size_alloc]; exact Nat.le_succ_of_le HW.out.size) (fun p hp => (HO.out.lt p hp).1))
          clear hown2 hgrow
          go_wp2_with fail
          go_roundw
          case rel => exact ⟨k + 1, by omega, by go_num, HN1, HW6⟩
          case measure => simp [intOf]; omega
        | false =>
          have HI2 : ∀ W, Calls Try.prog 31 #[.float .f64 x, .int .i64 0] W fun e w' => e = .returned (.bool true) ∧ w' = W := fun W => by have := isinf_any x HB.out HM.out W; rw [hf] at this; exact this
          have HN : Hid (fins (xs.take (k + 1)) = fins (xs.take k)) := Lib.hid (by rw [HS.out, hf]; rfl)
          clear hf HS hnan
          go_wp2_with (first | (go_at_call 30; refine (isnan_no _ HM.out _).mono ?_; rintro e w' ⟨rfl, rfl⟩) | (go_at_call 31; refine (HI2 _).mono ?_; rintro e w' ⟨rfl, rfl⟩))
          go_roundw
          case rel => exact ⟨k + 1, by omega, by go_num, by rw [HN.out]; exact HO, HW⟩
          case measure => simp [intOf]; omega
      · have HN : Hid (fins (xs.take (k + 1)) = fins (xs.take k)) := Lib.hid (by rw [HS.out, show fin x = false from fin_false.2 (by omega)]; rfl)
        have HM := Lib.hid hnan
        clear HS hnan
        go_wp2_with (first | (go_at_call 30; refine (isnan_yes _ HM.out _).mono ?_; rintro e w' ⟨rfl, rfl⟩))
        go_roundw
        case rel => exact ⟨k + 1, by omega, by go_num, by rw [HN.out]; exact HO, HW⟩
        case measure => simp [intOf]; omega
    · obtain rfl : k = xs.length := by omega
      rw [List.take_length] at HO
      obtain ⟨A2, c2, rfl, hfl, -⟩ := own_fl HO.out (fins_lt HX.out)
      have HFL := Lib.hid hfl
      have hll : (fins xs).length ≤ 17592186044416 := by have := HL.out; have := fins_len xs xs.length (Nat.le_refl _); rw [List.take_length] at this; omega
      clear hfl hlt
      by_cases h0 : (fins xs).length = 0
      · have HZ : Hid (fins xs = []) := Lib.hid (List.eq_nil_of_length_eq_zero h0)
        clear hll
        go_wp2_with fail
        go_ret2
        exact ⟨by unfold ratesV meanR; rw [HZ.out]; rfl, HW.out⟩
      · have HD := Lib.hid (mean_some (show 0 < (fins xs).length by omega) (show (fins xs).length < 9007199254740992 by omega)).1
        have m : ∀ w, (binOp .quo 31 (.float .f64 (sumR xs)) (.float .f64 (floatOfInt .f64 ((fins xs).length : Int)))).run Try.prog w = .ok (.float .f64 (meanR xs)) w := fun w => run_float_arith w _ _ _ _ _ _ HD.out
        have HSum := fun W hW => sum_any A2 c2 (fins xs) W hW (by unfold maxLen; omega)
        rw [sumN_fins] at HSum
        have hz : ¬ ((fins xs).length : Int) = 0 := by omega
        generalize sumR xs = sr at *
        clear h0 hll HD
        go_wp2_with (go_at_call 32; refine (HSum _ HFL.out).mono ?_; rintro e w2 ⟨rfl, n, rfl⟩)
        go_ret2
        exact ⟨rfl, ⟨HW.out.os, HW.out.tape, HW.out.output, HW.out.size, HW.out.block⟩⟩
/-- The document's answer. -/
def refRatesV (xs : List Nat) : Value := .tuple #[.int .u64 (meanR xs : Int), .int .i64 ((fins xs).length : Int)]
/-- What a walk holds of the sum so far. -/
def RSum (xs : List Nat) (s : Nat) : Prop := sumO (fins xs) = some s ∧ mag s ≤ 9218868437227405312 ∧ s < 18446744073709551616
theorem RSum.next {xs : List Nat} {k x s r : Nat} (h : RSum (xs.take k) s) (hx : fins (xs.take (k + 1)) = fins (xs.take k) ++ [x]) (hr : FloatKind.f64.format.add s x = some r) (h1 : mag r ≤ 9218868437227405312) (h2 : r < 18446744073709551616) : RSum (xs.take (k + 1)) r := by
  refine ⟨?_, h1, h2⟩
  rw [hx]
  unfold sumO
  rw [List.foldl_append, show (fins (xs.take k)).foldl sumF (some 0) = some s from h.1]
  exact hr
theorem RSum.done {xs : List Nat} {s : Nat} (h : RSum xs s) : s = sumR xs := by
  unfold sumR; rw [h.1]; rfl
theorem mean_one (xs : List Nat) (h1 : (fins xs).length < 9007199254740992) : oneN (meanR xs) = meanR xs := by
  rcases Nat.eq_zero_or_pos (fins xs).length with h | h
  · unfold meanR
    rw [if_pos (List.eq_nil_of_length_eq_zero h)]; rfl
  · exact one_num _ (by have := (mean_some h h1).2.1; omega)
set_option maxHeartbeats 1000000 in
set_option maxRecDepth 100000 in
theorem refRates_any (A : Option Addr) (c : Nat) (xs : List Nat) (w : World) (h : FL w A xs) (hl : xs.length * 8 ≤ 140737488355328) :
    Calls Try.prog 19 #[.slice A xs.length c] w fun e w' => e = .returned (refRatesV xs) ∧ w' = w := by
  have HF := Lib.hid h
  have HL := Lib.hid (show xs.length ≤ 17592186044416 by omega)
  clear h hl
  go_enter Try.func19, Try.ntmps19
  go_wp2_with fail
  go_loopw [4, 5, 6] (fun s n i wr => ∃ k sv nv : Nat, k ≤ xs.length ∧ s = .float .f64 sv ∧ n = .int .i64 nv ∧ i = .int .i64 k ∧ wr = w ∧ Hid (RSum (xs.take k) sv) ∧ Hid (nv = (fins (xs.take k)).length)) (fun _ _ i _ => xs.length - (intOf i).toNat)
  case atStart => exact ⟨0, 0, 0, Nat.zero_le _, rfl, rfl, rfl, rfl, Lib.hid ⟨rfl, by decide, by decide⟩, Lib.hid rfl⟩
  case round =>
    obtain ⟨k, sv, nv, hk, rfl, rfl, rfl, rfl, HR, HN⟩ := hrel
    by_cases hlt : k < xs.length
    · have hl3 := HL.out
      obtain ⟨x, hx⟩ := NumP.at_ hlt
      obtain ⟨ad, rfl, hc, hb⟩ := HF.out k x hx
      have HS := Lib.hid (fins_step hx)
      have HB := Lib.hid hb
      have HK := Lib.hid (fin_kind x)
      have hnv : (nv : Int) ≤ 17592186044416 := by have := fins_len xs k hk; have := HN.out; omega
      clear hx hb
      cases hf : fin x with
      | true =>
        obtain ⟨r, hr, h1, h2⟩ := add_ok HR.out.2.1 (fin_true.1 hf)
        have hS2 : fins (xs.take (k + 1)) = fins (xs.take k) ++ [x] := by rw [HS.out, hf]; rfl
        have HN1 := Lib.hid (HR.out.next hS2 hr h1 h2)
        have HN2 : Hid (nv + 1 = (fins (xs.take (k + 1))).length) := Lib.hid (by rw [hS2, List.length_append, HN.out]; rfl)
        have m : ∀ w, (binOp .add 31 (.float .f64 sv) (.float .f64 x)).run Try.prog w = .ok (.float .f64 r) w := fun w => run_float_arith w _ _ _ _ _ _ hr
        obtain ⟨t1, t2⟩ := HK.out.1 hf
        clear hf HS hS2 hr h1 h2 HR HN HK
        go_wp2_with (go_at_call 33; refine (refKind_any _ HB.out _).mono ?_; rintro e w' ⟨rfl, rfl⟩)
        go_roundw
        case rel => exact ⟨k + 1, r, nv + 1, by omega, rfl, by go_num, by go_num, trivial, HN1, HN2⟩
        case measure => simp [intOf]; omega
      | false =>
        have hS2 : fins (xs.take (k + 1)) = fins (xs.take k) := by rw [HS.out, hf]; rfl
        have HN1 : Hid (RSum (xs.take (k + 1)) sv) := Lib.hid (by unfold RSum; rw [hS2]; exact HR.out)
        have HN2 : Hid (nv = (fins (xs.take (k + 1))).length) := Lib.hid (by rw [hS2]; exact HN.out)
        have hkd : ¬ (1 < kind x ∧ kind x < 8) := fun h => by have := HK.out.2 h; rw [hf] at this; cases this
        clear hf HS hS2 HR HN HK
        by_cases t1 : 1 < kind x
        · have t2 : ¬ kind x < 8 := fun h => hkd ⟨t1, h⟩
          clear hkd
          go_wp2_with (go_at_call 33; refine (refKind_any _ HB.out _).mono ?_; rintro e w' ⟨rfl, rfl⟩)
          go_roundw
          case rel => exact ⟨k + 1, sv, nv, by omega, rfl, rfl, by go_num, trivial, HN1, HN2⟩
          case measure => simp [intOf]; omega
        · clear hkd
          go_wp2_with (go_at_call 33; refine (refKind_any _ HB.out _).mono ?_; rintro e w' ⟨rfl, rfl⟩)
          go_roundw
          case rel => exact ⟨k + 1, sv, nv, by omega, rfl, rfl, by go_num, trivial, HN1, HN2⟩
          case measure => simp [intOf]; omega
    · obtain rfl : k = xs.length := by omega
      rw [List.take_length] at HR HN
      have hs := HR.out.done
      have hll : (fins xs).length ≤ 17592186044416 := by have := HL.out; have := fins_len xs xs.length (Nat.le_refl _); rw [List.take_length] at this; omega
      have hn := HN.out
      subst hs
      subst hn
      clear hlt HR HN
      by_cases h0 : (fins xs).length = 0
      · have HZ : Hid (fins xs = []) := Lib.hid (List.eq_nil_of_length_eq_zero h0)
        clear hll
        go_wp2_with fail
        go_ret2
        exact ⟨by unfold refRatesV meanR; rw [HZ.out]; rfl, rfl⟩
      · have HD := Lib.hid (mean_some (show 0 < (fins xs).length by omega) (show (fins xs).length < 9007199254740992 by omega))
        have m : ∀ w, (binOp .quo 31 (.float .f64 (sumR xs)) (.float .f64 (floatOfInt .f64 ((fins xs).length : Int)))).run Try.prog w = .ok (.float .f64 (meanR xs)) w := fun w => run_float_arith w _ _ _ _ _ _ HD.out.1
        have HO : ∀ W, Calls Try.prog 34 #[.float .f64 (meanR xs)] W fun e w' => e = .returned (.int .u64 (meanR xs : Int)) ∧ W = w' := fun W => by have := refOne_any (meanR xs) HD.out.2.2 W; rw [mean_one xs (by omega)] at this; exact this
        have hz : ¬ ((fins xs).length : Int) = 0 := by omega
        clear h0 hll HD
        have HV : Hid (refRatesV xs = .tuple #[.int .u64 (meanR xs : Int), .int .i64 ((fins xs).length : Int)]) := Lib.hid rfl
        generalize sumR xs = sr at *
        go_wp2_with (go_at_call 34; refine (HO _).mono ?_; rintro e w2 ⟨rfl, rfl⟩)
        go_ret2
        exact ⟨by rw [HV.out]; rfl, rfl⟩
end Go.Proofs.Ytelfbjldfdlpnaa.MeanW
