/- The law ClockPlays: every answer of every script of a clock is as the document says: for all starts and scripts. No condition. -/
import Derived.Test.YtmpceabhnhipcaaClockLay
import Derived.Test.YtmpceabhnhipcaaRow3
namespace Go.Proofs.Ytmpceabhnhipcaa.ClockW.ClockPlays
open Go.ChangeShapes Go.WideShapes Go.ChangeAt Go.RowKit TickW ClockW Shell
abbrev rk (x y z : Int) : Obj := .cells #[.int .i64 x, .int .i64 y, .int .i64 z] 31 (0, 0)
abbrev op (x y z : Int) : Obj := .cells #[.int .i64 x, .int .i64 y, .int .i64 z] 33 (0, 0)
theorem okN_false {t b r : Int} (h : okN t b r = false) : (okT t = false) ∨ (okT t = true ∧ okB b = false) ∨ (okT t = true ∧ okB b = true ∧ okR r = false) := by
  unfold okN at h
  cases h1 : okT t with
  | false => exact Or.inl rfl
  | true =>
    cases h2 : okB b with
    | false => exact Or.inr (Or.inl ⟨rfl, rfl⟩)
    | true => rw [h1, h2] at h; exact Or.inr (Or.inr ⟨rfl, rfl, h⟩)
theorem frozen3 {w : World} {j : Nat} {x y z : Value} {t : TypeId} (h : w.heap[j]? = some (.cells #[x, y, z] t (0, 0))) : w.frozen? ⟨j, 0, none⟩ = false ∧ w.frozen? ⟨j, 1, none⟩ = false ∧ w.frozen? ⟨j, 2, none⟩ = false :=
  ⟨frozen_of_row w j 0 _ _ h, frozen_of_row w j 1 _ _ h, frozen_of_row w j 2 _ _ h⟩
theorem put3 {w : World} {k : Nat} {m b r : Int} (h : w.heap[k]? = some (rk m b r)) (x y z : Int) : (((w.setCell ⟨k, 0, none⟩ (.int .i64 x)).setCell ⟨k, 1, none⟩ (.int .i64 y)).setCell ⟨k, 2, none⟩ (.int .i64 z)).heap[k]? = some (rk x y z) :=
  heap_setCell_same _ k 2 _ _ _ (heap_setCell_same _ k 1 _ _ _ (heap_setCell_same w k 0 _ _ _ h))
set_option maxHeartbeats 8000000 in
set_option maxRecDepth 100000 in
theorem walk (m b r : Int) (A : Option Addr) (ops : List (List Int)) (c : Nat) (w : World) (hA : RL w [.i64, .i64, .i64] A ops) (hl : ops.length ≤ 5864062014806) :
    Calls Try.prog 3 #[.agg #[.int .i64 m, .int .i64 b, .int .i64 r], .slice A ops.length c] w fun e w' => e = .returned (.bool true) ∧ Below w.heap.size w w' := by
  have S0 := (Stay.start w).alloc (arr3 m b r)
  have HA := Lib.hid hA
  go_enter Try.func3, Try.ntmps3
  go_wp2_with fail
  generalize w.alloc (Obj.cells #[.int .i64 m, .int .i64 b, .int .i64 r] 22) = W0 at *
  refine (fixed_any _).mono ?_
  rintro e w1 ⟨rfl, b1⟩
  have S1 := Lib.hid (S0.next b1)
  obtain ⟨a0, a1, a2⟩ := cells3 (S1.out.at 0 rfl)
  clear S0 b1 hA
  cases ho : okN m b r with
  | false =>
    go_wp2_with fail
    refine (new_bad m b r ho _).mono ?_
    rintro e w' ⟨rfl, rfl⟩
    rcases okN_false ho with h1 | ⟨h1, h2⟩ | ⟨h1, h2, h3⟩
    · go_wp2_with (first
        | (go_at_call 11; refine (real_any _ _).mono ?_; rintro e w' ⟨rfl, rfl⟩; rw [h1]))
      go_ret
      exact ⟨rfl, S1.out.b⟩
    · go_wp2_with (first
        | (go_at_call 11; refine (real_any _ _).mono ?_; rintro e w' ⟨rfl, rfl⟩; rw [h1])
        | (go_at_call 12; refine (shown_any _ _).mono ?_; rintro e w' ⟨rfl, rfl⟩; rw [h2]))
      go_ret
      exact ⟨rfl, S1.out.b⟩
    · go_wp2_with (first
        | (go_at_call 11; refine (real_any _ _).mono ?_; rintro e w' ⟨rfl, rfl⟩; rw [h1])
        | (go_at_call 12; refine (shown_any _ _).mono ?_; rintro e w' ⟨rfl, rfl⟩; rw [h2])
        | (go_at_call 13; refine (fast_any _ _).mono ?_; rintro e w' ⟨rfl, rfl⟩; rw [h3]))
      go_ret
      exact ⟨rfl, S1.out.b⟩
  | true =>
    have hci := Lib.hid (okN_iff.1 ho).1
    have ho' := ho
    unfold okN at ho'
    rw [Bool.and_eq_true, Bool.and_eq_true] at ho'
    obtain ⟨h1, h2, h3⟩ := ho'
    go_wp2_with fail
    refine (new_ok m b r ho _).mono ?_
    rintro e w2 ⟨rfl, c2, b2⟩
    have S2 := Lib.hid ((S1.out.next b2).add (o := ck m b r) c2)
    have NK := Lib.hid (show w.heap.size < w1.heap.size from lt_of_heap (S1.out.at 0 rfl))
    generalize hk : w1.heap.size = k at *
    clear S1 a0 a1 a2 b2 c2 hk
    obtain ⟨a0, a1, a2⟩ := cells3 (S2.out.at 1 rfl)
    go_upto_region 9 with (first
      | (go_at_call 11; refine (real_any _ _).mono ?_; rintro e w' ⟨rfl, rfl⟩; rw [h1])
      | (go_at_call 12; refine (shown_any _ _).mono ?_; rintro e w' ⟨rfl, rfl⟩; rw [h2])
      | (go_at_call 13; refine (fast_any _ _).mono ?_; rintro e w' ⟨rfl, rfl⟩; rw [h3]))
    have S3 := Lib.hid ((S2.out.alloc (rk m b r)).sub (M := [(k, ck m b r), (w2.heap.size, rk m b r), (w.heap.size, arr3 m b r)]) (by simp))
    have NG := Lib.hid (show k < w2.heap.size from lt_of_heap (S2.out.at 0 rfl))
    generalize w2.alloc (Obj.cells #[.int .i64 m, .int .i64 b, .int .i64 r] 31) = W3 at *
    generalize hg : w2.heap.size = g at *
    clear S2 a0 a1 a2 hg h1 h2 h3 ho
    go_wp2_with fail
    go_loopw [66] (fun iv wr => ∃ (j : Nat) (m' b' r' : Int), iv = .int .i64 j ∧ j ≤ ops.length ∧ Hid (CI m' b' r') ∧ Hid (Stay w [(k, ck m' b' r'), (g, rk m' b' r'), (w.heap.size, arr3 m b r)] wr)) (fun iv _ => ops.length - (intOf iv).toNat)
    case atStart => exact ⟨0, m, b, r, rfl, Nat.zero_le _, hci, S3⟩
    case round =>
      clear S3 hci
      obtain ⟨j, m', b', r', rfl, hj, HC, HS⟩ := hrel
      by_cases hjl : j < ops.length
      · obtain ⟨xs, hx⟩ : ∃ xs, ops[j]? = some xs := ⟨_, List.getElem?_eq_getElem hjl⟩
        obtain ⟨blk, off, x, t, q, rfl, rfl, e0, e1, e2, wx, wt, wq⟩ := (HA.out.below HS.out.b).row3 hx
        clear hx wx wt wq
        have S4 := Lib.hid ((HS.out.alloc (op x t q)).sub (M := [(k, ck m' b' r'), (g, rk m' b' r'), (wr.heap.size, op x t q), (w.heap.size, arr3 m b r)]) (by simp))
        have NP := Lib.hid (show g < wr.heap.size from lt_of_heap (HS.out.at 1 rfl))
        go_upto_region 12 with (fail)
        generalize wr.alloc (Obj.cells #[.int .i64 x, .int .i64 t, .int .i64 q] 33) = W4 at *
        generalize hp : wr.heap.size = p at *
        clear HS hp e0 e1 e2
        obtain ⟨p0, p1, p2⟩ := cells3 (S4.out.at 2 rfl)
        by_cases x1 : x = 1
        · subst x1
          cases ht : tell m' t with
          | false =>
            go_wp2_with fail
            refine (now_bad k m' b' r' t _ (S4.out.at 0 rfl) ht).mono ?_
            rintro e w' ⟨rfl, rfl⟩
            obtain ⟨g0, g1, g2⟩ := cells3 (S4.out.at 1 rfl)
            go_wp2_with fail
            refine (refNow_bad m' b' r' t _ ht).mono ?_
            rintro e w5 ⟨rfl, b5⟩
            have S5 := Lib.hid (S4.out.next b5)
            clear g0 g1 g2 b5
            clear p0 p1 p2 S4
            obtain ⟨p0, p1, p2⟩ := cells3 (S5.out.at 2 rfl)
            obtain ⟨g0, g1, g2⟩ := cells3 (S5.out.at 1 rfl)
            go_wp2_with fail
            refine (mark_any k m' b' r' _ (S5.out.at 0 rfl)).mono ?_
            rintro e wm ⟨rfl, bm⟩
            have SM := Lib.hid (S5.out.next bm)
            obtain ⟨z0, z1, z2⟩ := cells3 (SM.out.at 1 rfl)
            go_wp2
            go_roundw
            case rel => exact ⟨j + 1, m', b', r', by simp, by omega, HC, Lib.hid (SM.out.sub (by simp))⟩
            case measure => simp only [intOf]; omega
          | true =>
            have N := fun W h => now_ok k m' b' r' t W h HC.out ht
            have R := fun W => refNow_ok m' b' r' t W HC.out ht
            generalize sh m' b' r' t = z at *
            have HN := Lib.hid N
            have HR := Lib.hid R
            clear N R
            go_wp2_with fail
            refine (HN.out _ (S4.out.at 0 rfl)).mono ?_
            rintro e w5 ⟨rfl, b5⟩
            have S5 := Lib.hid (S4.out.next b5)
            clear b5
            clear p0 p1 p2 S4
            obtain ⟨p0, p1, p2⟩ := cells3 (S5.out.at 2 rfl)
            obtain ⟨g0, g1, g2⟩ := cells3 (S5.out.at 1 rfl)
            go_wp2_with fail
            refine (HR.out _).mono ?_
            rintro e w6 ⟨rfl, b6⟩
            have S6 := Lib.hid (S5.out.next b6)
            clear g0 g1 g2 b6
            clear p0 p1 p2 S5
            obtain ⟨p0, p1, p2⟩ := cells3 (S6.out.at 2 rfl)
            obtain ⟨g0, g1, g2⟩ := cells3 (S6.out.at 1 rfl)
            go_wp2_with fail
            refine (mark_any k m' b' r' _ (S6.out.at 0 rfl)).mono ?_
            rintro e wm ⟨rfl, bm⟩
            have SM := Lib.hid (S6.out.next bm)
            obtain ⟨z0, z1, z2⟩ := cells3 (SM.out.at 1 rfl)
            go_wp2
            go_roundw
            case rel => exact ⟨j + 1, m', b', r', by simp, by omega, HC, Lib.hid (SM.out.sub (by simp))⟩
            case measure => simp only [intOf]; omega
        · by_cases x2 : x = 2
          · subst x2
            cases ht : (tell m' t && okR q) with
            | false =>
              go_wp2_with fail
              refine (rate_bad k m' b' r' t q _ (S4.out.at 0 rfl) ht).mono ?_
              rintro e w' ⟨rfl, rfl⟩
              obtain ⟨g0, g1, g2⟩ := cells3 (S4.out.at 1 rfl)
              obtain ⟨f0, f1, f2⟩ := frozen3 (S4.out.at 1 rfl)
              go_wp2_with fail
              refine (refRate_bad m' b' r' t q _ ht).mono ?_
              unfold RV
              rintro e w5 ⟨rfl, b5⟩
              have S5 := Lib.hid (S4.out.next b5)
              clear g0 g1 g2 f0 f1 f2 b5
              clear p0 p1 p2 S4
              obtain ⟨p0, p1, p2⟩ := cells3 (S5.out.at 2 rfl)
              obtain ⟨g0, g1, g2⟩ := cells3 (S5.out.at 1 rfl)
              obtain ⟨f0, f1, f2⟩ := frozen3 (S5.out.at 1 rfl)
              have P5 := put3 (S5.out.at 1 rfl) m' b' r'
              have S6 := Lib.hid ((S5.out.sub (M := [(g, rk m' b' r'), (k, ck m' b' r'), (p, op 2 t q), (w.heap.size, arr3 m b r)]) (by simp)).turn (kept3 (Below.refl _ _) (lt_of_heap (S5.out.at 1 rfl)) _ _ _) P5 (by have := NK.out; have := NG.out; omega) (by have := NK.out; have := NG.out; have := NP.out; simp; omega))
              have S6' := Lib.hid (S6.out.sub (M := [(k, ck m' b' r'), (g, rk m' b' r'), (p, op 2 t q), (w.heap.size, arr3 m b r)]) (by simp))
              clear P5
              go_wp2_with fail
              refine (mark_any k m' b' r' _ (S6'.out.at 0 rfl)).mono ?_
              rintro e wm ⟨rfl, bm⟩
              have SM := Lib.hid (S6'.out.next bm)
              obtain ⟨z0, z1, z2⟩ := cells3 (SM.out.at 1 rfl)
              go_wp2
              go_roundw
              case rel => exact ⟨j + 1, m', b', r', by simp, by omega, HC, Lib.hid (SM.out.sub (by simp))⟩
              case measure => simp only [intOf]; omega
            | true =>
              obtain ⟨k1, k2⟩ := Bool.and_eq_true_iff.1 ht
              have HT := tell_iff.1 k1
              have HC2 := Lib.hid (HC.out.next HT.2 HT.1.2 (okR_iff.1 k2).1 (okR_iff.1 k2).2)
              have N := fun W h => rate_ok k m' b' r' t q W h HC.out k1 k2
              have R := fun W => refRate_ok m' b' r' t q W HC.out k1 k2
              generalize sh m' b' r' t = z at *
              have HN := Lib.hid N
              have HR := Lib.hid R
              clear N R HT k1 k2 ht
              go_wp2_with fail
              refine (HN.out _ (S4.out.at 0 rfl)).mono ?_
              rintro e w5 ⟨rfl, c5, b5⟩
              have S5 := Lib.hid (S4.out.turn b5 (o' := ck t z q) c5 (by have := NK.out; omega) (by have := NK.out; have := NG.out; have := NP.out; simp; omega))
              clear b5 c5
              clear p0 p1 p2 S4
              obtain ⟨p0, p1, p2⟩ := cells3 (S5.out.at 2 rfl)
              obtain ⟨g0, g1, g2⟩ := cells3 (S5.out.at 1 rfl)
              go_wp2_with fail
              refine (HR.out _).mono ?_
              unfold RV
              rintro e w6 ⟨rfl, b6⟩
              have S6 := Lib.hid (S5.out.next b6)
              clear g0 g1 g2 b6
              clear p0 p1 p2 S5
              obtain ⟨p0, p1, p2⟩ := cells3 (S6.out.at 2 rfl)
              obtain ⟨g0, g1, g2⟩ := cells3 (S6.out.at 1 rfl)
              obtain ⟨f0, f1, f2⟩ := frozen3 (S6.out.at 1 rfl)
              have P6 := put3 (S6.out.at 1 rfl) t z q
              have S7 := Lib.hid ((S6.out.sub (M := [(g, rk m' b' r'), (k, ck t z q), (p, op 2 t q), (w.heap.size, arr3 m b r)]) (by simp)).turn (kept3 (Below.refl _ _) (lt_of_heap (S6.out.at 1 rfl)) _ _ _) P6 (by have := NK.out; have := NG.out; omega) (by have := NK.out; have := NG.out; have := NP.out; simp; omega))
              have S7' := Lib.hid (S7.out.sub (M := [(k, ck t z q), (g, rk t z q), (p, op 2 t q), (w.heap.size, arr3 m b r)]) (by simp))
              clear P6
              go_wp2_with fail
              refine (mark_any k t z q _ (S7'.out.at 0 rfl)).mono ?_
              rintro e wm ⟨rfl, bm⟩
              have SM := Lib.hid (S7'.out.next bm)
              obtain ⟨z0, z1, z2⟩ := cells3 (SM.out.at 1 rfl)
              go_wp2
              go_roundw
              case rel => exact ⟨j + 1, t, z, q, by simp, by omega, HC2, Lib.hid (SM.out.sub (by simp))⟩
              case measure => simp only [intOf]; omega
          · by_cases x3 : x = 3
            · subst x3
              cases ht : (tell m' t && okB q) with
              | false =>
                go_wp2_with fail
                refine (set_bad k m' b' r' t q _ (S4.out.at 0 rfl) ht).mono ?_
                rintro e w' ⟨rfl, rfl⟩
                obtain ⟨g0, g1, g2⟩ := cells3 (S4.out.at 1 rfl)
                obtain ⟨f0, f1, f2⟩ := frozen3 (S4.out.at 1 rfl)
                go_wp2_with fail
                refine (refSet_bad m' b' r' t q _ ht).mono ?_
                unfold RV
                rintro e w5 ⟨rfl, b5⟩
                have S5 := Lib.hid (S4.out.next b5)
                clear g0 g1 g2 f0 f1 f2 b5
                clear p0 p1 p2 S4
                obtain ⟨p0, p1, p2⟩ := cells3 (S5.out.at 2 rfl)
                obtain ⟨g0, g1, g2⟩ := cells3 (S5.out.at 1 rfl)
                obtain ⟨f0, f1, f2⟩ := frozen3 (S5.out.at 1 rfl)
                have P5 := put3 (S5.out.at 1 rfl) m' b' r'
                have S6 := Lib.hid ((S5.out.sub (M := [(g, rk m' b' r'), (k, ck m' b' r'), (p, op 3 t q), (w.heap.size, arr3 m b r)]) (by simp)).turn (kept3 (Below.refl _ _) (lt_of_heap (S5.out.at 1 rfl)) _ _ _) P5 (by have := NK.out; have := NG.out; omega) (by have := NK.out; have := NG.out; have := NP.out; simp; omega))
                have S6' := Lib.hid (S6.out.sub (M := [(k, ck m' b' r'), (g, rk m' b' r'), (p, op 3 t q), (w.heap.size, arr3 m b r)]) (by simp))
                clear P5
                go_wp2_with fail
                refine (mark_any k m' b' r' _ (S6'.out.at 0 rfl)).mono ?_
                rintro e wm ⟨rfl, bm⟩
                have SM := Lib.hid (S6'.out.next bm)
                obtain ⟨z0, z1, z2⟩ := cells3 (SM.out.at 1 rfl)
                go_wp2
                go_roundw
                case rel => exact ⟨j + 1, m', b', r', by simp, by omega, HC, Lib.hid (SM.out.sub (by simp))⟩
                case measure => simp only [intOf]; omega
              | true =>
                obtain ⟨k1, k2⟩ := Bool.and_eq_true_iff.1 ht
                have HT := tell_iff.1 k1
                have HC2 := Lib.hid (show CI t q r' from ⟨HT.1.1, HT.1.2, (okB_iff.1 k2).1, by have := (okB_iff.1 k2).2; omega, HC.out.r0, HC.out.r1⟩)
                have N := fun W h => set_ok k m' b' r' t q W h k1 k2
                have R := fun W => refSet_ok m' b' r' t q W k1 k2
                have HN := Lib.hid N
                have HR := Lib.hid R
                clear N R HT k1 k2 ht
                go_wp2_with fail
                refine (HN.out _ (S4.out.at 0 rfl)).mono ?_
                rintro e w5 ⟨rfl, c5, b5⟩
                have S5 := Lib.hid (S4.out.turn b5 (o' := ck t q r') c5 (by have := NK.out; omega) (by have := NK.out; have := NG.out; have := NP.out; simp; omega))
                clear b5 c5
                clear p0 p1 p2 S4
                obtain ⟨p0, p1, p2⟩ := cells3 (S5.out.at 2 rfl)
                obtain ⟨g0, g1, g2⟩ := cells3 (S5.out.at 1 rfl)
                go_wp2_with fail
                refine (HR.out _).mono ?_
                unfold RV
                rintro e w6 ⟨rfl, b6⟩
                have S6 := Lib.hid (S5.out.next b6)
                clear g0 g1 g2 b6
                clear p0 p1 p2 S5
                obtain ⟨p0, p1, p2⟩ := cells3 (S6.out.at 2 rfl)
                obtain ⟨g0, g1, g2⟩ := cells3 (S6.out.at 1 rfl)
                obtain ⟨f0, f1, f2⟩ := frozen3 (S6.out.at 1 rfl)
                have P6 := put3 (S6.out.at 1 rfl) t q r'
                have S7 := Lib.hid ((S6.out.sub (M := [(g, rk m' b' r'), (k, ck t q r'), (p, op 3 t q), (w.heap.size, arr3 m b r)]) (by simp)).turn (kept3 (Below.refl _ _) (lt_of_heap (S6.out.at 1 rfl)) _ _ _) P6 (by have := NK.out; have := NG.out; omega) (by have := NK.out; have := NG.out; have := NP.out; simp; omega))
                have S7' := Lib.hid (S7.out.sub (M := [(k, ck t q r'), (g, rk t q r'), (p, op 3 t q), (w.heap.size, arr3 m b r)]) (by simp))
                clear P6
                go_wp2_with fail
                refine (mark_any k t q r' _ (S7'.out.at 0 rfl)).mono ?_
                rintro e wm ⟨rfl, bm⟩
                have SM := Lib.hid (S7'.out.next bm)
                obtain ⟨z0, z1, z2⟩ := cells3 (SM.out.at 1 rfl)
                go_wp2
                go_roundw
                case rel => exact ⟨j + 1, t, q, r', by simp, by omega, HC2, Lib.hid (SM.out.sub (by simp))⟩
                case measure => simp only [intOf]; omega
            · by_cases x4 : x = 4
              · subst x4
                have M1 := HC.out.m1
                by_cases hs : sh m' b' r' 1125899906842624 < q
                · have hb : ¬ q ≤ b' := by
                    have := sh_bounds HC.out M1
                    omega
                  have N := fun W h => when_none k m' b' r' q W h HC.out hb hs
                  have R := fun W => refWhen_none m' b' r' q W HC.out hs
                  have HN := Lib.hid N
                  have HR := Lib.hid R
                  clear N R hs hb M1
                  go_wp2_with fail
                  refine (HN.out _ (S4.out.at 0 rfl)).mono ?_
                  rintro e w5 ⟨rfl, b5⟩
                  have S5 := Lib.hid (S4.out.next b5)
                  clear b5
                  clear p0 p1 p2 S4
                  obtain ⟨p0, p1, p2⟩ := cells3 (S5.out.at 2 rfl)
                  obtain ⟨g0, g1, g2⟩ := cells3 (S5.out.at 1 rfl)
                  go_wp2_with fail
                  refine (HR.out _).mono ?_
                  rintro e w6 ⟨rfl, b6⟩
                  have S6 := Lib.hid (S5.out.next b6)
                  clear g0 g1 g2 b6
                  clear p0 p1 p2 S5
                  obtain ⟨p0, p1, p2⟩ := cells3 (S6.out.at 2 rfl)
                  obtain ⟨g0, g1, g2⟩ := cells3 (S6.out.at 1 rfl)
                  go_wp2_with fail
                  refine (mark_any k m' b' r' _ (S6.out.at 0 rfl)).mono ?_
                  rintro e wm ⟨rfl, bm⟩
                  have SM := Lib.hid (S6.out.next bm)
                  obtain ⟨z0, z1, z2⟩ := cells3 (SM.out.at 1 rfl)
                  go_wp2
                  go_roundw
                  case rel => exact ⟨j + 1, m', b', r', by simp, by omega, HC, Lib.hid (SM.out.sub (by simp))⟩
                  case measure => simp only [intOf]; omega
                · have R := fun W => refWhen_ok m' b' r' q W HC.out hs
                  have N : ∀ W, CK W k m' b' r' → Calls Try.prog 20 #[.pointer (some ⟨k, 0, none⟩), .int .i64 q] W fun e w' => e = .returned (.tuple #[.int .i64 (wh m' b' r' q), .int .i64 0]) ∧ Below W.heap.size W w' := fun W h => by
                    by_cases hb : q ≤ b'
                    · rw [wh_low hb]
                      exact (when_low k m' b' r' q W h hb).mono fun _ _ h => ⟨h.1, by rw [← h.2]; exact Below.refl _ _⟩
                    · exact when_ok k m' b' r' q W h HC.out hb hs
                  generalize wh m' b' r' q = z at *
                  have HN := Lib.hid N
                  have HR := Lib.hid R
                  clear N R hs M1
                  go_wp2_with fail
                  refine (HN.out _ (S4.out.at 0 rfl)).mono ?_
                  rintro e w5 ⟨rfl, b5⟩
                  have S5 := Lib.hid (S4.out.next b5)
                  clear b5
                  clear p0 p1 p2 S4
                  obtain ⟨p0, p1, p2⟩ := cells3 (S5.out.at 2 rfl)
                  obtain ⟨g0, g1, g2⟩ := cells3 (S5.out.at 1 rfl)
                  go_wp2_with fail
                  refine (HR.out _).mono ?_
                  rintro e w6 ⟨rfl, b6⟩
                  have S6 := Lib.hid (S5.out.next b6)
                  clear g0 g1 g2 b6
                  clear p0 p1 p2 S5
                  obtain ⟨p0, p1, p2⟩ := cells3 (S6.out.at 2 rfl)
                  obtain ⟨g0, g1, g2⟩ := cells3 (S6.out.at 1 rfl)
                  go_wp2_with fail
                  refine (mark_any k m' b' r' _ (S6.out.at 0 rfl)).mono ?_
                  rintro e wm ⟨rfl, bm⟩
                  have SM := Lib.hid (S6.out.next bm)
                  obtain ⟨z0, z1, z2⟩ := cells3 (SM.out.at 1 rfl)
                  go_wp2
                  go_roundw
                  case rel => exact ⟨j + 1, m', b', r', by simp, by omega, HC, Lib.hid (SM.out.sub (by simp))⟩
                  case measure => simp only [intOf]; omega
              · have y1 : (x == 1) = false := by simpa using x1
                have y2 : (x == 2) = false := by simpa using x2
                have y3 : (x == 3) = false := by simpa using x3
                have y4 : (x == 4) = false := by simpa using x4
                obtain ⟨g0, g1, g2⟩ := cells3 (S4.out.at 1 rfl)
                go_wp2_with fail
                refine (mark_any k m' b' r' _ (S4.out.at 0 rfl)).mono ?_
                rintro e wm ⟨rfl, bm⟩
                have SM := Lib.hid (S4.out.next bm)
                obtain ⟨z0, z1, z2⟩ := cells3 (SM.out.at 1 rfl)
                go_wp2
                go_roundw
                case rel => exact ⟨j + 1, m', b', r', by simp, by omega, HC, Lib.hid (SM.out.sub (by simp))⟩
                case measure => simp only [intOf]; omega
      · have ej : j = ops.length := by omega
        subst ej
        go_wp2
        go_ret
        exact ⟨rfl, HS.out.b⟩
set_option maxRecDepth 100000 in
/-- What the walk gives, for every argument and every world. -/
theorem contract (H : Type) (enc : TypeId × Value → H) (W : World) (base : Nat) (args : Array Value) (ds gs : List (DataW H)) (before : List MemPlace)
    (hval : ∀ (j : Nat) t v, Try.f3.params[j]? = some t → args[j]? = some v → Value.okWide Try.prog W .any base t v)
    (hW : DataW.Whole enc Try.prog Try.f3.params.toList Rows.clockPlaysSpec.vars false W args.toList ds gs before) (hz : (DataW.weightsEach Try.prog (Try.f3.params.toList ++ (OpenSpec.ofChange Rows.clockPlaysSpec).bare.plain.varTypes Try.prog) (ds ++ gs)).all (· ≤ reachBytes) = true) : 
    Calls Try.prog 3 args W fun e W' => ∃ v, e = .returned v ∧ Rows.clockPlaysSpec.post enc Try.prog Try.f3 false true false false W args v W' := by
  have hW' := hW
  obtain ⟨p, q, hA0, hV, rfl, hfz, hnd⟩ := hW
  have hA : DataW.TrodAll enc Try.prog W 0 (fun _ => true) true Try.f3.params.toList args.toList ds p := hA0
  rw [Try.params3] at hA hval
  obtain ⟨v0, vs0, d0, ds0, p0, q0, hargs, rfl, rfl, h0, r0⟩ := trodAll_cons hA
  obtain ⟨v1, vs1, d1, ds1, p1, q1, rfl, rfl, rfl, h1, r1⟩ := trodAll_cons r0
  obtain ⟨rfl, rfl, rfl⟩ := trodAll_nil r1
  obtain rfl : args = #[v0, v1] := by cases args; simp_all
  obtain ⟨rfl, rfl⟩ := trodVars_none hV
  obtain ⟨l0, rfl, hl0, w0⟩ := open_array Try.underlying22 Try.underlying2 (by kernel_rfl) (by kernel_rfl) (hval 0 22 v0 rfl rfl) h0
  obtain ⟨s0, s1, s2, rfl⟩ := len3 hl0
  have s0w := i64_wf (w0 s0 (by simp))
  have s1w := i64_wf (w0 s1 (by simp))
  have s2w := i64_wf (w0 s2 (by simp))
  obtain ⟨A1, ops, c1, rfl, f1, l1, lc1, sz1, nl1⟩ := open_rows (qs := [.i64, .i64, .i64]) Try.underlying23 Try.underlying33 (by kernel_rfl) rfl (fun i f q hf hq => by
    match i, hf, hq with
    | 0, hf, hq => simp at hf hq; subst hf; subst hq; exact ⟨rfl, by kernel_rfl, Try.underlying3⟩
    | 1, hf, hq => simp at hf hq; subst hf; subst hq; exact ⟨rfl, by kernel_rfl, Try.underlying2⟩
    | 2, hf, hq => simp at hf hq; subst hf; subst hq; exact ⟨rfl, by kernel_rfl, Try.underlying2⟩
    | n + 3, hf, hq => simp at hq) (hval 1 23 v1 rfl rfl) h1
  have z1 : ops.length * 24 ≤ 140737488351232 := by
    rcases sz1 with h | ⟨es, sp, hd, hl⟩
    · rw [h]; decide
    · have := sized_slice hz (j := 1) (t := 23) (e := 33) (elems := es) (spare := sp) (by rw [Try.params3]; rfl) (by rw [hd]; rfl) Try.underlying23
      rw [show Try.prog.bytesOf 33 = 24 by kernel_rfl, show reachBytes = 140737488351232 from rfl] at this
      omega
  refine (walk s0 s1 s2 A1 ops c1 W f1 (by omega)).mono fun e W' ⟨he, hb⟩ => ?_
  exact ⟨_, he, Shell.post_law laidOut (by kernel_rfl) rfl Try.underlying4 rfl hW' rfl hb⟩
theorem reads (os : Os) {H : Type} (enc : TypeId × Value → H) : ∃ places, DataW.whole enc Try.prog ((World.holding Try.prog os ⟨#[], #[], []⟩).forCall (fun _ _ => 0) ⟨#[], #[.agg #[.int .i64 0, .int .i64 0, .int .i64 0], .slice none 0 0], []⟩).memory Try.f3.params.toList Rows.clockPlaysSpec.vars false (#[Value.agg #[.int .i64 0, .int .i64 0, .int .i64 0], Value.slice none 0 0]).toList 8 = some ([.agg [.lit (.int .i64 0), .lit (.int .i64 0), .lit (.int .i64 0)], .nil], [], places) :=
  ⟨[], by kernel_rfl⟩
set_option maxRecDepth 100000 in
theorem lifted (os : Os) (started : os.Started) (H : Type) (enc : TypeId × Value → H) (F : Stop.Interp) :
    ReturnsInHanded {} Try.checked os 3 .any ((OpenSpec.ofChange Rows.clockPlaysSpec).preRow enc Try.prog Try.f3 Rows.clockPlaysRow.domain false Rows.clockPlaysRow.laid) (((OpenSpec.ofChange Rows.clockPlaysSpec).at F).post enc Try.prog Try.f3 false true false false) := by
  obtain ⟨places, hx⟩ := reads os enc
  refine returnsInHanded_of_row (C := Try.checked) (s := OpenSpec.ofChange Rows.clockPlaysSpec) own started (by kernel_rfl) Try.func3
    (witness_row_atRef (enc := enc) (C := Try.checked) false (World.holding Try.prog os ⟨#[], #[], []⟩) #[.agg #[.int .i64 0, .int .i64 0, .int .i64 0], .slice none 0 0] rfl (by kernel_rfl) (by kernel_rfl) (by kernel_rfl)
      (OpenSpec.preRow_of_cond 8 hx (by kernel_rfl) (fun k hk => by cases hk) (by kernel_rfl) (laid_met os _))) ?_
  intro W base args ds gs before hval hW _ _ hz hL _ _
  exact contract H enc W base args ds gs before hval hW hz
theorem said : Rows.ClockPlaysSaid :=
  OpenClaim.holds_of_cond 3 Try.f3 rfl rfl rfl rfl rfl rfl rfl ⟨rfl, rfl, rfl, rfl, rfl⟩ rfl rfl rfl rfl rfl (by kernel_rfl) Try.func3 (by kernel_rfl)
    (of_decide_eq_true (by kernel_rfl)) (by unfold Func.isWrapper; first | (rw [if_pos (by decide +kernel)]; kernel_rfl) | (rw [if_neg (by decide +kernel)]; exact ⟨rfl, rfl⟩))
    (fun os started H enc _ F => by rw [OpenClaim.pre_eq_preRow]; exact lifted os started H enc F)
end Go.Proofs.Ytmpceabhnhipcaa.ClockW.ClockPlays
