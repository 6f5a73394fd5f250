/- The document's own Add. -/
import Derived.Test.YtpjaijibkjmgiaaCompI
import Derived.Deep.RegionLaw
import Derived.Deep.RegionHeld3
namespace Go.Proofs.Ytpjaijibkjmgiaa.CompW
open Go.RowKit Shell
open FrameW (CV rightC refRightControl_any)
set_option maxHeartbeats 1000000 in
theorem refAdd_arg (A : Option Addr) (n cp : Nat) (d t k f y c l : Int) (hc : 0 ≤ c) (w : World) (h : okL t = false ∨ okH k f y c l = false) :
    Calls Try.prog 12 #[.slice A n cp, .int .i64 d, .int .i64 t, CV k f y c l] w fun e w' => e = .returned (.tuple #[.slice A n cp, .int .i64 0, .int .i64 1]) ∧ Below w.heap.size w w' := by
  have X := Lib.hid ((Stay.start w).alloc (cb k f y c l))
  obtain ⟨d0, d1, d2, d3, d4⟩ := FrameW.cells5 (X.out.at 0 rfl)
  by_cases h1 : t < -1125899906842624
  · clear h
    go_enter Try.func12, Try.ntmps12
    go_wp2
    go_ret3
    exact ⟨rfl, X.out.b⟩
  · by_cases h2 : 1125899906842624 < t
    · clear h
      go_enter Try.func12, Try.ntmps12
      go_wp2
      go_ret3
      exact ⟨rfl, X.out.b⟩
    · have hh : okH k f y c l = false := by
        rcases h with h | h
        · rw [okL_iff.2 (by omega)] at h; cases h
        · exact h
      clear h
      have R := fun W => refRightControl_any k f y c l W hc
      by_cases hr : rightC k f y c l
      · rw [decide_eq_true hr] at R
        have R := Lib.hid R
        by_cases hk : k = 1
        · have h5 : 5 < f := by
            by_cases h5 : f < 6
            · rw [okH_iff.2 ⟨hr, hk, h5⟩] at hh; cases hh
            · omega
          have e5 : (k != 1) = false := by rw [bne_eq_false_iff_eq]; exact hk
          clear hr hh hk
          go_enter Try.func12, Try.ntmps12
          go_wp2_with (go_at_call 25; refine (R.out _).mono ?_; rintro e w1 ⟨rfl, b1⟩; have X1 := Lib.hid (X.out.next b1); clear d0 d1 d2 d3 d4; obtain ⟨d0, d1, d2, d3, d4⟩ := FrameW.cells5 (X1.out.at 0 rfl); clear b1)
          go_ret3
          exact ⟨rfl, X1.out.b⟩
        · have e5 : (k != 1) = true := by rw [bne_iff_ne]; exact hk
          clear hr hh hk
          go_enter Try.func12, Try.ntmps12
          go_wp2_with (go_at_call 25; refine (R.out _).mono ?_; rintro e w1 ⟨rfl, b1⟩; have X1 := Lib.hid (X.out.next b1); clear d0 d1 d2 d3 d4; obtain ⟨d0, d1, d2, d3, d4⟩ := FrameW.cells5 (X1.out.at 0 rfl); clear b1)
          go_ret3
          exact ⟨rfl, X1.out.b⟩
      · rw [decide_eq_false hr] at R
        have R := Lib.hid R
        clear hr hh
        go_enter Try.func12, Try.ntmps12
        go_wp2_with (go_at_call 25; refine (R.out _).mono ?_; rintro e w1 ⟨rfl, b1⟩; have X1 := Lib.hid (X.out.next b1); clear d0 d1 d2 d3 d4; obtain ⟨d0, d1, d2, d3, d4⟩ := FrameW.cells5 (X1.out.at 0 rfl); clear b1)
        go_ret3
        exact ⟨rfl, X1.out.b⟩
set_option maxHeartbeats 1000000 in
theorem refAdd_range (A : Option Addr) (x : Fr) (S : List Fr) (n cp : Nat) (hn : n = (x :: S).length) (d t f y c l : Int) (hc : 0 ≤ c) (w : World) (hA : HL w A (x :: S)) (hl : n ≤ 100) (hx : -1125899906842624 ≤ x.t ∧ x.t ≤ 1125899906842624) (_hd : 0 ≤ d ∧ d ≤ 1048576) (ht : okL t = true) (hh : okH 1 f y c l = true) (hr : t < x.t ∨ x.t + d < t) :
    Calls Try.prog 12 #[.slice A n cp, .int .i64 d, .int .i64 t, CV 1 f y c l] w fun e w' => e = .returned (.tuple #[.slice A n cp, .int .i64 0, .int .i64 4]) ∧ Below w.heap.size w w' := by
  have R := fun W => refRightControl_any 1 f y c l W hc
  rw [decide_eq_true (okH_iff.1 hh).1] at R
  have R := Lib.hid R
  have tb := okL_iff.1 ht
  have n1 : ¬ t < -1125899906842624 := by omega
  have n2 : ¬ 1125899906842624 < t := by omega
  have n3 : ¬ 5 < f := by have := (okH_iff.1 hh).2.2; omega
  clear hh ht
  obtain ⟨g, off, rfl, hg, at0, -⟩ := hA.tail
  have A0 := Lib.hid at0.1
  have hn0 : (0 : Int) < (n : Int) := by rw [hn]; simp only [List.length_cons]; omega
  have e1 : IntKind.i64.wrap (t - x.t) = t - x.t := by rw [IntKind.wrap_i64]; omega
  generalize x.t = b at *
  clear hn hA at0 hx tb
  have X := Lib.hid ((Stay.start w).alloc (cb 1 f y c l))
  obtain ⟨d0, d1, d2, d3, d4⟩ := FrameW.cells5 (X.out.at 0 rfl)
  have a0 := cell_keep A0.out (al (Below.refl w.heap.size w) (cb 1 f y c l))
  by_cases h1 : t < b
  · clear hr
    go_enter Try.func12, Try.ntmps12
    go_wp2_with (go_at_call 25; refine (R.out _).mono ?_; rintro e w1 ⟨rfl, b1⟩; have X1 := Lib.hid (X.out.next b1); clear d0 d1 d2 d3 d4; obtain ⟨d0, d1, d2, d3, d4⟩ := FrameW.cells5 (X1.out.at 0 rfl); have a0 := cell_keep A0.out X1.out.b; clear b1)
    go_ret3
    exact ⟨rfl, X1.out.b⟩
  · have h2 : d < t - b := by omega
    clear hr
    go_enter Try.func12, Try.ntmps12
    go_wp2_with (go_at_call 25; refine (R.out _).mono ?_; rintro e w1 ⟨rfl, b1⟩; have X1 := Lib.hid (X.out.next b1); clear d0 d1 d2 d3 d4; obtain ⟨d0, d1, d2, d3, d4⟩ := FrameW.cells5 (X1.out.at 0 rfl); have a0 := cell_keep A0.out X1.out.b; clear b1)
    go_ret3
    exact ⟨rfl, X1.out.b⟩
set_option maxHeartbeats 2000000 in
theorem refAdd_there (A : Option Addr) (x : Fr) (S : List Fr) (n cp : Nat) (hn : n = (x :: S).length) (d t f y c l : Int) (hc : 0 ≤ c) (w : World) (hA : HL w A (x :: S)) (hl : n ≤ 100) (hx : -1125899906842624 ≤ x.t ∧ x.t ≤ 1125899906842624) (_hd : 0 ≤ d ∧ d ≤ 1048576) (ht : okL t = true) (hh : okH 1 f y c l = true) (hr : ¬ t < x.t) (hr2 : ¬ x.t + d < t) (hf : ∃ z ∈ x :: S, (z.f : Int) = f) :
    Calls Try.prog 12 #[.slice A n cp, .int .i64 d, .int .i64 t, CV 1 f y c l] w fun e w' => e = .returned (.tuple #[.slice A n cp, .int .i64 0, .int .i64 7]) ∧ Below w.heap.size w w' := by
  have R := fun W => refRightControl_any 1 f y c l W hc
  rw [decide_eq_true (okH_iff.1 hh).1] at R
  have R := Lib.hid R
  have tb := okL_iff.1 ht
  have n1 : ¬ t < -1125899906842624 := by omega
  have n2 : ¬ 1125899906842624 < t := by omega
  have n3 : ¬ 5 < f := by have := (okH_iff.1 hh).2.2; omega
  clear hh ht
  obtain ⟨g, off, rfl, hq⟩ := hA.six
  have Q := Lib.hid hq
  have HF := Lib.hid hf
  have hn0 : (0 : Int) < (n : Int) := by rw [hn]; simp only [List.length_cons]; omega
  have e1 : IntKind.i64.wrap (t - x.t) = t - x.t := by rw [IntKind.wrap_i64]; omega
  have h2 : ¬ d < t - x.t := by omega
  have HN := Lib.hid hn
  have nb : (n : Int) ≤ 100 := by omega
  have HX := Lib.hid hx
  have HD := Lib.hid _hd
  clear hr2 hn hA hf tb hl hq hx
  have X := Lib.hid ((Stay.start w).alloc (cb 1 f y c l))
  obtain ⟨d0, d1, d2, d3, d4⟩ := FrameW.cells5 (X.out.at 0 rfl)
  have a0 := (Q.out.below X.out.b).first.1
  go_enter Try.func12, Try.ntmps12
  go_upto_region 5 with (go_at_call 25; refine (R.out _).mono ?_; rintro e w1 ⟨rfl, b1⟩; have X1 := Lib.hid (X.out.next b1); clear d0 d1 d2 d3 d4; obtain ⟨d0, d1, d2, d3, d4⟩ := FrameW.cells5 (X1.out.at 0 rfl); have a0 := (Q.out.below X1.out.b).first.1; clear b1)
  clear a0 d0 d1 d2 d3 d4
  have P := Lib.hid X1.out.b
  go_wp2
  go_loopw [11] (fun iv wr => ∃ (i : Nat), i ≤ n ∧ iv = .int .i64 i ∧ Hid (∀ m z, m < i → (x :: S)[m]? = some z → (z.f : Int) ≠ f) ∧ Hid (Stay w [(w.heap.size, cb 1 f y c l)] wr)) (fun iv _ => n - (intOf iv).toNat)
  case atStart => exact ⟨0, Nat.zero_le _, rfl, Lib.hid (fun m z h => absurd h (Nat.not_lt_zero m)), X1⟩
  case round =>
    clear X1 P
    obtain ⟨i, hi, rfl, HI, X2⟩ := hrel
    have ib : (i : Int) ≤ 100 := by omega
    by_cases hlt : (i : Int) < (n : Int)
    · obtain ⟨z, hz⟩ : ∃ z, (x :: S)[i]? = some z := ⟨_, List.getElem?_eq_getElem (by have := HN.out; omega)⟩
      obtain ⟨-, -, c2, -⟩ := (Q.out.below X2.out.b).at6 i z hz
      obtain ⟨d0, d1, d2, d3, d4⟩ := FrameW.cells5 (X2.out.at 0 rfl)
      have HZ := Lib.hid hz
      clear hz d0 d2 d3 d4
      by_cases he : (z.f : Int) = f
      · have e3 : ((z.f : Int) == f) = true := by rw [beq_iff_eq]; exact he
        clear he
        generalize (z.f : Int) = v at *
        go_wp2
        go_region
        go_wp2
        go_ret3
        exact ⟨rfl, X2.out.drew.b⟩
      · have e3 : ((z.f : Int) == f) = false := by rw [beq_eq_false_iff_ne]; exact he
        have HI2 := Lib.hid (show ∀ m u, m < i + 1 → (x :: S)[m]? = some u → (u.f : Int) ≠ f by
          intro m u hm hu
          by_cases e : m = i
          · subst e
            rw [HZ.out] at hu
            cases hu
            exact he
          · exact HI.out m u (by omega) hu)
        clear he
        generalize (z.f : Int) = v at *
        go_wp2
        go_region
        go_wp2
        go_roundw
        case rel => exact ⟨i + 1, by omega, by go_num, HI2, Lib.hid X2.out.drew⟩
        case measure => simp only [intOf]; omega
    · exfalso
      obtain ⟨z, hm, he⟩ := HF.out
      obtain ⟨m, hm⟩ := List.getElem?_of_mem hm
      exact HI.out m z (by have := (List.getElem?_eq_some_iff.1 hm).1; have := HN.out; omega) hm he
set_option maxHeartbeats 2000000 in
theorem refAdd_in (base : Nat) (A : Option Addr) (x : Fr) (S : List Fr) (n cp : Nat) (hn : n = (x :: S).length) (d t : Int) (f : Nat) (y c l : Int) (hc : 0 ≤ c) (w : World) (ho : OL w base (.slice A n cp) (x :: S)) (hbase : base ≤ w.heap.size) (hl : n ≤ 100) (hx : -1125899906842624 ≤ x.t ∧ x.t ≤ 1125899906842624) (_hd : 0 ≤ d ∧ d ≤ 1048576) (ht : okL t = true) (hh : okH 1 f y c l = true) (hr : ¬ t < x.t) (hr2 : ¬ x.t + d < t) (hf : ¬ ∃ z ∈ x :: S, z.f = f) :
    Calls Try.prog 12 #[.slice A n cp, .int .i64 d, .int .i64 t, CV 1 f y c l] w fun e w' => ∃ v', e = .returned (.tuple #[v', .int .i64 (x.t + d), .int .i64 0]) ∧ OL w' base v' (x :: S ++ [⟨t, f, y, c, l⟩]) ∧ Step w (.slice A n cp) w' v' := by
  have HO := Lib.hid ho
  have HLE := Lib.hid hl
  have HBA := Lib.hid hbase
  have hA : HL w A (x :: S) := by
    obtain ⟨A2, c2, e, h, -⟩ := ho.form
    injection e with e1 _ _
    rw [e1]
    exact h
  have e7 : IntKind.i64.wrap (x.t + d) = x.t + d := by rw [IntKind.wrap_i64]; omega
  clear ho hbase
  have R := fun W => refRightControl_any 1 f y c l W hc
  rw [decide_eq_true (okH_iff.1 hh).1] at R
  have R := Lib.hid R
  have tb := okL_iff.1 ht
  have n1 : ¬ t < -1125899906842624 := by omega
  have n2 : ¬ 1125899906842624 < t := by omega
  have n3 : ¬ 5 < f := by have := (okH_iff.1 hh).2.2; omega
  clear hh ht
  obtain ⟨g, off, rfl, hq⟩ := hA.six
  have Q := Lib.hid hq
  have HF := Lib.hid hf
  clear hf
  have hn0 : (0 : Int) < (n : Int) := by rw [hn]; simp only [List.length_cons]; omega
  have e1 : IntKind.i64.wrap (t - x.t) = t - x.t := by rw [IntKind.wrap_i64]; omega
  have h2 : ¬ d < t - x.t := by omega
  have HN := Lib.hid hn
  have nb : (n : Int) ≤ 100 := by omega
  have HX := Lib.hid hx
  have HD := Lib.hid _hd
  clear hr2 hn hA tb hl hq hx
  have X := Lib.hid ((Stay.start w).alloc (cb 1 f y c l))
  obtain ⟨d0, d1, d2, d3, d4⟩ := FrameW.cells5 (X.out.at 0 rfl)
  have a0 := (Q.out.below X.out.b).first.1
  go_enter Try.func12, Try.ntmps12
  go_upto_region 5 with (go_at_call 25; refine (R.out _).mono ?_; rintro e w1 ⟨rfl, b1⟩; have X1 := Lib.hid (X.out.next b1); clear d0 d1 d2 d3 d4; obtain ⟨d0, d1, d2, d3, d4⟩ := FrameW.cells5 (X1.out.at 0 rfl); have a0 := (Q.out.below X1.out.b).first.1; clear b1)
  clear a0 d0 d1 d2 d3 d4
  have P := Lib.hid X1.out.b
  go_wp2
  go_loopw [11] (fun iv wr => ∃ (i : Nat), i ≤ n ∧ iv = .int .i64 i ∧ Hid (∀ m z, m < i → (x :: S)[m]? = some z → (z.f : Int) ≠ f) ∧ Hid (Stay w [(w.heap.size, cb 1 f y c l)] wr)) (fun iv _ => n - (intOf iv).toNat)
  case atStart => exact ⟨0, Nat.zero_le _, rfl, Lib.hid (fun m z h => absurd h (Nat.not_lt_zero m)), X1⟩
  case round =>
    clear X1 P
    obtain ⟨i, hi, rfl, HI, X2⟩ := hrel
    have ib : (i : Int) ≤ 100 := by omega
    by_cases hlt : (i : Int) < (n : Int)
    · obtain ⟨z, hz⟩ : ∃ z, (x :: S)[i]? = some z := ⟨_, List.getElem?_eq_getElem (by have := HN.out; omega)⟩
      obtain ⟨-, -, c2, -⟩ := (Q.out.below X2.out.b).at6 i z hz
      obtain ⟨d0, d1, d2, d3, d4⟩ := FrameW.cells5 (X2.out.at 0 rfl)
      have HZ := Lib.hid hz
      clear hz d0 d2 d3 d4
      by_cases he : (z.f : Int) = f
      · exfalso
        exact HF.out ⟨z, List.mem_of_getElem? HZ.out, by omega⟩
      · have e3 : ((z.f : Int) == f) = false := by rw [beq_eq_false_iff_ne]; exact he
        have HI2 := Lib.hid (show ∀ m u, m < i + 1 → (x :: S)[m]? = some u → (u.f : Int) ≠ f by
          intro m u hm hu
          by_cases e : m = i
          · subst e
            rw [HZ.out] at hu
            cases hu
            exact he
          · exact HI.out m u (by omega) hu)
        clear he
        generalize (z.f : Int) = v at *
        go_wp2
        go_region
        go_wp2
        go_roundw
        case rel => exact ⟨i + 1, by omega, by go_num, HI2, Lib.hid X2.out.drew⟩
        case measure => simp only [intOf]; omega
    · obtain ⟨d0, d1, d2, d3, d4⟩ := FrameW.cells5 (X2.out.at 0 rfl)
      go_wp2_with (at_builtin; refine wpList_append_ol _ rfl _ _ rfl base _ (x :: S) rfl (HO.out.below (al X2.out.b _)) _ ⟨t, f, y, c, l⟩ 43 rfl (heap_alloc_new _ _) (by have := HLE.out; have := HN.out; omega) (Nat.le_trans HBA.out (al X2.out.b _).size) ?_)
      intro v2 w2 o2 s2
      have ho2 := o2
      obtain ⟨A2, c2, rfl, hl2, -, -⟩ := o2.form
      obtain ⟨g2, off2, rfl, q2⟩ := (show HL w2 A2 (x :: (S ++ [⟨t, f, y, c, l⟩])) from hl2).six
      have z0 := q2.first.1
      have O2 := Lib.hid ho2
      have S2 := Lib.hid s2
      clear o2 s2 ho2 hl2 q2
      obtain ⟨m, hm⟩ : ∃ m, (x :: (S ++ [(⟨t, f, y, c, l⟩ : Fr)])).length = m := ⟨_, rfl⟩
      have m0 : (0 : Int) < (m : Int) := by rw [← hm]; simp only [List.length_append, List.length_cons, List.length_nil]; omega
      rw [hm] at S2 O2 ⊢
      have HM := Lib.hid hm
      clear hm
      go_wp2
      go_region
      go_wp2
      go_ret3
      exact ⟨_, rfl, O2.out.below (Below.refl _ _).drew, ((Step.of (al X2.out.b _) _).trans S2.out).trans (Step.drew _ _)⟩
set_option maxHeartbeats 2000000 in
theorem refAdd_new (base : Nat) (d t : Int) (f : Nat) (y c l : Int) (hc : 0 ≤ c) (w : World) (hbase : base ≤ w.heap.size) (_hd : 0 ≤ d ∧ d ≤ 1048576) (ht : okL t = true) (hh : okH 1 f y c l = true) :
    Calls Try.prog 12 #[.slice none 0 0, .int .i64 d, .int .i64 t, CV 1 f y c l] w fun e w' => ∃ v', e = .returned (.tuple #[v', .int .i64 (t + d), .int .i64 0]) ∧ OL w' base v' [⟨t, f, y, c, l⟩] ∧ Step w (.slice none 0 0) w' v' := by
  have HO := Lib.hid (OL.nil w base)
  have HBA := Lib.hid hbase
  have e7 : IntKind.i64.wrap (t + d) = t + d := by rw [IntKind.wrap_i64]; have := okL_iff.1 ht; omega
  clear hbase
  have R := fun W => refRightControl_any 1 f y c l W hc
  rw [decide_eq_true (okH_iff.1 hh).1] at R
  have R := Lib.hid R
  have tb := okL_iff.1 ht
  have n1 : ¬ t < -1125899906842624 := by omega
  have n2 : ¬ 1125899906842624 < t := by omega
  have n3 : ¬ 5 < f := by have := (okH_iff.1 hh).2.2; omega
  clear hh ht
  have X := Lib.hid ((Stay.start w).alloc (cb 1 f y c l))
  obtain ⟨d0, d1, d2, d3, d4⟩ := FrameW.cells5 (X.out.at 0 rfl)
  go_enter Try.func12, Try.ntmps12
  go_upto_region 5 with (go_at_call 25; refine (R.out _).mono ?_; rintro e w1 ⟨rfl, b1⟩; have X1 := Lib.hid (X.out.next b1); clear d0 d1 d2 d3 d4; obtain ⟨d0, d1, d2, d3, d4⟩ := FrameW.cells5 (X1.out.at 0 rfl); clear b1)
  clear d0 d1 d2 d3 d4
  have P := Lib.hid X1.out.b
  go_wp2
  go_loopw [11] (fun iv wr => iv = .int .i64 0 ∧ wr = w1) (fun iv _ => 0)
  case atStart => exact ⟨rfl, rfl⟩
  case round =>
    obtain ⟨rfl, rfl⟩ := hrel
    obtain ⟨d0, d1, d2, d3, d4⟩ := FrameW.cells5 (X1.out.at 0 rfl)
    go_wp2_with (at_builtin; refine wpList_append_ol _ rfl _ _ rfl base _ ([] : List Fr) rfl (HO.out.below (al X1.out.b _)) _ ⟨t, f, y, c, l⟩ 43 rfl (heap_alloc_new _ _) (by decide) (Nat.le_trans HBA.out (al X1.out.b _).size) ?_)
    intro v2 w2 o2 s2
    have ho2 := o2
    obtain ⟨A2, c2, rfl, hl2, -, -⟩ := o2.form
    obtain ⟨g2, off2, rfl, q2⟩ := (show HL w2 A2 (⟨t, f, y, c, l⟩ :: []) from hl2).six
    have z0 := q2.first.1
    have O2 := Lib.hid ho2
    have S2 := Lib.hid s2
    clear o2 s2 ho2 hl2 q2
    obtain ⟨m, hm⟩ : ∃ m, ([(⟨t, f, y, c, l⟩ : Fr)]).length = m := ⟨_, rfl⟩
    have m0 : (0 : Int) < (m : Int) := by rw [← hm]; simp only [List.length_cons, List.length_nil]; omega
    rw [hm] at S2 O2 ⊢
    have HM := Lib.hid hm
    clear hm
    go_wp2
    go_region
    go_wp2
    go_ret3
    exact ⟨_, rfl, O2.out.below (Below.refl _ _).drew, ((Step.of (al X1.out.b _) _).trans S2.out).trans (Step.drew _ _)⟩
end Go.Proofs.Ytpjaijibkjmgiaa.CompW
