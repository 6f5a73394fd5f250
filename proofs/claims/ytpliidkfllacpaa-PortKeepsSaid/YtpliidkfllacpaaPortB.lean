/- The document's own Without and Same; one. -/
import Derived.Test.YtpliidkfllacpaaPortA
namespace Go.Proofs.Ytpliidkfllacpaa.PortW
open Go.RowKit Shell
/-- A list without a place. -/
def del (L : List Da) (a : Int) : List Da := if 0 ≤ a then L.eraseIdx a.toNat else L
theorem del_take {L : List Da} {k : Nat} {x : Da} (a : Int) (hx : L[k]? = some x) : del (L.take (k + 1)) a = if (k : Int) = a then del (L.take k) a else del (L.take k) a ++ [x] := by
  have hk : k < L.length := lt_of_get hx
  have ht : (L.take k).length = k := by rw [List.length_take]; omega
  rw [List.take_add_one, hx, Option.toList_some]
  unfold del
  by_cases h0 : 0 ≤ a
  · rw [if_pos h0, if_pos h0]
    obtain ⟨n, rfl⟩ := Int.eq_ofNat_of_zero_le h0
    rw [Int.toNat_natCast]
    by_cases h1 : n < k
    · rw [if_neg (by omega), List.eraseIdx_append_of_lt_length (by omega)]
    · rw [List.eraseIdx_append_of_length_le (by omega), ht]
      have e1 : (L.take k).eraseIdx n = L.take k := List.eraseIdx_of_length_le (by omega)
      by_cases h2 : k = n
      · rw [if_pos (by omega), e1, h2, Nat.sub_self]
        simp
      · rw [if_neg (by omega), e1, List.eraseIdx_of_length_le (by simp; omega)]
  · rw [if_neg h0, if_neg h0, if_neg (by omega)]
theorem del_len (L : List Da) (a : Int) : (del L a).length ≤ L.length := by
  unfold del
  split
  · exact List.length_eraseIdx_le _ _
  · exact Nat.le_refl _
set_option maxHeartbeats 4000000 in
theorem without_any (A : Option Addr) (L : List Da) (m cp : Nat) (a : Int) (w : World) (h : SG FD w A L) (hl : L.length = m) (hm : (m + 1) * 48 ≤ 140737488355328) : Calls Try.prog 14 #[.slice A m cp, .int .i64 a] w fun r w' => ∃ v, r = .returned v ∧ OG FD w' w.heap.size 30 v (del L a) ∧ Below w.heap.size w w' := by
  have HS := Lib.hid h
  have HL := Lib.hid hl
  have HM := Lib.hid hm
  have hm1 : m ≤ 9223372036854775807 := by omega
  clear h hl hm
  go_enter Try.func14, Try.ntmps14
  go_wp2
  go_loopw [5, 6] (fun rv iv wr => ∃ (k : Nat), k ≤ m ∧ iv = .int .i64 k ∧ Hid (OG FD wr w.heap.size 30 rv (del (L.take k) a)) ∧ Hid (Below w.heap.size w wr)) (fun _ iv _ => m - (intOf iv).toNat)
  case atStart => exact ⟨0, Nat.zero_le _, rfl, Lib.hid (by have : del (L.take 0) a = [] := by { unfold del; split <;> rfl }; rw [this]; exact OG.nil _ _ _), Lib.hid (Below.refl _ _)⟩
  case round =>
    obtain ⟨k, hk, rfl, HO, HW⟩ := hrel
    by_cases hlt : (k : Int) < (m : Int)
    · obtain ⟨x, hx⟩ : ∃ x, L[k]? = some x := ⟨_, List.getElem?_eq_getElem (by rw [HL.out]; omega)⟩
      obtain ⟨b, off, rfl, x0, x1, x2, x3, x4⟩ := sg5 (HS.out.below HW.out) hx
      have DT := Lib.hid (del_take a hx)
      have DL := Lib.hid (show (del (L.take k) a).length ≤ m by
        refine Nat.le_trans (del_len _ _) ?_
        rw [List.length_take]
        omega)
      clear hx
      generalize del (L.take k) a = T at *
      obtain ⟨B, c, rfl, -, -, -, -⟩ := HO.out.form
      generalize hTn : T.length = n at *
      have HTN := Lib.hid hTn
      clear hTn
      by_cases he : (k : Int) = a
      · have q1 : ((k : Int) != a) = false := by rw [bne_eq_false_iff_eq]; exact he
        have HO2 := Lib.hid (show OG FD wr w.heap.size 30 (.slice B n c) (del (L.take (k + 1)) a) by rw [DT.out, if_pos he]; exact HO.out)
        clear he
        go_wp2
        go_roundw
        case rel => exact ⟨k + 1, by omega, by go_num, HO2, HW⟩
        case measure => simp [intOf]; omega
      · have q1 : ((k : Int) != a) = true := by rw [bne_iff_ne]; exact he
        have HE := Lib.hid (show del (L.take (k + 1)) a = T ++ [x] by rw [DT.out, if_neg he])
        clear he
        go_wp2_with (at_builtin; refine wpList_append_one oneD _ rfl _ _ rfl w.heap.size _ T rfl (HO.out.alloc _) x _ rfl (heap_at rfl _) ?c1 (by decide) ?c2 ?_)
        case c1 =>
          rw [HTN.out]
          refine Nat.le_trans (Nat.mul_le_mul_right _ ?_) HM.out
          have := DL.out
          omega
        case c2 => rw [World.size_alloc]; have := HW.out.size; omega
        intro v2 w3 o3 s3
        have HO2 := Lib.hid (show OG FD w3 w.heap.size 30 v2 (del (L.take (k + 1)) a) by rw [HE.out]; exact o3)
        have HW2 := Lib.hid (HW.out.trans (((Step.alloc _ _ _).trans s3).belowG HO.out HW.out.size))
        clear o3 s3
        go_wp2
        go_roundw
        case rel => exact ⟨k + 1, by omega, by go_num, HO2, HW2⟩
        case measure => simp [intOf]; omega
    · obtain rfl : k = m := by omega
      have HO2 := Lib.hid (show OG FD wr w.heap.size 30 u5 (del L a) by have := HO.out; rwa [← HL.out, List.take_length] at this)
      go_wp2
      go_ret
      exact ⟨_, rfl, HO2.out, HW.out⟩
/-- Are two rows alike? -/
def same : List Da → List Da → Bool
  | [], [] => true
  | x :: L, y :: M => deq x y && same L M
  | _, _ => false
theorem same_iff : ∀ {L M : List Da}, same L M = true ↔ L = M
  | [], [] => by simp [same]
  | [], y :: M => by simp [same]
  | x :: L, [] => by simp [same]
  | x :: L, y :: M => by
    unfold same
    rw [Bool.and_eq_true, deq_iff, same_iff, List.cons.injEq]
theorem same_no {L M : List Da} (h : L ≠ M) : same L M = false := by rw [← Bool.not_eq_true, same_iff]; exact h
set_option maxHeartbeats 4000000 in
theorem same_any (A B : Option Addr) (L M : List Da) (m n c d : Nat) (w : World) (h : SG FD w A L) (g : SG FD w B M) (hl : L.length = m) (hn : M.length = n) (hm : m ≤ 9223372036854775807) (hm2 : n ≤ 9223372036854775807) : Calls Try.prog 15 #[.slice A m c, .slice B n d] w fun r w' => r = .returned (.bool (same L M)) ∧ Below w.heap.size w w' := by
  have HS := Lib.hid h
  have HT := Lib.hid g
  have HL := Lib.hid hl
  have HN := Lib.hid hn
  obtain ⟨z, hz⟩ : ∃ z, same L M = z := ⟨_, rfl⟩
  have HZ := Lib.hid hz
  rw [hz]
  clear h g hl hn hz
  by_cases hmn : m = n
  case neg =>
    have q1 : ((m : Int) != (n : Int)) = true := by rw [bne_iff_ne]; omega
    have HF := Lib.hid (show z = false by rw [← HZ.out]; exact same_no (fun e => hmn (by rw [← HL.out, ← HN.out, e])))
    clear hmn
    go_enter Try.func15, Try.ntmps15
    go_wp2
    go_ret
    exact ⟨by rw [HF.out]; rfl, Below.refl _ _⟩
  subst hmn
  go_enter Try.func15, Try.ntmps15
  go_wp2
  go_loopw [5] (fun iv wr => ∃ (k : Nat), k ≤ m ∧ iv = .int .i64 k ∧ Hid (Below w.heap.size w wr) ∧ Hid (L.take k = M.take k)) (fun iv _ => m - (intOf iv).toNat)
  case atStart => exact ⟨0, Nat.zero_le _, rfl, Lib.hid (Below.refl _ _), Lib.hid rfl⟩
  case round =>
    obtain ⟨k, hk, rfl, HW, HI⟩ := hrel
    by_cases hlt : (k : Int) < (m : Int)
    · obtain ⟨x, hx⟩ : ∃ x, L[k]? = some x := ⟨_, List.getElem?_eq_getElem (by rw [HL.out]; omega)⟩
      obtain ⟨y, hy⟩ : ∃ y, M[k]? = some y := ⟨_, List.getElem?_eq_getElem (by rw [HN.out]; omega)⟩
      obtain ⟨b, off, rfl, -⟩ := sg5 HS.out hx
      obtain ⟨b', off', rfl, -⟩ := sg5 HT.out hy
      have HX := Lib.hid hx
      have HY := Lib.hid hy
      have NQ := neq_any x y
      have DE := Lib.hid (deq_iff (x := x) (y := y))
      clear hx hy
      generalize deq x y = bb at *
      go_wp2_with fail
      cases bb with
      | true =>
        have HE := Lib.hid (show L.take (k + 1) = M.take (k + 1) by rw [List.take_add_one, List.take_add_one, HX.out, HY.out, HI.out, DE.out.1 rfl])
        refine wp_region_held_drew (S := fun W : World => Below w.heap.size w W ∧ True) (by kernel_rfl) (And.intro HW.out.drew trivial) (fun hHeld => ?_)
        refine wpAnyH_take (i := 0) (oi := ⟨some 17, _, _, _, _, _⟩) (v := ?_) rfl (by kernel_rfl) (by kernel_rfl) (by kernel_rfl) (fun _ _ _ h => h) (Or.inl ⟨by kernel_rfl, ?_⟩) (by assumption) ?_; rotate_left; (focus (intro w hSw; (try dsimp only at hSw); go_simp; (try with_reducible rfl)))
        simp only [Act.put, List.setIfInBounds_toArray, List.set_cons_zero, List.set_cons_succ]
        refine wpAnyH_take (i := 1) (oi := ⟨some 18, _, _, _, _, _⟩) (v := ?_) rfl (by kernel_rfl) (by kernel_rfl) (by kernel_rfl) (fun _ _ _ h => h) (Or.inl ⟨by kernel_rfl, ?_⟩) (by assumption) ?_; rotate_left; (focus (intro w hSw; (try dsimp only at hSw); go_simp; (try with_reducible rfl)))
        simp only [Act.put, List.setIfInBounds_toArray, List.set_cons_zero, List.set_cons_succ]
        refine wpAnyH_take (i := 2) (oi := ⟨some 19, _, _, _, _, _⟩) (v := ?_) rfl (by kernel_rfl) (by kernel_rfl) (by kernel_rfl) (fun _ _ _ h => h) (Or.inl ⟨by kernel_rfl, ?_⟩) (by assumption) ?_; rotate_left; (focus (intro w hSw; (try dsimp only at hSw); go_simp; (try with_reducible rfl)))
        simp only [Act.put, List.setIfInBounds_toArray, List.set_cons_zero, List.set_cons_succ]
        refine wpAnyH_take (i := 3) (oi := ⟨some 20, _, _, _, _, _⟩) (v := ?_) rfl (by kernel_rfl) (by kernel_rfl) (by kernel_rfl) (fun _ _ _ h => h) (Or.inl ⟨by kernel_rfl, ?_⟩) (by assumption) ?_; rotate_left; (focus (intro w hSw; (try dsimp only at hSw); obtain ⟨b1, o1, hA1, x0, x1, x2, x3, x4⟩ := sg5 (HS.out.below (And.left hSw)) HX.out; obtain ⟨b2, o2, hA2, y0, y1, y2, y3, y4⟩ := sg5 (HT.out.below (And.left hSw)) HY.out; cases hA1; cases hA2; go_simp; (try with_reducible rfl)))
        simp only [Act.put, List.setIfInBounds_toArray, List.set_cons_zero, List.set_cons_succ]
        refine wpAnyH_take (i := 4) (oi := ⟨some 21, _, _, _, _, _⟩) (v := ?_) rfl (by kernel_rfl) (by kernel_rfl) (by kernel_rfl) (fun _ _ _ h => h) (Or.inl ⟨by kernel_rfl, ?_⟩) (by assumption) ?_; rotate_left; (focus (intro w hSw; (try dsimp only at hSw); go_simp; (try with_reducible rfl)))
        simp only [Act.put, List.setIfInBounds_toArray, List.set_cons_zero, List.set_cons_succ]
        refine wpAnyH_take (i := 5) (oi := ⟨some 22, _, _, _, _, _⟩) (v := ?_) rfl (by kernel_rfl) (by kernel_rfl) (by kernel_rfl) (fun _ _ _ h => h) (Or.inl ⟨by kernel_rfl, ?_⟩) (by assumption) ?_; rotate_left; (focus (intro w hSw; (try dsimp only at hSw); go_simp; (try with_reducible rfl)))
        simp only [Act.put, List.setIfInBounds_toArray, List.set_cons_zero, List.set_cons_succ]
        refine wpAnyH_take (i := 6) (oi := ⟨some 23, _, _, _, _, _⟩) (v := ?_) rfl (by kernel_rfl) (by kernel_rfl) (by kernel_rfl) (fun _ _ _ h => h) (Or.inl ⟨by kernel_rfl, ?_⟩) (by assumption) ?_; rotate_left; (focus (intro w hSw; (try dsimp only at hSw); go_simp; (try with_reducible rfl)))
        simp only [Act.put, List.setIfInBounds_toArray, List.set_cons_zero, List.set_cons_succ]
        refine wpAnyH_take (i := 7) (oi := ⟨some 24, _, _, _, _, _⟩) (v := ?_) rfl (by kernel_rfl) (by kernel_rfl) (by kernel_rfl) (fun _ _ _ h => h) (Or.inl ⟨by kernel_rfl, ?_⟩) (by assumption) ?_; rotate_left; (focus (intro w hSw; (try dsimp only at hSw); obtain ⟨b1, o1, hA1, x0, x1, x2, x3, x4⟩ := sg5 (HS.out.below (And.left hSw)) HX.out; obtain ⟨b2, o2, hA2, y0, y1, y2, y3, y4⟩ := sg5 (HT.out.below (And.left hSw)) HY.out; cases hA1; cases hA2; go_simp; (try with_reducible rfl)))
        simp only [Act.put, List.setIfInBounds_toArray, List.set_cons_zero, List.set_cons_succ]
        refine wpAnyH_take (i := 8) (oi := ⟨some 25, _, _, _, _, _⟩) (v := ?_) rfl (by kernel_rfl) (by kernel_rfl) (by kernel_rfl) (fun _ _ _ h => h) (Or.inl ⟨by kernel_rfl, ?_⟩) (by assumption) ?_; rotate_left; (focus (intro w hSw; (try dsimp only at hSw); go_simp; (try with_reducible rfl)))
        simp only [Act.put, List.setIfInBounds_toArray, List.set_cons_zero, List.set_cons_succ]
        refine wpAnyH_done (by kernel_rfl) ?_ _
        
        have HW2 := Lib.hid hHeld.1
        go_wp2
        go_roundw
        case rel => exact ⟨k + 1, by omega, by go_num, HW2, HE⟩
        case measure => simp [intOf]; omega
      | false =>
        have HF := Lib.hid (show z = false by
          rw [← HZ.out]
          refine same_no (fun e => ?_)
          have h1 := HX.out
          rw [e, HY.out] at h1
          injection h1 with h1
          have := DE.out.2 h1.symm
          cases this)
        refine wp_region_held_drew (S := fun W : World => Below w.heap.size w W ∧ True) (by kernel_rfl) (And.intro HW.out.drew trivial) (fun hHeld => ?_)
        refine wpAnyH_take (i := 0) (oi := ⟨some 17, _, _, _, _, _⟩) (v := ?_) rfl (by kernel_rfl) (by kernel_rfl) (by kernel_rfl) (fun _ _ _ h => h) (Or.inl ⟨by kernel_rfl, ?_⟩) (by assumption) ?_; rotate_left; (focus (intro w hSw; (try dsimp only at hSw); go_simp; (try with_reducible rfl)))
        simp only [Act.put, List.setIfInBounds_toArray, List.set_cons_zero, List.set_cons_succ]
        refine wpAnyH_take (i := 1) (oi := ⟨some 18, _, _, _, _, _⟩) (v := ?_) rfl (by kernel_rfl) (by kernel_rfl) (by kernel_rfl) (fun _ _ _ h => h) (Or.inl ⟨by kernel_rfl, ?_⟩) (by assumption) ?_; rotate_left; (focus (intro w hSw; (try dsimp only at hSw); go_simp; (try with_reducible rfl)))
        simp only [Act.put, List.setIfInBounds_toArray, List.set_cons_zero, List.set_cons_succ]
        refine wpAnyH_take (i := 2) (oi := ⟨some 19, _, _, _, _, _⟩) (v := ?_) rfl (by kernel_rfl) (by kernel_rfl) (by kernel_rfl) (fun _ _ _ h => h) (Or.inl ⟨by kernel_rfl, ?_⟩) (by assumption) ?_; rotate_left; (focus (intro w hSw; (try dsimp only at hSw); go_simp; (try with_reducible rfl)))
        simp only [Act.put, List.setIfInBounds_toArray, List.set_cons_zero, List.set_cons_succ]
        refine wpAnyH_take (i := 3) (oi := ⟨some 20, _, _, _, _, _⟩) (v := ?_) rfl (by kernel_rfl) (by kernel_rfl) (by kernel_rfl) (fun _ _ _ h => h) (Or.inl ⟨by kernel_rfl, ?_⟩) (by assumption) ?_; rotate_left; (focus (intro w hSw; (try dsimp only at hSw); obtain ⟨b1, o1, hA1, x0, x1, x2, x3, x4⟩ := sg5 (HS.out.below (And.left hSw)) HX.out; obtain ⟨b2, o2, hA2, y0, y1, y2, y3, y4⟩ := sg5 (HT.out.below (And.left hSw)) HY.out; cases hA1; cases hA2; go_simp; (try with_reducible rfl)))
        simp only [Act.put, List.setIfInBounds_toArray, List.set_cons_zero, List.set_cons_succ]
        refine wpAnyH_take (i := 4) (oi := ⟨some 21, _, _, _, _, _⟩) (v := ?_) rfl (by kernel_rfl) (by kernel_rfl) (by kernel_rfl) (fun _ _ _ h => h) (Or.inl ⟨by kernel_rfl, ?_⟩) (by assumption) ?_; rotate_left; (focus (intro w hSw; (try dsimp only at hSw); go_simp; (try with_reducible rfl)))
        simp only [Act.put, List.setIfInBounds_toArray, List.set_cons_zero, List.set_cons_succ]
        refine wpAnyH_take (i := 5) (oi := ⟨some 22, _, _, _, _, _⟩) (v := ?_) rfl (by kernel_rfl) (by kernel_rfl) (by kernel_rfl) (fun _ _ _ h => h) (Or.inl ⟨by kernel_rfl, ?_⟩) (by assumption) ?_; rotate_left; (focus (intro w hSw; (try dsimp only at hSw); go_simp; (try with_reducible rfl)))
        simp only [Act.put, List.setIfInBounds_toArray, List.set_cons_zero, List.set_cons_succ]
        refine wpAnyH_take (i := 6) (oi := ⟨some 23, _, _, _, _, _⟩) (v := ?_) rfl (by kernel_rfl) (by kernel_rfl) (by kernel_rfl) (fun _ _ _ h => h) (Or.inl ⟨by kernel_rfl, ?_⟩) (by assumption) ?_; rotate_left; (focus (intro w hSw; (try dsimp only at hSw); go_simp; (try with_reducible rfl)))
        simp only [Act.put, List.setIfInBounds_toArray, List.set_cons_zero, List.set_cons_succ]
        refine wpAnyH_take (i := 7) (oi := ⟨some 24, _, _, _, _, _⟩) (v := ?_) rfl (by kernel_rfl) (by kernel_rfl) (by kernel_rfl) (fun _ _ _ h => h) (Or.inl ⟨by kernel_rfl, ?_⟩) (by assumption) ?_; rotate_left; (focus (intro w hSw; (try dsimp only at hSw); obtain ⟨b1, o1, hA1, x0, x1, x2, x3, x4⟩ := sg5 (HS.out.below (And.left hSw)) HX.out; obtain ⟨b2, o2, hA2, y0, y1, y2, y3, y4⟩ := sg5 (HT.out.below (And.left hSw)) HY.out; cases hA1; cases hA2; go_simp; (try with_reducible rfl)))
        simp only [Act.put, List.setIfInBounds_toArray, List.set_cons_zero, List.set_cons_succ]
        refine wpAnyH_take (i := 8) (oi := ⟨some 25, _, _, _, _, _⟩) (v := ?_) rfl (by kernel_rfl) (by kernel_rfl) (by kernel_rfl) (fun _ _ _ h => h) (Or.inl ⟨by kernel_rfl, ?_⟩) (by assumption) ?_; rotate_left; (focus (intro w hSw; (try dsimp only at hSw); go_simp; (try with_reducible rfl)))
        simp only [Act.put, List.setIfInBounds_toArray, List.set_cons_zero, List.set_cons_succ]
        refine wpAnyH_done (by kernel_rfl) ?_ _
        
        have HW2 := Lib.hid hHeld.1
        go_wp2
        go_ret
        exact ⟨by rw [HF.out]; rfl, HW2.out⟩
    · have HF := Lib.hid (show z = true by
        rw [← HZ.out, same_iff]
        have := HI.out
        rwa [List.take_of_length_le (by rw [HL.out]; omega), List.take_of_length_le (by rw [HN.out]; omega)] at this)
      go_wp2
      go_ret
      exact ⟨by rw [HF.out]; rfl, HW.out⟩
end Go.Proofs.Ytpliidkfllacpaa.PortW
