/- Equal: rows, entries, links, configurations. -/
import Derived.Test.YthgfgnphncpoaaaConfF
import Derived.Shelf.Abstract
namespace Go.Proofs.Ythgfgnphncpoaaa.ConfW
open Go.RowKit Shell
instance : DecidableEq R4 := fun x y => decidable_of_iff (x.a = y.a ∧ x.b = y.b ∧ x.c = y.c ∧ x.d = y.d) (by cases x; cases y; simp)
theorem list_ne {α : Type} {l m : List α} {k : Nat} {x y : α} (hl : l[k]? = some x) (hm : m[k]? = some y) (h : x ≠ y) : l ≠ m := fun e => h (by rw [e, hm] at hl; exact (Option.some.inj hl).symm)
theorem list_eq {α : Type} {l m : List α} (hn : l.length = m.length) (h : ∀ (k : Nat) (x y : α), l[k]? = some x → m[k]? = some y → x = y) : l = m := by
  apply List.ext_getElem hn
  intro k h1 h2
  exact h k _ _ (List.getElem?_eq_getElem h1) (List.getElem?_eq_getElem h2)
set_option maxRecDepth 100000 in
set_option maxHeartbeats 1000000 in
theorem neq_Entry (x y : R4) (w : World) : Sem.run Try.prog (binOp .neq 33 (.agg #[.int .i64 x.a, .int .u32 x.b, .int .i64 x.c, .int .i64 x.d]) (.agg #[.int .i64 y.a, .int .u32 y.b, .int .i64 y.c, .int .i64 y.d])) w = .ok (.bool (decide (x ≠ y))) w := by
  have u3 := Try.underlying3
  have u2 := Try.underlying2
  have u4 := Try.underlying31
  have a3 := Try.isAgg3
  have z3 := Try.sizeOf3
  have a2 := Try.isAgg2
  have z2 := Try.sizeOf2
  have a4 := Try.isAgg31
  have z4 := Try.sizeOf31
  have hS : Try.prog.underlying 33 = some (.struct (Try.prog.fieldsOf 33)) := by kernel_rfl
  have hp : Try.prog.stoodInHeld 33 = false := by kernel_rfl
  rw [run_neq_struct, show (10000 : Nat) = 9999 + 1 from rfl, run_equalIn_agg w 9999 33 _ _ hS hp]
  simp only [Program.fieldsOf, Try.underlying33]
  by_cases h : x = y
  · subst h
    have e : decide (x ≠ x) = false := by simp
    rw [e]
    go_simp
  · have e : decide (x ≠ y) = true := by simpa using h
    rw [e]
    clear e
    rcases Decidable.em (x.a = y.a) with h1 | h1
    · rcases Decidable.em (x.b = y.b) with h2 | h2
      · rcases Decidable.em (x.c = y.c) with h3 | h3
        · rcases Decidable.em (x.d = y.d) with h4 | h4
          · exact absurd (by cases x; cases y; simp_all) h
          · clear h; rw [h1, h2, h3]; go_simp
        · clear h; rw [h1, h2]; go_simp
      · clear h; rw [h1]; have h2' : ¬ ((x.b : Int) = (y.b : Int)) := by omega
        go_simp
    · clear h
      go_simp
set_option maxRecDepth 100000 in
set_option maxHeartbeats 1000000 in
theorem neq_Link (x y : R4) (w : World) : Sem.run Try.prog (binOp .neq 35 (.agg #[.int .i64 x.a, .int .u32 x.b, .int .i64 x.c, .int .i64 x.d]) (.agg #[.int .i64 y.a, .int .u32 y.b, .int .i64 y.c, .int .i64 y.d])) w = .ok (.bool (decide (x ≠ y))) w := by
  have u3 := Try.underlying3
  have u2 := Try.underlying2
  have u4 := Try.underlying31
  have a3 := Try.isAgg3
  have z3 := Try.sizeOf3
  have a2 := Try.isAgg2
  have z2 := Try.sizeOf2
  have a4 := Try.isAgg31
  have z4 := Try.sizeOf31
  have hS : Try.prog.underlying 35 = some (.struct (Try.prog.fieldsOf 35)) := by kernel_rfl
  have hp : Try.prog.stoodInHeld 35 = false := by kernel_rfl
  rw [run_neq_struct, show (10000 : Nat) = 9999 + 1 from rfl, run_equalIn_agg w 9999 35 _ _ hS hp]
  simp only [Program.fieldsOf, Try.underlying35]
  by_cases h : x = y
  · subst h
    have e : decide (x ≠ x) = false := by simp
    rw [e]
    go_simp
  · have e : decide (x ≠ y) = true := by simpa using h
    rw [e]
    clear e
    rcases Decidable.em (x.a = y.a) with h1 | h1
    · rcases Decidable.em (x.b = y.b) with h2 | h2
      · rcases Decidable.em (x.c = y.c) with h3 | h3
        · rcases Decidable.em (x.d = y.d) with h4 | h4
          · exact absurd (by cases x; cases y; simp_all) h
          · clear h; rw [h1, h2, h3]; go_simp
        · clear h; rw [h1, h2]; go_simp
      · clear h; rw [h1]; have h2' : ¬ ((x.b : Int) = (y.b : Int)) := by omega
        go_simp
    · clear h
      go_simp
set_option maxHeartbeats 2000000 in
theorem eq_i64 (A B : Option Addr) (n m ca cb : Nat) (xs ys : List Int) (w : World) (hx : CL w .i64 A xs) (hy : CL w .i64 B ys) (hn : n = xs.length) (hm : m = ys.length) (hl : n ≤ maxLen) :
    Calls Try.prog 17 #[.slice A n ca, .slice B m cb] w fun r w' => r = .returned (.bool (decide (xs = ys))) ∧ Below w.heap.size w w' := by
  have HX := Lib.hid hx
  have HY := Lib.hid hy
  have HN := Lib.hid hn
  have HM := Lib.hid hm
  have hll : n ≤ 9223372036854775807 := hl
  generalize hq : decide (xs = ys) = q
  have HQ := Lib.hid hq
  clear hx hy hn hm hl hq
  by_cases he : n = m
  · subst he
    go_enter Try.func17, Try.ntmps17
    go_wp2
    go_loopw [13] (fun iv wr => ∃ (k : Nat), k ≤ n ∧ iv = .int .i64 k ∧ Hid (Below w.heap.size w wr) ∧ Hid (∀ (j : Nat) x y, j < k → xs[j]? = some x → ys[j]? = some y → x = y)) (fun iv _ => n - (intOf iv).toNat)
    case atStart => exact ⟨0, Nat.zero_le _, rfl, Lib.hid (Below.refl _ _), Lib.hid (by intros; omega)⟩
    case round =>
      obtain ⟨k, hk, rfl, B, HI⟩ := hrel
      by_cases hlt : (k : Int) < (n : Int)
      · obtain ⟨x, hx⟩ : ∃ x, xs[k]? = some x := ⟨_, List.getElem?_eq_getElem (by rw [← HN.out]; omega)⟩
        obtain ⟨y, hy⟩ : ∃ y, ys[k]? = some y := ⟨_, List.getElem?_eq_getElem (by rw [← HM.out]; omega)⟩
        obtain ⟨a, rfl, ha, -⟩ := (HX.out.below B.out) k x hx
        obtain ⟨b, rfl, hb, -⟩ := (HY.out.below B.out) k y hy
        have HXX := Lib.hid hx
        have HYY := Lib.hid hy
        clear hx hy
        have B3 := Lib.hid (B.out.trans ((Below.refl wr.heap.size wr).drew.mono B.out.size))
        by_cases hxy : x = y
        · have HJ := Lib.hid (show ∀ (j : Nat) u v, j < k + 1 → xs[j]? = some u → ys[j]? = some v → u = v by
            intro j u v hj hu hv
            by_cases hjk : j = k
            · subst hjk
              rw [HXX.out] at hu
              rw [HYY.out] at hv
              cases hu
              cases hv
              exact hxy
            · exact HI.out j u v (by omega) hu hv)
          · go_wp2_with fail
            have e1 : (x != y) = false := by rw [bne_eq_false_iff_eq]; exact hxy
            refine wp_region_held_drew (S := fun W : World => W.cell? (a.add k) = some (.int .i64 x) ∧ W.cell? (b.add k) = some (.int .i64 y)) (by kernel_rfl) (⟨ha, hb⟩) (fun hHeld => ?_)
            refine wpAnyH_take (i := 0) (oi := ⟨(some 16), _, _, _, _, _⟩) (v := ?_) rfl (by kernel_rfl) (by kernel_rfl) (by kernel_rfl) (fun _ _ _ h => h) (Or.inl ⟨by kernel_rfl, ?_⟩) (by assumption) ?_; rotate_left; (focus (intro w hSw; (try dsimp only at hSw); go_simp; (try with_reducible rfl)))
            simp only [Act.put, List.setIfInBounds_toArray, List.set_cons_zero, List.set_cons_succ]
            refine wpAnyH_take (i := 1) (oi := ⟨(some 17), _, _, _, _, _⟩) (v := ?_) rfl (by kernel_rfl) (by kernel_rfl) (by kernel_rfl) (fun _ _ _ h => h) (Or.inl ⟨by kernel_rfl, ?_⟩) (by assumption) ?_; rotate_left; (focus (intro w hSw; (try dsimp only at hSw); go_simp; (try with_reducible rfl)))
            simp only [Act.put, List.setIfInBounds_toArray, List.set_cons_zero, List.set_cons_succ]
            refine wpAnyH_take (i := 2) (oi := ⟨(some 18), _, _, _, _, _⟩) (v := ?_) rfl (by kernel_rfl) (by kernel_rfl) (by kernel_rfl) (fun _ _ _ h => h) (Or.inl ⟨by kernel_rfl, ?_⟩) (by assumption) ?_; rotate_left; (focus (intro w hSw; (try dsimp only at hSw); go_simp; (try with_reducible rfl)))
            simp only [Act.put, List.setIfInBounds_toArray, List.set_cons_zero, List.set_cons_succ]
            refine wpAnyH_take (i := 3) (oi := ⟨(some 19), _, _, _, _, _⟩) (v := ?_) rfl (by kernel_rfl) (by kernel_rfl) (by kernel_rfl) (fun _ _ _ h => h) (Or.inl ⟨by kernel_rfl, ?_⟩) (by assumption) ?_; rotate_left; (focus (intro w hSw; (try dsimp only at hSw); go_simp; (try with_reducible rfl)))
            simp only [Act.put, List.setIfInBounds_toArray, List.set_cons_zero, List.set_cons_succ]
            refine wpAnyH_take (i := 4) (oi := ⟨(some 20), _, _, _, _, _⟩) (v := ?_) rfl (by kernel_rfl) (by kernel_rfl) (by kernel_rfl) (fun _ _ _ h => h) (Or.inl ⟨by kernel_rfl, ?_⟩) (by assumption) ?_; rotate_left; (focus (intro w hSw; (try dsimp only at hSw); go_simp; (try with_reducible rfl)))
            simp only [Act.put, List.setIfInBounds_toArray, List.set_cons_zero, List.set_cons_succ]
            refine wpAnyH_take (i := 5) (oi := ⟨(some 21), _, _, _, _, _⟩) (v := ?_) rfl (by kernel_rfl) (by kernel_rfl) (by kernel_rfl) (fun _ _ _ h => h) (Or.inl ⟨by kernel_rfl, ?_⟩) (by assumption) ?_; rotate_left; (focus (intro w hSw; (try dsimp only at hSw); go_simp; (try with_reducible rfl)))
            simp only [Act.put, List.setIfInBounds_toArray, List.set_cons_zero, List.set_cons_succ]
            refine wpAnyH_take (i := 6) (oi := ⟨(some 22), _, _, _, _, _⟩) (v := ?_) rfl (by kernel_rfl) (by kernel_rfl) (by kernel_rfl) (fun _ _ _ h => h) (Or.inl ⟨by kernel_rfl, ?_⟩) (by assumption) ?_; rotate_left; (focus (intro w hSw; (try dsimp only at hSw); go_simp; (try with_reducible rfl)))
            simp only [Act.put, List.setIfInBounds_toArray, List.set_cons_zero, List.set_cons_succ]
            refine wpAnyH_take (i := 7) (oi := ⟨(some 23), _, _, _, _, _⟩) (v := ?_) rfl (by kernel_rfl) (by kernel_rfl) (by kernel_rfl) (fun _ _ _ h => h) (Or.inl ⟨by kernel_rfl, ?_⟩) (by assumption) ?_; rotate_left; (focus (intro w hSw; (try dsimp only at hSw); go_simp; (try with_reducible rfl)))
            simp only [Act.put, List.setIfInBounds_toArray, List.set_cons_zero, List.set_cons_succ]
            refine wpAnyH_take (i := 8) (oi := ⟨(some 24), _, _, _, _, _⟩) (v := ?_) rfl (by kernel_rfl) (by kernel_rfl) (by kernel_rfl) (fun _ _ _ h => h) (Or.inl ⟨by kernel_rfl, ?_⟩) (by assumption) ?_; rotate_left; (focus (intro w hSw; (try dsimp only at hSw); go_simp; (try with_reducible rfl)))
            simp only [Act.put, List.setIfInBounds_toArray, List.set_cons_zero, List.set_cons_succ]
            refine wpAnyH_done (by kernel_rfl) ?_ _
            go_wp2
            go_roundw
            case rel => exact ⟨k + 1, by omega, by go_num, B3, HJ⟩
            case measure => simp [intOf]; omega
        · have HQ2 := Lib.hid (show q = false by rw [← HQ.out, decide_eq_false (list_ne HXX.out HYY.out hxy)])
          · go_wp2_with fail
            have e1 : (x != y) = true := by rw [bne_iff_ne]; exact hxy
            refine wp_region_held_drew (S := fun W : World => W.cell? (a.add k) = some (.int .i64 x) ∧ W.cell? (b.add k) = some (.int .i64 y)) (by kernel_rfl) (⟨ha, hb⟩) (fun hHeld => ?_)
            refine wpAnyH_take (i := 0) (oi := ⟨(some 16), _, _, _, _, _⟩) (v := ?_) rfl (by kernel_rfl) (by kernel_rfl) (by kernel_rfl) (fun _ _ _ h => h) (Or.inl ⟨by kernel_rfl, ?_⟩) (by assumption) ?_; rotate_left; (focus (intro w hSw; (try dsimp only at hSw); go_simp; (try with_reducible rfl)))
            simp only [Act.put, List.setIfInBounds_toArray, List.set_cons_zero, List.set_cons_succ]
            refine wpAnyH_take (i := 1) (oi := ⟨(some 17), _, _, _, _, _⟩) (v := ?_) rfl (by kernel_rfl) (by kernel_rfl) (by kernel_rfl) (fun _ _ _ h => h) (Or.inl ⟨by kernel_rfl, ?_⟩) (by assumption) ?_; rotate_left; (focus (intro w hSw; (try dsimp only at hSw); go_simp; (try with_reducible rfl)))
            simp only [Act.put, List.setIfInBounds_toArray, List.set_cons_zero, List.set_cons_succ]
            refine wpAnyH_take (i := 2) (oi := ⟨(some 18), _, _, _, _, _⟩) (v := ?_) rfl (by kernel_rfl) (by kernel_rfl) (by kernel_rfl) (fun _ _ _ h => h) (Or.inl ⟨by kernel_rfl, ?_⟩) (by assumption) ?_; rotate_left; (focus (intro w hSw; (try dsimp only at hSw); go_simp; (try with_reducible rfl)))
            simp only [Act.put, List.setIfInBounds_toArray, List.set_cons_zero, List.set_cons_succ]
            refine wpAnyH_take (i := 3) (oi := ⟨(some 19), _, _, _, _, _⟩) (v := ?_) rfl (by kernel_rfl) (by kernel_rfl) (by kernel_rfl) (fun _ _ _ h => h) (Or.inl ⟨by kernel_rfl, ?_⟩) (by assumption) ?_; rotate_left; (focus (intro w hSw; (try dsimp only at hSw); go_simp; (try with_reducible rfl)))
            simp only [Act.put, List.setIfInBounds_toArray, List.set_cons_zero, List.set_cons_succ]
            refine wpAnyH_take (i := 4) (oi := ⟨(some 20), _, _, _, _, _⟩) (v := ?_) rfl (by kernel_rfl) (by kernel_rfl) (by kernel_rfl) (fun _ _ _ h => h) (Or.inl ⟨by kernel_rfl, ?_⟩) (by assumption) ?_; rotate_left; (focus (intro w hSw; (try dsimp only at hSw); go_simp; (try with_reducible rfl)))
            simp only [Act.put, List.setIfInBounds_toArray, List.set_cons_zero, List.set_cons_succ]
            refine wpAnyH_take (i := 5) (oi := ⟨(some 21), _, _, _, _, _⟩) (v := ?_) rfl (by kernel_rfl) (by kernel_rfl) (by kernel_rfl) (fun _ _ _ h => h) (Or.inl ⟨by kernel_rfl, ?_⟩) (by assumption) ?_; rotate_left; (focus (intro w hSw; (try dsimp only at hSw); go_simp; (try with_reducible rfl)))
            simp only [Act.put, List.setIfInBounds_toArray, List.set_cons_zero, List.set_cons_succ]
            refine wpAnyH_take (i := 6) (oi := ⟨(some 22), _, _, _, _, _⟩) (v := ?_) rfl (by kernel_rfl) (by kernel_rfl) (by kernel_rfl) (fun _ _ _ h => h) (Or.inl ⟨by kernel_rfl, ?_⟩) (by assumption) ?_; rotate_left; (focus (intro w hSw; (try dsimp only at hSw); go_simp; (try with_reducible rfl)))
            simp only [Act.put, List.setIfInBounds_toArray, List.set_cons_zero, List.set_cons_succ]
            refine wpAnyH_take (i := 7) (oi := ⟨(some 23), _, _, _, _, _⟩) (v := ?_) rfl (by kernel_rfl) (by kernel_rfl) (by kernel_rfl) (fun _ _ _ h => h) (Or.inl ⟨by kernel_rfl, ?_⟩) (by assumption) ?_; rotate_left; (focus (intro w hSw; (try dsimp only at hSw); go_simp; (try with_reducible rfl)))
            simp only [Act.put, List.setIfInBounds_toArray, List.set_cons_zero, List.set_cons_succ]
            refine wpAnyH_take (i := 8) (oi := ⟨(some 24), _, _, _, _, _⟩) (v := ?_) rfl (by kernel_rfl) (by kernel_rfl) (by kernel_rfl) (fun _ _ _ h => h) (Or.inl ⟨by kernel_rfl, ?_⟩) (by assumption) ?_; rotate_left; (focus (intro w hSw; (try dsimp only at hSw); go_simp; (try with_reducible rfl)))
            simp only [Act.put, List.setIfInBounds_toArray, List.set_cons_zero, List.set_cons_succ]
            refine wpAnyH_done (by kernel_rfl) ?_ _
            go_wp2
            go_ret
            exact ⟨by rw [HQ2.out]; rfl, B3.out⟩
      · obtain rfl : k = n := by omega
        have HQ2 := Lib.hid (show q = true by
          rw [← HQ.out, decide_eq_true_eq]
          exact list_eq (by rw [← HN.out, ← HM.out]) (fun j x y hx hy => HI.out j x y (by have := lt_of_get hx; rw [← HN.out] at this; omega) hx hy))
        go_wp2
        go_ret
        exact ⟨by rw [HQ2.out]; rfl, B.out⟩
  · have hne : ((n : Int) != (m : Int)) = true := by rw [bne_iff_ne]; omega
    have HQ2 := Lib.hid (show q = false by
      rw [← HQ.out, decide_eq_false_iff_not]
      intro e
      exact he (by rw [HN.out, HM.out, e]))
    clear he
    go_enter Try.func17, Try.ntmps17
    go_wp2
    go_ret
    exact ⟨by rw [HQ2.out]; rfl, Below.refl _ _⟩
set_option maxHeartbeats 2000000 in
theorem eq_Entry (A B : Option Addr) (n m ca cb : Nat) (xs ys : List R4) (w : World) (hx : ML w A xs) (hy : ML w B ys) (hn : n = xs.length) (hm : m = ys.length) (hl : n ≤ maxLen) :
    Calls Try.prog 18 #[.slice A n ca, .slice B m cb] w fun r w' => r = .returned (.bool (decide (xs = ys))) ∧ Below w.heap.size w w' := by
  have HX := Lib.hid hx
  have HY := Lib.hid hy
  have HN := Lib.hid hn
  have HM := Lib.hid hm
  have hll : n ≤ 9223372036854775807 := hl
  generalize hq : decide (xs = ys) = q
  have HQ := Lib.hid hq
  have hneq := @neq_Entry
  clear hx hy hn hm hl hq
  by_cases he : n = m
  · subst he
    go_enter Try.func18, Try.ntmps18
    go_wp2
    go_loopw [13] (fun iv wr => ∃ (k : Nat), k ≤ n ∧ iv = .int .i64 k ∧ Hid (Below w.heap.size w wr) ∧ Hid (∀ (j : Nat) x y, j < k → xs[j]? = some x → ys[j]? = some y → x = y)) (fun iv _ => n - (intOf iv).toNat)
    case atStart => exact ⟨0, Nat.zero_le _, rfl, Lib.hid (Below.refl _ _), Lib.hid (by intros; omega)⟩
    case round =>
      obtain ⟨k, hk, rfl, B, HI⟩ := hrel
      by_cases hlt : (k : Int) < (n : Int)
      · obtain ⟨x, hx⟩ : ∃ x, xs[k]? = some x := ⟨_, List.getElem?_eq_getElem (by rw [← HN.out]; omega)⟩
        obtain ⟨y, hy⟩ : ∃ y, ys[k]? = some y := ⟨_, List.getElem?_eq_getElem (by rw [← HM.out]; omega)⟩
        obtain ⟨a, oa, rfl, ⟨x0, x1, x2, x3⟩, -⟩ := (HX.out.below B.out) k x hx
        obtain ⟨b, ob, rfl, ⟨y0, y1, y2, y3⟩, -⟩ := (HY.out.below B.out) k y hy
        have HXX := Lib.hid hx
        have HYY := Lib.hid hy
        clear hx hy
        have B3 := Lib.hid (B.out.trans ((Below.refl wr.heap.size wr).drew.mono B.out.size))
        by_cases hxy : x = y
        · have HJ := Lib.hid (show ∀ (j : Nat) u v, j < k + 1 → xs[j]? = some u → ys[j]? = some v → u = v by
            intro j u v hj hu hv
            by_cases hjk : j = k
            · subst hjk
              rw [HXX.out] at hu
              rw [HYY.out] at hv
              cases hu
              cases hv
              exact hxy
            · exact HI.out j u v (by omega) hu hv)
          · go_wp2_with fail
            have e1 : decide (x ≠ y) = false := by simpa using hxy
            refine wp_region_held_drew (S := fun W : World => W.cell? ⟨a, oa + k * 4, none⟩ = some (.int .i64 x.a) ∧ W.cell? ⟨a, oa + k * 4 + 1, none⟩ = some (.int .u32 (x.b : Int)) ∧ W.cell? ⟨a, oa + k * 4 + 2, none⟩ = some (.int .i64 x.c) ∧ W.cell? ⟨a, oa + k * 4 + 3, none⟩ = some (.int .i64 x.d) ∧ W.cell? ⟨b, ob + k * 4, none⟩ = some (.int .i64 y.a) ∧ W.cell? ⟨b, ob + k * 4 + 1, none⟩ = some (.int .u32 (y.b : Int)) ∧ W.cell? ⟨b, ob + k * 4 + 2, none⟩ = some (.int .i64 y.c) ∧ W.cell? ⟨b, ob + k * 4 + 3, none⟩ = some (.int .i64 y.d)) (by kernel_rfl) (⟨x0, x1, x2, x3, y0, y1, y2, y3⟩) (fun hHeld => ?_)
            refine wpAnyH_take (i := 0) (oi := ⟨(some 16), _, _, _, _, _⟩) (v := ?_) rfl (by kernel_rfl) (by kernel_rfl) (by kernel_rfl) (fun _ _ _ h => h) (Or.inl ⟨by kernel_rfl, ?_⟩) (by assumption) ?_; rotate_left; (focus (intro w hSw; (try dsimp only at hSw); go_simp; (try with_reducible rfl)))
            simp only [Act.put, List.setIfInBounds_toArray, List.set_cons_zero, List.set_cons_succ]
            refine wpAnyH_take (i := 1) (oi := ⟨(some 17), _, _, _, _, _⟩) (v := ?_) rfl (by kernel_rfl) (by kernel_rfl) (by kernel_rfl) (fun _ _ _ h => h) (Or.inl ⟨by kernel_rfl, ?_⟩) (by assumption) ?_; rotate_left; (focus (intro w hSw; (try dsimp only at hSw); go_simp; (try with_reducible rfl)))
            simp only [Act.put, List.setIfInBounds_toArray, List.set_cons_zero, List.set_cons_succ]
            refine wpAnyH_take (i := 2) (oi := ⟨(some 18), _, _, _, _, _⟩) (v := ?_) rfl (by kernel_rfl) (by kernel_rfl) (by kernel_rfl) (fun _ _ _ h => h) (Or.inl ⟨by kernel_rfl, ?_⟩) (by assumption) ?_; rotate_left; (focus (intro w hSw; (try dsimp only at hSw); go_simp; (try with_reducible rfl)))
            simp only [Act.put, List.setIfInBounds_toArray, List.set_cons_zero, List.set_cons_succ]
            refine wpAnyH_take (i := 3) (oi := ⟨(some 19), _, _, _, _, _⟩) (v := ?_) rfl (by kernel_rfl) (by kernel_rfl) (by kernel_rfl) (fun _ _ _ h => h) (Or.inl ⟨by kernel_rfl, ?_⟩) (by assumption) ?_; rotate_left; (focus (intro w hSw; (try dsimp only at hSw); go_simp; (try with_reducible rfl)))
            simp only [Act.put, List.setIfInBounds_toArray, List.set_cons_zero, List.set_cons_succ]
            refine wpAnyH_take (i := 4) (oi := ⟨(some 20), _, _, _, _, _⟩) (v := ?_) rfl (by kernel_rfl) (by kernel_rfl) (by kernel_rfl) (fun _ _ _ h => h) (Or.inl ⟨by kernel_rfl, ?_⟩) (by assumption) ?_; rotate_left; (focus (intro w hSw; (try dsimp only at hSw); go_simp; (try with_reducible rfl)))
            simp only [Act.put, List.setIfInBounds_toArray, List.set_cons_zero, List.set_cons_succ]
            refine wpAnyH_take (i := 5) (oi := ⟨(some 21), _, _, _, _, _⟩) (v := ?_) rfl (by kernel_rfl) (by kernel_rfl) (by kernel_rfl) (fun _ _ _ h => h) (Or.inl ⟨by kernel_rfl, ?_⟩) (by assumption) ?_; rotate_left; (focus (intro w hSw; (try dsimp only at hSw); go_simp; (try with_reducible rfl)))
            simp only [Act.put, List.setIfInBounds_toArray, List.set_cons_zero, List.set_cons_succ]
            refine wpAnyH_take (i := 6) (oi := ⟨(some 22), _, _, _, _, _⟩) (v := ?_) rfl (by kernel_rfl) (by kernel_rfl) (by kernel_rfl) (fun _ _ _ h => h) (Or.inl ⟨by kernel_rfl, ?_⟩) (by assumption) ?_; rotate_left; (focus (intro w hSw; (try dsimp only at hSw); go_simp; (try with_reducible rfl)))
            simp only [Act.put, List.setIfInBounds_toArray, List.set_cons_zero, List.set_cons_succ]
            refine wpAnyH_take (i := 7) (oi := ⟨(some 23), _, _, _, _, _⟩) (v := ?_) rfl (by kernel_rfl) (by kernel_rfl) (by kernel_rfl) (fun _ _ _ h => h) (Or.inl ⟨by kernel_rfl, ?_⟩) (by assumption) ?_; rotate_left; (focus (intro w hSw; (try dsimp only at hSw); go_simp; (try with_reducible rfl)))
            simp only [Act.put, List.setIfInBounds_toArray, List.set_cons_zero, List.set_cons_succ]
            refine wpAnyH_take (i := 8) (oi := ⟨(some 24), _, _, _, _, _⟩) (v := ?_) rfl (by kernel_rfl) (by kernel_rfl) (by kernel_rfl) (fun _ _ _ h => h) (Or.inl ⟨by kernel_rfl, ?_⟩) (by assumption) ?_; rotate_left; (focus (intro w hSw; (try dsimp only at hSw); go_simp; (try with_reducible rfl)))
            simp only [Act.put, List.setIfInBounds_toArray, List.set_cons_zero, List.set_cons_succ]
            refine wpAnyH_done (by kernel_rfl) ?_ _
            go_wp2
            go_roundw
            case rel => exact ⟨k + 1, by omega, by go_num, B3, HJ⟩
            case measure => simp [intOf]; omega
        · have HQ2 := Lib.hid (show q = false by rw [← HQ.out, decide_eq_false (list_ne HXX.out HYY.out hxy)])
          · go_wp2_with fail
            have e1 : decide (x ≠ y) = true := by simpa using hxy
            refine wp_region_held_drew (S := fun W : World => W.cell? ⟨a, oa + k * 4, none⟩ = some (.int .i64 x.a) ∧ W.cell? ⟨a, oa + k * 4 + 1, none⟩ = some (.int .u32 (x.b : Int)) ∧ W.cell? ⟨a, oa + k * 4 + 2, none⟩ = some (.int .i64 x.c) ∧ W.cell? ⟨a, oa + k * 4 + 3, none⟩ = some (.int .i64 x.d) ∧ W.cell? ⟨b, ob + k * 4, none⟩ = some (.int .i64 y.a) ∧ W.cell? ⟨b, ob + k * 4 + 1, none⟩ = some (.int .u32 (y.b : Int)) ∧ W.cell? ⟨b, ob + k * 4 + 2, none⟩ = some (.int .i64 y.c) ∧ W.cell? ⟨b, ob + k * 4 + 3, none⟩ = some (.int .i64 y.d)) (by kernel_rfl) (⟨x0, x1, x2, x3, y0, y1, y2, y3⟩) (fun hHeld => ?_)
            refine wpAnyH_take (i := 0) (oi := ⟨(some 16), _, _, _, _, _⟩) (v := ?_) rfl (by kernel_rfl) (by kernel_rfl) (by kernel_rfl) (fun _ _ _ h => h) (Or.inl ⟨by kernel_rfl, ?_⟩) (by assumption) ?_; rotate_left; (focus (intro w hSw; (try dsimp only at hSw); go_simp; (try with_reducible rfl)))
            simp only [Act.put, List.setIfInBounds_toArray, List.set_cons_zero, List.set_cons_succ]
            refine wpAnyH_take (i := 1) (oi := ⟨(some 17), _, _, _, _, _⟩) (v := ?_) rfl (by kernel_rfl) (by kernel_rfl) (by kernel_rfl) (fun _ _ _ h => h) (Or.inl ⟨by kernel_rfl, ?_⟩) (by assumption) ?_; rotate_left; (focus (intro w hSw; (try dsimp only at hSw); go_simp; (try with_reducible rfl)))
            simp only [Act.put, List.setIfInBounds_toArray, List.set_cons_zero, List.set_cons_succ]
            refine wpAnyH_take (i := 2) (oi := ⟨(some 18), _, _, _, _, _⟩) (v := ?_) rfl (by kernel_rfl) (by kernel_rfl) (by kernel_rfl) (fun _ _ _ h => h) (Or.inl ⟨by kernel_rfl, ?_⟩) (by assumption) ?_; rotate_left; (focus (intro w hSw; (try dsimp only at hSw); go_simp; (try with_reducible rfl)))
            simp only [Act.put, List.setIfInBounds_toArray, List.set_cons_zero, List.set_cons_succ]
            refine wpAnyH_take (i := 3) (oi := ⟨(some 19), _, _, _, _, _⟩) (v := ?_) rfl (by kernel_rfl) (by kernel_rfl) (by kernel_rfl) (fun _ _ _ h => h) (Or.inl ⟨by kernel_rfl, ?_⟩) (by assumption) ?_; rotate_left; (focus (intro w hSw; (try dsimp only at hSw); go_simp; (try with_reducible rfl)))
            simp only [Act.put, List.setIfInBounds_toArray, List.set_cons_zero, List.set_cons_succ]
            refine wpAnyH_take (i := 4) (oi := ⟨(some 20), _, _, _, _, _⟩) (v := ?_) rfl (by kernel_rfl) (by kernel_rfl) (by kernel_rfl) (fun _ _ _ h => h) (Or.inl ⟨by kernel_rfl, ?_⟩) (by assumption) ?_; rotate_left; (focus (intro w hSw; (try dsimp only at hSw); go_simp; (try with_reducible rfl)))
            simp only [Act.put, List.setIfInBounds_toArray, List.set_cons_zero, List.set_cons_succ]
            refine wpAnyH_take (i := 5) (oi := ⟨(some 21), _, _, _, _, _⟩) (v := ?_) rfl (by kernel_rfl) (by kernel_rfl) (by kernel_rfl) (fun _ _ _ h => h) (Or.inl ⟨by kernel_rfl, ?_⟩) (by assumption) ?_; rotate_left; (focus (intro w hSw; (try dsimp only at hSw); go_simp; (try with_reducible rfl)))
            simp only [Act.put, List.setIfInBounds_toArray, List.set_cons_zero, List.set_cons_succ]
            refine wpAnyH_take (i := 6) (oi := ⟨(some 22), _, _, _, _, _⟩) (v := ?_) rfl (by kernel_rfl) (by kernel_rfl) (by kernel_rfl) (fun _ _ _ h => h) (Or.inl ⟨by kernel_rfl, ?_⟩) (by assumption) ?_; rotate_left; (focus (intro w hSw; (try dsimp only at hSw); go_simp; (try with_reducible rfl)))
            simp only [Act.put, List.setIfInBounds_toArray, List.set_cons_zero, List.set_cons_succ]
            refine wpAnyH_take (i := 7) (oi := ⟨(some 23), _, _, _, _, _⟩) (v := ?_) rfl (by kernel_rfl) (by kernel_rfl) (by kernel_rfl) (fun _ _ _ h => h) (Or.inl ⟨by kernel_rfl, ?_⟩) (by assumption) ?_; rotate_left; (focus (intro w hSw; (try dsimp only at hSw); go_simp; (try with_reducible rfl)))
            simp only [Act.put, List.setIfInBounds_toArray, List.set_cons_zero, List.set_cons_succ]
            refine wpAnyH_take (i := 8) (oi := ⟨(some 24), _, _, _, _, _⟩) (v := ?_) rfl (by kernel_rfl) (by kernel_rfl) (by kernel_rfl) (fun _ _ _ h => h) (Or.inl ⟨by kernel_rfl, ?_⟩) (by assumption) ?_; rotate_left; (focus (intro w hSw; (try dsimp only at hSw); go_simp; (try with_reducible rfl)))
            simp only [Act.put, List.setIfInBounds_toArray, List.set_cons_zero, List.set_cons_succ]
            refine wpAnyH_done (by kernel_rfl) ?_ _
            go_wp2
            go_ret
            exact ⟨by rw [HQ2.out]; rfl, B3.out⟩
      · obtain rfl : k = n := by omega
        have HQ2 := Lib.hid (show q = true by
          rw [← HQ.out, decide_eq_true_eq]
          exact list_eq (by rw [← HN.out, ← HM.out]) (fun j x y hx hy => HI.out j x y (by have := lt_of_get hx; rw [← HN.out] at this; omega) hx hy))
        go_wp2
        go_ret
        exact ⟨by rw [HQ2.out]; rfl, B.out⟩
  · have hne : ((n : Int) != (m : Int)) = true := by rw [bne_iff_ne]; omega
    have HQ2 := Lib.hid (show q = false by
      rw [← HQ.out, decide_eq_false_iff_not]
      intro e
      exact he (by rw [HN.out, HM.out, e]))
    clear he
    go_enter Try.func18, Try.ntmps18
    go_wp2
    go_ret
    exact ⟨by rw [HQ2.out]; rfl, Below.refl _ _⟩
set_option maxHeartbeats 2000000 in
theorem eq_Link (A B : Option Addr) (n m ca cb : Nat) (xs ys : List R4) (w : World) (hx : ML w A xs) (hy : ML w B ys) (hn : n = xs.length) (hm : m = ys.length) (hl : n ≤ maxLen) :
    Calls Try.prog 19 #[.slice A n ca, .slice B m cb] w fun r w' => r = .returned (.bool (decide (xs = ys))) ∧ Below w.heap.size w w' := by
  have HX := Lib.hid hx
  have HY := Lib.hid hy
  have HN := Lib.hid hn
  have HM := Lib.hid hm
  have hll : n ≤ 9223372036854775807 := hl
  generalize hq : decide (xs = ys) = q
  have HQ := Lib.hid hq
  have hneq := @neq_Link
  clear hx hy hn hm hl hq
  by_cases he : n = m
  · subst he
    go_enter Try.func19, Try.ntmps19
    go_wp2
    go_loopw [13] (fun iv wr => ∃ (k : Nat), k ≤ n ∧ iv = .int .i64 k ∧ Hid (Below w.heap.size w wr) ∧ Hid (∀ (j : Nat) x y, j < k → xs[j]? = some x → ys[j]? = some y → x = y)) (fun iv _ => n - (intOf iv).toNat)
    case atStart => exact ⟨0, Nat.zero_le _, rfl, Lib.hid (Below.refl _ _), Lib.hid (by intros; omega)⟩
    case round =>
      obtain ⟨k, hk, rfl, B, HI⟩ := hrel
      by_cases hlt : (k : Int) < (n : Int)
      · obtain ⟨x, hx⟩ : ∃ x, xs[k]? = some x := ⟨_, List.getElem?_eq_getElem (by rw [← HN.out]; omega)⟩
        obtain ⟨y, hy⟩ : ∃ y, ys[k]? = some y := ⟨_, List.getElem?_eq_getElem (by rw [← HM.out]; omega)⟩
        obtain ⟨a, oa, rfl, ⟨x0, x1, x2, x3⟩, -⟩ := (HX.out.below B.out) k x hx
        obtain ⟨b, ob, rfl, ⟨y0, y1, y2, y3⟩, -⟩ := (HY.out.below B.out) k y hy
        have HXX := Lib.hid hx
        have HYY := Lib.hid hy
        clear hx hy
        have B3 := Lib.hid (B.out.trans ((Below.refl wr.heap.size wr).drew.mono B.out.size))
        by_cases hxy : x = y
        · have HJ := Lib.hid (show ∀ (j : Nat) u v, j < k + 1 → xs[j]? = some u → ys[j]? = some v → u = v by
            intro j u v hj hu hv
            by_cases hjk : j = k
            · subst hjk
              rw [HXX.out] at hu
              rw [HYY.out] at hv
              cases hu
              cases hv
              exact hxy
            · exact HI.out j u v (by omega) hu hv)
          · go_wp2_with fail
            have e1 : decide (x ≠ y) = false := by simpa using hxy
            refine wp_region_held_drew (S := fun W : World => W.cell? ⟨a, oa + k * 4, none⟩ = some (.int .i64 x.a) ∧ W.cell? ⟨a, oa + k * 4 + 1, none⟩ = some (.int .u32 (x.b : Int)) ∧ W.cell? ⟨a, oa + k * 4 + 2, none⟩ = some (.int .i64 x.c) ∧ W.cell? ⟨a, oa + k * 4 + 3, none⟩ = some (.int .i64 x.d) ∧ W.cell? ⟨b, ob + k * 4, none⟩ = some (.int .i64 y.a) ∧ W.cell? ⟨b, ob + k * 4 + 1, none⟩ = some (.int .u32 (y.b : Int)) ∧ W.cell? ⟨b, ob + k * 4 + 2, none⟩ = some (.int .i64 y.c) ∧ W.cell? ⟨b, ob + k * 4 + 3, none⟩ = some (.int .i64 y.d)) (by kernel_rfl) (⟨x0, x1, x2, x3, y0, y1, y2, y3⟩) (fun hHeld => ?_)
            refine wpAnyH_take (i := 0) (oi := ⟨(some 16), _, _, _, _, _⟩) (v := ?_) rfl (by kernel_rfl) (by kernel_rfl) (by kernel_rfl) (fun _ _ _ h => h) (Or.inl ⟨by kernel_rfl, ?_⟩) (by assumption) ?_; rotate_left; (focus (intro w hSw; (try dsimp only at hSw); go_simp; (try with_reducible rfl)))
            simp only [Act.put, List.setIfInBounds_toArray, List.set_cons_zero, List.set_cons_succ]
            refine wpAnyH_take (i := 1) (oi := ⟨(some 17), _, _, _, _, _⟩) (v := ?_) rfl (by kernel_rfl) (by kernel_rfl) (by kernel_rfl) (fun _ _ _ h => h) (Or.inl ⟨by kernel_rfl, ?_⟩) (by assumption) ?_; rotate_left; (focus (intro w hSw; (try dsimp only at hSw); go_simp; (try with_reducible rfl)))
            simp only [Act.put, List.setIfInBounds_toArray, List.set_cons_zero, List.set_cons_succ]
            refine wpAnyH_take (i := 2) (oi := ⟨(some 18), _, _, _, _, _⟩) (v := ?_) rfl (by kernel_rfl) (by kernel_rfl) (by kernel_rfl) (fun _ _ _ h => h) (Or.inl ⟨by kernel_rfl, ?_⟩) (by assumption) ?_; rotate_left; (focus (intro w hSw; (try dsimp only at hSw); go_simp; (try with_reducible rfl)))
            simp only [Act.put, List.setIfInBounds_toArray, List.set_cons_zero, List.set_cons_succ]
            refine wpAnyH_take (i := 3) (oi := ⟨(some 19), _, _, _, _, _⟩) (v := ?_) rfl (by kernel_rfl) (by kernel_rfl) (by kernel_rfl) (fun _ _ _ h => h) (Or.inl ⟨by kernel_rfl, ?_⟩) (by assumption) ?_; rotate_left; (focus (intro w hSw; (try dsimp only at hSw); go_simp; (try with_reducible rfl)))
            simp only [Act.put, List.setIfInBounds_toArray, List.set_cons_zero, List.set_cons_succ]
            refine wpAnyH_take (i := 4) (oi := ⟨(some 20), _, _, _, _, _⟩) (v := ?_) rfl (by kernel_rfl) (by kernel_rfl) (by kernel_rfl) (fun _ _ _ h => h) (Or.inl ⟨by kernel_rfl, ?_⟩) (by assumption) ?_; rotate_left; (focus (intro w hSw; (try dsimp only at hSw); go_simp; (try with_reducible rfl)))
            simp only [Act.put, List.setIfInBounds_toArray, List.set_cons_zero, List.set_cons_succ]
            refine wpAnyH_take (i := 5) (oi := ⟨(some 21), _, _, _, _, _⟩) (v := ?_) rfl (by kernel_rfl) (by kernel_rfl) (by kernel_rfl) (fun _ _ _ h => h) (Or.inl ⟨by kernel_rfl, ?_⟩) (by assumption) ?_; rotate_left; (focus (intro w hSw; (try dsimp only at hSw); go_simp; (try with_reducible rfl)))
            simp only [Act.put, List.setIfInBounds_toArray, List.set_cons_zero, List.set_cons_succ]
            refine wpAnyH_take (i := 6) (oi := ⟨(some 22), _, _, _, _, _⟩) (v := ?_) rfl (by kernel_rfl) (by kernel_rfl) (by kernel_rfl) (fun _ _ _ h => h) (Or.inl ⟨by kernel_rfl, ?_⟩) (by assumption) ?_; rotate_left; (focus (intro w hSw; (try dsimp only at hSw); go_simp; (try with_reducible rfl)))
            simp only [Act.put, List.setIfInBounds_toArray, List.set_cons_zero, List.set_cons_succ]
            refine wpAnyH_take (i := 7) (oi := ⟨(some 23), _, _, _, _, _⟩) (v := ?_) rfl (by kernel_rfl) (by kernel_rfl) (by kernel_rfl) (fun _ _ _ h => h) (Or.inl ⟨by kernel_rfl, ?_⟩) (by assumption) ?_; rotate_left; (focus (intro w hSw; (try dsimp only at hSw); go_simp; (try with_reducible rfl)))
            simp only [Act.put, List.setIfInBounds_toArray, List.set_cons_zero, List.set_cons_succ]
            refine wpAnyH_take (i := 8) (oi := ⟨(some 24), _, _, _, _, _⟩) (v := ?_) rfl (by kernel_rfl) (by kernel_rfl) (by kernel_rfl) (fun _ _ _ h => h) (Or.inl ⟨by kernel_rfl, ?_⟩) (by assumption) ?_; rotate_left; (focus (intro w hSw; (try dsimp only at hSw); go_simp; (try with_reducible rfl)))
            simp only [Act.put, List.setIfInBounds_toArray, List.set_cons_zero, List.set_cons_succ]
            refine wpAnyH_done (by kernel_rfl) ?_ _
            go_wp2
            go_roundw
            case rel => exact ⟨k + 1, by omega, by go_num, B3, HJ⟩
            case measure => simp [intOf]; omega
        · have HQ2 := Lib.hid (show q = false by rw [← HQ.out, decide_eq_false (list_ne HXX.out HYY.out hxy)])
          · go_wp2_with fail
            have e1 : decide (x ≠ y) = true := by simpa using hxy
            refine wp_region_held_drew (S := fun W : World => W.cell? ⟨a, oa + k * 4, none⟩ = some (.int .i64 x.a) ∧ W.cell? ⟨a, oa + k * 4 + 1, none⟩ = some (.int .u32 (x.b : Int)) ∧ W.cell? ⟨a, oa + k * 4 + 2, none⟩ = some (.int .i64 x.c) ∧ W.cell? ⟨a, oa + k * 4 + 3, none⟩ = some (.int .i64 x.d) ∧ W.cell? ⟨b, ob + k * 4, none⟩ = some (.int .i64 y.a) ∧ W.cell? ⟨b, ob + k * 4 + 1, none⟩ = some (.int .u32 (y.b : Int)) ∧ W.cell? ⟨b, ob + k * 4 + 2, none⟩ = some (.int .i64 y.c) ∧ W.cell? ⟨b, ob + k * 4 + 3, none⟩ = some (.int .i64 y.d)) (by kernel_rfl) (⟨x0, x1, x2, x3, y0, y1, y2, y3⟩) (fun hHeld => ?_)
            refine wpAnyH_take (i := 0) (oi := ⟨(some 16), _, _, _, _, _⟩) (v := ?_) rfl (by kernel_rfl) (by kernel_rfl) (by kernel_rfl) (fun _ _ _ h => h) (Or.inl ⟨by kernel_rfl, ?_⟩) (by assumption) ?_; rotate_left; (focus (intro w hSw; (try dsimp only at hSw); go_simp; (try with_reducible rfl)))
            simp only [Act.put, List.setIfInBounds_toArray, List.set_cons_zero, List.set_cons_succ]
            refine wpAnyH_take (i := 1) (oi := ⟨(some 17), _, _, _, _, _⟩) (v := ?_) rfl (by kernel_rfl) (by kernel_rfl) (by kernel_rfl) (fun _ _ _ h => h) (Or.inl ⟨by kernel_rfl, ?_⟩) (by assumption) ?_; rotate_left; (focus (intro w hSw; (try dsimp only at hSw); go_simp; (try with_reducible rfl)))
            simp only [Act.put, List.setIfInBounds_toArray, List.set_cons_zero, List.set_cons_succ]
            refine wpAnyH_take (i := 2) (oi := ⟨(some 18), _, _, _, _, _⟩) (v := ?_) rfl (by kernel_rfl) (by kernel_rfl) (by kernel_rfl) (fun _ _ _ h => h) (Or.inl ⟨by kernel_rfl, ?_⟩) (by assumption) ?_; rotate_left; (focus (intro w hSw; (try dsimp only at hSw); go_simp; (try with_reducible rfl)))
            simp only [Act.put, List.setIfInBounds_toArray, List.set_cons_zero, List.set_cons_succ]
            refine wpAnyH_take (i := 3) (oi := ⟨(some 19), _, _, _, _, _⟩) (v := ?_) rfl (by kernel_rfl) (by kernel_rfl) (by kernel_rfl) (fun _ _ _ h => h) (Or.inl ⟨by kernel_rfl, ?_⟩) (by assumption) ?_; rotate_left; (focus (intro w hSw; (try dsimp only at hSw); go_simp; (try with_reducible rfl)))
            simp only [Act.put, List.setIfInBounds_toArray, List.set_cons_zero, List.set_cons_succ]
            refine wpAnyH_take (i := 4) (oi := ⟨(some 20), _, _, _, _, _⟩) (v := ?_) rfl (by kernel_rfl) (by kernel_rfl) (by kernel_rfl) (fun _ _ _ h => h) (Or.inl ⟨by kernel_rfl, ?_⟩) (by assumption) ?_; rotate_left; (focus (intro w hSw; (try dsimp only at hSw); go_simp; (try with_reducible rfl)))
            simp only [Act.put, List.setIfInBounds_toArray, List.set_cons_zero, List.set_cons_succ]
            refine wpAnyH_take (i := 5) (oi := ⟨(some 21), _, _, _, _, _⟩) (v := ?_) rfl (by kernel_rfl) (by kernel_rfl) (by kernel_rfl) (fun _ _ _ h => h) (Or.inl ⟨by kernel_rfl, ?_⟩) (by assumption) ?_; rotate_left; (focus (intro w hSw; (try dsimp only at hSw); go_simp; (try with_reducible rfl)))
            simp only [Act.put, List.setIfInBounds_toArray, List.set_cons_zero, List.set_cons_succ]
            refine wpAnyH_take (i := 6) (oi := ⟨(some 22), _, _, _, _, _⟩) (v := ?_) rfl (by kernel_rfl) (by kernel_rfl) (by kernel_rfl) (fun _ _ _ h => h) (Or.inl ⟨by kernel_rfl, ?_⟩) (by assumption) ?_; rotate_left; (focus (intro w hSw; (try dsimp only at hSw); go_simp; (try with_reducible rfl)))
            simp only [Act.put, List.setIfInBounds_toArray, List.set_cons_zero, List.set_cons_succ]
            refine wpAnyH_take (i := 7) (oi := ⟨(some 23), _, _, _, _, _⟩) (v := ?_) rfl (by kernel_rfl) (by kernel_rfl) (by kernel_rfl) (fun _ _ _ h => h) (Or.inl ⟨by kernel_rfl, ?_⟩) (by assumption) ?_; rotate_left; (focus (intro w hSw; (try dsimp only at hSw); go_simp; (try with_reducible rfl)))
            simp only [Act.put, List.setIfInBounds_toArray, List.set_cons_zero, List.set_cons_succ]
            refine wpAnyH_take (i := 8) (oi := ⟨(some 24), _, _, _, _, _⟩) (v := ?_) rfl (by kernel_rfl) (by kernel_rfl) (by kernel_rfl) (fun _ _ _ h => h) (Or.inl ⟨by kernel_rfl, ?_⟩) (by assumption) ?_; rotate_left; (focus (intro w hSw; (try dsimp only at hSw); go_simp; (try with_reducible rfl)))
            simp only [Act.put, List.setIfInBounds_toArray, List.set_cons_zero, List.set_cons_succ]
            refine wpAnyH_done (by kernel_rfl) ?_ _
            go_wp2
            go_ret
            exact ⟨by rw [HQ2.out]; rfl, B3.out⟩
      · obtain rfl : k = n := by omega
        have HQ2 := Lib.hid (show q = true by
          rw [← HQ.out, decide_eq_true_eq]
          exact list_eq (by rw [← HN.out, ← HM.out]) (fun j x y hx hy => HI.out j x y (by have := lt_of_get hx; rw [← HN.out] at this; omega) hx hy))
        go_wp2
        go_ret
        exact ⟨by rw [HQ2.out]; rfl, B.out⟩
  · have hne : ((n : Int) != (m : Int)) = true := by rw [bne_iff_ne]; omega
    have HQ2 := Lib.hid (show q = false by
      rw [← HQ.out, decide_eq_false_iff_not]
      intro e
      exact he (by rw [HN.out, HM.out, e]))
    clear he
    go_enter Try.func19, Try.ntmps19
    go_wp2
    go_ret
    exact ⟨by rw [HQ2.out]; rfl, Below.refl _ _⟩
end Go.Proofs.Ythgfgnphncpoaaa.ConfW

