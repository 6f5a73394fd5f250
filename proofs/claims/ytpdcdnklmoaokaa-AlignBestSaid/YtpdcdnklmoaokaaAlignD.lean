/- Hear. -/
import Derived.Test.YtpdcdnklmoaokaaAlignB
import Derived.Test.YtpdcdnklmoaokaaAlignC
namespace Go.Proofs.Ytpdcdnklmoaokaa.AlignW
open Go.RowKit Shell
open FrameW (CV rightC)
def upd {α : Type} (B : Nat → α) (i : Nat) (v : α) : Nat → α := fun j => if j = i then v else B j
section
variable {w : World} {g : Nat} {y e a : Int} {B : Nat → Int} {C : Nat → Nat}
theorem hear_nil (n t k f y2 c l : Int) (w : World) : Calls Try.prog 12 #[.pointer none, .int .i64 n, .int .i64 t, CV k f y2 c l] w fun r w' => r = .returned (.int .i64 1) ∧ Below w.heap.size w w' := by
  go_enter Try.func12, Try.ntmps12
  go_wp2
  go_ret
  exact ⟨rfl, al (Below.refl _ _) _⟩
theorem hear_arg (P : Addr) (n t k f y2 c l : Int) (hc : 0 ≤ c) (h : okT n = false ∨ okT t = false ∨ okF k f y2 c l = false) (w : World) : Calls Try.prog 12 #[.pointer (some P), .int .i64 n, .int .i64 t, CV k f y2 c l] w fun r w' => r = .returned (.int .i64 1) ∧ Below w.heap.size w w' := by
  have X := Lib.hid ((Stay.start w).alloc (.cells #[.int .i64 k, .int .i64 f, .int .i64 y2, .int .u32 c, .int .i64 l] 38 (0, 0)))
  have IC := Lib.hid (fun W => isCompressed_any k f y2 c l hc W)
  have XA := Lib.hid (FrameW.cells5 (X.out.at 0 rfl))
  obtain ⟨c0, c1, c2, c3, c4⟩ := XA.out
  cases T1 : okT n with
  | false =>
    clear h
    go_enter Try.func12, Try.ntmps12
    go_wp2_with (go_at_call 18; refine (isTime_any _ _).mono ?_; rintro r w' ⟨rfl, rfl⟩; first | rw [T1] | rw [T2])
    go_ret
    exact ⟨rfl, X.out.b⟩
  | true =>
    cases T2 : okT t with
    | false =>
      clear h
      go_enter Try.func12, Try.ntmps12
      go_wp2_with (go_at_call 18; refine (isTime_any _ _).mono ?_; rintro r w' ⟨rfl, rfl⟩; first | rw [T1] | rw [T2])
      go_ret
      exact ⟨rfl, X.out.b⟩
    | true =>
      have F : okF k f y2 c l = false := by rcases h with h | h | h
                                            · rw [T1] at h; cases h
                                            · rw [T2] at h; cases h
                                            · exact h
      rw [F] at IC
      clear h F
      go_enter Try.func12, Try.ntmps12
      go_wp2_with (first
        | (go_at_call 18; refine (isTime_any _ _).mono ?_; rintro r w' ⟨rfl, rfl⟩; first | rw [T1] | rw [T2])
        | (go_at_call 19; refine (IC.out _).mono ?_; rintro r w1 ⟨rfl, b1⟩; have X1 := Lib.hid (X.out.next b1); clear b1; obtain ⟨c0, c1, c2, c3, c4⟩ := FrameW.cells5 (X1.out.at 0 rfl)))
      go_ret
      exact ⟨rfl, X1.out.b⟩
set_option maxHeartbeats 2000000 in
theorem hear_there0 (h : w.heap[g]? = some (abx y e a B C)) (n t k y2 c l : Int) (T1 : okT n = true) (T2 : okT t = true) (F : okF k 6 y2 c l = true) (hi : C 0 ≠ 0) :
    Calls Try.prog 12 #[.pointer (some ⟨g, 0, none⟩), .int .i64 n, .int .i64 t, CV k 6 y2 c l] w fun r w' => r = .returned (.int .i64 7) ∧ Below w.heap.size w w' := by
  have hc : 0 ≤ c := by have := (okF_iff.1 F).1; unfold rightC at this; omega
  have IC := Lib.hid (fun W => isCompressed_any k 6 y2 c l hc W)
  rw [F] at IC
  have X := Lib.hid (((Stay.start w).add h).alloc (.cells #[.int .i64 k, .int .i64 6, .int .i64 y2, .int .u32 c, .int .i64 l] 38 (0, 0)))
  obtain ⟨c0, c1, c2, c3, c4⟩ := FrameW.cells5 (X.out.at 0 rfl)
  have e1 : (((C 0 : Nat) : Int) != 0) = true := by rw [bne_iff_ne]; omega
  clear h hc F hi
  go_enter Try.func12, Try.ntmps12
  go_wp2_with (first
    | (go_at_call 18; refine (isTime_any _ _).mono ?_; rintro r w' ⟨rfl, rfl⟩; first | rw [T1] | rw [T2])
    | (go_at_call 19; refine (IC.out _).mono ?_; rintro r w1 ⟨rfl, b1⟩; have X1 := Lib.hid (X.out.next b1); clear b1; obtain ⟨c0, c1, c2, c3, c4⟩ := FrameW.cells5 (X1.out.at 0 rfl)))
  obtain ⟨a0, a1, a2, a3, a4, a5, a6⟩ := cells7 (X1.out.at 1 rfl)
  go_region
  go_wp2
  go_ret
  exact ⟨rfl, X1.out.b.drew⟩
set_option maxHeartbeats 4000000 in
theorem hear_range0 (h : w.heap[g]? = some (abx y e a B C)) (n t k y2 c l : Int) (T1 : okT n = true) (T2 : okT t = true) (F : okF k 6 y2 c l = true) (hi : C 0 = 0) (b : Int) (ok : Bool) (BY : ∀ W, Below w.heap.size w W → Calls Try.prog 20 #[.pointer (some ⟨g, 0, none⟩), .int .i64 n, .int .i64 t] W fun r w' => r = .returned (.tuple #[.int .i64 b, .bool ok]) ∧ Below W.heap.size W w') (hr : y2 ≠ n ∨ ok = false) :
    Calls Try.prog 12 #[.pointer (some ⟨g, 0, none⟩), .int .i64 n, .int .i64 t, CV k 6 y2 c l] w fun r w' => r = .returned (.int .i64 4) ∧ Below w.heap.size w w' := by
  have hc : 0 ≤ c := by have := (okF_iff.1 F).1; unfold rightC at this; omega
  have IC := Lib.hid (fun W => isCompressed_any k 6 y2 c l hc W)
  rw [F] at IC
  have X := Lib.hid (((Stay.start w).add h).alloc (.cells #[.int .i64 k, .int .i64 6, .int .i64 y2, .int .u32 c, .int .i64 l] 38 (0, 0)))
  obtain ⟨c0, c1, c2, c3, c4⟩ := FrameW.cells5 (X.out.at 0 rfl)
  have e1 : (((C 0 : Nat) : Int) != 0) = false := by rw [hi]; rfl
  have BYH := Lib.hid BY
  clear h hc F hi BY
  by_cases hy : y2 = n
  · obtain rfl : ok = false := hr.resolve_left (fun h => h hy)
    have e2 : (y2 != n) = false := by rw [hy]; exact bne_self_eq_false n
    clear hr hy
    go_enter Try.func12, Try.ntmps12
    go_wp2_with (first
      | (go_at_call 18; refine (isTime_any _ _).mono ?_; rintro r w' ⟨rfl, rfl⟩; first | rw [T1] | rw [T2])
      | (go_at_call 19; refine (IC.out _).mono ?_; rintro r w1 ⟨rfl, b1⟩; have X1 := Lib.hid (X.out.next b1); clear b1; obtain ⟨c0, c1, c2, c3, c4⟩ := FrameW.cells5 (X1.out.at 0 rfl)))
    obtain ⟨a0, a1, a2, a3, a4, a5, a6⟩ := cells7 (X1.out.at 1 rfl)
    go_region
    go_wp2_with (go_at_call 20; refine (BYH.out _ X1.out.b.drew).mono ?_; rintro r w2 ⟨rfl, b2⟩; have X2 := Lib.hid (X1.out.drew.next b2); clear b2; obtain ⟨c0, c1, c2, c3, c4⟩ := FrameW.cells5 (X2.out.at 0 rfl))
    go_ret
    exact ⟨rfl, X2.out.b⟩
  · have e2 : (y2 != n) = true := by rw [bne_iff_ne]; exact hy
    clear hr hy
    go_enter Try.func12, Try.ntmps12
    go_wp2_with (first
      | (go_at_call 18; refine (isTime_any _ _).mono ?_; rintro r w' ⟨rfl, rfl⟩; first | rw [T1] | rw [T2])
      | (go_at_call 19; refine (IC.out _).mono ?_; rintro r w1 ⟨rfl, b1⟩; have X1 := Lib.hid (X.out.next b1); clear b1; obtain ⟨c0, c1, c2, c3, c4⟩ := FrameW.cells5 (X1.out.at 0 rfl)))
    obtain ⟨a0, a1, a2, a3, a4, a5, a6⟩ := cells7 (X1.out.at 1 rfl)
    go_region
    go_wp2_with (go_at_call 20; refine (BYH.out _ X1.out.b.drew).mono ?_; rintro r w2 ⟨rfl, b2⟩; have X2 := Lib.hid (X1.out.drew.next b2); clear b2; obtain ⟨c0, c1, c2, c3, c4⟩ := FrameW.cells5 (X2.out.at 0 rfl))
    go_ret
    exact ⟨rfl, X2.out.b⟩
set_option maxHeartbeats 4000000 in
theorem hear_ok0 (h : w.heap[g]? = some (abx y e a B C)) (n t k y2 c l : Int) (T1 : okT n = true) (T2 : okT t = true) (F : okF k 6 y2 c l = true) (hi : C 0 = 0) (b : Int) (BY : ∀ W, Below w.heap.size w W → Calls Try.prog 20 #[.pointer (some ⟨g, 0, none⟩), .int .i64 n, .int .i64 t] W fun r w' => r = .returned (.tuple #[.int .i64 b, .bool true]) ∧ Below W.heap.size W w') (cn : Nat) (hcn : c = (cn : Int)) (hy : y2 = n) :
    Calls Try.prog 12 #[.pointer (some ⟨g, 0, none⟩), .int .i64 n, .int .i64 t, CV k 6 y2 c l] w fun r w' => r = .returned (.int .i64 0) ∧ w'.heap[g]? = some (abx y e a (upd B 0 b) (upd C 0 cn)) ∧ Kept g w w' := by
  have hc : 0 ≤ c := by have := (okF_iff.1 F).1; unfold rightC at this; omega
  have IC := Lib.hid (fun W => isCompressed_any k 6 y2 c l hc W)
  rw [F] at IC
  have X := Lib.hid (((Stay.start w).add h).alloc (.cells #[.int .i64 k, .int .i64 6, .int .i64 y2, .int .u32 c, .int .i64 l] 38 (0, 0)))
  obtain ⟨c0, c1, c2, c3, c4⟩ := FrameW.cells5 (X.out.at 0 rfl)
  have e1 : (((C 0 : Nat) : Int) != 0) = false := by rw [hi]; rfl
  have BYH := Lib.hid BY
  subst hcn
  subst hy
  clear h hc F hi BY
  have e2 : (y2 != y2) = false := bne_self_eq_false y2
  go_enter Try.func12, Try.ntmps12
  go_wp2_with (first
    | (go_at_call 18; refine (isTime_any _ _).mono ?_; rintro r w' ⟨rfl, rfl⟩; first | rw [T1] | rw [T2])
    | (go_at_call 19; refine (IC.out _).mono ?_; rintro r w1 ⟨rfl, b1⟩; have X1 := Lib.hid (X.out.next b1); clear b1; obtain ⟨c0, c1, c2, c3, c4⟩ := FrameW.cells5 (X1.out.at 0 rfl)))
  obtain ⟨a0, a1, a2, a3, a4, a5, a6⟩ := cells7 (X1.out.at 1 rfl)
  go_region
  go_upto_region 9 with (go_at_call 20; refine (BYH.out _ X1.out.b.drew).mono ?_; rintro r w2 ⟨rfl, b2⟩; have X2 := Lib.hid (X1.out.drew.next b2); clear b2; obtain ⟨c0, c1, c2, c3, c4⟩ := FrameW.cells5 (X2.out.at 0 rfl))
  clear a0 a1 a2 a3 a4 a5 a6
  obtain ⟨a0, a1, a2, a3, a4, a5, a6⟩ := cells7 (X2.out.at 1 rfl)
  obtain ⟨f3, f4, f5, f6⟩ := frozen7 (X2.out.at 1 rfl)
  go_wp2
  go_ret
  exact ⟨rfl, heap_setCell_same _ g 4 _ _ _ (heap_setCell_same w2 g 3 _ _ _ (X2.out.at 1 rfl)), (Kept.of X2.out.b).trans (kept2 w2 g 3 4 _ _)⟩
set_option maxHeartbeats 2000000 in
theorem hear_there1 (h : w.heap[g]? = some (abx y e a B C)) (n t k y2 c l : Int) (T1 : okT n = true) (T2 : okT t = true) (F : okF k 7 y2 c l = true) (hi : C 1 ≠ 0) :
    Calls Try.prog 12 #[.pointer (some ⟨g, 0, none⟩), .int .i64 n, .int .i64 t, CV k 7 y2 c l] w fun r w' => r = .returned (.int .i64 7) ∧ Below w.heap.size w w' := by
  have hc : 0 ≤ c := by have := (okF_iff.1 F).1; unfold rightC at this; omega
  have IC := Lib.hid (fun W => isCompressed_any k 7 y2 c l hc W)
  rw [F] at IC
  have X := Lib.hid (((Stay.start w).add h).alloc (.cells #[.int .i64 k, .int .i64 7, .int .i64 y2, .int .u32 c, .int .i64 l] 38 (0, 0)))
  obtain ⟨c0, c1, c2, c3, c4⟩ := FrameW.cells5 (X.out.at 0 rfl)
  have e1 : (((C 1 : Nat) : Int) != 0) = true := by rw [bne_iff_ne]; omega
  clear h hc F hi
  go_enter Try.func12, Try.ntmps12
  go_wp2_with (first
    | (go_at_call 18; refine (isTime_any _ _).mono ?_; rintro r w' ⟨rfl, rfl⟩; first | rw [T1] | rw [T2])
    | (go_at_call 19; refine (IC.out _).mono ?_; rintro r w1 ⟨rfl, b1⟩; have X1 := Lib.hid (X.out.next b1); clear b1; obtain ⟨c0, c1, c2, c3, c4⟩ := FrameW.cells5 (X1.out.at 0 rfl)))
  obtain ⟨a0, a1, a2, a3, a4, a5, a6⟩ := cells7 (X1.out.at 1 rfl)
  go_region
  go_wp2
  go_ret
  exact ⟨rfl, X1.out.b.drew⟩
set_option maxHeartbeats 4000000 in
theorem hear_range1 (h : w.heap[g]? = some (abx y e a B C)) (n t k y2 c l : Int) (T1 : okT n = true) (T2 : okT t = true) (F : okF k 7 y2 c l = true) (hi : C 1 = 0) (b : Int) (ok : Bool) (BY : ∀ W, Below w.heap.size w W → Calls Try.prog 20 #[.pointer (some ⟨g, 0, none⟩), .int .i64 n, .int .i64 t] W fun r w' => r = .returned (.tuple #[.int .i64 b, .bool ok]) ∧ Below W.heap.size W w') (hr : y2 ≠ n ∨ ok = false) :
    Calls Try.prog 12 #[.pointer (some ⟨g, 0, none⟩), .int .i64 n, .int .i64 t, CV k 7 y2 c l] w fun r w' => r = .returned (.int .i64 4) ∧ Below w.heap.size w w' := by
  have hc : 0 ≤ c := by have := (okF_iff.1 F).1; unfold rightC at this; omega
  have IC := Lib.hid (fun W => isCompressed_any k 7 y2 c l hc W)
  rw [F] at IC
  have X := Lib.hid (((Stay.start w).add h).alloc (.cells #[.int .i64 k, .int .i64 7, .int .i64 y2, .int .u32 c, .int .i64 l] 38 (0, 0)))
  obtain ⟨c0, c1, c2, c3, c4⟩ := FrameW.cells5 (X.out.at 0 rfl)
  have e1 : (((C 1 : Nat) : Int) != 0) = false := by rw [hi]; rfl
  have BYH := Lib.hid BY
  clear h hc F hi BY
  by_cases hy : y2 = n
  · obtain rfl : ok = false := hr.resolve_left (fun h => h hy)
    have e2 : (y2 != n) = false := by rw [hy]; exact bne_self_eq_false n
    clear hr hy
    go_enter Try.func12, Try.ntmps12
    go_wp2_with (first
      | (go_at_call 18; refine (isTime_any _ _).mono ?_; rintro r w' ⟨rfl, rfl⟩; first | rw [T1] | rw [T2])
      | (go_at_call 19; refine (IC.out _).mono ?_; rintro r w1 ⟨rfl, b1⟩; have X1 := Lib.hid (X.out.next b1); clear b1; obtain ⟨c0, c1, c2, c3, c4⟩ := FrameW.cells5 (X1.out.at 0 rfl)))
    obtain ⟨a0, a1, a2, a3, a4, a5, a6⟩ := cells7 (X1.out.at 1 rfl)
    go_region
    go_wp2_with (go_at_call 20; refine (BYH.out _ X1.out.b.drew).mono ?_; rintro r w2 ⟨rfl, b2⟩; have X2 := Lib.hid (X1.out.drew.next b2); clear b2; obtain ⟨c0, c1, c2, c3, c4⟩ := FrameW.cells5 (X2.out.at 0 rfl))
    go_ret
    exact ⟨rfl, X2.out.b⟩
  · have e2 : (y2 != n) = true := by rw [bne_iff_ne]; exact hy
    clear hr hy
    go_enter Try.func12, Try.ntmps12
    go_wp2_with (first
      | (go_at_call 18; refine (isTime_any _ _).mono ?_; rintro r w' ⟨rfl, rfl⟩; first | rw [T1] | rw [T2])
      | (go_at_call 19; refine (IC.out _).mono ?_; rintro r w1 ⟨rfl, b1⟩; have X1 := Lib.hid (X.out.next b1); clear b1; obtain ⟨c0, c1, c2, c3, c4⟩ := FrameW.cells5 (X1.out.at 0 rfl)))
    obtain ⟨a0, a1, a2, a3, a4, a5, a6⟩ := cells7 (X1.out.at 1 rfl)
    go_region
    go_wp2_with (go_at_call 20; refine (BYH.out _ X1.out.b.drew).mono ?_; rintro r w2 ⟨rfl, b2⟩; have X2 := Lib.hid (X1.out.drew.next b2); clear b2; obtain ⟨c0, c1, c2, c3, c4⟩ := FrameW.cells5 (X2.out.at 0 rfl))
    go_ret
    exact ⟨rfl, X2.out.b⟩
set_option maxHeartbeats 4000000 in
theorem hear_ok1 (h : w.heap[g]? = some (abx y e a B C)) (n t k y2 c l : Int) (T1 : okT n = true) (T2 : okT t = true) (F : okF k 7 y2 c l = true) (hi : C 1 = 0) (b : Int) (BY : ∀ W, Below w.heap.size w W → Calls Try.prog 20 #[.pointer (some ⟨g, 0, none⟩), .int .i64 n, .int .i64 t] W fun r w' => r = .returned (.tuple #[.int .i64 b, .bool true]) ∧ Below W.heap.size W w') (cn : Nat) (hcn : c = (cn : Int)) (hy : y2 = n) :
    Calls Try.prog 12 #[.pointer (some ⟨g, 0, none⟩), .int .i64 n, .int .i64 t, CV k 7 y2 c l] w fun r w' => r = .returned (.int .i64 0) ∧ w'.heap[g]? = some (abx y e a (upd B 1 b) (upd C 1 cn)) ∧ Kept g w w' := by
  have hc : 0 ≤ c := by have := (okF_iff.1 F).1; unfold rightC at this; omega
  have IC := Lib.hid (fun W => isCompressed_any k 7 y2 c l hc W)
  rw [F] at IC
  have X := Lib.hid (((Stay.start w).add h).alloc (.cells #[.int .i64 k, .int .i64 7, .int .i64 y2, .int .u32 c, .int .i64 l] 38 (0, 0)))
  obtain ⟨c0, c1, c2, c3, c4⟩ := FrameW.cells5 (X.out.at 0 rfl)
  have e1 : (((C 1 : Nat) : Int) != 0) = false := by rw [hi]; rfl
  have BYH := Lib.hid BY
  subst hcn
  subst hy
  clear h hc F hi BY
  have e2 : (y2 != y2) = false := bne_self_eq_false y2
  go_enter Try.func12, Try.ntmps12
  go_wp2_with (first
    | (go_at_call 18; refine (isTime_any _ _).mono ?_; rintro r w' ⟨rfl, rfl⟩; first | rw [T1] | rw [T2])
    | (go_at_call 19; refine (IC.out _).mono ?_; rintro r w1 ⟨rfl, b1⟩; have X1 := Lib.hid (X.out.next b1); clear b1; obtain ⟨c0, c1, c2, c3, c4⟩ := FrameW.cells5 (X1.out.at 0 rfl)))
  obtain ⟨a0, a1, a2, a3, a4, a5, a6⟩ := cells7 (X1.out.at 1 rfl)
  go_region
  go_upto_region 9 with (go_at_call 20; refine (BYH.out _ X1.out.b.drew).mono ?_; rintro r w2 ⟨rfl, b2⟩; have X2 := Lib.hid (X1.out.drew.next b2); clear b2; obtain ⟨c0, c1, c2, c3, c4⟩ := FrameW.cells5 (X2.out.at 0 rfl))
  clear a0 a1 a2 a3 a4 a5 a6
  obtain ⟨a0, a1, a2, a3, a4, a5, a6⟩ := cells7 (X2.out.at 1 rfl)
  obtain ⟨f3, f4, f5, f6⟩ := frozen7 (X2.out.at 1 rfl)
  go_wp2
  go_ret
  exact ⟨rfl, heap_setCell_same _ g 6 _ _ _ (heap_setCell_same w2 g 5 _ _ _ (X2.out.at 1 rfl)), (Kept.of X2.out.b).trans (kept2 w2 g 5 6 _ _)⟩
end
end Go.Proofs.Ytpdcdnklmoaokaa.AlignW
