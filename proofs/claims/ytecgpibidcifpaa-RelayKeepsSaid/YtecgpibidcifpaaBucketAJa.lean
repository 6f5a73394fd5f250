/- Package bucket: isTime, isLimit, New, Next, Take, Passed, Refused, Budget. -/
import Derived.Test.YtecgpibidcifpaaBucketP
import Derived.Test.YtecgpibidcifpaaSmallJa
import Derived.Test.YtecgpibidcifpaaProg
import Derived.Deep.RegionHeld3
import Derived.Deep.RegionLaw
import Derived.Deep.RegionWith
import Derived.Deep.AppendLies
import Derived.Deep.DeepCutAuto
import Derived.Deep.CutBlock
import Derived.Laws.AppendOwn
import Derived.Laws.OwnMore
import Derived.OwnWalk
import Derived.OneCell
import Derived.Laws.Unary
import Derived.Laws.Shifts
import Derived.IntWalk
import Derived.Laws.Cover2
import Derived.Laws.Pointers
import Derived.Laws.NewBlocks
import Derived.WalkKit
namespace Go.Proofs.Ytecgpibidcifpaa.BucketW
open Go.RowKit Shell
theorem isTime_any (t : Int) (w : World) : Calls Try.prog 91 #[.int .i64 t] w fun e w' => e = .returned (.bool (!far t)) ∧ w = w' := by
  by_cases h : -1125899906842624 ≤ t
  · by_cases h2 : t ≤ 1125899906842624
    · rw [show far t = false from far_iff.2 ⟨h, h2⟩]
      go_enter Try.func91, Try.ntmps91
      go_wp2
      go_ret
      exact ⟨rfl, rfl⟩
    · rw [show far t = true by rw [← Bool.not_eq_false, far_iff]; omega]
      go_enter Try.func91, Try.ntmps91
      go_wp2
      go_ret
      exact ⟨rfl, rfl⟩
  · rw [show far t = true by rw [← Bool.not_eq_false, far_iff]; omega]
    go_enter Try.func91, Try.ntmps91
    go_wp2
    go_ret
    exact ⟨rfl, rfl⟩
theorem rgt_no {g j : Int} (h : ¬((0 < g ∧ g ≤ 1073741824) ∧ 0 ≤ j ∧ j ≤ 1073741824)) : rgt g j = false := by rw [← Bool.not_eq_true, rgt_iff]; exact h
theorem isLimit_any (g j : Int) (w : World) : Calls Try.prog 31 #[.int .i64 g, .int .i64 j] w fun e w' => e = .returned (.bool (rgt g j)) ∧ w = w' := by
  by_cases h1 : 1 ≤ g
  · by_cases h2 : g ≤ 1073741824
    · by_cases h3 : 0 ≤ j
      · by_cases h4 : j ≤ 1073741824
        · rw [rgt_iff.2 ⟨⟨by omega, h2⟩, h3, h4⟩]
          go_enter Try.func31, Try.ntmps31
          go_wp2
          go_ret
          exact ⟨rfl, rfl⟩
        · rw [rgt_no (by omega)]
          go_enter Try.func31, Try.ntmps31
          go_wp2
          go_ret
          exact ⟨rfl, rfl⟩
      · rw [rgt_no (by omega)]
        go_enter Try.func31, Try.ntmps31
        go_wp2
        go_ret
        exact ⟨rfl, rfl⟩
    · rw [rgt_no (by omega)]
      go_enter Try.func31, Try.ntmps31
      go_wp2
      go_ret
      exact ⟨rfl, rfl⟩
  · rw [rgt_no (by omega)]
    go_enter Try.func31, Try.ntmps31
    go_wp2
    go_ret
    exact ⟨rfl, rfl⟩
theorem cells6 {w : World} {j : Nat} {a b c d e f : Value} {t : TypeId} (h : w.heap[j]? = some (.cells #[a, b, c, d, e, f] t (0, 0))) : w.cell? ⟨j, 0, none⟩ = some a ∧ w.cell? ⟨j, 1, none⟩ = some b ∧ w.cell? ⟨j, 2, none⟩ = some c ∧ w.cell? ⟨j, 3, none⟩ = some d ∧ w.cell? ⟨j, 4, none⟩ = some e ∧ w.cell? ⟨j, 5, none⟩ = some f :=
  ⟨cell_of_row w j 0 _ _ _ h, cell_of_row w j 1 _ _ _ h, cell_of_row w j 2 _ _ _ h, cell_of_row w j 3 _ _ _ h, cell_of_row w j 4 _ _ _ h, cell_of_row w j 5 _ _ _ h⟩
theorem frozen6 {w : World} {j : Nat} {a b c d e f : Value} {t : TypeId} (h : w.heap[j]? = some (.cells #[a, b, c, d, e, f] t (0, 0))) : w.frozen? ⟨j, 2, none⟩ = false ∧ w.frozen? ⟨j, 3, none⟩ = false ∧ w.frozen? ⟨j, 4, none⟩ = false ∧ w.frozen? ⟨j, 5, none⟩ = false :=
  ⟨frozen_of_row w j 2 _ _ h, frozen_of_row w j 3 _ _ h, frozen_of_row w j 4 _ _ h, frozen_of_row w j 5 _ _ h⟩
/-- A bucket's box: gap, jitter, mark, last, how many passed, how many did not. -/
abbrev bx (g j m l p r : Int) : Obj := .cells #[.int .i64 g, .int .i64 j, .int .i64 m, .int .i64 l, .int .i64 p, .int .i64 r] 101 (0, 0)
theorem new_ok (g j : Int) (h : rgt g j = true) (w : World) :
    Calls Try.prog 22 #[.int .i64 g, .int .i64 j] w fun e w' => e = .returned (.tuple #[.pointer (some ⟨w.heap.size, 0, none⟩), .int .i64 0]) ∧ w' = w.alloc (bx g j (-9223372036854775808) (-9223372036854775808) 0 0) := by
  go_enter Try.func22, Try.ntmps22
  go_wp2_with (go_at_call 31; refine (isLimit_any _ _ _).mono ?_; rintro e w' ⟨rfl, rfl⟩; rw [h])
  go_ret2
  exact ⟨rfl, rfl⟩
theorem next_far (k : Nat) (t : Int) (ht : far t = true) (w : World) :
    Calls Try.prog 92 #[.pointer (some ⟨k, 0, none⟩), .int .i64 t] w fun e w' => e = .returned (.int .i64 0) ∧ w = w' := by
  go_enter Try.func92, Try.ntmps92
  go_wp2_with (go_at_call 91; refine (isTime_any _ _).mono ?_; rintro e w' ⟨rfl, rfl⟩; rw [ht])
  go_ret
  exact ⟨rfl, rfl⟩
set_option maxHeartbeats 1000000 in
theorem next_in (k : Nat) (g j m l p r t q : Int) (w : World) (h : w.heap[k]? = some (bx g j m l p r)) (ht : far t = false) (hq : q = max t l) (hb : -1125899906842624 ≤ q ∧ q ≤ 1125899906842624) (hj : 0 ≤ j ∧ j ≤ 1073741824) (hm : m ≤ q + j) :
    Calls Try.prog 92 #[.pointer (some ⟨k, 0, none⟩), .int .i64 t] w fun e w' => e = .returned (.int .i64 q) ∧ Below w.heap.size w w' := by
  obtain ⟨-, c1, c2, c3, -, -⟩ := cells6 h
  have e1 : wrap64 (q + j) = q + j := by unfold wrap64; omega
  have hm' : q + j ≥ m := hm
  by_cases hl : t < l
  · obtain rfl : q = l := by omega
    clear hq hb hj h
    go_enter Try.func92, Try.ntmps92
    go_wp2_with (go_at_call 91; refine (isTime_any _ _).mono ?_; rintro e w' ⟨rfl, rfl⟩; rw [ht])
    go_region
    go_wp2
    go_ret
    exact ⟨rfl, (Below.refl _ _).drew⟩
  · obtain rfl : q = t := by omega
    clear hq hb hj h
    go_enter Try.func92, Try.ntmps92
    go_wp2_with (go_at_call 91; refine (isTime_any _ _).mono ?_; rintro e w' ⟨rfl, rfl⟩; rw [ht])
    go_region
    go_wp2
    go_ret
    exact ⟨rfl, (Below.refl _ _).drew⟩
set_option maxHeartbeats 1000000 in
theorem next_out (k : Nat) (g j m l p r t q z : Int) (w : World) (h : w.heap[k]? = some (bx g j m l p r)) (ht : far t = false) (hq : q = max t l) (hb : -1125899906842624 ≤ q ∧ q ≤ 1125899906842624) (hj : 0 ≤ j ∧ j ≤ 1073741824) (hm : q + j < m) (hz : z = m - j) (hM : m ≤ 1152921504606846976) :
    Calls Try.prog 92 #[.pointer (some ⟨k, 0, none⟩), .int .i64 t] w fun e w' => e = .returned (.int .i64 z) ∧ Below w.heap.size w w' := by
  obtain ⟨-, c1, c2, c3, -, -⟩ := cells6 h
  have e1 : wrap64 (q + j) = q + j := by unfold wrap64; omega
  have e2 : wrap64 (m - j) = z := by unfold wrap64; omega
  have hm' : ¬ m ≤ q + j := by omega
  have hm2 : ¬ (q + j ≥ m) := by omega
  have C1 := Lib.hid c1
  have E2 := Lib.hid e2
  clear e2
  have C2 := Lib.hid c2
  by_cases hl : t < l
  · obtain rfl : q = l := by omega
    clear hq hb hj h hz
    go_enter Try.func92, Try.ntmps92
    go_wp2_with (go_at_call 91; refine (isTime_any _ _).mono ?_; rintro e w' ⟨rfl, rfl⟩; rw [ht])
    go_region
    go_wp2
    have d1 : w.drew.cell? ⟨k, 1, none⟩ = some (.int .i64 j) := C1.out
    have d2 : w.drew.cell? ⟨k, 2, none⟩ = some (.int .i64 m) := C2.out
    go_region
    go_wp2
    go_ret
    exact ⟨by show Ending.returned (.int .i64 (wrap64 (m - j))) = _; rw [E2.out], (Below.refl _ _).drew.drew⟩
  · obtain rfl : q = t := by omega
    clear hq hb hj h hz
    go_enter Try.func92, Try.ntmps92
    go_wp2_with (go_at_call 91; refine (isTime_any _ _).mono ?_; rintro e w' ⟨rfl, rfl⟩; rw [ht])
    go_region
    go_wp2
    have d1 : w.drew.cell? ⟨k, 1, none⟩ = some (.int .i64 j) := C1.out
    have d2 : w.drew.cell? ⟨k, 2, none⟩ = some (.int .i64 m) := C2.out
    go_region
    go_wp2
    go_ret
    exact ⟨by show Ending.returned (.int .i64 (wrap64 (m - j))) = _; rw [E2.out], (Below.refl _ _).drew.drew⟩
/-- A number that is the least one till a frame has passed. -/
def lo (n : Nat) (x : Int) : Int := if n = 0 then -9223372036854775808 else x
/-- A bucket's box: n frames passed, the last of them at l, the mark is m, r did not. -/
abbrev B (g j : Int) (n : Nat) (l m : Int) (r : Nat) : Obj := bx g j (lo n m) (lo n l) n r
theorem next_any (k : Nat) (g j : Int) (n : Nat) (l m : Int) (r : Nat) (t : Int) (w : World) (hr : rgt g j = true) (F : Fit g j n l m) (h : w.heap[k]? = some (B g j n l m r)) :
    Calls Try.prog 92 #[.pointer (some ⟨k, 0, none⟩), .int .i64 t] w fun e w' => e = .returned (.int .i64 (nx j n l m t)) ∧ Below w.heap.size w w' := by
  obtain ⟨⟨g0, g1⟩, j0, j1⟩ := rgt_iff.1 hr
  unfold nx
  cases ht : far t with
  | true =>
    rw [if_pos rfl]
    refine (next_far k t ht w).mono ?_
    rintro e w' ⟨rfl, rfl⟩
    exact ⟨rfl, Below.refl _ _⟩
  | false =>
    have tb := far_iff.1 ht
    rw [if_neg (by decide)]
    rcases Nat.eq_zero_or_pos n with rfl | hn
    · rw [if_pos rfl]
      refine next_in k g j (lo 0 m) (lo 0 l) 0 r t t w h ht (by unfold lo; rw [if_pos rfl]; omega) tb ⟨j0, j1⟩ (by unfold lo; rw [if_pos rfl]; omega)
    · rw [if_neg (by omega)]
      have e : ∀ x, lo n x = x := fun x => by unfold lo; rw [if_neg (by omega)]
      have f := F.resolve_left (by omega)
      have h : w.heap[k]? = some (bx g j (lo n m) (lo n l) n r) := h
      rw [e, e] at h
      by_cases hm : m ≤ max t l + j
      · rw [show max (max t l) (m - j) = max t l by omega]
        exact next_in k g j m l n r t _ w h ht rfl (by omega) ⟨j0, j1⟩ hm
      · rw [show max (max t l) (m - j) = m - j by omega]
        exact next_out k g j m l n r t _ _ w h ht rfl (by omega) ⟨j0, j1⟩ (by omega) rfl (by omega)
theorem nx_eq {j : Int} {n : Nat} {l m t : Int} (ht : far t = false) : nx j n l m t = t ↔ okB j n l m t = true := by
  have tb := far_iff.1 ht
  rw [okB_iff]
  unfold nx
  rw [ht, if_neg (by decide)]
  rcases Nat.eq_zero_or_pos n with rfl | hn
  · rw [if_pos rfl]; simp [tb]
  · rw [if_neg (by omega)]; omega
set_option maxHeartbeats 1000000 in
theorem take_no (k : Nat) (g j : Int) (n : Nat) (l m : Int) (r : Nat) (t : Int) (w : World) (hr : rgt g j = true) (F : Fit g j n l m) (h : w.heap[k]? = some (B g j n l m r)) (hR : r < 4611686018427387904) (hk : okB j n l m t = false) :
    Calls Try.prog 78 #[.pointer (some ⟨k, 0, none⟩), .int .i64 t] w fun e w' => e = .returned (.bool false) ∧ w'.heap[k]? = some (B g j n l m (r + 1)) ∧ Kept k w w' := by
  have HH := Lib.hid h
  have HN := Lib.hid (next_any k g j n l m r t · hr F)
  have e1 : wrap64 ((r : Int) + 1) = ((r + 1 : Nat) : Int) := by unfold wrap64; omega
  have E1 := Lib.hid e1
  clear e1 h
  cases ht : far t with
  | true =>
    obtain ⟨-, -, -, -, -, c5⟩ := cells6 HH.out
    obtain ⟨-, -, -, f5⟩ := frozen6 HH.out
    clear hr F hR hk
    go_enter Try.func78, Try.ntmps78
    go_wp2_with (go_at_call 91; refine (isTime_any _ _).mono ?_; rintro e w' ⟨rfl, rfl⟩; rw [ht])
    rw [E1.out]
    go_ret
    exact ⟨rfl, heap_setCell_same w k 5 _ _ _ HH.out, kept1 w k 5 _⟩
  | false =>
    have hz : nx j n l m t ≠ t := fun e => by rw [nx_eq ht, hk] at e; cases e
    generalize nx j n l m t = z at *
    clear hr F hR hk
    go_enter Try.func78, Try.ntmps78
    go_wp2_with (go_at_call 91; refine (isTime_any _ _).mono ?_; rintro e w' ⟨rfl, rfl⟩; rw [ht])
    refine (HN.out w HH.out).mono ?_
    rintro e w1 ⟨rfl, b1⟩
    have HB := Lib.hid b1
    have H1 := Lib.hid (row_below b1 HH.out)
    clear b1
    obtain ⟨-, -, -, -, -, c5⟩ := cells6 H1.out
    obtain ⟨-, -, -, f5⟩ := frozen6 H1.out
    go_wp2
    rw [E1.out]
    go_ret
    exact ⟨rfl, heap_setCell_same w1 k 5 _ _ _ H1.out, (Kept.of HB.out).trans (kept1 w1 k 5 _)⟩
set_option maxHeartbeats 1000000 in
theorem take_ok (k : Nat) (g j : Int) (n : Nat) (l m : Int) (r : Nat) (t : Int) (w : World) (hr : rgt g j = true) (F : Fit g j n l m) (h : w.heap[k]? = some (B g j n l m r)) (hN : n < 4611686018427387904) (hk : okB j n l m t = true) :
    Calls Try.prog 78 #[.pointer (some ⟨k, 0, none⟩), .int .i64 t] w fun e w' => e = .returned (.bool true) ∧ w'.heap[k]? = some (B g j (n + 1) t (mk g n m t) r) ∧ Kept k w w' := by
  have HH := Lib.hid h
  have HN := Lib.hid (next_any k g j n l m r t · hr F)
  have e1 : wrap64 ((n : Int) + 1) = ((n + 1 : Nat) : Int) := by unfold wrap64; omega
  have E1 := Lib.hid e1
  have tb := (okB_iff.1 hk).1
  have gb := rgt_iff.1 hr
  have ht := far_iff.2 tb
  rw [(nx_eq ht).2 hk] at HN
  have mm : (if t < lo n m then lo n m else t) + g = mk g n m t := by
    unfold mk
    rcases Nat.eq_zero_or_pos n with rfl | hn
    · rw [show lo 0 m = -9223372036854775808 from rfl, if_neg (by omega), if_pos (Or.inl rfl)]
    · rw [show lo n m = m by unfold lo; rw [if_neg (by omega)]]
      by_cases hm : m < t
      · rw [if_neg (by omega), if_pos (Or.inr hm)]
      · rw [if_neg (show ¬(n = 0 ∨ m < t) by omega)]
        by_cases h2 : t < m
        · rw [if_pos h2]
        · rw [if_neg h2]; omega
  have e2 : wrap64 ((if t < lo n m then lo n m else t) + g) = mk g n m t := by
    rw [mm]
    have f := (fit_take (g := g) (n := n) (l := l) (m := m) gb.2.1 hk).resolve_left (by omega)
    unfold wrap64
    omega
  have X2 := Lib.hid e2
  clear e1 e2 h hr F hN hk tb gb mm
  generalize mk g n m t = q at *
  go_enter Try.func78, Try.ntmps78
  go_wp2_with (go_at_call 91; refine (isTime_any _ _).mono ?_; rintro e w' ⟨rfl, rfl⟩; rw [ht])
  refine (HN.out w HH.out).mono ?_
  rintro e w1 ⟨rfl, b1⟩
  have HB := Lib.hid b1
  have H1 := Lib.hid (row_below b1 HH.out)
  clear b1
  obtain ⟨c0, c1, c2, c3, c4, c5⟩ := cells6 H1.out
  obtain ⟨f2, f3, f4, f5⟩ := frozen6 H1.out
  go_wp2
  go_region
  rw [X2.out]
  clear X2
  generalize (if t < lo n m then lo n m else t) = u
  have H2 := Lib.hid (show (w1.setCell ⟨k, 2, none⟩ (.int .i64 q)).drew.heap[k]? = some (bx g j q (lo n l) n r) from heap_setCell_same w1 k 2 _ _ _ H1.out)
  have K2 := Lib.hid (((Kept.of HB.out).trans (kept1 w1 k 2 (.int .i64 q))).drew)
  generalize (w1.setCell ⟨k, 2, none⟩ (.int .i64 q)).drew = w2 at *
  clear c0 c1 c2 c3 c4 c5 f2 f3 f4 f5 H1 HB
  obtain ⟨c0, c1, c2, c3, c4, c5⟩ := cells6 H2.out
  obtain ⟨f2, f3, f4, f5⟩ := frozen6 H2.out
  have H3 := Lib.hid (show (w2.setCell ⟨k, 3, none⟩ (.int .i64 t)).heap[k]? = some (bx g j q t n r) from heap_setCell_same w2 k 3 _ _ _ H2.out)
  have K3 := Lib.hid (K2.out.trans (kept1 w2 k 3 (.int .i64 t)))
  obtain ⟨d0, d1, d2, d3, d4, d5⟩ := cells6 H3.out
  obtain ⟨g2, g3, g4, g5⟩ := frozen6 H3.out
  go_wp2
  rw [E1.out]
  go_ret
  exact ⟨rfl, heap_setCell_same _ k 4 _ _ _ H3.out, K3.out.trans (kept1 _ k 4 _)⟩
/-- What is told of the greatest number of frames. -/
theorem bud_no {g j d : Int} (h : ¬(rgt g j = true ∧ 0 ≤ d ∧ d ≤ 2251799813685248)) : bud g j d = 0 := by unfold bud; rw [if_neg h]
set_option maxHeartbeats 1000000 in
theorem budget_any (g j d : Int) (w : World) : Calls Try.prog 15 #[.int .i64 g, .int .i64 j, .int .i64 d] w fun e w' => e = .returned (.int .i64 (bud g j d)) ∧ w = w' := by
  cases hr : rgt g j with
  | false =>
    rw [bud_no (by rw [hr]; simp)]
    go_enter Try.func15, Try.ntmps15
    go_wp2_with (go_at_call 31; refine (isLimit_any _ _ _).mono ?_; rintro e w' ⟨rfl, rfl⟩; rw [hr])
    go_ret
    exact ⟨rfl, rfl⟩
  | true =>
    by_cases h1 : d < 0
    · rw [bud_no (by omega)]
      go_enter Try.func15, Try.ntmps15
      go_wp2_with (go_at_call 31; refine (isLimit_any _ _ _).mono ?_; rintro e w' ⟨rfl, rfl⟩; rw [hr])
      go_ret
      exact ⟨rfl, rfl⟩
    · by_cases h2 : 2251799813685248 < d
      · rw [bud_no (by omega)]
        go_enter Try.func15, Try.ntmps15
        go_wp2_with (go_at_call 31; refine (isLimit_any _ _ _).mono ?_; rintro e w' ⟨rfl, rfl⟩; rw [hr])
        go_ret
        exact ⟨rfl, rfl⟩
      · obtain ⟨⟨g0, g1⟩, j0, j1⟩ := rgt_iff.1 hr
        have e1 : wrap64 (d + j) = d + j := by unfold wrap64; omega
        have e2 : Int.tdiv (d + j) g = (d + j) / g := Int.tdiv_eq_ediv_of_nonneg (by omega)
        have q0 : 0 ≤ (d + j) / g := Int.ediv_nonneg (by omega) (by omega)
        have q1 : (d + j) / g ≤ d + j := Int.ediv_le_self _ (by omega)
        have hb : bud g j d = 1 + (d + j) / g := by unfold bud; rw [if_pos ⟨hr, by omega, by omega⟩]
        have g2 : ¬ g = 0 := by omega
        rw [hb]
        generalize hq : (d + j) / g = q at *
        have e3 : wrap64 (1 + q) = 1 + q := by unfold wrap64; omega
        have e4 : wrap64 q = q := by unfold wrap64; omega
        have E3 := Lib.hid e3
        have E1 := Lib.hid e1
        have E2 := Lib.hid e2
        have E4 := Lib.hid e4
        clear hq hb q0 q1 j0 j1 g0 g1
        go_enter Try.func15, Try.ntmps15
        go_wp2_with (go_at_call 31; refine (isLimit_any _ _ _).mono ?_; rintro e w' ⟨rfl, rfl⟩; rw [hr])
        go_ret
        exact ⟨by show Ending.returned (.int .i64 (wrap64 (1 + q))) = _; rw [E3.out], rfl⟩
end Go.Proofs.Ytecgpibidcifpaa.BucketW


/- A bucket in memory beside other boxes; the chapter's examples. -/
namespace Go.Proofs.Ytecgpibidcifpaa.BucketW
open Go.RowKit Shell
/-- How many passed, the last of them, the mark, how many did not. -/
structure Bk where
  n : Nat
  l : Int
  m : Int
  r : Nat
def b0 : Bk := ⟨0, 0, 0, 0⟩
/-- Does a frame pass? -/
def pas (j : Int) (s : Bk) (t : Int) : Bool := okB j s.n s.l s.m t
/-- The bucket behind a frame. -/
def tk (g j : Int) (s : Bk) (t : Int) : Bk := if pas j s t then ⟨s.n + 1, t, mk g s.n s.m t, s.r⟩ else ⟨s.n, s.l, s.m, s.r + 1⟩
def fit (g j : Int) (s : Bk) : Prop := Fit g j s.n s.l s.m
theorem tk_yes {g j t : Int} {s : Bk} (h : pas j s t = true) : tk g j s t = ⟨s.n + 1, t, mk g s.n s.m t, s.r⟩ := by unfold tk; rw [if_pos h]
theorem tk_no {g j t : Int} {s : Bk} (h : pas j s t = false) : tk g j s t = ⟨s.n, s.l, s.m, s.r + 1⟩ := by unfold tk; rw [h, if_neg (by decide)]
theorem tk_fit {g j t : Int} {s : Bk} (hj : 0 ≤ j) (h : fit g j s) : fit g j (tk g j s t) := by
  cases hp : pas j s t with
  | true => rw [tk_yes hp]; exact fit_take hj hp
  | false => rw [tk_no hp]; exact h
theorem tk_sum (g j t : Int) (s : Bk) : (tk g j s t).n + (tk g j s t).r = s.n + s.r + 1 := by
  cases hp : pas j s t with
  | true => rw [tk_yes hp]; dsimp only; omega
  | false => rw [tk_no hp]; dsimp only; omega
abbrev bb (g j : Int) (s : Bk) : Obj := B g j s.n s.l s.m s.r
/-- A bucket in memory, beside other boxes. -/
structure PB (w0 : World) (L : List (Nat × Obj)) (k : Nat) (g j : Int) (s : Bk) (w : World) : Prop where
  st : Stay w0 ((k, bb g j s) :: L) w
  ge : w0.heap.size ≤ k
  ne : ∀ x ∈ L, x.1 ≠ k
  rg : rgt g j = true
  ft : fit g j s
section
variable {w0 w w1 : World} {L : List (Nat × Obj)} {k : Nat} {g j : Int} {s : Bk}
theorem PB.next (h : PB w0 L k g j s w) (b : Below w.heap.size w w1) : PB w0 L k g j s w1 := ⟨h.st.next b, h.ge, h.ne, h.rg, h.ft⟩
theorem PB.drew (h : PB w0 L k g j s w) : PB w0 L k g j s w.drew := ⟨h.st.drew, h.ge, h.ne, h.rg, h.ft⟩
theorem PB.box (h : PB w0 L k g j s w) : w.heap[k]? = some (bb g j s) := h.st.at 0 rfl
theorem PB.lt (h : PB w0 L k g j s w) : k < w.heap.size := lt_of_heap h.box
theorem PB.take (h : PB w0 L k g j s w) (t : Int) (hs : s.n + s.r < 4611686018427387904) :
    Calls Try.prog 78 #[.pointer (some ⟨k, 0, none⟩), .int .i64 t] w fun e w' => e = .returned (.bool (pas j s t)) ∧ PB w0 L k g j (tk g j s t) w' ∧ Kept k w w' := by
  have j0 := (rgt_iff.1 h.rg).2.1
  have F := tk_fit (t := t) j0 h.ft
  cases hp : pas j s t with
  | true =>
    rw [tk_yes hp] at F ⊢
    refine (take_ok k g j s.n s.l s.m s.r t w h.rg h.ft h.box (by omega) hp).mono ?_
    rintro e w' ⟨rfl, hb, kp⟩
    exact ⟨rfl, ⟨h.st.turn kp hb h.ge h.ne, h.ge, h.ne, h.rg, F⟩, kp⟩
  | false =>
    rw [tk_no hp] at F ⊢
    refine (take_no k g j s.n s.l s.m s.r t w h.rg h.ft h.box (by omega) hp).mono ?_
    rintro e w' ⟨rfl, hb, kp⟩
    exact ⟨rfl, ⟨h.st.turn kp hb h.ge h.ne, h.ge, h.ne, h.rg, F⟩, kp⟩
end
theorem fit0 (g j : Int) : fit g j b0 := Or.inl rfl
theorem pb_new {w0 w : World} {L : List (Nat × Obj)} (S : Stay w0 L w) (g j : Int) (h : rgt g j = true) :
    Calls Try.prog 22 #[.int .i64 g, .int .i64 j] w fun e w' => e = .returned (.tuple #[.pointer (some ⟨w.heap.size, 0, none⟩), .int .i64 0]) ∧ PB w0 L w.heap.size g j b0 w' ∧ w' = w.alloc (bb g j b0) := by
  refine (new_ok g j h w).mono ?_
  rintro e w' ⟨rfl, rfl⟩
  exact ⟨rfl, ⟨S.alloc _, S.b.size, fun x hx => by have := lt_of_heap (S.h x hx); omega, h, fit0 g j⟩, rfl⟩
end Go.Proofs.Ytecgpibidcifpaa.BucketW

