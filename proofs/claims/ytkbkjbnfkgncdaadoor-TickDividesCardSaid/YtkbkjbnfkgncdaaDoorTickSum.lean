/- tick.Sum: the sum of any numbers, reckoned without any bound. -/
import Derived.Test.YtkbkjbnfkgncdaaDoorTickMulDiv
import Derived.Deep.RegionLaw
import Derived.Deep.RegionWith
namespace Go.Proofs.YtkbkjbnfkgncdaaDoor.TickW
open Go.RowKit
/-- The slice's cells hold these numbers of 64 bits. -/
def IL (w : World) (A : Option Addr) (xs : List Int) : Prop := ∀ k x, xs[k]? = some x → ∃ a, A = some a ∧ w.cell? (a.add k) = some (.int .i64 x) ∧ -9223372036854775808 ≤ x ∧ x ≤ 9223372036854775807
theorem IL.below {w w1 : World} {A : Option Addr} {xs : List Int} (h : IL w A xs) (b : Below w.heap.size w w1) : IL w1 A xs := by
  intro k x hx
  obtain ⟨a, ha, hc, hb⟩ := h k x hx
  exact ⟨a, ha, cell_keep hc b, hb⟩
theorem IL.bound {w : World} {A : Option Addr} {xs : List Int} (h : IL w A xs) : ∀ x ∈ xs, -9223372036854775808 ≤ x ∧ x ≤ 9223372036854775807 := by
  intro x hx
  obtain ⟨k, hk⟩ := List.getElem?_of_mem hx
  obtain ⟨_, _, _, hb⟩ := h k x hk
  exact hb
theorem row_lt {w : World} {g : Nat} {o : Obj} (h : w.heap[g]? = some o) : g < w.heap.size := by
  rcases Nat.lt_or_ge g w.heap.size with h1 | h1
  · exact h1
  · rw [Array.getElem?_eq_none h1] at h; cases h
theorem wv0 : wv 0 = .agg #[.int .u64 0, .int .u64 0] := rfl
set_option maxHeartbeats 2000000 in
theorem sum_reckon (p : Addr) (A : Option Addr) (c : Nat) (xs : List Int) (w : World) (hp : w.cell? p = some (.slice A xs.length c)) (h : IL w A xs) (hl : xs.length ≤ 9223372036854775807) :
    Calls Tryd.prog 46 #[.pointer (some p)] w fun e w' => e = .returned (wv xs.sum) ∧ Below w.heap.size w w' := by
  have H := Lib.hid h
  have P := Lib.hid hp
  have HL := Lib.hid hl
  clear h hp hl
  have W0 := fun W => widen_any 0 (by decide) (by decide) W
  go_enter Tryd.func46, Tryd.ntmps46
  go_wp2_with fail
  have hb := al (Below.refl w.heap.size w) (Obj.cells #[.int .u64 0, .int .u64 0] 49)
  have c0 := heap_alloc_new w (Obj.cells #[.int .u64 0, .int .u64 0] 49)
  generalize w.alloc (Obj.cells #[.int .u64 0, .int .u64 0] 49) = W at *
  refine (W0 W).mono ?_
  rintro e w1 ⟨rfl, b1⟩
  rw [wv0]
  have hb1 := Lib.hid (hb.trans (b1.mono hb.size))
  have r1 := Lib.hid (row_below b1 c0)
  clear hb c0 b1 W0
  have p1 := cell_keep P.out hb1.out
  have p2 := cell_keep p1 (al (Below.refl w1.heap.size w1) (Obj.cells #[.int .u64 0, .int .u64 0] 49))
  go_wp2
  have HG := Lib.hid (show w.heap.size < w1.heap.size by have := row_lt r1.out; exact this)
  go_loopw [8] (fun i wr => ∃ (k : Nat) (hi lo : Int), k ≤ xs.length ∧ i = .int .i64 k ∧ Hid (Below w.heap.size w wr) ∧ Hid (wr.heap[w.heap.size]? = some (.cells #[.int .u64 0, .int .u64 0] 49 (0, 0))) ∧ Hid (wr.heap[w1.heap.size]? = some (.cells #[.int .u64 hi, .int .u64 lo] 49 (0, 0))) ∧ Hid (wv (xs.take k).sum = .agg #[.int .u64 hi, .int .u64 lo])) (fun i _ => xs.length - (intOf i).toNat)
  case atStart => exact ⟨0, 0, 0, Nat.zero_le _, rfl, Lib.hid (hb1.out.alloc hb1.out.size _), Lib.hid (row_below (al (Below.refl w1.heap.size w1) _) r1.out), Lib.hid (heap_alloc_new _ _), Lib.hid rfl⟩
  case round =>
    obtain ⟨k, hi, lo, hk, rfl, HB, R1, R2, HV⟩ := hrel
    have hll := HL.out
    clear p1 p2
    by_cases hlt : k < xs.length
    · obtain ⟨x, hx⟩ : ∃ x, xs[k]? = some x := ⟨_, List.getElem?_eq_getElem hlt⟩
      obtain ⟨ad, rfl, hc, q0, q1⟩ := (H.out.below HB.out) k x hx
      have HT := Lib.hid (show (xs.take (k + 1)).sum = (xs.take k).sum + x by rw [List.take_add_one, hx]; simp)
      have Wx := fun W => widen_any x q0 q1 W
      have Px := fun W => plus_any (xs.take k).sum x W
      rw [HV.out] at Px
      obtain ⟨x1, x0, hxv⟩ : ∃ x1 x0 : Int, wv x = .agg #[.int .u64 x1, .int .u64 x0] := ⟨_, _, rfl⟩
      obtain ⟨s1, s0, hsv⟩ : ∃ s1 s0 : Int, wv ((xs.take k).sum + x) = .agg #[.int .u64 s1, .int .u64 s0] := ⟨_, _, rfl⟩
      rw [hsv, hxv] at Px
      rw [hxv] at Wx
      have HS := Lib.hid hsv
      clear hx hxv hsv q0 q1
      go_wp2_with fail
      have a0 : wr.cell? ⟨w1.heap.size, 0, none⟩ = some (.int .u64 hi) := cell_of_row wr w1.heap.size 0 _ _ _ R2.out
      have a1 : wr.cell? ⟨w1.heap.size, 1, none⟩ = some (.int .u64 lo) := cell_of_row wr w1.heap.size 1 _ _ _ R2.out
      have HK := Lib.hid (And.intro hlt hll)
      clear hc hlt hk hll
      go_region_with (first
        | (go_at_call 32; (with_reducible refine (Wx _).mono ?_); rintro e w2 ⟨rfl, b2⟩; have t0 := cell_keep (show wr.drew.cell? _ = some _ from a0) b2; have t1 := cell_keep (show wr.drew.cell? _ = some _ from a1) b2; have B2 := Lib.hid b2; clear b2)
        | (go_at_call 33; (with_reducible refine (Px _).mono ?_); rintro e w3 ⟨rfl, b3⟩; have R3 := Lib.hid (row_below b3 (row_below B2.out (show wr.drew.heap[w1.heap.size]? = _ from R2.out))); have z0 : w3.cell? ⟨w1.heap.size, 0, none⟩ = some (.int .u64 hi) := cell_of_row w3 w1.heap.size 0 _ _ _ R3.out; have z1 : w3.cell? ⟨w1.heap.size, 1, none⟩ = some (.int .u64 lo) := cell_of_row w3 w1.heap.size 1 _ _ _ R3.out; have fr0 := frozen_of_row w3 w1.heap.size 0 _ _ R3.out; have fr1 := frozen_of_row w3 w1.heap.size 1 _ _ R3.out; have B3 := Lib.hid b3; clear b3 t0 t1 a0 a1))
      all_goals
        obtain ⟨hlt, hll⟩ := HK.out
        have h3 := Lib.hid (HB.out.trans (((of_drew B2.out).trans (B3.out.mono (by have := B2.out.size; exact this))).mono HB.out.size))
        have r5 := Lib.hid (row_below B3.out (row_below B2.out (show wr.drew.heap[w.heap.size]? = _ from R1.out)))
        clear z0 z1 fr0 fr1
        go_wp2
        go_roundw
        case rel =>
          exact ⟨k + 1, s1, s0, by omega, by go_num, Lib.hid ((h3.out.setCell (Nat.le_of_lt HG.out) _).setCell (Nat.le_of_lt HG.out) _),
            Lib.hid (((heap_setCell_other _ _ _ _ (Nat.ne_of_lt HG.out)).trans (heap_setCell_other _ _ _ _ (Nat.ne_of_lt HG.out))).trans r5.out),
            Lib.hid (heap_setCell_same _ _ 1 _ _ _ (heap_setCell_same _ _ 0 _ _ _ R3.out)), Lib.hid (by rw [HT.out]; exact HS.out)⟩
        case measure => simp [intOf]; omega
    · obtain rfl : k = xs.length := by omega
      have hv := HV.out
      rw [List.take_length] at hv
      have HV2 := Lib.hid hv
      have a0 : wr.cell? ⟨w1.heap.size, 0, none⟩ = some (.int .u64 hi) := cell_of_row wr w1.heap.size 0 _ _ _ R2.out
      have a1 : wr.cell? ⟨w1.heap.size, 1, none⟩ = some (.int .u64 lo) := cell_of_row wr w1.heap.size 1 _ _ _ R2.out
      have z0 : wr.cell? ⟨w.heap.size, 0, none⟩ = some (.int .u64 0) := cell_of_row wr w.heap.size 0 _ _ _ R1.out
      have z1 : wr.cell? ⟨w.heap.size, 1, none⟩ = some (.int .u64 0) := cell_of_row wr w.heap.size 1 _ _ _ R1.out
      have fr0 := frozen_of_row wr w.heap.size 0 _ _ R1.out
      have fr1 := frozen_of_row wr w.heap.size 1 _ _ R1.out
      clear hv
      go_wp2
      exact ret_wide_set rfl rfl R1.out ⟨by rw [HV2.out], (HB.out.setCell (Nat.le_refl _) _).setCell (Nat.le_refl _) _⟩
theorem sum_bounds : ∀ (xs : List Int), (∀ x ∈ xs, -9223372036854775808 ≤ x ∧ x ≤ 9223372036854775807) → -(9223372036854775808 * (xs.length : Int)) ≤ xs.sum ∧ xs.sum ≤ 9223372036854775808 * (xs.length : Int) := by
  intro xs
  induction xs with
  | nil => intro _; simp
  | cons x xs ih =>
    intro h
    have h1 := ih (fun y hy => h y (List.mem_cons_of_mem _ hy))
    have h2 := h x List.mem_cons_self
    simp only [List.sum_cons, List.length_cons]
    generalize xs.sum = s at *
    generalize xs.length = n at *
    omega
/-- The sum of any numbers. -/
theorem sum_any (A : Option Addr) (c : Nat) (xs : List Int) (w : World) (h : IL w A xs) (hl : xs.length ≤ 9223372036854775807) :
    Calls Tryd.prog 23 #[.slice A xs.length c] w fun e w' => e = .returned (ansV xs.sum) ∧ Below w.heap.size w w' := by
  have hmf : ∀ (fn : Fn) (first cap : Array Value) (w : World), (Instr.makeFunc fn first cap).run Tryd.prog w = .ok (.func fn first cap) w := fun _ _ _ _ => rfl
  have bd := sum_bounds xs h.bound
  have b0 : -170141183460469231731687303715884105728 ≤ xs.sum := by generalize xs.sum = s at *; omega
  have b1 : xs.sum < 170141183460469231731687303715884105728 := by generalize xs.sum = s at *; omega
  have H := Lib.hid h
  have HL := Lib.hid hl
  have HB := Lib.hid (And.intro b0 b1)
  clear h hl bd b0 b1
  go_enter Tryd.func23, Tryd.ntmps23
  go_wp2_with fail
  have hb := al (Below.refl w.heap.size w) (Obj.cells #[.slice A xs.length c] 37)
  have c0 := heap_alloc_new w (Obj.cells #[.slice A xs.length c] 37)
  generalize w.alloc (Obj.cells #[.slice A xs.length c] 37) = W at *
  refine (answer_any 46 (fun args w => enters_of Tryd.func46 (by kernel_rfl) rfl args w) _ xs.sum HB.out.1 HB.out.2 W (fun W2 b2 => sum_reckon _ A c xs W2 (cell_of_row W2 _ 0 _ _ _ (row_below b2 c0)) ((H.out.below hb).below b2) HL.out)).mono ?_
  rintro e w2 ⟨rfl, b2⟩
  obtain ⟨n, k, hk⟩ := ansV_tuple xs.sum
  rw [hk]
  go_wp2
  go_ret2
  exact ⟨by rw [hk]; rfl, hb.trans (b2.mono hb.size)⟩
end Go.Proofs.YtkbkjbnfkgncdaaDoor.TickW
