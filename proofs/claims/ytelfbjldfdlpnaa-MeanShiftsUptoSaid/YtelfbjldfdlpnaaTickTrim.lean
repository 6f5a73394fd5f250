/- The document's numbers: trim, digit, compare. -/
import Derived.Test.YtelfbjldfdlpnaaTickOf
import Derived.BigRegion
import Derived.Deep.QuietTactic
namespace Go.Proofs.Ytelfbjldfdlpnaa.TickW
open Go.RowKit
theorem val_take_zero (ds : List Nat) (k : Nat) (h : ds[k]? = some 0) : val (ds.take (k + 1)) = val (ds.take k) := by
  rw [List.take_add_one, h]
  show val (ds.take k ++ [0]) = _
  rw [val_append]; omega
def lenAt (g : Nat) (w : World) : Nat := match w.cell? ⟨g, 0, none⟩ with
  | some (.slice _ n _) => n
  | _ => 0
theorem lenAt_row {g : Nat} {w : World} {A : Option Addr} {n c : Nat} {y : Value} {t : TypeId} {fr : Nat × Nat} (h : w.heap[g]? = some (.cells #[.slice A n c, y] t fr)) : lenAt g w = n := by
  unfold lenAt
  rw [cell_of_row w g 0 _ _ _ h]
  rfl
set_option maxHeartbeats 2000000 in
set_option maxRecDepth 100000 in
theorem trim_any (A : Option Addr) (c : Nat) (ds : List Nat) (neg : Bool) (w : World) (hd : DL w A ds) (hx : ∀ d ∈ ds, d < 65536) (hc : ds.length ≤ c) (hl : ds.length ≤ 1000) :
    Calls Try.prog 47 #[.agg #[.slice A ds.length c, .bool neg]] w fun e w' =>
      e = .returned (.agg #[.slice A (dl (val ds)).length c, .bool (neg && decide (0 < val ds))]) ∧ DL w' A (dl (val ds)) ∧ (dl (val ds)).length ≤ c ∧ Below w.heap.size w w' := by
  have HD := Lib.hid hd
  have HX := Lib.hid hx
  have HC := Lib.hid hc
  have HLL := Lib.hid hl
  clear hd hx hc hl
  go_enter Try.func47, Try.ntmps47
  go_wp2_with fail
  have hb := al (al (Below.refl w.heap.size w) (Obj.cells #[.slice A ds.length c, .bool neg] 62)) (Obj.cells #[.slice none 0 0, .bool false] 62)
  have c0 := heap_alloc2_old w (Obj.cells #[.slice A ds.length c, .bool neg] 62) (Obj.cells #[.slice none 0 0, .bool false] 62)
  have c1 := heap_alloc2_new w (Obj.cells #[.slice A ds.length c, .bool neg] 62) (Obj.cells #[.slice none 0 0, .bool false] 62)
  generalize (w.alloc (Obj.cells #[.slice A ds.length c, .bool neg] 62)).alloc (Obj.cells #[.slice none 0 0, .bool false] 62) = W at *
  have HB := Lib.hid hb
  have C0 := Lib.hid c0
  have C1 := Lib.hid c1
  have HDW := Lib.hid (HD.out.below hb)
  clear hb c0 c1
  go_loopw [3] (fun _ wr => ∃ k : Nat, k ≤ ds.length ∧ Hid (val (ds.take k) = val ds) ∧ Hid (Below w.heap.size w wr) ∧ Hid (wr.heap[w.heap.size]? = some (.cells #[.slice A k c, .bool neg] 62 (0, 0))) ∧ Hid (wr.heap[w.heap.size + 1]? = some (.cells #[.slice none 0 0, .bool false] 62 (0, 0)))) (fun _ wr => lenAt w.heap.size wr)
  case atStart => exact ⟨ds.length, Nat.le_refl _, Lib.hid (by rw [List.take_length]), HB, C0, C1⟩
  case round =>
    clear HB C0 C1 HDW
    obtain ⟨k, hk, HV, HB, C0, C1⟩ := hrel
    have z0 : wr.cell? ⟨w.heap.size, 0, none⟩ = some (.slice A k c) := cell_of_row wr w.heap.size 0 _ _ _ C0.out
    have f0 := frozen_of_row wr w.heap.size 0 _ _ C0.out
    rcases Nat.eq_zero_or_pos k with rfl | hp
    · have hv0 : val ds = 0 := by rw [← HV.out]; rfl
      have z1 : wr.cell? ⟨w.heap.size, 1, none⟩ = some (.bool neg) := cell_of_row wr w.heap.size 1 _ _ _ C0.out
      have f1 := frozen_of_row wr w.heap.size 1 _ _ C0.out
      have y0 : wr.cell? ⟨w.heap.size + 1, 0, none⟩ = some (.slice none 0 0) := cell_of_row wr (w.heap.size + 1) 0 _ _ _ C1.out
      have y1 : wr.cell? ⟨w.heap.size + 1, 1, none⟩ = some (.bool false) := cell_of_row wr (w.heap.size + 1) 1 _ _ _ C1.out
      have g0 := frozen_of_row wr (w.heap.size + 1) 0 _ _ C1.out
      have g1 := frozen_of_row wr (w.heap.size + 1) 1 _ _ C1.out
      have HV0 := Lib.hid hv0
      clear hv0 hk
      go_wp2
      have hB := ((HB.out.setCell (p := ⟨w.heap.size, 1, none⟩) (Nat.le_refl _) (.bool false)).setCell (p := ⟨w.heap.size + 1, 0, none⟩) (Nat.le_succ _) (.slice A 0 c)).setCell (p := ⟨w.heap.size + 1, 1, none⟩) (Nat.le_succ _) (.bool false)
      refine ret_ref_set rfl rfl ((heap_setCell_other _ _ _ _ (by simp)).trans C1.out) ⟨?_, ?_, ?_, hB⟩
      · rw [HV0.out, dl_zero]; simp
      · rw [HV0.out, dl_zero]; exact fun k d h => by simp at h
      · rw [HV0.out, dl_zero]; exact Nat.zero_le _
    · obtain ⟨d, hdk⟩ : ∃ d, ds[k - 1]? = some d := ⟨_, List.getElem?_eq_getElem (by omega)⟩
      obtain ⟨a, rfl, hcell⟩ := (HD.out.below HB.out) (k - 1) d hdk
      have kp : (0 : Int) < (k : Int) := by omega
      have kw : wrap64 ((k : Int) - 1) = ((k - 1 : Nat) : Int) := by have := HLL.out; unfold wrap64; omega
      have q1 : ((k - 1 : Nat) : Int) < (k : Int) := by omega
      have q2 : k - 1 < k := by omega
      have q3 : ((k - 1 : Nat) : Int) ≤ (c : Int) := by have := HC.out; omega
      have q4 : k - 1 ≤ c := by have := HC.out; omega
      generalize hk1 : k - 1 = k1 at *
      by_cases hz : d = 0
      · subst hz
        have HN := Lib.hid (show val (ds.take k1) = val ds by rw [← HV.out, show k = k1 + 1 by omega, val_take_zero ds k1 hdk])
        have HK := Lib.hid (And.intro hk hk1)
        clear hdk hk hk1
        go_wp2
        exact ⟨⟨k1, by have := HK.out; omega, HN, Lib.hid (HB.out.setCell (Nat.le_refl _) _), Lib.hid (heap_setCell_same _ _ 0 _ _ _ C0.out), Lib.hid ((heap_setCell_other _ _ _ _ (by simp)).trans C1.out)⟩, by rw [lenAt_row C0.out, lenAt_row (heap_setCell_same _ _ 0 _ _ _ C0.out)]; exact q2⟩
      · have kz : ((d : Int) == 0) = false := by rw [beq_eq_false_iff_ne]; omega
        have HE := Lib.hid (show dl (val ds) = ds.take k by
          rw [← HV.out]
          refine dl_val _ (fun x hx => HX.out x (List.mem_of_mem_take hx)) ?_
          rw [List.getLast?_eq_getElem?, List.length_take, Nat.min_eq_left hk, hk1, List.getElem?_take_of_lt (by omega), hdk]
          simpa using hz)
        have HKL := Lib.hid hk
        have kl : ((k : Int) == 0) = false := by rw [beq_eq_false_iff_ne]; omega
        have kl2 : ¬ (k = 0) := by omega
        have z1 : wr.cell? ⟨w.heap.size, 1, none⟩ = some (.bool neg) := cell_of_row wr w.heap.size 1 _ _ _ C0.out
        have y0 : wr.cell? ⟨w.heap.size + 1, 0, none⟩ = some (.slice none 0 0) := cell_of_row wr (w.heap.size + 1) 0 _ _ _ C1.out
        have y1 : wr.cell? ⟨w.heap.size + 1, 1, none⟩ = some (.bool false) := cell_of_row wr (w.heap.size + 1) 1 _ _ _ C1.out
        have g0 := frozen_of_row wr (w.heap.size + 1) 0 _ _ C1.out
        have g1 := frozen_of_row wr (w.heap.size + 1) 1 _ _ C1.out
        clear hdk hk hk1 hz
        go_wp2
        have hB := (HB.out.setCell (p := ⟨w.heap.size + 1, 0, none⟩) (Nat.le_succ _) (.slice (some a) k c)).setCell (p := ⟨w.heap.size + 1, 1, none⟩) (Nat.le_succ _) (.bool neg)
        have hlen : (dl (val ds)).length = k := by rw [HE.out, List.length_take]; have := HKL.out; omega
        have hv : 0 < val ds := by
          rcases Nat.eq_zero_or_pos (val ds) with h | h
          · rw [h, dl_zero] at hlen; exact absurd hlen.symm kl2
          · exact h
        refine ret_ref_set rfl rfl C1.out ⟨?_, ?_, ?_, hB⟩
        · rw [hlen, decide_eq_true hv, Bool.and_true]
        · rw [HE.out]; exact (HD.out.below hB).take k
        · rw [hlen]; have := HKL.out; have := HC.out; omega
end Go.Proofs.Ytelfbjldfdlpnaa.TickW

