/- The pile sorted: the library's sort at things, by their order. -/
import Derived.Test.YtniemmnmiefgeaaQueueGI
import Derived.Test.YtniemmnmiefgeaaShelf
namespace Go.Proofs.Ytniemmnmiefgeaa.QueueW
open Go.RowKit
theorem ltOf_ord (a b : It) : ltOf ord a b = decide (lt a b) := by unfold ltOf; exact ord_lt a b
theorem swo : Go.Sort.SWO (ltOf ord) := by
  refine ⟨fun x => ?_, fun x y z h1 h2 => ?_, fun x y z h1 h2 => ?_⟩
  · rw [ltOf_ord]; exact decide_eq_false (lt_irrefl x)
  · rw [ltOf_ord] at *
    exact decide_eq_true (lt_trans (of_decide_eq_true h1) (of_decide_eq_true h2))
  · rw [ltOf_ord] at *
    exact decide_eq_false (nlt_trans (of_decide_eq_false h2) (of_decide_eq_false h1))
theorem cs_len (x : It) : x.cs.length = 5 := rfl
theorem cs_one (x : It) : ∀ v ∈ x.cs, v.oneCell' = true := fun v hv => by
  simp only [It.cs, List.mem_cons, List.not_mem_nil, or_false] at hv
  rcases hv with rfl | rfl | rfl | rfl | rfl <;> first | rfl | exact x.one
theorem flatK_eq (L : List It) : Go.Sort.flatK It.cs 5 L.toArray = (flat L).toArray := by
  apply Array.ext
  · rw [Go.Sort.size_flatK]; simp [flat_length]
  · intro t h1 h2
    have h3 : t < L.length * 5 := by rw [Go.Sort.size_flatK] at h1; simpa using h1
    have e1 := Go.Sort.get_flatK It.cs 5 L.toArray t (by simpa using h3)
    rw [getElem!_pos _ t h1] at e1
    rw [e1]
    have hi : t / 5 < L.length := by omega
    have e2 := flat_at L (t / 5) (t % 5) _ (some_nth hi) (by omega)
    rw [show t / 5 * 5 + t % 5 = t by omega, List.getElem?_eq_getElem (by rw [flat_length]; exact h3)] at e2
    have e3 : L.toArray[t / 5]! = nth L (t / 5) := by
      rw [getElem!_pos _ _ (by simpa using hi)]
      have := some_nth hi
      rw [List.getElem?_eq_getElem hi] at this
      simpa using Option.some.inj this
    rw [e3, getElem!_pos _ _ (by rw [cs_len]; omega)]
    rw [List.getElem?_eq_getElem (by rw [cs_len]; omega)] at e2
    simpa using (Option.some.inj e2).symm
theorem holdsI {w : World} {T : TypeId} {base g n c : Nat} {L : List It} (h : Row w T base (.slice (some ⟨g, 0, none⟩) n c) L) : Go.Sort.HoldsK It.cs 5 w g 0 L.toArray := by
  obtain ⟨_, _, rest, hg, _⟩ := h.block
  unfold Go.Sort.HoldsK
  rw [flatK_eq]
  intro j hj
  have hj' : j < (flat L).length := by simpa using hj
  refine ⟨?_, frozen_of_row w g _ _ _ hg⟩
  rw [cell_of_row w g (0 + j) _ _ _ hg, Nat.zero_add, List.getElem?_toArray, List.getElem?_append_left hj', List.getElem?_eq_getElem hj']
  simp [hj']
theorem put_row {w : World} {T : TypeId} {base g c : Nat} {L M : List It} (h : Row w T base (.slice (some ⟨g, 0, none⟩) L.length c) L) (hM : M.length = L.length) (n : Nat) (os : Array Obj) :
    Row (sortWorldK It.cs 5 w g 0 n M.toArray os) T base (.slice (some ⟨g, 0, none⟩) L.length c) M ∧ Chg (fun j => j = g) w (sortWorldK It.cs 5 w g 0 n M.toArray os) := by
  obtain ⟨_, hb, rest, hg, hl, hm⟩ := h.block
  have lg := lt_heap hg
  have e1 : (sortWorldK It.cs 5 w g 0 n M.toArray os).heap[g]? = some (.cells (flat M ++ rest).toArray T (0, 0)) := by
    unfold sortWorldK Go.Sort.putRowK
    rw [Go.Sort.heap_grow_old _ _ (by rw [Go.Sort.size_putRow]; exact lg), flatK_eq]
    unfold Go.Sort.putRow Go.Sort.mapBlock
    simp only [Array.getElem?_modify, if_true]
    rw [show (Go.Sort.ahead w n).heap[g]? = _ from hg]
    simp only [Option.map_some, Go.Sort.onCells, Option.some.injEq, Obj.cells.injEq, and_true]
    apply Array.ext'
    apply List.ext_getElem?
    intro t
    simp only [Go.Sort.putCells, Array.toList_mapIdx, List.getElem?_mapIdx]
    have lf : (flat M).length = (flat L).length := by rw [flat_length, flat_length, hM]
    by_cases ht : t < (flat M).length
    · rw [List.getElem?_append_left (by omega), List.getElem?_append_left ht, List.getElem?_eq_getElem (by omega), List.getElem?_eq_getElem ht]
      simp [ht]
    · rw [List.getElem?_append_right (by omega), List.getElem?_append_right (by omega), lf]
      cases rest[t - (flat L).length]? with
      | none => rfl
      | some y =>
        simp only [Option.map_some]
        rw [if_neg (by simp; omega)]
  refine ⟨?_, ⟨rfl, rfl, rfl, ?_, fun j hj hx => ?_⟩⟩
  · rw [← hM]
    exact Row.mk hb e1 (by rw [List.length_append, flat_length] at hl ⊢; omega) hm
  · unfold sortWorldK Go.Sort.putRowK
    rw [Go.Sort.size_grow, Go.Sort.size_putRow]
    exact Nat.le_add_right _ _
  · unfold sortWorldK Go.Sort.putRowK
    rw [Go.Sort.heap_grow_old _ _ (by rw [Go.Sort.size_putRow]; exact hj)]
    unfold Go.Sort.putRow Go.Sort.mapBlock
    simp only [Array.getElem?_modify]
    rw [if_neg (fun e => hx e.symm)]
    rfl
theorem grow3 (w : World) (a b c : Obj) : (((w.alloc a).alloc b).alloc c).drew = Go.Sort.grow (w.drewN 1) #[a, b, c] := by
  have h : ((w.heap.push a).push b).push c = w.heap ++ #[a, b, c] := by apply Array.ext'; simp
  show ({ w with heap := ((w.heap.push a).push b).push c, drawn := w.drawn + 1 } : World) = { w with heap := w.heap ++ #[a, b, c], drawn := w.drawn + 1 }
  rw [h]
set_option maxHeartbeats 4000000 in
set_option maxRecDepth 100000 in
theorem orderI_grow (a b : It) (w : World) : Calls Try.prog 39 #[.agg #[.int .i64 a.time, .int .i64 a.rank, .int .i64 a.node, .int .i64 a.place, a.thing], .agg #[.int .i64 b.time, .int .i64 b.rank, .int .i64 b.node, .int .i64 b.place, b.thing]] w fun e w' => e = .returned (.int .i64 (ord a b)) ∧ ∃ q os, w' = Go.Sort.grow (w.drewN q) os := by
  obtain ⟨a0, a1, a2, a3, a4, a5⟩ := a
  obtain ⟨b0, b1, b2, b3, b4, b5⟩ := b
  rw [← ord_or]
  dsimp only
  go_enter Try.func39, Try.ntmps39
  go_wp2_with fail
  have hb : Below w.heap.size w ((w.alloc (.cells #[.int .i64 a0, .int .i64 a1, .int .i64 a2, .int .i64 a3, a4] 64)).alloc (.cells #[.int .i64 b0, .int .i64 b1, .int .i64 b2, .int .i64 b3, b4] 64)) := al (al (Below.refl _ _) (Nat.le_refl _) _) (by simp) _
  have ha : ((w.alloc (.cells #[.int .i64 a0, .int .i64 a1, .int .i64 a2, .int .i64 a3, a4] 64)).alloc (.cells #[.int .i64 b0, .int .i64 b1, .int .i64 b2, .int .i64 b3, b4] 64)).heap[w.heap.size]? = some (.cells #[.int .i64 a0, .int .i64 a1, .int .i64 a2, .int .i64 a3, a4] 64) := by
    rw [heap_alloc_old _ _ (show w.heap.size < (w.alloc _).heap.size by simp)]
    exact heap_alloc_new _ _
  have hc : ((w.alloc (.cells #[.int .i64 a0, .int .i64 a1, .int .i64 a2, .int .i64 a3, a4] 64)).alloc (.cells #[.int .i64 b0, .int .i64 b1, .int .i64 b2, .int .i64 b3, b4] 64)).heap[w.heap.size + 1]? = some (.cells #[.int .i64 b0, .int .i64 b1, .int .i64 b2, .int .i64 b3, b4] 64) := by
    have := heap_alloc_new (w.alloc (.cells #[.int .i64 a0, .int .i64 a1, .int .i64 a2, .int .i64 a3, a4] 64)) (.cells #[.int .i64 b0, .int .i64 b1, .int .i64 b2, .int .i64 b3, b4] 64)
    simpa using this
  generalize hW : (w.alloc (.cells #[.int .i64 a0, .int .i64 a1, .int .i64 a2, .int .i64 a3, a4] 64)).alloc (.cells #[.int .i64 b0, .int .i64 b1, .int .i64 b2, .int .i64 b3, b4] 64) = W at *
  have HW := Lib.hid hW
  clear hW
  have a_ := Lib.hid (cells5 ha)
  have c_ := Lib.hid (cells5 hc)
  have B := Lib.hid hb
  have l0 := lt_heap ha
  have l1 := lt_heap hc
  have k_ := Lib.hid (cells5 (show (W.alloc (row4 (cmpI a0 b0) (cmpI a1 b1) (cmpI a2 b2) (cmpI a3 b3))).drew.heap[w.heap.size]? = _ from (heap_alloc_old _ _ l0).trans ha))
  have m_ := Lib.hid (cells5 (show (W.alloc (row4 (cmpI a0 b0) (cmpI a1 b1) (cmpI a2 b2) (cmpI a3 b3))).drew.heap[w.heap.size + 1]? = _ from (heap_alloc_old _ _ l1).trans hc))
  have hs := Lib.hid hb.size
  have HO := Lib.hid (or_any (cmpI a0 b0) (cmpI a1 b1) (cmpI a2 b2) (cmpI a3 b3) W.heap.size 4 (W.alloc (row4 (cmpI a0 b0) (cmpI a1 b1) (cmpI a2 b2) (cmpI a3 b3))).drew (heap_alloc_new W _))
  clear ha hc hb l0 l1
  go_region_held3 (fun w' => (w'.cell? ⟨w.heap.size, 0, none⟩ = some (.int .i64 a0) ∧ w'.cell? ⟨w.heap.size, 1, none⟩ = some (.int .i64 a1) ∧ w'.cell? ⟨w.heap.size, 2, none⟩ = some (.int .i64 a2) ∧ w'.cell? ⟨w.heap.size, 3, none⟩ = some (.int .i64 a3) ∧ w'.cell? ⟨w.heap.size, 4, none⟩ = some a4) ∧ (w'.cell? ⟨w.heap.size + 1, 0, none⟩ = some (.int .i64 b0) ∧ w'.cell? ⟨w.heap.size + 1, 1, none⟩ = some (.int .i64 b1) ∧ w'.cell? ⟨w.heap.size + 1, 2, none⟩ = some (.int .i64 b2) ∧ w'.cell? ⟨w.heap.size + 1, 3, none⟩ = some (.int .i64 b3) ∧ w'.cell? ⟨w.heap.size + 1, 4, none⟩ = some b4)) (first | exact ⟨a_.out, c_.out⟩ | exact ⟨k_.out, m_.out⟩) (first
    | (go_at_call 44; (with_reducible refine (cmp_any _ _ _).mono ?_); rintro e w' ⟨rfl, rfl⟩)
    | (go_at_call 43; (with_reducible refine HO.out.mono ?_); rintro e w' ⟨rfl, rfl⟩))
  go_wp2
  go_ret
  exact ⟨rfl, 1, _, (congrArg (fun X => (World.alloc X (row4 (cmpI a0 b0) (cmpI a1 b1) (cmpI a2 b2) (cmpI a3 b3))).drew) HW.out.symm).trans (grow3 w _ _ _)⟩
theorem enters_order : ∀ (args : Array Value) (w : World), Sem.run Try.prog (callFunc 39 args) w = .ok (.enter 39 args) w := enters_of Try.func39 (by kernel_rfl) rfl
theorem cmpLays (g size : Nat) (w : World) : CmpLays Try.prog 39 #[] It.cs 5 ord g 0 size w := fun _ _ _ _ x y => orderI_grow x y _
theorem pdqI (g c : Nat) (L : List It) (w : World) (h : Row w 64 0 (.slice (some ⟨g, 0, none⟩) L.length c) L) (hl : L.length ≤ 65536) (lim : Nat) (hlim : lim < 4611686018427387904) :
    Calls Try.prog 41 #[.slice (some ⟨g, 0, none⟩) L.length c, .int .i64 (0 : Nat), .int .i64 (L.length : Nat), .int .i64 (lim : Nat), .func (.func 39) #[] #[]] w fun e w' => e = .returned (.tuple #[]) ∧
      ∃ M : List It, M.Perm L ∧ M.Pairwise (fun a b => ¬ lt b a) ∧ Row w' 64 0 (.slice (some ⟨g, 0, none⟩) L.length c) M ∧ Chg (fun j => j = g) w w' := by
  have hs : L.toArray.size = L.length := by simp
  have K := AnyQ.pdqsortCmpFunc_all (ρ := Try.pdqIt_ren) Try.pdqIt 5 Try.isAgg64 Try.sizeOf64 It.cs ord 39 #[] swo g 0 c L.toArray w enters_order (cmpLays g _ w) ⟨cs_len, cs_one, holdsI h, h.lt rfl⟩ (L.length + 1) 0 L.length lim L.toArray w (by omega) rfl (SWK.start (holdsI h)) (Nat.zero_le _) (by omega) (by omega) hlim (Or.inl rfl)
  rw [hs] at K
  refine K.mono ?_
  rintro e w' ⟨rfl, n, os, rfl⟩
  obtain ⟨hp, hso⟩ := Go.Sort.pdq_sorts (ltOf ord) swo L.toArray 0 L.length lim true true (Nat.zero_le _) (by omega) (Or.inl rfl)
  generalize Go.Sort.pdq (ltOf ord) L.toArray 0 L.length lim true true = D at *
  obtain ⟨h1, -, h3⟩ := hp
  rw [hs] at h1
  have hM : D.toList.length = L.length := by simpa using h1
  have e1 : D.extract 0 L.length = D := by rw [← h1]; simp
  have e2 : L.toArray.extract 0 L.length = L.toArray := by conv => lhs; rw [← hs]; simp
  rw [e1, e2] at h3
  have pr := put_row h hM n os
  rw [Array.toArray_toList] at pr
  refine ⟨rfl, D.toList, h3, ?_, pr.1, pr.2⟩
  rw [List.pairwise_iff_getElem]
  intro i j hi hj hij
  have := hso i j (Nat.zero_le _) hij (by omega)
  rw [ltOf_ord, decide_eq_false_iff_not] at this
  rw [getElem!_pos D j (by simpa using hj), getElem!_pos D i (by simpa using hi)] at this
  simpa using this
set_option maxHeartbeats 1000000 in
theorem sortI (g c : Nat) (L : List It) (w : World) (h : Row w 64 0 (.slice (some ⟨g, 0, none⟩) L.length c) L) (hl : L.length ≤ 65536) :
    Calls Try.prog 38 #[.slice (some ⟨g, 0, none⟩) L.length c, .func (.func 39) #[] #[]] w fun e w' => e = .returned (.tuple #[]) ∧
      ∃ M : List It, M.Perm L ∧ M.Pairwise (fun a b => ¬ lt b a) ∧ Row w' 64 0 (.slice (some ⟨g, 0, none⟩) L.length c) M ∧ Chg (fun j => j = g) w w' := by
  have hlim : Lib.bitLen L.length < 4611686018427387904 := Nat.lt_of_le_of_lt (Lib.bitLen_le L.length 62 (by omega) (by omega)) (by omega)
  have P := Lib.hid (pdqI g c L w h hl _ hlim)
  rw [show ((0 : Nat) : Int) = 0 from rfl] at P
  have B := fun w => Try.bits_Len (L.length : Int) w (by omega) (by omega)
  clear h hlim
  generalize L.length = l at *
  rw [Int.toNat_natCast] at B
  go_enter Try.func38, Try.ntmps38
  go_wp2_with (first
    | (go_at_call 42; refine (B _).mono ?_; rintro e w' ⟨rfl, rfl⟩))
  refine P.out.mono ?_
  rintro e w1 ⟨rfl, h1⟩
  go_wp2
  go_end0
  exact ⟨rfl, h1⟩
end Go.Proofs.Ytniemmnmiefgeaa.QueueW
