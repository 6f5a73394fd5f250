/- The document's numbers in memory; Of. -/
import Derived.Test.YtmagjekmlnpfpaaGreatTickWideJa
import Derived.Test.YtmagjekmlnpfpaaGreatTickRefP
import Derived.Laws.AppendOwn
import Derived.Laws.OwnMore
import Derived.OwnWalk
import Derived.OneCell
import Derived.DataElems
import Derived.Deep.DeepCutAuto
import Derived.Deep.CutBlock
namespace Go.Proofs.YtmagjekmlnpfpaaGreat.TickW
open Go.RowKit
def u32s (l : List Nat) : List Value := l.map fun d : Nat => .int .u32 (d : Int)
def DL (w : World) (A : Option Addr) (ds : List Nat) : Prop := ∀ (k d : Nat), ds[k]? = some d → ∃ a, A = some a ∧ w.cell? (a.add k) = some (.int .u32 (d : Int))
theorem DL.below {w w1 : World} {A : Option Addr} {ds : List Nat} (h : DL w A ds) (b : Below w.heap.size w w1) : DL w1 A ds := by
  intro k d hd
  obtain ⟨a, ha, hc⟩ := h k d hd
  exact ⟨a, ha, cell_keep hc b⟩
theorem DL.take {w : World} {A : Option Addr} {ds : List Nat} (h : DL w A ds) (n : Nat) : DL w A (ds.take n) := by
  intro k d hd
  rw [List.getElem?_take] at hd
  split at hd
  · exact h k d hd
  · cases hd
/-- The value of a number. -/
def WV (w : World) (v : Value) (z : Int) : Prop := ∃ A c, v = .agg #[.slice A (dl z.natAbs).length c, .bool (decide (z < 0))] ∧ DL w A (dl z.natAbs) ∧ (dl z.natAbs).length ≤ c
theorem WV.below {w w1 : World} {v : Value} {z : Int} (h : WV w v z) (b : Below w.heap.size w w1) : WV w1 v z := by
  obtain ⟨A, c, hv, hd, hc⟩ := h
  exact ⟨A, c, hv, hd.below b, hc⟩
theorem ret_ref {fn : Func} {R : Ending → World → Prop} {p : Tmp} (h : fn.results = #[.cell p 128]) {tmps : Array Value} {w : World} {g : Nat} {x y : Value} {t : TypeId} {fr : Nat × Nat}
    (hp : tmps.getD p undef = .pointer (some ⟨g, 0, none⟩)) (hg : w.heap[g]? = some (.cells #[x, y] t fr)) (hR : R (.returned (.agg #[x, y])) w) :
    bodyPost Tryz.prog fn R .ret { tmps := tmps, defers := [] } w :=
  bodyPost_ret (results_cell_row h tmps w g t #[x, y] fr _ hp hg Tryz.underlying128 rfl (by kernel_rfl)) rfl hR
theorem ret_ref_set {fn : Func} {R : Ending → World → Prop} {p : Tmp} (h : fn.results = #[.cell p 128]) {tmps : Array Value} {W : World} {g : Nat} {x y a b : Value} {t : TypeId}
    (hp : tmps.getD p undef = .pointer (some ⟨g, 0, none⟩)) (hg : W.heap[g]? = some (.cells #[a, b] t (0, 0))) (hR : R (.returned (.agg #[x, y])) ((W.setCell ⟨g, 0, none⟩ x).setCell ⟨g, 1, none⟩ y)) :
    bodyPost Tryz.prog fn R .ret { tmps := tmps, defers := [] } ((W.setCell ⟨g, 0, none⟩ x).setCell ⟨g, 1, none⟩ y) :=
  ret_ref h hp (heap_setCell_same _ g 1 _ t y (heap_setCell_same W g 0 _ t x hg)) hR
theorem own_dl {w : World} {base n : Nat} {v : Value} {ds : List Nat} (h : w.ownsRow base 28 1 v n (u32s ds)) (hn : ds.length = n) : ∃ A c, v = .slice A n c ∧ DL w A ds ∧ n ≤ c := by
  rcases h.2 with ⟨hv, h0⟩ | ⟨g, cap, cur, hv, hb, hg, h5, h6, h7, htake⟩
  · have hd : ds = [] := List.eq_nil_of_length_eq_zero (by omega)
    subst hd; subst h0
    exact ⟨none, 0, hv, fun k d hk => by simp at hk, Nat.le_refl _⟩
  · refine ⟨_, cap, hv, fun j y hy => ⟨_, rfl, ?_⟩, h5⟩
    have hj : j < ds.length := by
      rcases Nat.lt_or_ge j ds.length with h4 | h4
      · exact h4
      · rw [List.getElem?_eq_none h4] at hy; cases hy
    have ha : (⟨g, 0, none⟩ : Addr).add j = ⟨g, j, none⟩ := by unfold Addr.add; split <;> simp_all
    have h5 : (u32s ds)[j]? = some (.int .u32 (y : Int)) := by unfold u32s; rw [List.getElem?_map, hy]; rfl
    rw [← htake, List.getElem?_take_of_lt (by omega), Array.getElem?_toList] at h5
    rw [ha]
    unfold World.cell?
    simp only [hg]
    exact h5
theorem row_lt0 {w : World} {g : Nat} {o : Obj} (h : w.heap[g]? = some o) : g < w.heap.size := by
  rcases Nat.lt_or_ge g w.heap.size with h1 | h1
  · exact h1
  · rw [Array.getElem?_eq_none h1] at h; cases h
theorem u32_info : ∃ i0 : TypeInfo, Tryz.prog.info? 28 = some i0 ∧ i0.zero = some (.int .u32 0) ∧ i0.size = 1 ∧ i0.bytes = 4 :=
  info_parts (show (Tryz.prog.info? 28).map (fun i => (i.zero, i.size, i.bytes)) = some (some (.int .u32 0), 1, 4) by kernel_rfl)
set_option maxHeartbeats 4000000 in
set_option maxRecDepth 100000 in
theorem of_any (n : Int) (h0 : -9223372036854775808 ≤ n) (h1 : n ≤ 9223372036854775807) (w : World) :
    Calls Tryz.prog 64 #[.int .i64 n] w fun e w' => (∃ v, e = .returned v ∧ WV w' v n) ∧ Below w.heap.size w w' := by
  obtain ⟨M, hM⟩ : ∃ M, M = n.natAbs := ⟨_, rfl⟩
  obtain ⟨i0, hi, hz0, hz1, hz2⟩ := u32_info
  have HI := Lib.hid hi
  have HZ0 := Lib.hid hz0
  have HZ1 := Lib.hid hz1
  have HZ2 := Lib.hid hz2
  have HMM := Lib.hid hM
  have HMB := Lib.hid (show M ≤ 9223372036854775808 by omega)
  have HN := Lib.hid (show n < 0 → IntKind.u64.wrap (-(IntKind.u64.wrap n)) = (M : Int) from fun h => by rw [IntKind.wrap_u64, IntKind.wrap_u64]; omega)
  have HN2 := Lib.hid (show ¬ n < 0 → IntKind.u64.wrap n = (M : Int) from fun h => by rw [IntKind.wrap_u64]; omega)
  clear hi hz0 hz1 hz2 hM h0 h1
  go_enter Tryz.func64, Tryz.ntmps64
  go_upto_if 11 with (fail)
  have hb := al (al (Below.refl w.heap.size w) (Obj.cells #[.slice none 0 0, .bool false] 128)) (Obj.cells #[.slice none 0 0, .bool (decide (n < 0))] 128)
  have c0 := heap_alloc2_old w (Obj.cells #[.slice none 0 0, .bool false] 128) (Obj.cells #[.slice none 0 0, .bool (decide (n < 0))] 128)
  have c1 := heap_alloc2_new w (Obj.cells #[.slice none 0 0, .bool false] 128) (Obj.cells #[.slice none 0 0, .bool (decide (n < 0))] 128)
  generalize (w.alloc (Obj.cells #[.slice none 0 0, .bool false] 128)).alloc (Obj.cells #[.slice none 0 0, .bool (decide (n < 0))] 128) = W at *
  have HB := Lib.hid hb
  have C0 := Lib.hid c0
  have C1 := Lib.hid c1
  clear hb c0 c1
  go_cut [4] (fun s4 wx => s4 = .int .u64 (M : Int) ∧ wx = W)
  case first =>
    by_cases hneg : n < 0
    · have e := HN.out hneg
      go_wp2
      go_meet
      exact ⟨rfl, rfl⟩
    · have e := HN2.out hneg
      go_wp2
      go_meet
      exact ⟨rfl, rfl⟩
  case rest =>
    obtain ⟨rfl, rfl⟩ := hcut
    obtain ⟨w0, hw0⟩ : ∃ w0, w0 = wc := ⟨_, rfl⟩
    subst hw0
    have HG := Lib.hid (row_lt0 C1.out)
    clear HN HN2
    generalize hbb : decide (n < 0) = bb at *
    have HBB := Lib.hid hbb
    clear hbb
    go_wp2_with fail
    go_loopw [4] (fun m wr => ∃ (k : Nat) (v : Value), k ≤ (dl M).length ∧ m = .int .u64 ((M / 65536 ^ k : Nat) : Int) ∧ Hid (Below w.heap.size w wr) ∧ Hid (wr.heap[w.heap.size]? = some (.cells #[.slice none 0 0, .bool false] 128 (0, 0))) ∧ Hid (wr.heap[w.heap.size + 1]? = some (.cells #[v, .bool bb] 128 (0, 0))) ∧ Hid (wr.ownsRow w0.heap.size 28 1 v k (u32s ((dl M).take k))) ∧ Hid (w0.heap.size ≤ wr.heap.size)) (fun m _ => (intOf m).toNat)
    case atStart => exact ⟨0, _, Nat.zero_le _, by simp, HB, C0, C1, Lib.hid ⟨rfl, Or.inl ⟨rfl, rfl⟩⟩, Lib.hid (Nat.le_refl _)⟩
    case round =>
      clear HB C0 C1
      obtain ⟨k, v, hk, rfl, HB, C0, C1, HO, HS⟩ := hrel
      obtain ⟨A, cap, rfl⟩ : ∃ A cap, v = .slice A k cap := by
        rcases HO.out.2 with ⟨h, h0⟩ | ⟨g, cap, cur, hv, _⟩
        · subst h0; exact ⟨_, _, h⟩
        · exact ⟨_, cap, hv⟩
      have hz0 := cell_of_row wr (w.heap.size + 1) 0 _ _ _ C1.out
      have hiff := dl_lt_length M k
      by_cases hlt : k < (dl M).length
      · have hp := hiff.1 hlt
        have HT := Lib.hid (show ∀ q, M / 65536 ^ k = q → (dl M).take (k + 1) = (dl M).take k ++ [q % 65536] from fun q hq => by rw [dl_take_succ M k hlt, hq])
        have HQ := Lib.hid (show ∀ q, M / 65536 ^ k = q → q / 65536 = M / 65536 ^ (k + 1) from fun q hq => by rw [← hq, Nat.div_div_eq_div_mul, Nat.pow_succ])
        have hqM : M / 65536 ^ k ≤ M := Nat.div_le_self _ _
        have HK := Lib.hid hlt
        have hlen : (dl M).length ≤ 4 := dl_length_le (by have := HMB.out; omega)
        have HLEN := Lib.hid hlen
        clear hiff hlt hk hlen
        generalize hqe : M / 65536 ^ k = q at *
        have HQE := Lib.hid hqe
        have x1 : IntKind.u32.wrap ((q : Int) % 65536) = ((q % 65536 : Nat) : Int) := by simp [IntKind.wrap, IntKind.bits, IntKind.signed]; omega
        have x3 : IntKind.u64.wrap ((q : Int) / 65536) = ((q / 65536 : Nat) : Int) := by have := HMB.out; rw [IntKind.wrap_u64]; omega
        have HQ0 := Lib.hid hp
        have kq : (0 : Int) < (q : Int) := by omega
        have HT1 := Lib.hid (HT.out q rfl)
        have HQ1 := Lib.hid (HQ.out q rfl)
        generalize hd : q % 65536 = d at *
        clear hp hqe hqM HT HQ hd
        go_wp2_with (at_builtin; refine wpList_append_own _ rfl _ _ 79 rfl w0.heap.size 28 i0 (.int .u32 0) 1 4 Tryz.underlying79 HI.out HZ0.out HZ1.out HZ2.out rfl (by decide) _ _ _ rfl (HO.out.alloc _) ⟨wr.heap.size, 0, none⟩ 1 1 [.int .u32 (d : Int)] rfl rfl ?c1 ?c2 ?c3 ?c4 ?c5 ?_)
        case c1 => exact (cell_one_new _ _ _)
        case c2 => intro u hu; simp at hu; subst hu; rfl
        case c3 => have := HK.out; have := HLEN.out; unfold maxLen; omega
        case c4 => have := HK.out; have := HLEN.out; omega
        case c5 => rw [World.size_alloc]; have := HS.out; omega
        intro v' w2 hown2 hgrow _
        obtain ⟨A', cap', rfl⟩ : ∃ A' cap', v' = .slice A' (k + 1) cap' := by
          rcases hown2.2 with ⟨h, h0⟩ | ⟨g, cap, cur, hv, _⟩
          · omega
          · exact ⟨_, cap, hv⟩
        have HO2 := Lib.hid (show w2.ownsRow w0.heap.size 28 1 (.slice A' (k + 1) cap') (k + 1) (u32s ((dl M).take (k + 1))) by rw [HT1.out]; unfold u32s; rw [List.map_append]; exact hown2)
        have HW : Hid (Below w0.heap.size wr w2) := Lib.hid (((Below.refl w0.heap.size wr).alloc HS.out _).grown hgrow (by rw [World.size_alloc]; have := HS.out; omega) (fun g hg => (HO.out.lt g hg).1))
        have D0 := Lib.hid ((HW.out.block _ (by have := HG.out; omega)).trans C0.out)
        have D1 := Lib.hid ((HW.out.block _ HG.out).trans C1.out)
        have hz2 := cell_of_row w2 (w.heap.size + 1) 0 _ _ _ D1.out
        have hf2 := frozen_of_row w2 (w.heap.size + 1) 0 _ _ D1.out
        clear hown2 hgrow hz0
        go_wp2
        go_roundw
        case rel => exact ⟨k + 1, _, by have := HK.out; omega, by rw [← HQ1.out, Int.natCast_ediv]; first | rfl | (rw [x3]; rfl), Lib.hid ((HB.out.trans (HW.out.mono (by have := HG.out; omega))).setCell (Nat.le_succ _) _), Lib.hid ((heap_setCell_other _ _ _ _ (by simp)).trans D0.out), Lib.hid (heap_setCell_same _ _ 0 _ _ _ D1.out), Lib.hid (ownsRow_setCell_below HO2.out HG.out _), Lib.hid (by have := HW.out.size; have := HS.out; simp; omega)⟩
        case measure => have := HQ0.out; simp only [intOf]; omega
      · obtain rfl : k = (dl M).length := by omega
        have hq0 : M / 65536 ^ (dl M).length = 0 := Nat.eq_zero_of_not_pos (fun h => hlt (hiff.2 h))
        rw [hq0, show ((0 : Nat) : Int) = 0 from rfl]
        have hO := HO.out
        rw [List.take_length] at hO
        have hz1 := cell_of_row wr (w.heap.size + 1) 1 _ _ _ C1.out
        have y0 := cell_of_row wr w.heap.size 0 _ _ _ C0.out
        have y1 := cell_of_row wr w.heap.size 1 _ _ _ C0.out
        have f0 := frozen_of_row wr w.heap.size 0 _ _ C0.out
        have f1 := frozen_of_row wr w.heap.size 1 _ _ C0.out
        have HO2 := Lib.hid hO
        clear hO hq0 hiff hlt hk
        go_wp2
        refine ret_ref_set rfl rfl C0.out ⟨⟨_, rfl, ?_⟩, (HB.out.setCell (Nat.le_refl _) _).setCell (Nat.le_refl _) _⟩
        obtain ⟨A2, c2, he, hd, hcc⟩ := own_dl (ownsRow_setCell_below (ownsRow_setCell_below HO2.out (a := ⟨w.heap.size, 0, none⟩) (by have := HG.out; show w.heap.size < _; omega) (.slice A (dl M).length cap)) (a := ⟨w.heap.size, 1, none⟩) (by have := HG.out; show w.heap.size < _; omega) (.bool bb)) rfl
        refine ⟨A2, c2, ?_, ?_, ?_⟩
        · rw [← HMM.out, HBB.out, ← he]
        · rw [← HMM.out]; exact hd
        · rw [← HMM.out]; exact hcc
end Go.Proofs.YtmagjekmlnpfpaaGreat.TickW


