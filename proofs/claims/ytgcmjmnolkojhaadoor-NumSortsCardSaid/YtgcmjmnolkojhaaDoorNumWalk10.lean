/- Walk of num.Sort. -/
import Derived.Test.YtgcmjmnolkojhaaDoorNumWalk9
import Derived.Test.YtgcmjmnolkojhaaDoorNumSorted
namespace Go.Proofs.YtgcmjmnolkojhaaDoor.NumW
open Go.RowKit NumP Go.Sort
@[go_sem] theorem run_store_float {P : Program} {w : World} {a : Addr} {m : Mode} (k : FloatKind) (b : Nat) : (store a (.float k b) m).run P w = stored P w a (.float k b) m := run_store P w a _ m rfl
/-- The first k cells hold the first k numbers in their one form. -/
def Filled (xs : List Nat) (k : Nat) (C : Array Value) : Prop := C.size = xs.length ∧ ∀ (j x : Nat), j < k → xs[j]? = some x → C[j]? = some (.float .f64 (oneN x))
theorem Filled.start {xs : List Nat} {C : Array Value} (h : C.size = xs.length) : Filled xs 0 C := ⟨h, fun j _ hj => absurd hj (Nat.not_lt_zero j)⟩
theorem Filled.next {xs : List Nat} {k x : Nat} {C : Array Value} (h : Filled xs k C) (hx : xs[k]? = some x) : Filled xs (k + 1) (C.setIfInBounds k (.float .f64 (oneN x))) := by
  refine ⟨by rw [Array.size_setIfInBounds]; exact h.1, fun j y hj hy => ?_⟩
  rw [Array.getElem?_setIfInBounds]
  by_cases e : k = j
  · subst e
    rw [hx] at hy; cases hy
    have hl : k < xs.length := by
      rcases Nat.lt_or_ge k xs.length with h1 | h1
      · exact h1
      · rw [List.getElem?_eq_none h1] at hx; cases hx
    rw [if_pos rfl, if_pos (by rw [h.1]; exact hl)]
  · rw [if_neg e]; exact h.2 j y (by omega) hy
/-- What num.Sort answers: a new row with the numbers in order. -/
def SortEnd (xs : List Nat) (w : World) (e : Ending) (w' : World) : Prop := e = .returned (.slice (some ⟨w.heap.size, 0, none⟩) xs.length xs.length) ∧ Below w.heap.size w w' ∧ ∃ ys, IsSort xs ys ∧ w'.heap[w.heap.size]? = some (.cells (ys.map (Value.float .f64)).toArray 22 (0, 0))
theorem frozen_new (w : World) (C : Array Value) (t : TypeId) (j : Nat) : (w.alloc (.cells C t)).frozen? ⟨w.heap.size, j, none⟩ = false := by
  have : (w.alloc (.cells C t)).heap[w.heap.size]? = some (.cells C t (0, 0)) := heap_alloc_new w _
  unfold World.frozen?
  rw [this]
  simp
theorem cmp_lays (blk off size : Nat) (w : World) : CmpLays1 Tryd.prog 18 #[] enc cf blk off size w :=
  CmpReads.lays fun _ _ _ _ x y => (cmp_any x.1 y.1 x.2.1 y.2.1 _).mono fun _ _ ⟨he, hw⟩ => ⟨he, 0, hw.symm⟩
theorem filled_holds {xs : List Nat} {C : Array Value} (h : Filled xs xs.length C) (hx : ∀ x ∈ xs, x < 18446744073709551616) (w : World) (t : TypeId) : Holds enc (w.alloc (.cells C t)) w.heap.size 0 (canRow xs) := by
  intro j hj
  rw [canRow_size] at hj
  obtain ⟨x, hxj⟩ := at_ hj
  rw [Nat.zero_add]
  refine ⟨?_, ?_⟩
  · rw [World.cell?_alloc_new, h.2 j x hj hxj, canRow_at hxj]
    unfold enc
    rw [can_val (hx x (List.mem_of_getElem? hxj))]
  · exact frozen_new _ _ _ _
/-- What a sorted row leaves: a new block with just the words. -/
theorem sorted_world {C : Array Value} {d : Array Cnum} (hC : C.size = d.size) (w : World) (t : TypeId) (n : Nat) (os : Array Obj) :
    (sortWorld enc (w.alloc (.cells C t)) w.heap.size 0 n d os).heap[w.heap.size]? = some (.cells ((words d).map (Value.float .f64)).toArray t (0, 0)) ∧ Below w.heap.size w (sortWorld enc (w.alloc (.cells C t)) w.heap.size 0 n d os) := by
  have hnew : (w.alloc (.cells C t)).heap[w.heap.size]? = some (.cells C t (0, 0)) := heap_alloc_new w _
  have hsz : (w.alloc (.cells C t)).heap.size = w.heap.size + 1 := World.size_alloc w _
  have hh : (sortWorld enc (w.alloc (.cells C t)) w.heap.size 0 n d os).heap = ((w.alloc (.cells C t)).heap.modify w.heap.size (onCells (putCells enc 0 d))) ++ os := rfl
  have hput : putCells enc 0 d C = ((words d).map (Value.float .f64)).toArray := by
    apply Array.ext_getElem?
    intro k
    unfold putCells words
    simp only [Array.getElem?_mapIdx, List.getElem?_toArray, List.getElem?_map, Array.getElem?_toList]
    by_cases hk : k < d.size
    · rw [Array.getElem?_eq_getElem (by omega), Array.getElem?_eq_getElem hk, Option.map_some, if_pos ⟨Nat.zero_le _, by omega⟩, Nat.sub_zero, getElem!_pos d k hk]
      rfl
    · rw [Array.getElem?_eq_none (by omega), Array.getElem?_eq_none (by omega)]
      rfl
  constructor
  · rw [hh, Array.getElem?_append_left (by rw [Array.size_modify, hsz]; omega), Array.getElem?_modify, if_pos rfl, hnew]
    show some (Obj.cells (putCells enc 0 d C) t (0, 0)) = _
    rw [hput]
  · refine ⟨rfl, rfl, rfl, ?_, fun k hk => ?_⟩
    · rw [hh, Array.size_append, Array.size_modify, hsz]; omega
    · rw [hh, Array.getElem?_append_left (by rw [Array.size_modify, hsz]; omega), Array.getElem?_modify, if_neg (by omega)]
      exact Below.heap_alloc w _ k hk
set_option maxHeartbeats 1000000 in
set_option maxRecDepth 100000 in
theorem sort_any (A : Option Addr) (c : Nat) (xs : List Nat) (w : World) (h : FL w A xs) (hl : xs.length ≤ 17592186044416) :
    Calls Tryd.prog 21 #[.slice A xs.length c] w fun e w' => SortEnd xs w e w' := by
  have H := Lib.hid h
  have hl2 : (xs.length : Int) ≤ 17592186044416 := by omega
  obtain ⟨i0, hi, hz0, hz1, hz2⟩ := info_parts (show (Tryd.prog.info? 22).map (fun i => (i.zero, i.size, i.bytes)) = some (some (.float .f64 0), 1, 8) by kernel_rfl)
  have hmk : ∀ w : World, (Instr.makeSlice 30 (.int .i64 (xs.length : Int)) (.int .i64 (xs.length : Int))).run Tryd.prog w = .ok (.slice (some ⟨w.heap.size, 0, none⟩) xs.length xs.length) (w.alloc (.cells (madeCells #[.float .f64 0] xs.length) 22)) := by
    intro w
    have := run_make (P := Tryd.prog) w 30 22 i0 (.float .f64 0) (by kernel_rfl) hi hz0 .i64 .i64 (xs.length : Int) (xs.length : Int) (by omega) (by omega) (by rw [hz2]; omega) (by omega)
    rw [hz1, Int.toNat_natCast, Nat.mul_one] at this
    exact this
  have hB := size_madeCells #[.float .f64 0] xs.length
  generalize madeCells #[.float .f64 0] xs.length = C0 at *
  have HB := Lib.hid hB
  clear h hi hz0 hz1 hz2 i0 hB hl
  go_enter Tryd.func21, Tryd.ntmps21
  go_wp2
  go_loopw [11] (fun i wr => ∃ (k : Nat) (C : Array Value), k ≤ xs.length ∧ i = .int .i64 k ∧ wr = w.alloc (.cells C 22) ∧ Filled xs k C) (fun i _ => xs.length - (intOf i).toNat)
  case atStart => exact ⟨0, _, Nat.zero_le _, rfl, rfl, Filled.start HB.out⟩
  case round =>
    obtain ⟨k, C, hk, rfl, rfl, hF⟩ := hrel
    by_cases hlt : k < xs.length
    · obtain ⟨x, hx⟩ := at_ hlt
      obtain ⟨ad, rfl, hc, hb⟩ := (H.out.alloc (.cells C 22)) k x hx
      obtain ⟨c0, hc0⟩ : ∃ c0, C[k]? = some c0 := ⟨_, Array.getElem?_eq_getElem (by rw [hF.1]; exact hlt)⟩
      have HN := Lib.hid (hF.next hx)
      clear hF hx
      go_wp2_with (go_at_call 16; refine (one_any _ hb _).mono ?_; rintro e w' ⟨rfl, rfl⟩)
      go_roundw
      case rel => exact ⟨k + 1, _, by omega, by go_num, rfl, HN.out⟩
      case measure => simp [intOf]; omega
    · obtain rfl : k = xs.length := by omega
      have hx : ∀ x ∈ xs, x < 18446744073709551616 := fun x hm => by
        obtain ⟨j, hj⟩ := List.getElem?_of_mem hm
        exact (H.out j x hj).choose_spec.2.2
      have hcon := Go.Proofs.Tryd.slices_SortFunc enc (fun _ => rfl) cf swo 18 #[] w.heap.size 0 xs.length (canRow xs) (w.alloc (.cells C 22)) (enters_of Tryd.func18 (by kernel_rfl) rfl) (cmp_lays _ _ _ _) (filled_holds hF hx w _) (by simp) (by rw [canRow_size]; omega)
      rw [canRow_size] at hcon
      have HC := Lib.hid hcon
      have HF := Lib.hid hF.1
      have HX := Lib.hid hx
      clear hcon hF hx
      go_wp2_with fail
      refine HC.out.mono ?_
      rintro e w1 ⟨rfl, d, n, os, hp, hs, rfl⟩
      have hsz : d.size = xs.length := by rw [hp.1, canRow_size]
      have HW := Lib.hid (sorted_world (by rw [HF.out, hsz]) w 22 n os : _ ∧ _)
      have HS := Lib.hid (words_sort HX.out (by rw [canRow_size]; exact hp) (by rw [canRow_size]; exact hs))
      clear hp hs hsz
      generalize sortWorld enc (w.alloc (.cells C 22)) w.heap.size 0 n d os = w2 at *
      go_wp2
      go_ret
      exact ⟨rfl, HW.out.2, _, HS.out, HW.out.1⟩
end Go.Proofs.YtgcmjmnolkojhaaDoor.NumW
