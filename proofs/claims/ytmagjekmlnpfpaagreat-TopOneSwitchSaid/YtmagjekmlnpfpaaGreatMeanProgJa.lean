/- Walks of mean.Tolerant, mean.Middle, mean.Spread and what they call. -/
import Derived.Test.YtmagjekmlnpfpaaGreatTickIntsJa
import Derived.Test.YtmagjekmlnpfpaaGreatShelfM
import Derived.BigQuiet
import Derived.IntWalk
import Derived.Deep.RegionHeld3
namespace Go.Proofs.YtmagjekmlnpfpaaGreat.MeanW
open Go.RowKit TickW Go.Sort
/-- A row of int64 at the front of its block. -/
def UI (w : World) (g : Nat) (ys : List Int) : Prop := ∀ (j : Nat) (y : Int), ys[j]? = some y → w.cell? ⟨g, j, none⟩ = some (.int .i64 y)
theorem UI.below {w w' : World} {g B : Nat} {ys : List Int} (h : UI w g ys) (hb : Below B w w') (hg : g < B) : UI w' g ys := fun j y hy => (hb.cell (p := ⟨g, j, none⟩) hg).trans (h j y hy)
theorem own_i64s {w : World} {base n : Nat} {v : Value} {ys : List Int} (h : w.ownsRow base 2 1 v n (i64s ys)) (hp : 0 < n) : ∃ g cap cur, v = .slice (some ⟨g, 0, none⟩) n cap ∧ base ≤ g ∧ g < w.heap.size ∧ w.heap[g]? = some (.cells cur 2 (0, 0)) ∧ UI w g ys ∧ ys.length = n := by
  have hlen : ys.length = n := by have := h.1; unfold i64s at this; rw [List.length_map] at this; omega
  rcases h.2 with ⟨_, h0⟩ | ⟨g, cap, cur, hv, hb, hg, _, _, _, htake⟩
  · omega
  · have hlt : g < w.heap.size := by
      rcases Nat.lt_or_ge g w.heap.size with h1 | h1
      · exact h1
      · rw [Array.getElem?_eq_none h1] at hg; cases hg
    refine ⟨g, cap, cur, hv, hb, hlt, hg, fun j y hy => ?_, hlen⟩
    have hj : j < ys.length := by
      rcases Nat.lt_or_ge j ys.length with h4 | h4
      · exact h4
      · rw [List.getElem?_eq_none h4] at hy; cases hy
    have h5 : (i64s ys)[j]? = some (.int .i64 y) := by unfold i64s; rw [List.getElem?_map, hy]; rfl
    rw [← htake, List.getElem?_take_of_lt (by omega), Array.getElem?_toList] at h5
    unfold World.cell?
    rw [hg]
    simpa using h5
theorem il_flat {w : World} {A : Option Addr} {xs : List Int} (h : IL w A xs) (hn : 0 < xs.length) : ∃ b off, A = some ⟨b, off, none⟩ ∧ ∀ j, j < xs.length → w.cell? ⟨b, off + j, none⟩ = some (.int .i64 (xs.getD j 0)) := by
  obtain ⟨⟨b, off, spot⟩, rfl, hc, _⟩ := h 0 _ (getD_at hn)
  have hspot : spot = none := by simpa [Addr.add] using World.cell?_spot hc
  subst hspot
  refine ⟨b, off, rfl, fun j hj => ?_⟩
  obtain ⟨_, e, hc, _⟩ := h j _ (getD_at hj)
  cases e
  rw [show (⟨b, off + j, none⟩ : Addr) = (⟨b, off, none⟩ : Addr).add j by unfold Addr.add; split <;> simp_all]
  exact hc
theorem ui_holds {w : World} {g : Nat} {ys : List Int} {cur : Array Value} (h : UI w g ys) (hg : w.heap[g]? = some (.cells cur 2 (0, 0))) : Holds (Value.int .i64) w g 0 ys.toArray := by
  intro j hj
  rw [List.size_toArray] at hj
  rw [Nat.zero_add]
  refine ⟨?_, ?_⟩
  · rw [h j _ (List.getElem?_eq_getElem hj)]
    rw [getElem!_pos _ j (by simpa using hj)]
    simp
  · unfold World.frozen?
    simp [hg]
/-- What slices.Sort leaves. -/
theorem sorted_end {w : World} {g B : Nat} {xs : List Int} {cur : Array Value} (h : UI w g xs) (hg : w.heap[g]? = some (.cells cur 2 (0, 0))) (hlt : g < w.heap.size) (hB : B ≤ g) (n : Nat) (os : Array Obj) :
    UI (grow (putRow (Value.int .i64) (Sort.ahead w n) g 0 (srt xs).toArray) os) g (srt xs) ∧ Below B w (grow (putRow (Value.int .i64) (Sort.ahead w n) g 0 (srt xs).toArray) os) := by
  have hH : Holds (Value.int .i64) (Sort.ahead w n) g 0 xs.toArray := ui_holds (w := Sort.ahead w n) h hg
  refine ⟨fun j y hy => ?_, ⟨rfl, rfl, rfl, ?_, fun k hk => ?_⟩⟩
  · have hj : j < (srt xs).length := by
      rcases Nat.lt_or_ge j (srt xs).length with h4 | h4
      · exact h4
      · rw [List.getElem?_eq_none h4] at hy; cases hy
    rw [cell?_grow _ _ _ (by rw [size_putRow]; exact hlt)]
    have := cell?_putRow (Value.int .i64) (Sort.ahead w n) g 0 _ (srt xs).toArray hH (by simp [srt_len]) j (by simpa using hj)
    rw [Nat.zero_add] at this
    rw [this, getElem!_pos _ j (by simpa using hj)]
    rw [List.getElem?_eq_getElem hj] at hy
    simpa using hy
  · rw [size_grow, size_putRow]; exact Nat.le_add_right _ _
  · rw [heap_grow_old _ _ (by rw [size_putRow]; show k < w.heap.size; omega)]
    unfold putRow mapBlock
    rw [Array.getElem?_modify, if_neg (by omega)]
    rfl
/-- The middle between what stands k from the front and what stands k from behind. -/
def halfAt (xs : List Int) (k : Nat) : Int := ((srt xs).getD k 0 + (srt xs).getD (xs.length - 1 - k) 0) / 2
/-- How many are left out on each side. -/
def tolK (xs : List Int) : Nat := min 1 ((xs.length - 1) / 2)
/-- The answer with its error. -/
def ansM (xs : List Int) (k : Nat) : Value := if xs = [] then .tuple #[.int .i64 0, .int .i64 5] else .tuple #[.int .i64 (halfAt xs k), .int .i64 0]
theorem ansM_some {xs : List Int} (h : 0 < xs.length) (k : Nat) : ansM xs k = .tuple #[.int .i64 (halfAt xs k), .int .i64 0] := by
  unfold ansM; rw [if_neg (fun e => by rw [e] at h; exact absurd h (Nat.lt_irrefl 0))]
set_option maxRecDepth 100000 in
theorem halfway_nil (A : Option Addr) (c : Nat) (k : Int) (w : World) : Calls Tryz.prog 66 #[.slice A 0 c, .int .i64 k] w fun e w' => e = .returned (.tuple #[.int .i64 0, .int .i64 5]) ∧ Below w.heap.size w w' := by
  go_enter Tryz.func66, Tryz.ntmps66
  go_wp2
  go_ret2
  exact ⟨rfl, Below.refl _ _⟩
set_option maxHeartbeats 1000000 in
set_option maxRecDepth 100000 in
theorem halfway_some (A : Option Addr) (c : Nat) (xs : List Int) (k : Nat) (w : World) (h : IL w A xs) (hn : 0 < xs.length) (hl : xs.length * 8 ≤ 140737488355328) (hk : k ≤ (xs.length - 1) / 2) :
    Calls Tryz.prog 66 #[.slice A xs.length c, .int .i64 k] w fun e w' => e = .returned (.tuple #[.int .i64 (halfAt xs k), .int .i64 0]) ∧ Below w.heap.size w w' := by
  have HB := Lib.hid (srt_bounds (IL.bounds h))
  obtain ⟨b, off, rfl, hc⟩ := il_flat h hn
  have n0 : ¬ xs.length = 0 := by omega
  have hl2 : (xs.length : Int) ≤ 17592186044416 := by omega
  have hk2 : (k : Int) ≤ (xs.length : Int) - 1 := by omega
  have hcon := Go.Proofs.Tryz.slices_Clone_int b off xs.length c xs w (Nat.le_refl _) hl hc
  have HC := Lib.hid hcon
  have HN := Lib.hid hn
  have HK := Lib.hid hk
  clear h hc hcon hl hn hk
  go_enter Tryz.func66, Tryz.ntmps66
  go_wp2_with fail
  refine HC.out.mono ?_
  rintro e w1 ⟨v, rfl, hown, -, hb⟩
  rw [List.take_length] at hown
  obtain ⟨g, cap, cur, rfl, hg, hlt, hcell, hu, -⟩ := own_i64s hown HN.out
  have HU := Lib.hid hu
  have HG := Lib.hid hcell
  have HS : Hid (Calls Tryz.prog 119 #[.slice (some ⟨g, 0, none⟩) xs.length cap] w1 fun e w' => e = .returned (.tuple #[]) ∧ ∃ n os, w' = grow (putRow (Value.int .i64) (Sort.ahead w1 n) g 0 (srt xs).toArray) os) := Lib.hid (Go.Proofs.Tryz.slices_Sort_int g 0 cap xs w1 (ui_holds hu hcell) hlt (by omega))
  have HL := Lib.hid hlt
  have HGB := Lib.hid hg
  have HW := Lib.hid hb
  clear hown hg hlt hcell hu hb
  go_wp2_with fail
  refine HS.out.mono ?_
  rintro e w2 ⟨rfl, n, os, hw2⟩
  have HE : Hid (UI w2 g (srt xs) ∧ RowKit.Below w.heap.size w1 w2) := Lib.hid (by rw [hw2]; exact sorted_end HU.out HG.out HL.out HGB.out n os)
  clear hw2 n os
  have HW2 := Lib.hid (HW.out.trans HE.out.2)
  have hs1 := HE.out.1 k _ (getD_at (by rw [srt_len]; have := HN.out; have := HK.out; omega))
  have hs2 := HE.out.1 (xs.length - 1 - k) _ (getD_at (by rw [srt_len]; have := HN.out; omega))
  have hb1 : B64 ((srt xs).getD k 0) := HB.out _ (getD_mem (by rw [srt_len]; have := HN.out; have := HK.out; omega))
  have hb2 : B64 ((srt xs).getD (xs.length - 1 - k) 0) := HB.out _ (getD_mem (by rw [srt_len]; have := HN.out; omega))
  have HH : ∀ W : World, Calls Tryz.prog 120 #[.int .i64 ((srt xs).getD k 0), .int .i64 ((srt xs).getD (xs.length - 1 - k) 0)] W fun e w' => e = .returned (.int .i64 (halfAt xs k)) ∧ w' = W := fun W => (half_any _ _ hb1.1 hb1.2 hb2.1 hb2.2 W).mono fun _ _ h => ⟨h.1, h.2.symm⟩
  have HT : Hid (IntKind.i64.wrap (IntKind.i64.wrap ((xs.length : Int) - 1) - (k : Int)) = ((xs.length - 1 - k : Nat) : Int)) := Lib.hid (by rw [IntWalk.i64_in ((xs.length : Int) - 1) (by omega), IntWalk.i64_in _ (by omega)]; omega)
  have q1 : k < xs.length := by omega
  have q2 : xs.length - 1 - k < xs.length := by omega
  clear hb1 hb2 HE HS HW HU HG HL HGB HB HC hk2 HN HK
  have ht := HT.out
  clear HT
  obtain ⟨h, hh⟩ : ∃ h, h = halfAt xs k := ⟨_, rfl⟩
  have HA := Lib.hid hh
  rw [← hh] at HH
  clear hh
  generalize xs.length - 1 - k = k2 at *
  generalize (srt xs).getD k 0 = v1 at *
  generalize (srt xs).getD k2 0 = v2 at *
  go_wp2_with fail
  go_quiet (first | (go_at_call 120; exact Calls.quiet_of_same (HH _)))
  go_wp2_with fail
  go_ret2
  exact ⟨by rw [← HA.out]; rfl, ⟨HW2.out.os, HW2.out.tape, HW2.out.output, HW2.out.size, HW2.out.block⟩⟩
theorem outside_nil (A : Option Addr) (c : Nat) (w : World) : Calls Tryz.prog 67 #[.slice A 0 c] w fun e w' => e = .returned (.int .i64 0) ∧ w' = w := by
  go_enter Tryz.func67, Tryz.ntmps67
  go_wp2
  go_ret
  exact ⟨rfl, rfl⟩
theorem outside_some (A : Option Addr) (n c : Nat) (w : World) (hn : 0 < n) (hl : n ≤ 17592186044416) : Calls Tryz.prog 67 #[.slice A n c] w fun e w' => e = .returned (.int .i64 ((n - 1) / 2 : Nat)) ∧ w' = w := by
  have e1 : IntKind.i64.wrap ((n : Int) - 1) = ((n - 1 : Nat) : Int) := by rw [IntWalk.i64_in _ (by omega)]; omega
  go_enter Tryz.func67, Tryz.ntmps67
  go_wp2
  go_ret
  exact ⟨rfl, rfl⟩
set_option maxRecDepth 100000 in
theorem tolerant_any (A : Option Addr) (c : Nat) (xs : List Int) (w : World) (h : IL w A xs) (hl : xs.length * 8 ≤ 140737488355328) :
    Calls Tryz.prog 29 #[.slice A xs.length c] w fun e w' => e = .returned (ansM xs (tolK xs)) ∧ Below w.heap.size w w' := by
  rcases Nat.eq_zero_or_pos xs.length with hn | hn
  · obtain rfl := List.eq_nil_of_length_eq_zero hn
    go_enter Tryz.func29, Tryz.ntmps29
    go_wp2_with (first | (go_at_call 67; refine (outside_nil _ _ _).mono ?_; rintro e w' ⟨rfl, rfl⟩) | (go_at_call 66; refine (halfway_nil _ _ _ _).mono ?_; rintro e w' ⟨rfl, hb⟩))
    go_ret2
    exact ⟨rfl, hb⟩
  · have HT := Lib.hid (ansM_some hn (tolK xs))
    have HO := fun W => outside_some A xs.length c W hn (by omega)
    have HH := Lib.hid (halfway_some A c xs (tolK xs) w h hn hl (Nat.min_le_right _ _))
    have hm : (min 1 (((xs.length - 1) / 2 : Nat) : Int)) = (tolK xs : Int) := by unfold tolK; omega
    generalize (xs.length - 1) / 2 = k0 at *
    generalize tolK xs = k1 at *
    generalize halfAt xs k1 = r at *
    clear h
    go_enter Tryz.func29, Tryz.ntmps29
    go_wp2_with (first | (go_at_call 67; refine (HO _).mono ?_; rintro e w' ⟨rfl, rfl⟩) | (go_at_call 66; refine HH.out.mono ?_; rintro e w' ⟨rfl, hb⟩))
    go_ret2
    exact ⟨by rw [HT.out]; rfl, hb⟩
end Go.Proofs.YtmagjekmlnpfpaaGreat.MeanW



/- Plain mathematics of the laws: between the ends; one bad reading; shifts; twins; three readings. -/
namespace Go.Proofs.YtmagjekmlnpfpaaGreat.MeanW
open Go.RowKit TickW
theorem half_between {a b lo hi : Int} (h1 : lo ≤ a) (h2 : a ≤ hi) (h3 : lo ≤ b) (h4 : b ≤ hi) : lo ≤ (a + b) / 2 ∧ (a + b) / 2 ≤ hi := by omega
/-- A mean lies between the least and the greatest. -/
theorem half_ends {xs : List Int} (hn : 0 < xs.length) {k : Nat} (hk : k < xs.length) : (srt xs).getD 0 0 ≤ halfAt xs k ∧ halfAt xs k ≤ (srt xs).getD (xs.length - 1) 0 := by
  have hl := srt_len xs
  unfold halfAt
  exact half_between (up_at (srt_up xs) (Nat.zero_le _) (by omega)) (up_at (srt_up xs) (by omega) (by omega)) (up_at (srt_up xs) (Nat.zero_le _) (by omega)) (up_at (srt_up xs) (by omega) (by omega))
theorem tolK_lt {xs : List Int} (hn : 0 < xs.length) : tolK xs < xs.length := by unfold tolK; omega
theorem halfAt_perm {xs ys : List Int} (h : xs.Perm ys) (k : Nat) : halfAt xs k = halfAt ys k := by unfold halfAt; rw [srt_same h, h.length_eq]
theorem tolK_perm {xs ys : List Int} (h : xs.Perm ys) : tolK xs = tolK ys := by unfold tolK; rw [h.length_eq]
/-- All later by the same. -/
theorem shift_srt (xs : List Int) (d : Int) : srt (xs.map fun x => x + d) = (srt xs).map fun x => x + d :=
  (srt_of ((srt_perm xs).map _) (by rw [List.pairwise_map]; exact (srt_up xs).imp (fun h => by omega))).symm
theorem map_getD (xs : List Int) (d : Int) (i : Nat) (h : i < xs.length) : (xs.map fun x => x + d).getD i 0 = xs.getD i 0 + d := by
  rw [List.getD_eq_getElem?_getD, List.getElem?_map, List.getElem?_eq_getElem h, List.getD_eq_getElem?_getD, List.getElem?_eq_getElem h]; rfl
theorem shift_half (xs : List Int) (d : Int) (k : Nat) (h : k < xs.length) : halfAt (xs.map fun x => x + d) k = halfAt xs k + d := by
  have hl := srt_len xs
  unfold halfAt
  rw [shift_srt, List.length_map, map_getD _ _ _ (by omega), map_getD _ _ _ (by omega)]
  omega
theorem shift_tolK (xs : List Int) (d : Int) : tolK (xs.map fun x => x + d) = tolK xs := by unfold tolK; rw [List.length_map]
end Go.Proofs.YtmagjekmlnpfpaaGreat.MeanW


