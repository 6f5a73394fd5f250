/- Walk of tocsinref01.Sort. -/
import Derived.Test.YtgcmjmnolkojhaaDoorNumWalk10
import Derived.Test.YtgcmjmnolkojhaaDoorNumMerge
import Derived.BigQuiet
import Derived.Deep.RegionHeld3
import Derived.IntWalk
import Derived.DataElems
namespace Go.Proofs.YtgcmjmnolkojhaaDoor.NumW
open Go.RowKit NumP
/-- Words as uint64. -/
def u64s (ys : List Nat) : List Value := ys.map (fun y : Nat => Value.int .u64 (y : Int))
/-- What the document's own sort answers: a row of its own with the bits of the numbers, in order. -/
def SortRow (xs : List Nat) (w : World) (e : Ending) (w' : World) : Prop := ∃ (v : Value) (ys : List Nat), e = .returned v ∧ IsSort xs ys ∧ w'.ownsRow w.heap.size 25 1 v ys.length (u64s ys) ∧ Below w.heap.size w w'
/-- A row of uint64 at the front of its block. -/
def UL (w : World) (g : Nat) (ys : List Nat) : Prop := ∀ (j y : Nat), ys[j]? = some y → w.cell? ⟨g, j, none⟩ = some (.int .u64 (y : Int))
theorem UL.below {w w' : World} {g B : Nat} {ys : List Nat} (h : UL w g ys) (hb : Below B w w') (hg : g < B) : UL w' g ys := fun j y hy => (hb.cell (p := ⟨g, j, none⟩) hg).trans (h j y hy)
theorem own_u64s {w : World} {base : Nat} {v : Value} {ys : List Nat} (h : w.ownsRow base 25 1 v ys.length (u64s ys)) (hp : 0 < ys.length) : ∃ g cap, v = .slice (some ⟨g, 0, none⟩) ys.length cap ∧ base ≤ g ∧ g < w.heap.size ∧ UL w g ys := by
  rcases h.2 with ⟨_, h0⟩ | ⟨g, cap, cur, hv, hb, hg, _, _, _, htake⟩
  · omega
  · have hlt : g < w.heap.size := by
      rcases Nat.lt_or_ge g w.heap.size with h1 | h1
      · exact h1
      · rw [Array.getElem?_eq_none h1] at hg; cases hg
    refine ⟨g, cap, hv, hb, hlt, fun j y hy => ?_⟩
    have hj : j < ys.length := by
      rcases Nat.lt_or_ge j ys.length with h4 | h4
      · exact h4
      · rw [List.getElem?_eq_none h4] at hy; cases hy
    have h5 : (u64s ys)[j]? = some (.int .u64 (y : Int)) := by unfold u64s; rw [List.getElem?_map, hy]; rfl
    rw [← htake, List.getElem?_take_of_lt (by omega), Array.getElem?_toList] at h5
    unfold World.cell?
    rw [hg]
    simpa using h5
theorem isSort_lt {xs ys : List Nat} (h : IsSort xs ys) (hx : ∀ x ∈ xs, x < 18446744073709551616) (j y : Nat) (hy : ys[j]? = some y) : y < 18446744073709551616 := by
  obtain ⟨x, hm, rfl⟩ := List.mem_map.1 (h.1.mem_iff.1 (List.mem_of_getElem? hy))
  exact one_lt _ (hx x hm)
theorem u64s_snoc (rs : List Nat) (a : Nat) : u64s (rs ++ [a]) = u64s rs ++ [.int .u64 (a : Int)] := by unfold u64s; rw [List.map_append]; rfl
theorem fl_take {w : World} {A : Option Addr} {xs : List Nat} (h : FL w A xs) (n : Nat) : FL w A (xs.take n) := by
  intro k x hk
  rw [List.getElem?_take] at hk
  split at hk
  · exact h k x hk
  · cases hk
theorem fl_drop {w : World} {a : Addr} {xs : List Nat} (h : FL w (some a) xs) (n : Nat) : FL w (some (a.add n)) (xs.drop n) := by
  intro k x hk
  rw [List.getElem?_drop] at hk
  obtain ⟨ad, e, hc, hb⟩ := h (n + k) x hk
  cases e
  exact ⟨_, rfl, by rw [Addr.add_add]; exact hc, hb⟩
@[go_sem] theorem wrap_half (n : Nat) (h : (n : Int) ≤ 17592186043904) : IntKind.i64.wrap ((n : Int) / 2) = (n : Int) / 2 := IntWalk.i64_in _ (by omega)
theorem refSort_nil (A : Option Addr) (c : Nat) (w : World) : Calls Tryd.prog 20 #[.slice A 0 c] w (SortRow [] w) := by
  go_enter Tryd.func20, Tryd.ntmps20
  go_wp2
  go_ret
  exact ⟨.slice none 0 0, [], rfl, isSort_nil, World.ownsRow_nil _ _ _ _, Below.refl _ _⟩
set_option maxRecDepth 100000 in
theorem refSort_one (a : Addr) (c x : Nat) (hx : x < 18446744073709551616) (w : World) (hc : w.cell? (a.add 0) = some (.float .f64 x)) : Calls Tryd.prog 20 #[.slice (some a) 1 c] w (SortRow [x] w) := by
  have HX := Lib.hid hx
  clear hx
  rw [show a.add 0 = a from rfl] at hc
  go_enter Tryd.func20, Tryd.ntmps20
  go_wp2_with (go_at_call 17; refine (refOne_any _ HX.out _).mono ?_; rintro e w' ⟨rfl, rfl⟩)
  go_ret
  refine ⟨.slice (some ⟨w.heap.size, 0, none⟩) 1 1, [oneN x], rfl, isSort_one x, ⟨rfl, .inr ⟨w.heap.size, 1, #[.int .u64 (oneN x)], rfl, Nat.le_refl _, heap_alloc_new w _, Nat.le_refl _, by decide, rfl, rfl⟩⟩, Below.alloc (Below.refl _ _) (Nat.le_refl _) _⟩
set_option maxHeartbeats 1000000 in
set_option maxRecDepth 100000 in
theorem refSort_step (a : Addr) (c : Nat) (xs : List Nat) (h2 : 2 ≤ xs.length) (hl : xs.length * 8 ≤ 140737488351232) (hc : xs.length ≤ c)
    (IH : ∀ (ys : List Nat), ys.length < xs.length → ∀ (A : Option Addr) (c : Nat) (w : World), FL w A ys → ys.length ≤ c → Calls Tryd.prog 20 #[.slice A ys.length c] w (SortRow ys w))
    (w : World) (hf : FL w (some a) xs) : Calls Tryd.prog 20 #[.slice (some a) xs.length c] w (SortRow xs w) := by
  obtain ⟨i0, hi, hz0, hz1, hz2⟩ := info_parts (show (Tryd.prog.info? 25).map (fun i => (i.zero, i.size, i.bytes)) = some (some (.int .u64 0), 1, 8) by kernel_rfl)
  have HI := Lib.hid hi
  have HZ0 := Lib.hid hz0
  have HZ1 := Lib.hid hz1
  have HZ2 := Lib.hid hz2
  clear hi hz0 hz1 hz2
  have hxl : ∀ x ∈ xs, x < 18446744073709551616 := fun x hm => by
    obtain ⟨j, hj⟩ := List.getElem?_of_mem hm
    exact (hf j x hj).choose_spec.2.2
  have HX := Lib.hid hxl
  clear hxl
  have HF := Lib.hid hf
  have H1 : ∀ w', FL w' (some a) xs → Calls Tryd.prog 20 #[.slice (some a) (xs.length / 2) c] w' (SortRow (xs.take (xs.length / 2)) w') := fun w' hw => by
    have := IH (xs.take (xs.length / 2)) (by rw [List.length_take]; omega) (some a) c w' (fl_take hw _) (by rw [List.length_take]; omega)
    rwa [List.length_take, Nat.min_eq_left (by omega)] at this
  have H2 : ∀ w', FL w' (some a) xs → Calls Tryd.prog 20 #[.slice (some (a.add (xs.length / 2))) (xs.length - xs.length / 2) (c - xs.length / 2)] w' (SortRow (xs.drop (xs.length / 2)) w') := fun w' hw => by
    have := IH (xs.drop (xs.length / 2)) (by rw [List.length_drop]; omega) (some (a.add (xs.length / 2))) (c - xs.length / 2) w' (fl_drop hw _) (by rw [List.length_drop]; omega)
    rwa [List.length_drop] at this
  clear hf IH
  have n0 : xs.length ≠ 0 := by omega
  have n1 : xs.length ≠ 1 := by omega
  go_enter Tryd.func20, Tryd.ntmps20
  go_wp2_with fail
  have q0 : (0 : Int) ≤ (xs.length : Int) / 2 := by omega
  have q15 : (xs.length : Int) / 2 ≤ (c : Int) := by omega
  have q16 : (xs.length : Int) / 2 ≤ (xs.length : Int) := by omega
  have q17 : ((xs.length : Int) / 2).toNat = xs.length / 2 := by omega
  have q18 : (xs.length : Int) ≤ 17592186043904 := by omega
  have q19 : ¬ (c = xs.length / 2) := by omega
  have HL := Lib.hid hl
  have H2L := Lib.hid h2
  clear hl n0 n1 h2
  go_region_held3 (fun w' => FL w' (some a) xs) (first | exact HF.out | with_reducible assumption) (first | (go_at_call 20; (with_reducible refine (H1 _ ?_).mono ?_); exact HF.out; rintro e w1 ⟨v1, ys1, rfl, s1, o1, b1⟩; have f1 := FL.below (show FL w.drew (some a) xs from HF.out) b1; have s1 := Lib.hid s1; have o1 := Lib.hid o1; have b1 := Lib.hid b1) | (go_at_call 20; (with_reducible refine (H2 _ ?_).mono ?_); (with_reducible assumption); rintro e w2 ⟨v2, ys2, rfl, s2, o2, b2⟩; have f2 := FL.below (by with_reducible assumption) b2; have s2 := Lib.hid s2; have o2 := Lib.hid o2; have b2 := Lib.hid b2))
  rename_i z1 z2 z3 z4 z5 z6 z7
  clear z1 z2 z3 z4 z5 z6 z7 H1 H2 q0 q15 q16 q17 q19 f1 f2 HF
  have hy1 : ys1.length = xs.length / 2 := by have := s1.out.1.length_eq; rw [List.length_map, List.length_take] at this; omega
  have hy2 : ys2.length = xs.length - xs.length / 2 := by have := s2.out.1.length_eq; rw [List.length_map, List.length_drop] at this; omega
  obtain ⟨g1, c1, rfl, hg1, hl1, u1⟩ := own_u64s o1.out (by have := H2L.out; omega)
  obtain ⟨g2, c2, rfl, hg2, hl2, u2⟩ := own_u64s o2.out (by have := H2L.out; omega)
  have HM : Hid (IsSort xs (List.merge ys1 ys2 le)) := Lib.hid (by have := merge_isSort s1.out s2.out; rw [List.take_append_drop] at this; exact this)
  have HB : Hid (Below w.heap.size w w2) := Lib.hid ((show Below w.heap.size w w1 from ⟨b1.out.os, b1.out.tape, b1.out.output, b1.out.size, b1.out.block⟩).trans (b2.out.mono (by have := b1.out.size; exact this)))
  have U1 : Hid (UL w2 g1 ys1) := Lib.hid (u1.below b2.out hl1)
  have U2 : Hid (UL w2 g2 ys2) := Lib.hid u2
  have L1 := Lib.hid (isSort_lt s1.out (fun x hm => HX.out x (List.mem_of_mem_take hm)))
  have L2 := Lib.hid (isSort_lt s2.out (fun x hm => HX.out x (List.mem_of_mem_drop hm)))
  have hsum : (ys1.length : Int) + (ys2.length : Int) ≤ 17592186043904 := by omega
  have hl1' : Hid (g1 < w2.heap.size) := Lib.hid (Nat.lt_of_lt_of_le hl1 b2.out.size)
  have hl2' : Hid (g2 < w2.heap.size) := Lib.hid hl2
  clear hl1 hl2 u1 u2 b2 s1 s2 o1 o2 hg1 hg2 hy1 hy2 b1 HL H2L HX q18
  clear w1
  go_wp2_with fail
  go_loopw [5, 6, 7] (fun r i j wr => ∃ (i' j' : Nat) (rs : List Nat), i = .int .i64 i' ∧ j = .int .i64 j' ∧ i' ≤ ys1.length ∧ j' ≤ ys2.length ∧ Hid (rs.length = i' + j') ∧ Hid (rs ++ List.merge (ys1.drop i') (ys2.drop j') le = List.merge ys1 ys2 le) ∧ Hid (wr.ownsRow w2.heap.size 25 1 r (i' + j') (u64s rs)) ∧ Hid (Below w2.heap.size w2 wr)) (fun _ i j _ => (ys1.length + ys2.length) - ((intOf i).toNat + (intOf j).toNat))
  case atStart => exact ⟨0, 0, [], rfl, rfl, Nat.zero_le _, Nat.zero_le _, Lib.hid rfl, Lib.hid rfl, Lib.hid (World.ownsRow_nil _ _ _ _), Lib.hid (Below.refl _ _)⟩
  case round =>
    obtain ⟨i', j', rs, rfl, rfl, hi, hj, hrs, hm, HO, HW⟩ := hrel
    by_cases li : i' < ys1.length
    · obtain ⟨a1, ha1⟩ := at_ li
      have ca := (U1.out.below HW.out hl1'.out) i' a1 ha1
      have la := L1.out i' a1 ha1
      by_cases lj : j' < ys2.length
      · obtain ⟨b1, hb1⟩ := at_ lj
        have cb := (U2.out.below HW.out hl2'.out) j' b1 hb1
        have lb := L2.out j' b1 hb1
        by_cases hle : rank a1 ≤ rank b1
        · have HM2 := Lib.hid (merge_left hm.out ha1 hb1 hle)
          clear ha1 hb1 hm
          have e1 : ((j' : Int) == (ys2.length : Int)) = false := by rw [beq_eq_false_iff_ne]; omega
          have e2 : decide ((i' : Int) < (ys1.length : Int)) = true := by rw [decide_eq_true_iff]; omega
          have e3 : decide ((rank a1 : Int) ≤ (rank b1 : Int)) = true := by rw [decide_eq_true_iff]; omega
          go_wp2_with fail
          go_quiet (first | (go_at_call 40; exact Calls.quiet_of_same ((rank_any _ (by assumption) _).mono (fun _ _ h => ⟨h.1, h.2.symm⟩))))
          have HO2 : Hid ((wr.drewN nq).ownsRow w2.heap.size 25 1 u5 (i' + j') (u64s rs)) := Lib.hid HO.out
          have HW2 : Hid (Below w2.heap.size w2 (wr.drewN nq)) := Lib.hid (below_drewN HW.out nq)
          have HC : Hid ((wr.drewN nq).cell? ⟨g1, i', none⟩ = some (.int .u64 (a1 : Int))) := Lib.hid ca
          have hcc := HC.out
          generalize wr.drewN nq = wq at *
          clear HO HW ca cb
          go_wp2_with (at_builtin; refine wpList_append_own _ rfl _ _ 31 rfl w2.heap.size 25 i0 (.int .u64 0) 1 8 Tryd.underlying31 HI.out HZ0.out HZ1.out HZ2.out rfl (by decide) _ _ _ rfl (HO2.out.alloc _) ⟨wq.heap.size, 0, none⟩ 1 1 [.int .u64 (a1 : Int)] rfl rfl ?c1 ?c2 ?c3 ?c4 ?c5 ?_)
          case c1 => exact (cell_one_new _ _ _)
          case c2 => intro u hu; simp at hu; subst hu; rfl
          case c3 => unfold maxLen; omega
          case c4 => omega
          case c5 => rw [World.size_alloc]; exact Nat.le_succ_of_le HW2.out.size
          intro v' w6 hown2 hgrow _
          rw [← u64s_snoc] at hown2
          have HN : Hid (w6.ownsRow w2.heap.size 25 1 v' ((i' + 1) + j') (u64s (rs ++ [a1]))) := Lib.hid (by rw [show (i' + 1) + j' = i' + j' + 1 by omega]; exact hown2)
          have HW6 : Hid (Below w2.heap.size w2 w6) := Lib.hid ((HW2.out.alloc HW2.out.size _).grown hgrow (by rw [World.size_alloc]; exact Nat.le_succ_of_le HW2.out.size) (fun p hp => (HO2.out.lt p hp).1))
          clear hown2 hgrow hcc
          go_wp2_with fail
          exact ⟨⟨(i' + 1), j', _, by go_num, by go_num, by omega, by omega, Lib.hid (by rw [List.length_append, hrs.out]; simp; omega), HM2, HN, HW6⟩, by simp [intOf]; omega⟩
        · have HM2 := Lib.hid (merge_right hm.out ha1 hb1 hle)
          clear ha1 hb1 hm
          have e1 : ((j' : Int) == (ys2.length : Int)) = false := by rw [beq_eq_false_iff_ne]; omega
          have e2 : decide ((i' : Int) < (ys1.length : Int)) = true := by rw [decide_eq_true_iff]; omega
          have e3 : decide ((rank a1 : Int) ≤ (rank b1 : Int)) = false := by rw [decide_eq_false_iff_not]; omega
          go_wp2_with fail
          go_quiet (first | (go_at_call 40; exact Calls.quiet_of_same ((rank_any _ (by assumption) _).mono (fun _ _ h => ⟨h.1, h.2.symm⟩))))
          have HO2 : Hid ((wr.drewN nq).ownsRow w2.heap.size 25 1 u5 (i' + j') (u64s rs)) := Lib.hid HO.out
          have HW2 : Hid (Below w2.heap.size w2 (wr.drewN nq)) := Lib.hid (below_drewN HW.out nq)
          have HC : Hid ((wr.drewN nq).cell? ⟨g2, j', none⟩ = some (.int .u64 (b1 : Int))) := Lib.hid cb
          have hcc := HC.out
          generalize wr.drewN nq = wq at *
          clear HO HW ca cb
          go_wp2_with (at_builtin; refine wpList_append_own _ rfl _ _ 31 rfl w2.heap.size 25 i0 (.int .u64 0) 1 8 Tryd.underlying31 HI.out HZ0.out HZ1.out HZ2.out rfl (by decide) _ _ _ rfl (HO2.out.alloc _) ⟨wq.heap.size, 0, none⟩ 1 1 [.int .u64 (b1 : Int)] rfl rfl ?c1 ?c2 ?c3 ?c4 ?c5 ?_)
          case c1 => exact (cell_one_new _ _ _)
          case c2 => intro u hu; simp at hu; subst hu; rfl
          case c3 => unfold maxLen; omega
          case c4 => omega
          case c5 => rw [World.size_alloc]; exact Nat.le_succ_of_le HW2.out.size
          intro v' w6 hown2 hgrow _
          rw [← u64s_snoc] at hown2
          have HN : Hid (w6.ownsRow w2.heap.size 25 1 v' (i' + (j' + 1)) (u64s (rs ++ [b1]))) := Lib.hid (by rw [show i' + (j' + 1) = i' + j' + 1 by omega]; exact hown2)
          have HW6 : Hid (Below w2.heap.size w2 w6) := Lib.hid ((HW2.out.alloc HW2.out.size _).grown hgrow (by rw [World.size_alloc]; exact Nat.le_succ_of_le HW2.out.size) (fun p hp => (HO2.out.lt p hp).1))
          clear hown2 hgrow hcc
          go_wp2_with fail
          exact ⟨⟨i', (j' + 1), _, by go_num, by go_num, by omega, by omega, Lib.hid (by rw [List.length_append, hrs.out]; simp; omega), HM2, HN, HW6⟩, by simp [intOf]; omega⟩
      · have HM2 := Lib.hid (merge_lone hm.out ha1 (by omega))
        clear ha1 hm
        have e1 : ((j' : Int) == (ys2.length : Int)) = true := by rw [beq_iff_eq]; omega
        have e2 : decide ((i' : Int) < (ys1.length : Int)) = true := by rw [decide_eq_true_iff]; omega
        go_wp2_with fail
        go_quiet (first | (go_at_call 40; exact Calls.quiet_of_same ((rank_any _ (by assumption) _).mono (fun _ _ h => ⟨h.1, h.2.symm⟩))))
        have HO2 : Hid ((wr.drewN nq).ownsRow w2.heap.size 25 1 u5 (i' + j') (u64s rs)) := Lib.hid HO.out
        have HW2 : Hid (Below w2.heap.size w2 (wr.drewN nq)) := Lib.hid (below_drewN HW.out nq)
        have HC : Hid ((wr.drewN nq).cell? ⟨g1, i', none⟩ = some (.int .u64 (a1 : Int))) := Lib.hid ca
        have hcc := HC.out
        generalize wr.drewN nq = wq at *
        clear HO HW ca
        go_wp2_with (at_builtin; refine wpList_append_own _ rfl _ _ 31 rfl w2.heap.size 25 i0 (.int .u64 0) 1 8 Tryd.underlying31 HI.out HZ0.out HZ1.out HZ2.out rfl (by decide) _ _ _ rfl (HO2.out.alloc _) ⟨wq.heap.size, 0, none⟩ 1 1 [.int .u64 (a1 : Int)] rfl rfl ?c1 ?c2 ?c3 ?c4 ?c5 ?_)
        case c1 => exact (cell_one_new _ _ _)
        case c2 => intro u hu; simp at hu; subst hu; rfl
        case c3 => unfold maxLen; omega
        case c4 => omega
        case c5 => rw [World.size_alloc]; exact Nat.le_succ_of_le HW2.out.size
        intro v' w6 hown2 hgrow _
        rw [← u64s_snoc] at hown2
        have HN : Hid (w6.ownsRow w2.heap.size 25 1 v' ((i' + 1) + j') (u64s (rs ++ [a1]))) := Lib.hid (by rw [show (i' + 1) + j' = i' + j' + 1 by omega]; exact hown2)
        have HW6 : Hid (Below w2.heap.size w2 w6) := Lib.hid ((HW2.out.alloc HW2.out.size _).grown hgrow (by rw [World.size_alloc]; exact Nat.le_succ_of_le HW2.out.size) (fun p hp => (HO2.out.lt p hp).1))
        clear hown2 hgrow hcc
        go_wp2_with fail
        exact ⟨⟨(i' + 1), j', _, by go_num, by go_num, by omega, by omega, Lib.hid (by rw [List.length_append, hrs.out]; simp; omega), HM2, HN, HW6⟩, by simp [intOf]; omega⟩
    · by_cases lj : j' < ys2.length
      · obtain ⟨b1, hb1⟩ := at_ lj
        have cb := (U2.out.below HW.out hl2'.out) j' b1 hb1
        have lb := L2.out j' b1 hb1
        have HM2 := Lib.hid (merge_rest hm.out hb1 (by omega))
        clear hb1 hm
        have e1 : ((j' : Int) == (ys2.length : Int)) = false := by rw [beq_eq_false_iff_ne]; omega
        have e2 : decide ((i' : Int) < (ys1.length : Int)) = false := by rw [decide_eq_false_iff_not]; omega
        go_wp2_with fail
        go_quiet (first | (go_at_call 40; exact Calls.quiet_of_same ((rank_any _ (by assumption) _).mono (fun _ _ h => ⟨h.1, h.2.symm⟩))))
        have HO2 : Hid ((wr.drewN nq).ownsRow w2.heap.size 25 1 u5 (i' + j') (u64s rs)) := Lib.hid HO.out
        have HW2 : Hid (Below w2.heap.size w2 (wr.drewN nq)) := Lib.hid (below_drewN HW.out nq)
        have HC : Hid ((wr.drewN nq).cell? ⟨g2, j', none⟩ = some (.int .u64 (b1 : Int))) := Lib.hid cb
        have hcc := HC.out
        generalize wr.drewN nq = wq at *
        clear HO HW cb
        go_wp2_with (at_builtin; refine wpList_append_own _ rfl _ _ 31 rfl w2.heap.size 25 i0 (.int .u64 0) 1 8 Tryd.underlying31 HI.out HZ0.out HZ1.out HZ2.out rfl (by decide) _ _ _ rfl (HO2.out.alloc _) ⟨wq.heap.size, 0, none⟩ 1 1 [.int .u64 (b1 : Int)] rfl rfl ?c1 ?c2 ?c3 ?c4 ?c5 ?_)
        case c1 => exact (cell_one_new _ _ _)
        case c2 => intro u hu; simp at hu; subst hu; rfl
        case c3 => unfold maxLen; omega
        case c4 => omega
        case c5 => rw [World.size_alloc]; exact Nat.le_succ_of_le HW2.out.size
        intro v' w6 hown2 hgrow _
        rw [← u64s_snoc] at hown2
        have HN : Hid (w6.ownsRow w2.heap.size 25 1 v' (i' + (j' + 1)) (u64s (rs ++ [b1]))) := Lib.hid (by rw [show i' + (j' + 1) = i' + j' + 1 by omega]; exact hown2)
        have HW6 : Hid (Below w2.heap.size w2 w6) := Lib.hid ((HW2.out.alloc HW2.out.size _).grown hgrow (by rw [World.size_alloc]; exact Nat.le_succ_of_le HW2.out.size) (fun p hp => (HO2.out.lt p hp).1))
        clear hown2 hgrow hcc
        go_wp2_with fail
        exact ⟨⟨i', (j' + 1), _, by go_num, by go_num, by omega, by omega, Lib.hid (by rw [List.length_append, hrs.out]; simp; omega), HM2, HN, HW6⟩, by simp [intOf]; omega⟩
      · obtain rfl : i' = ys1.length := by omega
        obtain rfl : j' = ys2.length := by omega
        have hfin : Hid (rs = List.merge ys1 ys2 le) := Lib.hid (merge_done hm.out)
        clear hm hi hj li lj
        go_wp2_with fail
        go_ret
        refine ⟨u5, _, rfl, HM.out, ?_, HB.out.trans (HW.out.mono HB.out.size)⟩
        have h1 := HO.out
        rw [← hrs.out, hfin.out] at h1
        refine ⟨h1.1, h1.2.imp id ?_⟩
        rintro ⟨g, cap, cur, hv, hb, rest⟩
        exact ⟨g, cap, cur, hv, Nat.le_trans HB.out.size hb, rest⟩
theorem refSort_below (n : Nat) : ∀ (xs : List Nat), xs.length < n → xs.length * 8 ≤ 140737488351232 → ∀ (A : Option Addr) (c : Nat) (w : World), FL w A xs → xs.length ≤ c → Calls Tryd.prog 20 #[.slice A xs.length c] w (SortRow xs w) := by
  induction n with
  | zero => intro xs h; omega
  | succ n ih =>
    intro xs h hl A c w hf hc
    rcases Nat.lt_or_ge xs.length 2 with h2 | h2
    · match xs, hf, h2 with
      | [], _, _ => exact refSort_nil A c w
      | [x], hf, _ =>
        obtain ⟨ad, rfl, hcell, hx⟩ := hf 0 x rfl
        exact refSort_one ad c x hx w hcell
    · obtain ⟨ad, rfl, _, _⟩ := hf 0 _ (List.getElem?_eq_getElem (show 0 < xs.length by omega))
      exact refSort_step ad c xs h2 hl hc (fun ys hy A c w hf hc => ih ys (by omega) (by omega) A c w hf hc) w hf
theorem refSort_any (A : Option Addr) (c : Nat) (xs : List Nat) (w : World) (hf : FL w A xs) (hl : xs.length * 8 ≤ 140737488351232) (hc : xs.length ≤ c) : Calls Tryd.prog 20 #[.slice A xs.length c] w (SortRow xs w) :=
  refSort_below (xs.length + 1) xs (Nat.lt_succ_self _) hl A c w hf hc
end Go.Proofs.YtgcmjmnolkojhaaDoor.NumW
