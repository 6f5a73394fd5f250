/- Walk of the document's own Sorted. -/
import Derived.Test.YtpjaijibkjmgiaaMeanProg
import Derived.DataElems
namespace Go.Proofs.Ytpjaijibkjmgiaa.MeanW
open Go.RowKit TickW
/-- What Sorted answers: a row of its own with the numbers in rising order. -/
def SrtRow (xs : List Int) (w : World) (e : Ending) (w' : World) : Prop := ∃ v : Value, e = .returned v ∧ w'.ownsRow w.heap.size 2 1 v xs.length (i64s (srt xs)) ∧ RowKit.Below w.heap.size w w'
theorem i64s_snoc (rs : List Int) (a : Int) : i64s (rs ++ [a]) = i64s rs ++ [.int .i64 a] := by unfold i64s; rw [List.map_append]; rfl
theorem il_take {w : World} {A : Option Addr} {xs : List Int} (h : IL w A xs) (n : Nat) : IL w A (xs.take n) := by
  intro k x hk
  rw [List.getElem?_take] at hk
  split at hk
  · exact h k x hk
  · cases hk
theorem il_drop {w : World} {a : Addr} {xs : List Int} (h : IL w (some a) xs) (n : Nat) : IL w (some (a.add n)) (xs.drop n) := by
  intro k x hk
  rw [List.getElem?_drop] at hk
  obtain ⟨ad, e, hc, hb⟩ := h (n + k) x hk
  cases e
  exact ⟨_, rfl, by rw [Addr.add_add]; exact hc, hb⟩
theorem at_ {xs : List Int} {k : Nat} (h : k < xs.length) : ∃ x, xs[k]? = some x := ⟨xs[k], List.getElem?_eq_getElem h⟩
@[go_sem] theorem wrap_half (n : Nat) (h : (n : Int) ≤ 17592186044416) : IntKind.i64.wrap ((n : Int) / 2) = (n : Int) / 2 := IntWalk.i64_in _ (by omega)
set_option maxHeartbeats 1000000 in
set_option maxRecDepth 100000 in
theorem refSorted_short (A : Option Addr) (c : Nat) (xs : List Int) (hn : xs.length < 2) (w : World) (h : IL w A xs) : Calls Try.prog 18 #[.slice A xs.length c] w (SrtRow xs w) := by
  unfold SrtRow
  rw [srt_short hn]
  match xs, hn, h with
  | [], _, _ =>
    go_enter Try.func18, Try.ntmps18
    go_wp2_with fail
    go_loopw [3, 4] (fun r i wr => r = .slice none 0 0 ∧ i = .int .i64 0 ∧ wr = w) (fun _ i _ => 0)
    case atStart => exact ⟨rfl, rfl, rfl⟩
    case round =>
      obtain ⟨rfl, rfl, rfl⟩ := hrel
      go_wp2_with fail
      go_ret
      exact ⟨_, rfl, World.ownsRow_nil _ _ _ _, Below.refl _ _⟩
  | [x], _, h =>
    obtain ⟨i0, hi, hz0, hz1, hz2⟩ := i64_info
    obtain ⟨ad, rfl, hc, _⟩ := h 0 x rfl
    have hc0 : w.cell? ad = some (.int .i64 x) := hc
    have HI := Lib.hid hi
    have HZ0 := Lib.hid hz0
    have HZ1 := Lib.hid hz1
    have HZ2 := Lib.hid hz2
    have HC := Lib.hid hc0
    clear hi hz0 hz1 hz2 h hc hc0 hn
    go_enter Try.func18, Try.ntmps18
    go_wp2_with fail
    go_loopw [3, 4] (fun r i wr => ∃ k : Nat, k ≤ 1 ∧ i = .int .i64 k ∧ Hid (wr.ownsRow w.heap.size 2 1 r k (i64s ([x].take k))) ∧ Hid (RowKit.Below w.heap.size w wr)) (fun _ i _ => 1 - (intOf i).toNat)
    case atStart => exact ⟨0, by omega, rfl, Lib.hid (World.ownsRow_nil _ _ _ _), Lib.hid (Below.refl _ _)⟩
    case round =>
      obtain ⟨k, hk, rfl, HO, HW⟩ := hrel
      by_cases hk0 : k = 0
      · subst hk0
        have hcc : wr.cell? ad = some (.int .i64 x) := (HW.out.cell (Lib.lt_of_cell HC.out)).trans HC.out
        go_wp2_with (at_builtin; refine wpList_append_own _ rfl _ _ 49 rfl w.heap.size 2 i0 (.int .i64 0) 1 8 Try.underlying49 HI.out HZ0.out HZ1.out HZ2.out rfl (by decide) _ _ _ rfl (HO.out.alloc _) ⟨wr.heap.size, 0, none⟩ 1 1 [.int .i64 x] rfl rfl ?c1 ?c2 ?c3 ?c4 ?c5 ?_)
        case c1 => exact (cell_one_new _ _ _)
        case c2 => intro u hu; simp at hu; subst hu; rfl
        case c3 => unfold maxLen; omega
        case c4 => omega
        case c5 => rw [World.size_alloc]; exact Nat.le_succ_of_le HW.out.size
        intro v' w6 hown2 hgrow _
        have HN : Hid (w6.ownsRow w.heap.size 2 1 v' 1 (i64s ([x].take 1))) := Lib.hid hown2
        have HW6 : Hid (RowKit.Below w.heap.size w w6) := Lib.hid ((HW.out.alloc HW.out.size _).grown hgrow (by rw [World.size_alloc]; exact Nat.le_succ_of_le HW.out.size) (fun p hp => (HO.out.lt p hp).1))
        clear hown2 hgrow hcc
        go_wp2_with fail
        exact ⟨⟨1, by omega, by go_num, HN, HW6⟩, by simp [intOf]⟩
      · obtain rfl : k = 1 := by omega
        go_wp2_with fail
        go_ret
        exact ⟨_, rfl, HO.out, HW.out⟩
set_option maxHeartbeats 1000000 in
set_option maxRecDepth 100000 in
theorem refSorted_step (a : Addr) (c : Nat) (xs : List Int) (h2 : 2 ≤ xs.length) (hl : xs.length * 8 ≤ 140737488355328) (hc : xs.length ≤ c)
    (IH : ∀ (ys : List Int), ys.length < xs.length → ∀ (A : Option Addr) (c : Nat) (w : World), IL w A ys → ys.length ≤ c → Calls Try.prog 18 #[.slice A ys.length c] w (SrtRow ys w))
    (w : World) (hf : IL w (some a) xs) : Calls Try.prog 18 #[.slice (some a) xs.length c] w (SrtRow xs w) := by
  obtain ⟨i0, hi, hz0, hz1, hz2⟩ := info_parts (show (Try.prog.info? 2).map (fun i => (i.zero, i.size, i.bytes)) = some (some (.int .i64 0), 1, 8) by kernel_rfl)
  have HI := Lib.hid hi
  have HZ0 := Lib.hid hz0
  have HZ1 := Lib.hid hz1
  have HZ2 := Lib.hid hz2
  clear hi hz0 hz1 hz2
  have HF := Lib.hid hf
  have H1 : ∀ w', IL w' (some a) xs → Calls Try.prog 18 #[.slice (some a) (xs.length / 2) c] w' (SrtRow (xs.take (xs.length / 2)) w') := fun w' hw => by
    have := IH (xs.take (xs.length / 2)) (by rw [List.length_take]; omega) (some a) c w' (il_take hw _) (by rw [List.length_take]; omega)
    rwa [List.length_take, Nat.min_eq_left (by omega)] at this
  have H2 : ∀ w', IL w' (some a) xs → Calls Try.prog 18 #[.slice (some (a.add (xs.length / 2))) (xs.length - xs.length / 2) (c - xs.length / 2)] w' (SrtRow (xs.drop (xs.length / 2)) w') := fun w' hw => by
    have := IH (xs.drop (xs.length / 2)) (by rw [List.length_drop]; omega) (some (a.add (xs.length / 2))) (c - xs.length / 2) w' (il_drop hw _) (by rw [List.length_drop]; omega)
    rwa [List.length_drop] at this
  clear hf IH
  have n0 : ¬ xs.length < 2 := by omega
  go_enter Try.func18, Try.ntmps18
  go_wp2_with fail
  have q0 : (0 : Int) ≤ (xs.length : Int) / 2 := by omega
  have q15 : (xs.length : Int) / 2 ≤ (c : Int) := by omega
  have q16 : (xs.length : Int) / 2 ≤ (xs.length : Int) := by omega
  have q17 : ((xs.length : Int) / 2).toNat = xs.length / 2 := by omega
  have q18 : (xs.length : Int) ≤ 17592186044416 := by omega
  have q19 : ¬ (c = xs.length / 2) := by omega
  have HL := Lib.hid hl
  have H2L := Lib.hid h2
  clear hl n0 h2
  go_region_held3 (fun w' => IL w' (some a) xs) (first | exact HF.out | with_reducible assumption) (first | (go_at_call 18; (with_reducible refine (H1 _ ?_).mono ?_); exact HF.out; rintro e w1 ⟨v1, rfl, o1, b1⟩; have f1 := IL.below (show IL w.drew (some a) xs from HF.out) b1; have o1 := Lib.hid o1; have b1 := Lib.hid b1) | (go_at_call 18; (with_reducible refine (H2 _ ?_).mono ?_); (with_reducible assumption); rintro e w2 ⟨v2, rfl, o2, b2⟩; have f2 := IL.below (by with_reducible assumption) b2; have o2 := Lib.hid o2; have b2 := Lib.hid b2))
  clear H1 H2 q0 q15 q16 q17 q19 f1 f2 HF
  have hy1 : (srt (xs.take (xs.length / 2))).length = xs.length / 2 := by rw [srt_len, List.length_take]; omega
  have hy2 : (srt (xs.drop (xs.length / 2))).length = xs.length - xs.length / 2 := by rw [srt_len, List.length_drop]
  have O1 : w1.ownsRow w.heap.size 2 1 v1 (srt (xs.take (xs.length / 2))).length (i64s (srt (xs.take (xs.length / 2)))) := by rw [srt_len]; exact o1.out
  have O2 : w2.ownsRow w1.heap.size 2 1 v2 (srt (xs.drop (xs.length / 2))).length (i64s (srt (xs.drop (xs.length / 2)))) := by rw [srt_len]; exact o2.out
  clear o1 o2
  have HM : Hid (List.merge (srt (xs.take (xs.length / 2))) (srt (xs.drop (xs.length / 2))) leI = srt xs) := Lib.hid (merge_srt _ _)
  generalize srt (xs.take (xs.length / 2)) = ys1 at *
  generalize srt (xs.drop (xs.length / 2)) = ys2 at *
  obtain ⟨g1, c1, cur1, rfl, hg1, hl1, -, u1, -⟩ := own_i64s O1 (by have := H2L.out; omega)
  obtain ⟨g2, c2, cur2, rfl, hg2, hl2, -, u2, -⟩ := own_i64s O2 (by have := H2L.out; omega)
  have HB : Hid (RowKit.Below w.heap.size w w2) := Lib.hid ((show RowKit.Below w.heap.size w w1 from ⟨b1.out.os, b1.out.tape, b1.out.output, b1.out.size, b1.out.block⟩).trans (b2.out.mono (by have := b1.out.size; exact this)))
  have U1 : Hid (UI w2 g1 ys1) := Lib.hid (u1.below b2.out hl1)
  have U2 : Hid (UI w2 g2 ys2) := Lib.hid u2
  have hsum : (ys1.length : Int) + (ys2.length : Int) ≤ 17592186044416 := by omega
  have hl1' : Hid (g1 < w2.heap.size) := Lib.hid (Nat.lt_of_lt_of_le hl1 b2.out.size)
  have hl2' : Hid (g2 < w2.heap.size) := Lib.hid hl2
  clear hl1 hl2 u1 u2 b2 O1 O2 hg1 hg2 hy1 hy2 HL H2L q18
  clear b1
  clear o1 o2 b1 b2
  clear w1
  go_wp2_with fail
  go_loopw [7, 8, 9] (fun r i j wr => ∃ (i' j' : Nat) (rs : List Int), i = .int .i64 i' ∧ j = .int .i64 j' ∧ i' ≤ ys1.length ∧ j' ≤ ys2.length ∧ Hid (rs.length = i' + j') ∧ Hid (rs ++ List.merge (ys1.drop i') (ys2.drop j') leI = List.merge ys1 ys2 leI) ∧ Hid (wr.ownsRow w2.heap.size 2 1 r (i' + j') (i64s rs)) ∧ Hid (RowKit.Below w2.heap.size w2 wr)) (fun _ i j _ => (ys1.length + ys2.length) - ((intOf i).toNat + (intOf j).toNat))
  case atStart => exact ⟨0, 0, [], rfl, rfl, Nat.zero_le _, Nat.zero_le _, Lib.hid rfl, Lib.hid rfl, Lib.hid (World.ownsRow_nil _ _ _ _), Lib.hid (Below.refl _ _)⟩
  case round =>
    obtain ⟨i', j', rs, rfl, rfl, hi, hj, hrs, hm, HO, HW⟩ := hrel
    by_cases li : i' < ys1.length
    · obtain ⟨a1, ha1⟩ := at_ li
      have ca := (U1.out.below HW.out hl1'.out) i' a1 ha1
      by_cases lj : j' < ys2.length
      · obtain ⟨b1, hb1⟩ := at_ lj
        have cb := (U2.out.below HW.out hl2'.out) j' b1 hb1
        by_cases hle : a1 ≤ b1
        · have HM2 := Lib.hid (merge_left hm.out ha1 hb1 hle)
          clear ha1 hb1 hm
          have e1 : ((j' : Int) == (ys2.length : Int)) = false := by rw [beq_eq_false_iff_ne]; omega
          have e2 : decide ((i' : Int) < (ys1.length : Int)) = true := by rw [decide_eq_true_iff]; omega
          have e3 : decide (a1 ≤ b1) = true := by rw [decide_eq_true_iff]; omega
          go_wp2_with fail
          go_quiet (fail)
          have HO2 : Hid ((wr.drewN nq).ownsRow w2.heap.size 2 1 u7 (i' + j') (i64s rs)) := Lib.hid HO.out
          have HW2 : Hid (RowKit.Below w2.heap.size w2 (wr.drewN nq)) := Lib.hid (below_drewN HW.out nq)
          have HC : Hid ((wr.drewN nq).cell? ⟨g1, i', none⟩ = some (.int .i64 a1)) := Lib.hid ca
          have hcc := HC.out
          generalize wr.drewN nq = wq at *
          clear HO HW ca cb
          go_wp2_with (at_builtin; refine wpList_append_own _ rfl _ _ 49 rfl w2.heap.size 2 i0 (.int .i64 0) 1 8 Try.underlying49 HI.out HZ0.out HZ1.out HZ2.out rfl (by decide) _ _ _ rfl (HO2.out.alloc _) ⟨wq.heap.size, 0, none⟩ 1 1 [.int .i64 a1] rfl rfl ?c1 ?c2 ?c3 ?c4 ?c5 ?_)
          case c1 => exact (cell_one_new _ _ _)
          case c2 => intro u hu; simp at hu; subst hu; rfl
          case c3 => unfold maxLen; omega
          case c4 => omega
          case c5 => rw [World.size_alloc]; exact Nat.le_succ_of_le HW2.out.size
          intro v' w6 hown2 hgrow _
          rw [← i64s_snoc] at hown2
          have HN : Hid (w6.ownsRow w2.heap.size 2 1 v' ((i' + 1) + j') (i64s (rs ++ [a1]))) := Lib.hid (by rw [show (i' + 1) + j' = i' + j' + 1 by omega]; exact hown2)
          have HW6 : Hid (RowKit.Below w2.heap.size w2 w6) := Lib.hid ((HW2.out.alloc HW2.out.size _).grown hgrow (by rw [World.size_alloc]; exact Nat.le_succ_of_le HW2.out.size) (fun p hp => (HO2.out.lt p hp).1))
          clear hown2 hgrow hcc
          go_wp2_with fail
          exact ⟨⟨(i' + 1), j', _, by go_num, by go_num, by omega, by omega, Lib.hid (by rw [List.length_append, hrs.out]; simp; omega), HM2, HN, HW6⟩, by simp [intOf]; omega⟩
        · have HM2 := Lib.hid (merge_right hm.out ha1 hb1 hle)
          clear ha1 hb1 hm
          have e1 : ((j' : Int) == (ys2.length : Int)) = false := by rw [beq_eq_false_iff_ne]; omega
          have e2 : decide ((i' : Int) < (ys1.length : Int)) = true := by rw [decide_eq_true_iff]; omega
          have e3 : decide (a1 ≤ b1) = false := by rw [decide_eq_false_iff_not]; omega
          go_wp2_with fail
          go_quiet (fail)
          have HO2 : Hid ((wr.drewN nq).ownsRow w2.heap.size 2 1 u7 (i' + j') (i64s rs)) := Lib.hid HO.out
          have HW2 : Hid (RowKit.Below w2.heap.size w2 (wr.drewN nq)) := Lib.hid (below_drewN HW.out nq)
          have HC : Hid ((wr.drewN nq).cell? ⟨g2, j', none⟩ = some (.int .i64 b1)) := Lib.hid cb
          have hcc := HC.out
          generalize wr.drewN nq = wq at *
          clear HO HW ca cb
          go_wp2_with (at_builtin; refine wpList_append_own _ rfl _ _ 49 rfl w2.heap.size 2 i0 (.int .i64 0) 1 8 Try.underlying49 HI.out HZ0.out HZ1.out HZ2.out rfl (by decide) _ _ _ rfl (HO2.out.alloc _) ⟨wq.heap.size, 0, none⟩ 1 1 [.int .i64 b1] rfl rfl ?c1 ?c2 ?c3 ?c4 ?c5 ?_)
          case c1 => exact (cell_one_new _ _ _)
          case c2 => intro u hu; simp at hu; subst hu; rfl
          case c3 => unfold maxLen; omega
          case c4 => omega
          case c5 => rw [World.size_alloc]; exact Nat.le_succ_of_le HW2.out.size
          intro v' w6 hown2 hgrow _
          rw [← i64s_snoc] at hown2
          have HN : Hid (w6.ownsRow w2.heap.size 2 1 v' (i' + (j' + 1)) (i64s (rs ++ [b1]))) := Lib.hid (by rw [show i' + (j' + 1) = i' + j' + 1 by omega]; exact hown2)
          have HW6 : Hid (RowKit.Below w2.heap.size w2 w6) := Lib.hid ((HW2.out.alloc HW2.out.size _).grown hgrow (by rw [World.size_alloc]; exact Nat.le_succ_of_le HW2.out.size) (fun p hp => (HO2.out.lt p hp).1))
          clear hown2 hgrow hcc
          go_wp2_with fail
          exact ⟨⟨i', (j' + 1), _, by go_num, by go_num, by omega, by omega, Lib.hid (by rw [List.length_append, hrs.out]; simp; omega), HM2, HN, HW6⟩, by simp [intOf]; omega⟩
      · have HM2 := Lib.hid (merge_lone hm.out ha1 (by omega))
        clear ha1 hm
        have e1 : ((j' : Int) == (ys2.length : Int)) = true := by rw [beq_iff_eq]; omega
        have e2 : decide ((i' : Int) < (ys1.length : Int)) = true := by rw [decide_eq_true_iff]; omega
        go_wp2_with fail
        go_quiet (fail)
        have HO2 : Hid ((wr.drewN nq).ownsRow w2.heap.size 2 1 u7 (i' + j') (i64s rs)) := Lib.hid HO.out
        have HW2 : Hid (RowKit.Below w2.heap.size w2 (wr.drewN nq)) := Lib.hid (below_drewN HW.out nq)
        have HC : Hid ((wr.drewN nq).cell? ⟨g1, i', none⟩ = some (.int .i64 a1)) := Lib.hid ca
        have hcc := HC.out
        generalize wr.drewN nq = wq at *
        clear HO HW ca
        go_wp2_with (at_builtin; refine wpList_append_own _ rfl _ _ 49 rfl w2.heap.size 2 i0 (.int .i64 0) 1 8 Try.underlying49 HI.out HZ0.out HZ1.out HZ2.out rfl (by decide) _ _ _ rfl (HO2.out.alloc _) ⟨wq.heap.size, 0, none⟩ 1 1 [.int .i64 a1] rfl rfl ?c1 ?c2 ?c3 ?c4 ?c5 ?_)
        case c1 => exact (cell_one_new _ _ _)
        case c2 => intro u hu; simp at hu; subst hu; rfl
        case c3 => unfold maxLen; omega
        case c4 => omega
        case c5 => rw [World.size_alloc]; exact Nat.le_succ_of_le HW2.out.size
        intro v' w6 hown2 hgrow _
        rw [← i64s_snoc] at hown2
        have HN : Hid (w6.ownsRow w2.heap.size 2 1 v' ((i' + 1) + j') (i64s (rs ++ [a1]))) := Lib.hid (by rw [show (i' + 1) + j' = i' + j' + 1 by omega]; exact hown2)
        have HW6 : Hid (RowKit.Below w2.heap.size w2 w6) := Lib.hid ((HW2.out.alloc HW2.out.size _).grown hgrow (by rw [World.size_alloc]; exact Nat.le_succ_of_le HW2.out.size) (fun p hp => (HO2.out.lt p hp).1))
        clear hown2 hgrow hcc
        go_wp2_with fail
        exact ⟨⟨(i' + 1), j', _, by go_num, by go_num, by omega, by omega, Lib.hid (by rw [List.length_append, hrs.out]; simp; omega), HM2, HN, HW6⟩, by simp [intOf]; omega⟩
    · by_cases lj : j' < ys2.length
      · obtain ⟨b1, hb1⟩ := at_ lj
        have cb := (U2.out.below HW.out hl2'.out) j' b1 hb1
        have HM2 := Lib.hid (merge_rest hm.out hb1 (by omega))
        clear hb1 hm
        have e1 : ((j' : Int) == (ys2.length : Int)) = false := by rw [beq_eq_false_iff_ne]; omega
        have e2 : decide ((i' : Int) < (ys1.length : Int)) = false := by rw [decide_eq_false_iff_not]; omega
        go_wp2_with fail
        go_quiet (fail)
        have HO2 : Hid ((wr.drewN nq).ownsRow w2.heap.size 2 1 u7 (i' + j') (i64s rs)) := Lib.hid HO.out
        have HW2 : Hid (RowKit.Below w2.heap.size w2 (wr.drewN nq)) := Lib.hid (below_drewN HW.out nq)
        have HC : Hid ((wr.drewN nq).cell? ⟨g2, j', none⟩ = some (.int .i64 b1)) := Lib.hid cb
        have hcc := HC.out
        generalize wr.drewN nq = wq at *
        clear HO HW cb
        go_wp2_with (at_builtin; refine wpList_append_own _ rfl _ _ 49 rfl w2.heap.size 2 i0 (.int .i64 0) 1 8 Try.underlying49 HI.out HZ0.out HZ1.out HZ2.out rfl (by decide) _ _ _ rfl (HO2.out.alloc _) ⟨wq.heap.size, 0, none⟩ 1 1 [.int .i64 b1] rfl rfl ?c1 ?c2 ?c3 ?c4 ?c5 ?_)
        case c1 => exact (cell_one_new _ _ _)
        case c2 => intro u hu; simp at hu; subst hu; rfl
        case c3 => unfold maxLen; omega
        case c4 => omega
        case c5 => rw [World.size_alloc]; exact Nat.le_succ_of_le HW2.out.size
        intro v' w6 hown2 hgrow _
        rw [← i64s_snoc] at hown2
        have HN : Hid (w6.ownsRow w2.heap.size 2 1 v' (i' + (j' + 1)) (i64s (rs ++ [b1]))) := Lib.hid (by rw [show i' + (j' + 1) = i' + j' + 1 by omega]; exact hown2)
        have HW6 : Hid (RowKit.Below w2.heap.size w2 w6) := Lib.hid ((HW2.out.alloc HW2.out.size _).grown hgrow (by rw [World.size_alloc]; exact Nat.le_succ_of_le HW2.out.size) (fun p hp => (HO2.out.lt p hp).1))
        clear hown2 hgrow hcc
        go_wp2_with fail
        exact ⟨⟨i', (j' + 1), _, by go_num, by go_num, by omega, by omega, Lib.hid (by rw [List.length_append, hrs.out]; simp; omega), HM2, HN, HW6⟩, by simp [intOf]; omega⟩
      · obtain rfl : i' = ys1.length := by omega
        obtain rfl : j' = ys2.length := by omega
        have hfin : Hid (rs = List.merge ys1 ys2 leI) := Lib.hid (merge_done hm.out)
        clear hm hi hj li lj
        go_wp2_with fail
        go_ret
        refine ⟨u7, rfl, ?_, HB.out.trans (HW.out.mono HB.out.size)⟩
        have h1 := HO.out
        rw [← hrs.out, hfin.out, HM.out, srt_len] at h1
        refine ⟨h1.1, h1.2.imp id ?_⟩
        rintro ⟨g, cap, cur, hv, hb, rest⟩
        exact ⟨g, cap, cur, hv, Nat.le_trans HB.out.size hb, rest⟩
theorem refSorted_below (n : Nat) : ∀ (xs : List Int), xs.length < n → xs.length * 8 ≤ 140737488355328 → ∀ (A : Option Addr) (c : Nat) (w : World), IL w A xs → xs.length ≤ c → Calls Try.prog 18 #[.slice A xs.length c] w (SrtRow xs w) := by
  induction n with
  | zero => intro xs h; omega
  | succ n ih =>
    intro xs h hl A c w hf hc
    rcases Nat.lt_or_ge xs.length 2 with h2 | h2
    · exact refSorted_short A c xs h2 w hf
    · obtain ⟨ad, rfl, _, _⟩ := hf 0 _ (List.getElem?_eq_getElem (show 0 < xs.length by omega))
      exact refSorted_step ad c xs h2 hl hc (fun ys hy A c w hf hc => ih ys (by omega) (by omega) A c w hf hc) w hf
theorem refSorted_any (A : Option Addr) (c : Nat) (xs : List Int) (w : World) (hf : IL w A xs) (hl : xs.length * 8 ≤ 140737488355328) (hc : xs.length ≤ c) : Calls Try.prog 18 #[.slice A xs.length c] w (SrtRow xs w) :=
  refSorted_below (xs.length + 1) xs (Nat.lt_succ_self _) hl A c w hf hc
end Go.Proofs.Ytpjaijibkjmgiaa.MeanW

