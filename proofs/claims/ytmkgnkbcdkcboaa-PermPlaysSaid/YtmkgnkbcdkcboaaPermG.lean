/- The document's own Take: a frame put in its place. -/
import Derived.Test.YtmkgnkbcdkcboaaPermF
namespace Go.Proofs.Ytmkgnkbcdkcboaa.PermW
open Go.RowKit Shell
open QueueW hiding al cell_keep
open ClockW (CK CI RV tell tell_iff sh wh)
open FrameW (CV rightC refRightControl_any)
theorem OL.alloc {w : World} {base : Nat} {v : Value} {L : List It} (h : OL w base v L) (o : Obj) : OL (w.alloc o) base v L := World.ownsRow.alloc h o
theorem OL.drew {w : World} {base : Nat} {v : Value} {L : List It} (h : OL w base v L) : OL w.drew base v L := World.ownsRow.drew h
theorem cs6_one (z : It) : ∀ u ∈ cs6 z, u.oneCell' = true := by
  intro u hu
  simp only [cs6, List.mem_cons, List.not_mem_nil, or_false] at hu
  rcases hu with rfl | rfl | rfl | rfl | rfl | rfl <;> rfl
/-- An append of one held frame to a row of one's own. -/
theorem wpList_append_ol (w : World) {ops : Array Oper} {rest : List Oper} {o : Oper} {a : Act} {Q : Exit → Act → World → Prop} (hgd : o.guard = none) (s x : Operand)
    (ho : o.op = .call { callee := .builtin .append, args := #[s, x], argTypes := #[34, 34] }) (base : Nat) (v : Value) (L : List It) (hs : a.eval s = v) (hown : OL w base v L)
    (z : It) (g : Nat) (hx : a.eval x = .slice (some ⟨g, 0, none⟩) 1 1) (hg : w.heap[g]? = some (.cells (cs6 z).toArray 47 (0, 0))) (hl : L.length ≤ 1000) (hbase : base ≤ w.heap.size)
    (h : ∀ v' w', OL w' base v' (L ++ [z]) → Below base w w' → wpList Try.prog ops Q rest (a.put o.dst v') w') : wpList Try.prog ops Q (o :: rest) a w := by
  obtain ⟨i0, z0, hi0, hz0, hs0, hb0, hz1⟩ := info6_parts
  refine wpList_append_own w hgd s x 34 ho base 47 i0 z0 6 48 Try.underlying34 hi0 hz0 hs0 hb0 hz1 (by decide) v L.length (fl6 L) hs hown ⟨g, 0, none⟩ 1 1 (cs6 z) hx rfl (World.news_of_block hg) (cs6_one z) (by unfold maxLen; omega) (by omega) hbase ?_
  intro v' w' h2 h3 _
  refine h v' w' ?_ ((Below.refl base w).grown h3 hbase (fun k hk => (World.ownsRow.lt hown k hk).1))
  unfold OL
  rw [fl6_app, List.length_append]
  simpa [fl6] using h2
theorem fin_len (z : It) (S : List It) : (fin z (S.foldl (stp z) (false, []))).length = S.length + 1 := by
  have h : ∀ (S l : List It), (fin z (S.foldl (stp z) (false, l))).length = l.length + S.length + 1 := by
    intro S
    induction S with
    | nil => intro l; simp [fin]
    | cons x S ih =>
      intro l
      rw [List.foldl_cons]
      cases g : beh z.time z.f x with
      | true =>
        rw [show stp z (false, l) x = (true, l ++ [z, x]) by unfold stp; rw [g]; rfl, fold_put]
        simp [fin]
        omega
      | false =>
        rw [show stp z (false, l) x = (false, l ++ [x]) by unfold stp; rw [g]; rfl, ih]
        simp
        omega
  have := h S []
  simpa using this
/-- How far the document's own way has come, behind i frames. -/
def ac (z : It) (S : List It) (i : Nat) : Bool × List It := (S.take i).foldl (stp z) (false, [])
theorem ac_succ (z : It) (S : List It) (i : Nat) (x : It) (hx : S[i]? = some x) : ac z S (i + 1) = stp z (ac z S i) x := by
  unfold ac
  rw [List.take_add_one, hx, Option.toList_some, List.foldl_append]
  rfl
theorem ac_all (z : It) (S : List It) (i : Nat) (h : ¬ i < S.length) : ac z S i = S.foldl (stp z) (false, []) := by
  unfold ac
  rw [List.take_of_length_le (by omega)]
theorem ac_len (z : It) (S : List It) (i : Nat) (h : S.length < 64) : (ac z S i).2.length ≤ 500 := by
  have := (fold_len z (S.take i) (false, [])).1
  have hl : (S.take i).length ≤ S.length := by rw [List.length_take]; omega
  unfold ac
  simp only [List.length_nil] at this
  omega
set_option maxHeartbeats 8000000 in
set_option maxRecDepth 100000 in
theorem refTake_ok (m b r t d k f y c l : Int) (S : List It) (A : Option Addr) (n cp : Nat) (hc : 0 ≤ c) (_hi : CI m b r) (w : World) (hr : rightC k f y c l) (hl : ¬ d < l) (a0 : Int) (ha : du m b r t l d (tell m t) = (a0, 0)) (hn : n < 64) (hnS : S.length = n) (hA : HL w A S) (u : Int) : Calls Try.prog 12 #[.slice A n cp, .int .i64 d, RV m b r, .int .i64 t, CV k f y c l] w fun e w' => ∃ A', (∃ cp', e = .returned (.tuple #[.slice A' (n + 1) cp', .int .i64 a0, .int .i64 0]) ∧ n + 1 ≤ cp') ∧ HL w' A' (fin ⟨a0, f, 0, u, k, f, y, c, l⟩ (S.foldl (stp ⟨a0, f, 0, u, k, f, y, c, l⟩) (false, []))) ∧ (∀ a, A' = some a → w.heap.size ≤ a.block ∧ a.block < w'.heap.size) ∧ Below w.heap.size w w' := by
  have fl := fin_len ⟨a0, f, 0, u, k, f, y, c, l⟩ S
  have n64 : ((n : Int) == 64) = false := by rw [beq_eq_false_iff_ne]; omega
  generalize hz : (⟨a0, f, 0, u, k, f, y, c, l⟩ : It) = z at *
  have FL := Lib.hid fl
  have HA := Lib.hid hA
  have HZ := Lib.hid hz
  have HN := Lib.hid hnS
  have Hn := Lib.hid hn
  clear fl hA hz hnS hn
  have R := fun W => refRightControl_any k f y c l W hc
  rw [decide_eq_true hr] at R
  have R := Lib.hid R
  have D := fun W => refDue_any m b r t l d _hi W
  rw [ha] at D
  unfold RV at *
  have D := Lib.hid D
  clear _hi
  go_enter Try.func12, Try.ntmps12
  go_wp2_with fail
  have B := Lib.hid (al (al (Below.refl w.heap.size w) (.cells #[.int .i64 m, .int .i64 b, .int .i64 r] 33 (0, 0))) (cbx k f y c l))
  have X0 := Lib.hid (row_below (al (Below.refl _ _) (cbx k f y c l)) (heap_alloc_new w (.cells #[.int .i64 m, .int .i64 b, .int .i64 r] 33 (0, 0))))
  have Y0 := Lib.hid (show (World.alloc (w.alloc (.cells #[.int .i64 m, .int .i64 b, .int .i64 r] 33 (0, 0))) (cbx k f y c l)).heap[w.heap.size + 1]? = some (cbx k f y c l) from heap_at (by simp) _)
  generalize (w.alloc (.cells #[.int .i64 m, .int .i64 b, .int .i64 r] 33 (0, 0))).alloc (.cells #[.int .i64 k, .int .i64 f, .int .i64 y, .int .u32 c, .int .i64 l] 37 (0, 0)) = W at *
  obtain ⟨d0, d1, d2, d3, d4⟩ := cells5 Y0.out
  obtain ⟨c0, c1, c2⟩ := cells3 X0.out
  go_wp2_with (go_at_call 28; refine (R.out _).mono ?_; rintro e w1 ⟨rfl, b1⟩; have B1 := Lib.hid b1; clear d0 d1 d2 d3 d4 c0 c1 c2; obtain ⟨d0, d1, d2, d3, d4⟩ := cells5 (row_below b1 Y0.out); obtain ⟨c0, c1, c2⟩ := cells3 (row_below b1 X0.out); clear b1)
  refine (D.out _).mono ?_
  rintro e w2 ⟨rfl, b2⟩
  have B2 := Lib.hid ((B.out.trans (B1.out.mono B.out.size)).trans (b2.mono (Nat.le_trans B.out.size B1.out.size)))
  have Y2 := Lib.hid (row_below b2 (row_below B1.out Y0.out))
  have A2 := Lib.hid (HA.out.below B2.out)
  clear b2 d0 d1 d2 d3 d4 c0 c1 c2 B1 B X0 Y0 D R HA
  go_wp2_with fail
  go_loopw [15, 16, 17] (fun ov pv iv wr => ∃ i : Nat, Hid (i ≤ n) ∧ iv = .int .i64 i ∧ pv = .bool (ac z S i).1 ∧ Hid (OL wr w2.heap.size ov (ac z S i).2) ∧ Hid (Below w2.heap.size w2 wr)) (fun _ _ iv _ => (n - intOf iv).toNat)
  case atStart => exact ⟨0, Lib.hid (Nat.zero_le _), rfl, rfl, Lib.hid (World.ownsRow_nil _ _ _ _), Lib.hid (Below.refl _ _)⟩
  case round =>
    obtain ⟨i, HI, rfl, rfl, HO, HB⟩ := hrel
    have HAL := Lib.hid (ac_len z S i (by rw [HN.out]; exact Hn.out))
    by_cases hlt : i < S.length
    · obtain ⟨x, hx⟩ : ∃ x, S[i]? = some x := ⟨_, List.getElem?_eq_getElem hlt⟩
      have hlt' : (i : Int) < (n : Int) := by have := HN.out; omega
      have hi64 : (i : Int) < 64 := by have := HN.out; have := Hn.out; omega
      have HST := Lib.hid (ac_succ z S i x hx)
      obtain ⟨g, off, hA', X6⟩ : ∃ g off, A = some ⟨g, off, none⟩ ∧ ∀ W, Below w2.heap.size w2 W → At6 W g (off + i * 6) x := by
        rcases A2.out with h | ⟨g, off, h1, h2, h3⟩
        · rw [h] at hx; cases hx
        · exact ⟨g, off, h1, fun W hW => (h3 i x hx).block (hW.block g h2)⟩
      subst hA'
      have X6 := Lib.hid X6
      generalize ac z S i = acc at *
      obtain ⟨p, L⟩ := acc
      clear hx
      obtain ⟨e0, e1, e2, e3, e4, e5⟩ := X6.out wr HB.out
      obtain ⟨x0, x1, x2, x3, x4, x5, x6, x7, x8⟩ := x
      dsimp only at e0 e1 e2 e3 e4 e5 HAL HO
      obtain ⟨d0, d1, d2, d3, d4⟩ := cells5 (row_below HB.out Y2.out)
      cases p with
      | true =>
        have HE := Lib.hid (show stp z (true, L) ⟨x0, x1, x2, x3, x4, x5, x6, x7, x8⟩ = (true, L ++ [⟨x0, x1, x2, x3, x4, x5, x6, x7, x8⟩]) by rfl)
        go_wp2_with fail
        go_region
        go_wp2_with (at_builtin; refine wpList_append_ol _ rfl _ _ rfl w2.heap.size _ L rfl (HO.out.alloc _).drew ⟨x0, x1, x2, x3, x4, x5, x6, x7, x8⟩ _ rfl (heap_alloc_new wr _) (by have := HAL.out; (try simp only [List.length_append, List.length_cons, List.length_nil]); omega) ((HB.out.alloc HB.out.size _).drew).size ?_)
        intro v' w3 o3 b3
        have O3 := Lib.hid o3
        have B3 := Lib.hid ((HB.out.alloc HB.out.size _).drew.trans b3)
        clear o3 b3
        go_wp2
        go_roundw
        case rel => exact ⟨i + 1, Lib.hid (by have := HN.out; omega), by first | rfl | go_num, by rw [HST.out, HE.out], Lib.hid (by rw [HST.out, HE.out]; exact O3.out), Lib.hid (B3.out)⟩
        case measure => simp only [intOf]; omega
      | false =>
        have hzt : z.time = a0 := by rw [← HZ.out]
        have hzf : z.f = f := by rw [← HZ.out]
        by_cases g1 : a0 < x0
        · have HE := Lib.hid (show stp z (false, L) ⟨x0, x1, x2, x3, x4, x5, x6, x7, x8⟩ = (true, L ++ [z, ⟨x0, x1, x2, x3, x4, x5, x6, x7, x8⟩]) by unfold stp beh; rw [hzt, hzf]; simp [g1])
          clear hzt hzf
          have HX := Lib.hid (show cs6 z = [.int .i64 k, .int .i64 f, .int .i64 y, .int .u32 c, .int .i64 l, .int .i64 a0] by rw [← HZ.out]; rfl)
          go_wp2_with fail
          go_region
          go_wp2_with (at_builtin; refine wpList_append_ol _ rfl _ _ rfl w2.heap.size _ L rfl ((HO.out.alloc _).drew) z _ rfl (by rw [HX.out]; exact heap_alloc_new wr _) (by have := HAL.out; omega) ((HB.out.alloc HB.out.size _).drew).size ?_)
          intro v' w3 o3 b3
          have O3 := Lib.hid o3
          have B3 := Lib.hid ((HB.out.alloc HB.out.size _).drew.trans b3)
          clear o3 b3 e0 e1 e2 e3 e4 e5 d0 d1 d2 d3 d4
          obtain ⟨e0, e1, e2, e3, e4, e5⟩ := X6.out w3 B3.out
          dsimp only at e0 e1 e2 e3 e4 e5
          go_wp2_with (at_builtin; refine wpList_append_ol _ rfl _ _ rfl w2.heap.size _ (L ++ [z]) rfl (O3.out.alloc _) ⟨x0, x1, x2, x3, x4, x5, x6, x7, x8⟩ _ rfl (heap_alloc_new w3 _) (by have := HAL.out; (try simp only [List.length_append, List.length_cons, List.length_nil]); omega) (B3.out.alloc B3.out.size _).size ?_)
          intro v'' w4 o4 b4
          have O4 := Lib.hid (show OL w4 w2.heap.size v'' (L ++ [z, ⟨x0, x1, x2, x3, x4, x5, x6, x7, x8⟩]) by first | exact o4 | (rw [show L ++ [z, ⟨x0, x1, x2, x3, x4, x5, x6, x7, x8⟩] = (L ++ [z]) ++ [⟨x0, x1, x2, x3, x4, x5, x6, x7, x8⟩] by simp]; exact o4))
          have B4 := Lib.hid ((B3.out.alloc B3.out.size _).trans b4)
          clear o4 b4
          go_wp2
          go_roundw
          case rel => exact ⟨i + 1, Lib.hid (by have := HN.out; omega), by first | rfl | go_num, by rw [HST.out, HE.out], Lib.hid (by rw [HST.out, HE.out]; exact O4.out), Lib.hid (B4.out)⟩
          case measure => simp only [intOf]; omega
        · by_cases g2 : x0 = a0
          · obtain rfl : a0 = x0 := g2.symm
            by_cases g3 : f < x5
            · have HE := Lib.hid (show stp z (false, L) ⟨a0, x1, x2, x3, x4, x5, x6, x7, x8⟩ = (true, L ++ [z, ⟨a0, x1, x2, x3, x4, x5, x6, x7, x8⟩]) by unfold stp beh; rw [hzt, hzf]; simp [g3])
              clear hzt hzf
              have HX := Lib.hid (show cs6 z = [.int .i64 k, .int .i64 f, .int .i64 y, .int .u32 c, .int .i64 l, .int .i64 a0] by rw [← HZ.out]; rfl)
              go_wp2_with fail
              go_region
              go_wp2_with (at_builtin; refine wpList_append_ol _ rfl _ _ rfl w2.heap.size _ L rfl ((HO.out.alloc _).drew) z _ rfl (by rw [HX.out]; exact heap_alloc_new wr _) (by have := HAL.out; omega) ((HB.out.alloc HB.out.size _).drew).size ?_)
              intro v' w3 o3 b3
              have O3 := Lib.hid o3
              have B3 := Lib.hid ((HB.out.alloc HB.out.size _).drew.trans b3)
              clear o3 b3 e0 e1 e2 e3 e4 e5 d0 d1 d2 d3 d4
              obtain ⟨e0, e1, e2, e3, e4, e5⟩ := X6.out w3 B3.out
              dsimp only at e0 e1 e2 e3 e4 e5
              go_wp2_with (at_builtin; refine wpList_append_ol _ rfl _ _ rfl w2.heap.size _ (L ++ [z]) rfl (O3.out.alloc _) ⟨a0, x1, x2, x3, x4, x5, x6, x7, x8⟩ _ rfl (heap_alloc_new w3 _) (by have := HAL.out; (try simp only [List.length_append, List.length_cons, List.length_nil]); omega) (B3.out.alloc B3.out.size _).size ?_)
              intro v'' w4 o4 b4
              have O4 := Lib.hid (show OL w4 w2.heap.size v'' (L ++ [z, ⟨a0, x1, x2, x3, x4, x5, x6, x7, x8⟩]) by first | exact o4 | (rw [show L ++ [z, ⟨a0, x1, x2, x3, x4, x5, x6, x7, x8⟩] = (L ++ [z]) ++ [⟨a0, x1, x2, x3, x4, x5, x6, x7, x8⟩] by simp]; exact o4))
              have B4 := Lib.hid ((B3.out.alloc B3.out.size _).trans b4)
              clear o4 b4
              go_wp2
              go_roundw
              case rel => exact ⟨i + 1, Lib.hid (by have := HN.out; omega), by first | rfl | go_num, by rw [HST.out, HE.out], Lib.hid (by rw [HST.out, HE.out]; exact O4.out), Lib.hid (B4.out)⟩
              case measure => simp only [intOf]; omega
            · have HE := Lib.hid (show stp z (false, L) ⟨a0, x1, x2, x3, x4, x5, x6, x7, x8⟩ = (false, L ++ [⟨a0, x1, x2, x3, x4, x5, x6, x7, x8⟩]) by unfold stp beh; rw [hzt, hzf]; simp [g3])
              clear hzt hzf
              go_wp2_with fail
              go_region
              go_wp2_with (at_builtin; refine wpList_append_ol _ rfl _ _ rfl w2.heap.size _ L rfl (HO.out.alloc _).drew ⟨a0, x1, x2, x3, x4, x5, x6, x7, x8⟩ _ rfl (heap_alloc_new wr _) (by have := HAL.out; (try simp only [List.length_append, List.length_cons, List.length_nil]); omega) ((HB.out.alloc HB.out.size _).drew).size ?_)
              intro v' w3 o3 b3
              have O3 := Lib.hid o3
              have B3 := Lib.hid ((HB.out.alloc HB.out.size _).drew.trans b3)
              clear o3 b3
              go_wp2
              go_roundw
              case rel => exact ⟨i + 1, Lib.hid (by have := HN.out; omega), by first | rfl | go_num, by rw [HST.out, HE.out], Lib.hid (by rw [HST.out, HE.out]; exact O3.out), Lib.hid (B3.out)⟩
              case measure => simp only [intOf]; omega
          · have HE := Lib.hid (show stp z (false, L) ⟨x0, x1, x2, x3, x4, x5, x6, x7, x8⟩ = (false, L ++ [⟨x0, x1, x2, x3, x4, x5, x6, x7, x8⟩]) by unfold stp beh; rw [hzt, hzf]; simp [g1, g2])
            have G1 := Lib.hid (Int.not_lt.1 g1)
            have G2 := Lib.hid g2
            clear hzt hzf g1 g2
            go_wp2_with fail
            have q1 : decide (a0 < x0) = false := decide_eq_false (Int.not_lt.2 G1.out)
            have q2 : (x0 == a0) = false := by rw [beq_eq_false_iff_ne]; exact G2.out
            have q3 : decide (x0 = a0) = false := decide_eq_false G2.out
            go_region
            go_wp2_with (at_builtin; refine wpList_append_ol _ rfl _ _ rfl w2.heap.size _ L rfl (HO.out.alloc _).drew ⟨x0, x1, x2, x3, x4, x5, x6, x7, x8⟩ _ rfl (heap_alloc_new wr _) (by have := HAL.out; (try simp only [List.length_append, List.length_cons, List.length_nil]); omega) ((HB.out.alloc HB.out.size _).drew).size ?_)
            intro v' w3 o3 b3
            have O3 := Lib.hid o3
            have B3 := Lib.hid ((HB.out.alloc HB.out.size _).drew.trans b3)
            clear o3 b3
            go_wp2
            go_roundw
            case rel => exact ⟨i + 1, Lib.hid (by have := HN.out; omega), by first | rfl | go_num, by rw [HST.out, HE.out], Lib.hid (by rw [HST.out, HE.out]; exact O3.out), Lib.hid (B3.out)⟩
            case measure => simp only [intOf]; omega
    · have hlt' : ¬ (i : Int) < (n : Int) := by have := HN.out; omega
      have HST := Lib.hid (ac_all z S i hlt)
      generalize ac z S i = acc at *
      obtain ⟨p, L⟩ := acc
      dsimp only at HAL HO
      obtain ⟨d0, d1, d2, d3, d4⟩ := cells5 (row_below HB.out Y2.out)
      cases p with
      | true =>
        have HF := Lib.hid (show fin z (S.foldl (stp z) (false, [])) = L by rw [← HST.out]; rfl)
        obtain ⟨A', cp', rfl, hh, hb, hcp⟩ := HO.out.form
        have hcp := Lib.hid hcp
        go_wp2
        go_ret3
        have e : L.length = n + 1 := by rw [← HF.out, FL.out, HN.out]
        refine ⟨A', ⟨cp', by rw [e]; rfl, by rw [← e]; exact hcp.out⟩, by rw [HF.out]; exact hh, fun a ha => ⟨Nat.le_trans B2.out.size (hb a ha).1, (hb a ha).2⟩, B2.out.trans (HB.out.mono B2.out.size)⟩
      | false =>
        have HF := Lib.hid (show fin z (S.foldl (stp z) (false, [])) = L ++ [z] by rw [← HST.out]; rfl)
        have HX := Lib.hid (show cs6 z = [.int .i64 k, .int .i64 f, .int .i64 y, .int .u32 c, .int .i64 l, .int .i64 a0] by rw [← HZ.out]; rfl)
        go_wp2_with (at_builtin; refine wpList_append_ol _ rfl _ _ rfl w2.heap.size _ L rfl (HO.out.alloc _) z _ rfl (by rw [HX.out]; exact heap_alloc_new wr _) (by have := HAL.out; omega) (by rw [World.size_alloc]; exact Nat.le_trans HB.out.size (Nat.le_succ _)) ?_)
        intro v' w3 o3 b3
        obtain ⟨A', cp', rfl, hh, hb, hcp⟩ := o3.form
        have hcp := Lib.hid hcp
        go_wp2
        go_ret3
        have e : (L ++ [z]).length = n + 1 := by rw [← HF.out, FL.out, HN.out]
        refine ⟨A', ⟨cp', by rw [e]; rfl, by rw [← e]; exact hcp.out⟩, by rw [HF.out]; exact hh, fun a ha => ⟨Nat.le_trans B2.out.size (hb a ha).1, (hb a ha).2⟩, B2.out.trans (((HB.out.alloc HB.out.size _).trans b3).mono B2.out.size)⟩
end Go.Proofs.Ytmkgnkbcdkcboaa.PermW
