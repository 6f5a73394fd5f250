/- Walks: pair. -/
import Derived.Test.YtdaoemjkefpmcaaConfG
namespace Go.Proofs.Ytdaoemjkefpmcaa.ConfW
open Go.RowKit Shell
theorem ML.drop {w : World} {b off : Nat} {l : List R4} (h : ML w (some ⟨b, off, none⟩) l) (p : Nat) : ML w (some ⟨b, off + p * 4, none⟩) (l.drop p) := by
  intro k e hk
  rw [List.getElem?_drop] at hk
  obtain ⟨g, o, hA, ⟨h0, h1, h2, h3⟩, hb⟩ := h (p + k) e hk
  cases hA
  have q : off + (p + k) * 4 = off + p * 4 + k * 4 := by omega
  rw [q] at h0 h1 h2 h3
  exact ⟨b, off + p * 4, rfl, ⟨h0, h1, h2, h3⟩, hb⟩
/-- From w on nothing old has turned, and block g holds an entry. -/
structure PX (w : World) (g : Nat) (e : R4) (W : World) : Prop where
  b : Below w.heap.size w W
  y : W.heap[g]? = some (Obj.cells #[.int .i64 e.a, .int .u32 e.b, .int .i64 e.c, .int .i64 e.d] 40)
theorem PX.next {w W W1 : World} {g : Nat} {e : R4} (h : PX w g e W) (b : Below W.heap.size W W1) : PX w g e W1 := ⟨h.b.trans (b.mono h.b.size), row_below b h.y⟩
theorem PX.cells {w W : World} {g : Nat} {e : R4} (h : PX w g e W) : W.cell? ⟨g, 0, none⟩ = some (.int .i64 e.a) ∧ W.cell? ⟨g, 1, none⟩ = some (.int .u32 (e.b : Int)) ∧ W.cell? ⟨g, 2, none⟩ = some (.int .i64 e.c) ∧ W.cell? ⟨g, 3, none⟩ = some (.int .i64 e.d) :=
  ⟨box_cell h.y rfl, box_cell h.y rfl, box_cell h.y rfl, box_cell h.y rfl⟩
set_option maxHeartbeats 4000000 in
theorem pair_any (E : Option Addr) (ne ce : Nat) (l : List R4) (kf : Nat) (lf : Array Value) (p : R4 → R4 → Bool) (w : World) (h : ML w E l) (hn : ne = l.length) (hm : ne ≤ maxLen) (hc : ne ≤ ce) (K : FnS w kf lf l p) :
    Calls Try.prog 51 #[.slice E ne ce, .func (.func kf) #[] lf] w fun r w' => r = .returned (.bool (prs p l)) ∧ Below w.heap.size w w' := by
  have HM := Lib.hid h
  have HN := Lib.hid hn
  have HC := Lib.hid hc
  have HK := Lib.hid K
  have ENT := K.ent
  have hmm : ne ≤ 9223372036854775807 := hm
  generalize hq : prs p l = q
  have HQ := Lib.hid (show q = prs p l from hq.symm)
  clear h hn hc K hm hq
  go_enter Try.func51, Try.ntmps51
  go_wp2
  go_loopw [11] (fun iv wr => ∃ (k : Nat), k ≤ ne ∧ iv = .int .i64 k ∧ Hid (Below w.heap.size w wr) ∧ Hid (∀ (i j : Nat) a b, i < k → i < j → l[i]? = some a → l[j]? = some b → p a b = false)) (fun iv _ => ne - (intOf iv).toNat)
  case atStart => exact ⟨0, Nat.zero_le _, rfl, Lib.hid (Below.refl _ _), Lib.hid (fun i j a b hi => by omega)⟩
  case round =>
    obtain ⟨k, hk, rfl, B, HI⟩ := hrel
    by_cases hlt : (k : Int) < (ne : Int)
    · obtain ⟨x, hx⟩ : ∃ x, l[k]? = some x := ⟨_, List.getElem?_eq_getElem (by rw [← HN.out]; omega)⟩
      have HM1 := Lib.hid (HM.out.below B.out)
      obtain ⟨b, off, rfl, ⟨x0, x1, x2, x3⟩, hxb⟩ := HM1.out k x hx
      have HX := Lib.hid hx
      clear hx
      have P1 := Lib.hid (show PX w wr.heap.size x (wr.alloc (Obj.cells #[.int .i64 x.a, .int .u32 x.b, .int .i64 x.c, .int .i64 x.d] 40)) from ⟨B.out.alloc B.out.size _, heap_alloc_new wr _⟩)
      have k1 : (k : Int) + 1 ≤ (ne : Int) := by omega
      have k2 : (ne : Int) ≤ (ce : Int) := by have := HC.out; omega
      have hcc := HC.out
      have HD := Lib.hid (HM.out.drop (k + 1))
      by_cases hce : ce = k + 1
      · have hce2 : (ce : Int) = (k : Int) + 1 := by omega
        go_wp2
        generalize wr.heap.size = g at *
        generalize hme : ne - (k + 1) = m at *
        have HME := Lib.hid (show k + 1 + m = ne by omega)
        have hm9 : m ≤ 9223372036854775807 := by omega
        have HM0 := Lib.hid (show m = 0 by omega)
        clear hme x0 x1 x2 x3 hcc hce hce2
        go_loopw [21] (fun iv wr => ∃ (j : Nat), j ≤ m ∧ iv = .int .i64 j ∧ Hid (PX w g x wr) ∧ Hid (∀ (i : Nat) y, i < j → l[k + 1 + i]? = some y → p x y = false)) (fun iv _ => m - (intOf iv).toNat)
        case atStart => exact ⟨0, Nat.zero_le _, rfl, P1, Lib.hid (fun i y hi => by omega)⟩
        case round =>
          clear P1
          obtain ⟨j, hj, rfl, P1, HJ⟩ := hrel
          have hm0 := HM0.out
          have hlt2 : ¬ (j : Int) < (m : Int) := by omega
          clear hm0
          obtain rfl : j = m := by omega
          have HI2 := Lib.hid (show ∀ (i j : Nat) (a b : R4), i < k + 1 → i < j → l[i]? = some a → l[j]? = some b → p a b = false by
            intro i j2 a b2 hi hij ha hb
            by_cases hik : i = k
            · subst hik
              rw [HX.out] at ha
              cases ha
              have h1 := lt_of_get hb
              rw [← HN.out] at h1
              have h2 := HME.out
              refine HJ.out (j2 - (i + 1)) b2 (by omega) ?_
              rw [show i + 1 + (j2 - (i + 1)) = j2 by omega]
              exact hb
            · exact HI.out i j2 a b2 (by omega) hij ha hb)
          go_wp2
          exact ⟨⟨k + 1, by omega, by go_num, Lib.hid P1.out.b, HI2⟩, by simp [intOf]; omega⟩
      · have hce2 : ¬ (ce : Int) = (k : Int) + 1 := by omega
        go_wp2
        generalize wr.heap.size = g at *
        generalize hme : ne - (k + 1) = m at *
        have HME := Lib.hid (show k + 1 + m = ne by omega)
        have hm9 : m ≤ 9223372036854775807 := by omega
        generalize hp : off + (k + 1) * 4 = o2 at *
        clear hme x0 x1 x2 x3 hcc hce hce2 hp
        go_loopw [21] (fun iv wr => ∃ (j : Nat), j ≤ m ∧ iv = .int .i64 j ∧ Hid (PX w g x wr) ∧ Hid (∀ (i : Nat) y, i < j → l[k + 1 + i]? = some y → p x y = false)) (fun iv _ => m - (intOf iv).toNat)
        case atStart => exact ⟨0, Nat.zero_le _, rfl, P1, Lib.hid (fun i y hi => by omega)⟩
        case round =>
          clear P1
          obtain ⟨j, hj, rfl, P1, HJ⟩ := hrel
          by_cases hlt2 : (j : Int) < (m : Int)
          · obtain ⟨y, hy⟩ : ∃ y, l[k + 1 + j]? = some y := ⟨_, List.getElem?_eq_getElem (by rw [← HN.out]; have := HME.out; omega)⟩
            have hy2 : (l.drop (k + 1))[j]? = some y := by rw [List.getElem?_drop]; exact hy
            obtain ⟨b9, o9, hbo, ⟨y0, y1, y2, y3⟩, hyb⟩ := (HD.out.below P1.out.b) j y hy2
            cases hbo
            have HY := Lib.hid hy
            have hxl := List.mem_of_getElem? HX.out
            have hyl := List.mem_of_getElem? hy
            clear hy hy2
            have P2 := Lib.hid (P1.out.next (al (Below.refl wr.heap.size wr) (Obj.cells #[.int .i64 y.a, .int .u32 y.b, .int .i64 y.c, .int .i64 y.d] 40)))
            obtain ⟨c0, c1, c2, c3⟩ := P2.out.cells
            have CA := Lib.hid (HK.out.call x y _ hxl hyl P2.out.b)
            clear hxl hyl
            have HT := Lib.hid (show p x y = true → q = true from fun h => by
              rw [HQ.out]
              exact prs_true (i := k) (j := k + 1 + j) (by omega) HX.out HY.out h)
            have HF := Lib.hid (show p x y = false → ∀ (i : Nat) z, i < j + 1 → l[k + 1 + i]? = some z → p x z = false by
              intro h i z hi hz
              by_cases hij : i = j
              · subst hij
                rw [HY.out] at hz
                cases hz
                exact h
              · exact HJ.out i z (by omega) hz)
            generalize p x y = t at *
            cases t
            · go_wp2_with fail
              refine CA.out.mono ?_
              rintro r w9 ⟨rfl, hb9⟩
              have P3 := Lib.hid (P2.out.next hb9)
              clear hb9
              go_wp2
              go_roundw
              case rel => exact ⟨j + 1, by omega, by go_num, P3, HF.out (by first | rfl | trivial)⟩
              case measure => simp [intOf]; omega
            · go_wp2_with fail
              refine CA.out.mono ?_
              rintro r w9 ⟨rfl, hb9⟩
              have P3 := Lib.hid (P2.out.next hb9)
              clear hb9
              go_wp2
              go_ret
              exact ⟨by rw [HT.out (by first | rfl | trivial)]; rfl, P3.out.b⟩
          · obtain rfl : j = m := by omega
            have HI2 := Lib.hid (show ∀ (i j : Nat) (a b : R4), i < k + 1 → i < j → l[i]? = some a → l[j]? = some b → p a b = false by
              intro i j2 a b2 hi hij ha hb
              by_cases hik : i = k
              · subst hik
                rw [HX.out] at ha
                cases ha
                have h1 := lt_of_get hb
                rw [← HN.out] at h1
                have h2 := HME.out
                refine HJ.out (j2 - (i + 1)) b2 (by omega) ?_
                rw [show i + 1 + (j2 - (i + 1)) = j2 by omega]
                exact hb
              · exact HI.out i j2 a b2 (by omega) hij ha hb)
            go_wp2
            exact ⟨⟨k + 1, by omega, by go_num, Lib.hid P1.out.b, HI2⟩, by simp [intOf]; omega⟩
    · have HQ2 := Lib.hid (show q = false by
        rw [HQ.out]
        exact prs_false (fun i j a b hij hi hj => HI.out i j a b (by have := lt_of_get hi; rw [← HN.out] at this; omega) hij hi hj))
      go_wp2
      go_ret
      exact ⟨by rw [HQ2.out]; rfl, B.out⟩
end Go.Proofs.Ytdaoemjkefpmcaa.ConfW

