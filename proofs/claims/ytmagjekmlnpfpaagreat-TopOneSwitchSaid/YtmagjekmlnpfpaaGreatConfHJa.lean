/- Walks: pair. -/
import Derived.Test.YtmagjekmlnpfpaaGreatConfG
import Derived.Test.YtmagjekmlnpfpaaGreatTake
namespace Go.Proofs.YtmagjekmlnpfpaaGreat.ConfW
open Go.RowKit Shell
theorem ML.drop {w : World} {b off : Nat} {l : List R4} (h : ML w (some ⟨b, off, none⟩) l) (p : Nat) : ML w (some ⟨b, off + p * 4, none⟩) (l.drop p) := by
  intro k e hk
  rw [List.getElem?_drop] at hk
  obtain ⟨g, o, hA, ⟨h0, h1, h2, h3⟩, hb⟩ := h (p + k) e hk
  cases hA
  have q : off + (p + k) * 4 = off + p * 4 + k * 4 := by omega
  rw [q] at h0 h1 h2 h3
  exact ⟨b, off + p * 4, rfl, ⟨h0, h1, h2, h3⟩, hb⟩
/-- From w on nothing old has turned, and block g holds an entry. -/
structure PX (w : World) (g : Nat) (e : R4) (W : World) : Prop where
  b : Below w.heap.size w W
  y : W.heap[g]? = some (Obj.cells #[.int .i64 e.a, .int .u32 e.b, .int .i64 e.c, .int .i64 e.d] 138)
theorem PX.next {w W W1 : World} {g : Nat} {e : R4} (h : PX w g e W) (b : Below W.heap.size W W1) : PX w g e W1 := ⟨h.b.trans (b.mono h.b.size), row_below b h.y⟩
theorem PX.cells {w W : World} {g : Nat} {e : R4} (h : PX w g e W) : W.cell? ⟨g, 0, none⟩ = some (.int .i64 e.a) ∧ W.cell? ⟨g, 1, none⟩ = some (.int .u32 (e.b : Int)) ∧ W.cell? ⟨g, 2, none⟩ = some (.int .i64 e.c) ∧ W.cell? ⟨g, 3, none⟩ = some (.int .i64 e.d) :=
  ⟨box_cell h.y rfl, box_cell h.y rfl, box_cell h.y rfl, box_cell h.y rfl⟩
set_option maxHeartbeats 4000000 in
theorem pair_any (E : Option Addr) (ne ce : Nat) (l : List R4) (kf : Nat) (lf : Array Value) (p : R4 → R4 → Bool) (w : World) (h : ML w E l) (hn : ne = l.length) (hm : ne ≤ maxLen) (hc : ne ≤ ce) (K : FnS w kf lf l p) :
    Calls Tryz.prog 75 #[.slice E ne ce, .func (.func kf) #[] lf] w fun r w' => r = .returned (.bool (prs p l)) ∧ Below w.heap.size w w' := by
  have HM := Lib.hid h
  have HN := Lib.hid hn
  have HC := Lib.hid hc
  have HK := Lib.hid K
  have ENT := K.ent
  have hmm : ne ≤ 9223372036854775807 := hm
  generalize hq : prs p l = q
  have HQ := Lib.hid (show q = prs p l from hq.symm)
  clear h hn hc K hm hq
  go_enter Tryz.func75, Tryz.ntmps75
  go_wp2
  go_loopw [11] (fun iv wr => ∃ (k : Nat), k ≤ ne ∧ iv = .int .i64 k ∧ Hid (Below w.heap.size w wr) ∧ Hid (∀ (i j : Nat) a b, i < k → i < j → l[i]? = some a → l[j]? = some b → p a b = false)) (fun iv _ => ne - (intOf iv).toNat)
  case atStart => exact ⟨0, Nat.zero_le _, rfl, Lib.hid (Below.refl _ _), Lib.hid (fun i j a b hi => by omega)⟩
  case round =>
    obtain ⟨k, hk, rfl, B, HI⟩ := hrel
    by_cases hlt : (k : Int) < (ne : Int)
    · obtain ⟨x, hx⟩ : ∃ x, l[k]? = some x := ⟨_, List.getElem?_eq_getElem (by rw [← HN.out]; omega)⟩
      have HM1 := Lib.hid (HM.out.below B.out)
      obtain ⟨b, off, rfl, ⟨x0, x1, x2, x3⟩, hxb⟩ := HM1.out k x hx
      have HX := Lib.hid hx
      clear hx
      have P1 := Lib.hid (show PX w wr.heap.size x (wr.alloc (Obj.cells #[.int .i64 x.a, .int .u32 x.b, .int .i64 x.c, .int .i64 x.d] 138)) from ⟨B.out.alloc B.out.size _, heap_alloc_new wr _⟩)
      have k1 : (k : Int) + 1 ≤ (ne : Int) := by omega
      have k2 : (ne : Int) ≤ (ce : Int) := by have := HC.out; omega
      have hcc := HC.out
      have HD := Lib.hid (HM.out.drop (k + 1))
      by_cases hce : ce = k + 1
      · have hce2 : (ce : Int) = (k : Int) + 1 := by omega
        go_wp2
        generalize wr.heap.size = g at *
        generalize hme : ne - (k + 1) = m at *
        have HME := Lib.hid (show k + 1 + m = ne by omega)
        have hm9 : m ≤ 9223372036854775807 := by omega
        have HM0 := Lib.hid (show m = 0 by omega)
        clear hme x0 x1 x2 x3 hcc hce hce2
        go_loopw [21] (fun iv wr => ∃ (j : Nat), j ≤ m ∧ iv = .int .i64 j ∧ Hid (PX w g x wr) ∧ Hid (∀ (i : Nat) y, i < j → l[k + 1 + i]? = some y → p x y = false)) (fun iv _ => m - (intOf iv).toNat)
        case atStart => exact ⟨0, Nat.zero_le _, rfl, P1, Lib.hid (fun i y hi => by omega)⟩
        case round =>
          clear P1
          obtain ⟨j, hj, rfl, P1, HJ⟩ := hrel
          have hm0 := HM0.out
          have hlt2 : ¬ (j : Int) < (m : Int) := by omega
          clear hm0
          obtain rfl : j = m := by omega
          have HI2 := Lib.hid (show ∀ (i j : Nat) (a b : R4), i < k + 1 → i < j → l[i]? = some a → l[j]? = some b → p a b = false by
            intro i j2 a b2 hi hij ha hb
            by_cases hik : i = k
            · subst hik
              rw [HX.out] at ha
              cases ha
              have h1 := lt_of_get hb
              rw [← HN.out] at h1
              have h2 := HME.out
              refine HJ.out (j2 - (i + 1)) b2 (by omega) ?_
              rw [show i + 1 + (j2 - (i + 1)) = j2 by omega]
              exact hb
            · exact HI.out i j2 a b2 (by omega) hij ha hb)
          go_wp2
          exact ⟨⟨k + 1, by omega, by go_num, Lib.hid P1.out.b, HI2⟩, by simp [intOf]; omega⟩
      · have hce2 : ¬ (ce : Int) = (k : Int) + 1 := by omega
        go_wp2
        generalize wr.heap.size = g at *
        generalize hme : ne - (k + 1) = m at *
        have HME := Lib.hid (show k + 1 + m = ne by omega)
        have hm9 : m ≤ 9223372036854775807 := by omega
        generalize hp : off + (k + 1) * 4 = o2 at *
        clear hme x0 x1 x2 x3 hcc hce hce2 hp
        go_loopw [21] (fun iv wr => ∃ (j : Nat), j ≤ m ∧ iv = .int .i64 j ∧ Hid (PX w g x wr) ∧ Hid (∀ (i : Nat) y, i < j → l[k + 1 + i]? = some y → p x y = false)) (fun iv _ => m - (intOf iv).toNat)
        case atStart => exact ⟨0, Nat.zero_le _, rfl, P1, Lib.hid (fun i y hi => by omega)⟩
        case round =>
          clear P1
          obtain ⟨j, hj, rfl, P1, HJ⟩ := hrel
          by_cases hlt2 : (j : Int) < (m : Int)
          · obtain ⟨y, hy⟩ : ∃ y, l[k + 1 + j]? = some y := ⟨_, List.getElem?_eq_getElem (by rw [← HN.out]; have := HME.out; omega)⟩
            have hy2 : (l.drop (k + 1))[j]? = some y := by rw [List.getElem?_drop]; exact hy
            obtain ⟨b9, o9, hbo, ⟨y0, y1, y2, y3⟩, hyb⟩ := (HD.out.below P1.out.b) j y hy2
            cases hbo
            have HY := Lib.hid hy
            have hxl := List.mem_of_getElem? HX.out
            have hyl := List.mem_of_getElem? hy
            clear hy hy2
            have P2 := Lib.hid (P1.out.next (al (Below.refl wr.heap.size wr) (Obj.cells #[.int .i64 y.a, .int .u32 y.b, .int .i64 y.c, .int .i64 y.d] 138)))
            obtain ⟨c0, c1, c2, c3⟩ := P2.out.cells
            have CA := Lib.hid (HK.out.call x y _ hxl hyl P2.out.b)
            clear hxl hyl
            have HT := Lib.hid (show p x y = true → q = true from fun h => by
              rw [HQ.out]
              exact prs_true (i := k) (j := k + 1 + j) (by omega) HX.out HY.out h)
            have HF := Lib.hid (show p x y = false → ∀ (i : Nat) z, i < j + 1 → l[k + 1 + i]? = some z → p x z = false by
              intro h i z hi hz
              by_cases hij : i = j
              · subst hij
                rw [HY.out] at hz
                cases hz
                exact h
              · exact HJ.out i z (by omega) hz)
            generalize p x y = t at *
            cases t
            · go_wp2_with fail
              refine CA.out.mono ?_
              rintro r w9 ⟨rfl, hb9⟩
              have P3 := Lib.hid (P2.out.next hb9)
              clear hb9
              go_wp2
              go_roundw
              case rel => exact ⟨j + 1, by omega, by go_num, P3, HF.out (by first | rfl | trivial)⟩
              case measure => simp [intOf]; omega
            · go_wp2_with fail
              refine CA.out.mono ?_
              rintro r w9 ⟨rfl, hb9⟩
              have P3 := Lib.hid (P2.out.next hb9)
              clear hb9
              go_wp2
              go_ret
              exact ⟨by rw [HT.out (by first | rfl | trivial)]; rfl, P3.out.b⟩
          · obtain rfl : j = m := by omega
            have HI2 := Lib.hid (show ∀ (i j : Nat) (a b : R4), i < k + 1 → i < j → l[i]? = some a → l[j]? = some b → p a b = false by
              intro i j2 a b2 hi hij ha hb
              by_cases hik : i = k
              · subst hik
                rw [HX.out] at ha
                cases ha
                have h1 := lt_of_get hb
                rw [← HN.out] at h1
                have h2 := HME.out
                refine HJ.out (j2 - (i + 1)) b2 (by omega) ?_
                rw [show i + 1 + (j2 - (i + 1)) = j2 by omega]
                exact hb
              · exact HI.out i j2 a b2 (by omega) hij ha hb)
            go_wp2
            exact ⟨⟨k + 1, by omega, by go_num, Lib.hid P1.out.b, HI2⟩, by simp [intOf]; omega⟩
    · have HQ2 := Lib.hid (show q = false by
        rw [HQ.out]
        exact prs_false (fun i j a b hij hi hj => HI.out i j a b (by have := lt_of_get hi; rw [← HN.out] at this; omega) hij hi hj))
      go_wp2
      go_ret
      exact ⟨by rw [HQ2.out]; rfl, B.out⟩
end Go.Proofs.YtmagjekmlnpfpaaGreat.ConfW



/- Walks: the functions that Check hands over, made; what they tell. -/
namespace Go.Proofs.YtmagjekmlnpfpaaGreat.ConfW
open Go.RowKit Shell
set_option maxHeartbeats 1000000 in
theorem one_sender (a b : R4) (w : World) : Calls Tryz.prog 124 #[.agg #[.int .i64 a.a, .int .u32 a.b, .int .i64 a.c, .int .i64 a.d], .agg #[.int .i64 b.a, .int .u32 b.b, .int .i64 b.c, .int .i64 b.d]] w fun r w' => r = .returned (.bool (decide (a.a = b.a))) ∧ Below w.heap.size w w' := by
  have X := Lib.hid (al (al (Below.refl w.heap.size w) (Obj.cells #[.int .i64 a.a, .int .u32 a.b, .int .i64 a.c, .int .i64 a.d] 138)) (Obj.cells #[.int .i64 b.a, .int .u32 b.b, .int .i64 b.c, .int .i64 b.d] 138))
  go_enter Tryz.func124, Tryz.ntmps124
  go_wp2
  go_ret
  exact ⟨rfl, X.out⟩
set_option maxHeartbeats 1000000 in
theorem phase_any (a : R4) (w : World) : Calls Tryz.prog 125 #[.agg #[.int .i64 a.a, .int .u32 a.b, .int .i64 a.c, .int .i64 a.d]] w fun r w' => r = .returned (.int .i64 a.c) ∧ Below w.heap.size w w' := by
  have X := Lib.hid (al (Below.refl w.heap.size w) (Obj.cells #[.int .i64 a.a, .int .u32 a.b, .int .i64 a.c, .int .i64 a.d] 138))
  go_enter Tryz.func125, Tryz.ntmps125
  go_wp2
  go_ret
  exact ⟨rfl, X.out⟩
set_option maxHeartbeats 1000000 in
theorem one_receiver (a b : R4) (w : World) (ha : a.b < 4294967296) (hb : b.b < 4294967296) : Calls Tryz.prog 127 #[.agg #[.int .i64 a.a, .int .u32 a.b, .int .i64 a.c, .int .i64 a.d], .agg #[.int .i64 b.a, .int .u32 b.b, .int .i64 b.c, .int .i64 b.d]] w fun r w' => r = .returned (.bool (decide (a.b &&& b.b ≠ 0))) ∧ Below w.heap.size w w' := by
  have X := Lib.hid (al (al (Below.refl w.heap.size w) (Obj.cells #[.int .i64 a.a, .int .u32 a.b, .int .i64 a.c, .int .i64 a.d] 138)) (Obj.cells #[.int .i64 b.a, .int .u32 b.b, .int .i64 b.c, .int .i64 b.d] 138))
  have HU := Lib.hid (u32_and_nat a.b b.b ha hb)
  go_enter Tryz.func127, Tryz.ntmps127
  go_wp2
  go_ret
  refine ⟨congrArg (fun z => Ending.returned (.bool z)) ?_, X.out⟩
  rw [HU.out, Bool.eq_iff_iff, bne_iff_ne, decide_eq_true_eq]
  omega
set_option maxHeartbeats 1000000 in
theorem forward_fn (g : Nat) (c : Cfg) (D E L : Option Addr) (nd cd ne ce nl cl : Nat) (a : R4) (w : World) (ha : a.b < 4294967296) (hg : w.heap[g]? = some (Obj.cells #[.int .i64 c.hosts, .int .i64 c.cycle, .int .i64 c.delay, .int .i64 c.window, .int .i64 c.precision, .slice D nd cd, .slice E ne ce, .slice L nl cl, .int .i64 c.queue] 26)) : Calls Tryz.prog 128 #[.agg #[.int .i64 a.a, .int .u32 a.b, .int .i64 a.c, .int .i64 a.d], .pointer (some ⟨g, 0, none⟩)] w fun r w' => r = .returned (.int .i64 (fwd c a)) ∧ Below w.heap.size w w' := by
  have X := Lib.hid (al (Below.refl w.heap.size w) (Obj.cells #[.int .i64 a.a, .int .u32 a.b, .int .i64 a.c, .int .i64 a.d] 138))
  have H1 := fun W => forward_any c D E L nd cd ne ce nl cl a W ha
  have hg2 : (w.alloc (Obj.cells #[.int .i64 a.a, .int .u32 a.b, .int .i64 a.c, .int .i64 a.d] 138)).heap[g]? = some (Obj.cells #[.int .i64 c.hosts, .int .i64 c.cycle, .int .i64 c.delay, .int .i64 c.window, .int .i64 c.precision, .slice D nd cd, .slice E ne ce, .slice L nl cl, .int .i64 c.queue] 26) := row_below (al (Below.refl _ _) _) hg
  have a0 := box_cell (i := 0) hg2 rfl
  have a1 := box_cell (i := 1) hg2 rfl
  have a2 := box_cell (i := 2) hg2 rfl
  have a3 := box_cell (i := 3) hg2 rfl
  have a4 := box_cell (i := 4) hg2 rfl
  have a5 := box_cell (i := 5) hg2 rfl
  have a6 := box_cell (i := 6) hg2 rfl
  have a7 := box_cell (i := 7) hg2 rfl
  have a8 := box_cell (i := 8) hg2 rfl
  clear hg hg2
  generalize fwd c a = f at *
  go_enter Tryz.func128, Tryz.ntmps128
  go_wp2_with fail
  refine (H1 _).mono ?_
  rintro r w9 ⟨rfl, hb⟩
  have X9 := Lib.hid (X.out.trans (hb.mono X.out.size))
  clear hb
  go_wp2
  go_ret
  exact ⟨rfl, X9.out⟩
/-- Three blocks of one cell. -/
theorem three_cells (w : World) (x y z : Value) (s t u : TypeId) :
    (((w.alloc (.cells #[x] s)).alloc (.cells #[y] t)).alloc (.cells #[z] u)).cell? ⟨w.heap.size, 0, none⟩ = some x ∧
    (((w.alloc (.cells #[x] s)).alloc (.cells #[y] t)).alloc (.cells #[z] u)).cell? ⟨w.heap.size + 1, 0, none⟩ = some y ∧
    (((w.alloc (.cells #[x] s)).alloc (.cells #[y] t)).alloc (.cells #[z] u)).cell? ⟨w.heap.size + 1 + 1, 0, none⟩ = some z := by
  have h1 : (w.alloc (.cells #[x] s)).heap[w.heap.size]? = some (.cells #[x] s) := heap_alloc_new w _
  have h2 : ((w.alloc (.cells #[x] s)).alloc (.cells #[y] t)).heap[w.heap.size + 1]? = some (.cells #[y] t) := by
    have h := heap_alloc_new (w.alloc (.cells #[x] s)) (.cells #[y] t)
    rwa [show (w.alloc (.cells #[x] s)).heap.size = w.heap.size + 1 by simp] at h
  have h3 := third_new w (.cells #[x] s) (.cells #[y] t) (.cells #[z] u)
  exact ⟨box_cell (row_below (al (Below.refl _ _) _) (row_below (al (Below.refl _ _) _) h1)) rfl, box_cell (row_below (al (Below.refl _ _) _) h2) rfl, box_cell h3 rfl⟩
set_option maxHeartbeats 1000000 in
theorem together_any (ks kb : Nat) (ls lb : Array Value) (w : World) : Calls Tryz.prog 126 #[.func (.func ks) #[] ls, .func (.func kb) #[] lb] w fun r w' =>
    r = .returned (.func (.func 159) #[] #[.pointer (some ⟨w.heap.size, 0, none⟩), .pointer (some ⟨w.heap.size + 1, 0, none⟩), .pointer (some ⟨w.heap.size + 1 + 1, 0, none⟩)]) ∧ Below w.heap.size w w' ∧
    w'.cell? ⟨w.heap.size, 0, none⟩ = some (.func (.func ks) #[] ls) ∧ w'.cell? ⟨w.heap.size + 1, 0, none⟩ = some (.func (.func kb) #[] lb) ∧
    w'.cell? ⟨w.heap.size + 1 + 1, 0, none⟩ = some (.func (.func 158) #[] #[.pointer (some ⟨w.heap.size + 1, 0, none⟩)]) := by
  have hmf : ∀ (fn : Fn) (first cap : Array Value) (w : World), (Instr.makeFunc fn first cap).run Tryz.prog w = .ok (.func fn first cap) w := fun _ _ _ _ => rfl
  have sx : ∀ (W : World) (a : Addr) (m : Mode), Sem.run Tryz.prog (store a (.func (.func 158) #[] #[.pointer (some ⟨w.heap.size + 1, 0, none⟩)]) m) W = stored Tryz.prog W a (.func (.func 158) #[] #[.pointer (some ⟨w.heap.size + 1, 0, none⟩)]) m := fun W a m => run_store _ W a _ m rfl
  go_enter Tryz.func126, Tryz.ntmps126
  go_wp2
  go_ret
  refine ⟨rfl, al (al (al (Below.refl _ _) _) _) _, ?_⟩
  exact three_cells w _ _ _ _ _ _
theorem row_below2 {w w1 : World} (b : Below w.heap.size w w1) {g : Nat} {o : Obj} (h : w.heap[g]? = some o) : w1.heap[g]? = some o := row_below b h
theorem FnS.mono {w w1 : World} {ks : Nat} {ls : Array Value} {l : List R4} {sh : R4 → R4 → Bool} (h : FnS w ks ls l sh) (b : Below w.heap.size w w1) : FnS w1 ks ls l sh :=
  ⟨h.ent, fun a b2 W ha hb hW => h.call a b2 W ha hb (b.trans (hW.mono b.size))⟩
theorem small_i64 {x : Int} (h1 : 0 ≤ x) (h2 : x ≤ 1073741824) : -1152921504606846976 ≤ x ∧ x ≤ 1152921504606846976 := by omega
theorem fwd_bound (c : Cfg) (e : R4) : -1152921504606846976 ≤ fwd c e ∧ fwd c e ≤ 1152921504606846976 := by
  unfold fwd
  split
  · rename_i h
    obtain ⟨h1, -, h2, h3⟩ := placed_iff.1 h
    have h4 := spansT_iff.1 (spans_iff.1 h1).2
    have h5 := tim_pos e.d
    omega
  · omega
set_option maxHeartbeats 1000000 in
theorem sent_any (l : List R4) (w : World) (hl : ∀ e ∈ l, 0 ≤ e.c ∧ e.c ≤ 1073741824) : Calls Tryz.prog 76 #[] w fun r w' =>
    ∃ lf, r = .returned (.func (.func 159) #[] lf) ∧ FnS w' 159 lf l snd ∧ Below w.heap.size w w' := by
  have H1 := Lib.hid (fun W => together_any 124 125 #[] #[] W)
  have HL := Lib.hid hl
  clear hl
  go_enter Tryz.func76, Tryz.ntmps76
  go_wp2_with fail
  refine (H1.out _).mono ?_
  rintro r w1 ⟨rfl, hb, h1, h2, h3⟩
  have B := Lib.hid hb
  have HF := Lib.hid (show FnS w1 159 #[.pointer (some ⟨w.heap.size, 0, none⟩), .pointer (some ⟨w.heap.size + 1, 0, none⟩), .pointer (some ⟨w.heap.size + 1 + 1, 0, none⟩)] l snd from
    ⟨ent68, fun a b W ha hbb hW => by
      have KS : FnS w1 124 #[] l (fun a b => decide (a.a = b.a)) := ⟨ent57, fun a b W _ _ _ => one_sender a b W⟩
      have KI : FnI w1 125 #[] l (fun a => a.c) := ⟨ent58, fun a W _ _ => phase_any a W, fun a ha => (small_i64 (HL.out a ha).1 (HL.out a ha).2).1, fun a ha => (small_i64 (HL.out a ha).1 (HL.out a ha).2).2⟩
      exact together2_any w.heap.size (w.heap.size + 1) (w.heap.size + 1 + 1) _ _ _ _ l _ _ w1 W KS KI h1 h2 h3 hW a b ha hbb⟩)
  clear hb h1 h2 h3
  go_wp2
  go_ret
  exact ⟨_, rfl, HF.out, B.out⟩
set_option maxHeartbeats 1000000 in
theorem forwarded_any (c : Cfg) (D E L : Option Addr) (nd cd ne ce nl cl : Nat) (l : List R4) (w : World) (hl : ∀ e ∈ l, e.b < 4294967296) : Calls Tryz.prog 77 #[.agg #[.int .i64 c.hosts, .int .i64 c.cycle, .int .i64 c.delay, .int .i64 c.window, .int .i64 c.precision, .slice D nd cd, .slice E ne ce, .slice L nl cl, .int .i64 c.queue]] w fun r w' =>
    ∃ lf, r = .returned (.func (.func 159) #[] lf) ∧ FnS w' 159 lf l (rcv c) ∧ Below w.heap.size w w' := by
  have H1 := Lib.hid (fun W => together_any 127 128 #[] #[.pointer (some ⟨w.heap.size, 0, none⟩)] W)
  have HL := Lib.hid hl
  have hmf : ∀ (fn : Fn) (first cap : Array Value) (w : World), (Instr.makeFunc fn first cap).run Tryz.prog w = .ok (.func fn first cap) w := fun _ _ _ _ => rfl
  clear hl
  have X := Lib.hid (CX.start (w0 := w) (c := c) (D := D) (E := E) (L := L) (nd := nd) (cd := cd) (ne := ne) (ce := ce) (nl := nl) (cl := cl))
  go_enter Tryz.func77, Tryz.ntmps77
  go_wp2_with fail
  refine (H1.out _).mono ?_
  rintro r w1 ⟨rfl, hb, h1, h2, h3⟩
  have X1 := Lib.hid (X.out.next hb)
  generalize (w.alloc (Obj.cells #[.int .i64 c.hosts, .int .i64 c.cycle, .int .i64 c.delay, .int .i64 c.window, .int .i64 c.precision, .slice D nd cd, .slice E ne ce, .slice L nl cl, .int .i64 c.queue] 26)).heap.size = n at *
  have HF := Lib.hid (show FnS w1 159 #[.pointer (some ⟨n, 0, none⟩), .pointer (some ⟨n + 1, 0, none⟩), .pointer (some ⟨n + 1 + 1, 0, none⟩)] l (rcv c) from
    ⟨ent68, fun a b W ha hbb hW => by
      have KS : FnS w1 127 #[] l (fun a b => decide (a.b &&& b.b ≠ 0)) := ⟨ent60, fun a b W ha hb _ => one_receiver a b W (HL.out a ha) (HL.out b hb)⟩
      have KI : FnI w1 128 #[.pointer (some ⟨w.heap.size, 0, none⟩)] l (fun a => fwd c a) := ⟨ent61, fun a W ha hW => forward_fn w.heap.size c D E L nd cd ne ce nl cl a W (HL.out a ha) (row_below2 hW X1.out.x), fun a _ => (fwd_bound c a).1, fun a _ => (fwd_bound c a).2⟩
      exact together2_any n (n + 1) (n + 1 + 1) _ _ _ _ l _ _ w1 W KS KI h1 h2 h3 hW a b ha hbb⟩)
  clear h1 h2 h3
  go_wp2
  go_ret
  exact ⟨_, rfl, HF.out, X1.out.b⟩
end Go.Proofs.YtmagjekmlnpfpaaGreat.ConfW



/- Check. -/
namespace Go.Proofs.YtmagjekmlnpfpaaGreat.ConfW
open Shell (takeR skipR aput lset)
open Go.RowKit Shell
theorem CX.drew {w0 w : World} (c : Cfg) (D E L : Option Addr) (nd cd ne ce nl cl : Nat) (h : CX w0 c D E L nd cd ne ce nl cl w) : CX w0 c D E L nd cd ne ce nl cl w.drew := h.next (Below.refl _ _).drew
theorem ph_range {c : Cfg} (h2 : btw c.cycle 1 1073741824 = true) (h6 : phOk c = true) : ∀ e ∈ c.entries, 0 ≤ e.c ∧ e.c ≤ 1073741824 := by
  intro e he
  have h := List.all_eq_true.1 h6 e he
  rw [ph_iff] at h
  have h0 := quiet_nonneg (c := c)
  have := btw_iff.1 h2
  omega
set_option maxHeartbeats 8000000 in
theorem check_any (c : Cfg) (D E L : Option Addr) (nd cd ne ce nl cl : Nat) (w : World) (h : CM w c D E L nd cd ne ce nl cl) : Calls Tryz.prog 31 #[.agg #[.int .i64 c.hosts, .int .i64 c.cycle, .int .i64 c.delay, .int .i64 c.window, .int .i64 c.precision, .slice D nd cd, .slice E ne ce, .slice L nl cl, .int .i64 c.queue]] w fun r w' => r = .returned (.int .i64 (chk c)) ∧ Below w.heap.size w w' := by
  have HM := Lib.hid h
  clear h
  have H1 := Lib.hid (fun W => between_int c.hosts 1 6 W)
  have H2 := Lib.hid (fun W => between_i64 c.cycle 1 1073741824 W)
  have H3 := Lib.hid (fun W (hW : CX w c D E L nd cd ne ce nl cl W) => (rightTimes_any c D E L nd cd ne ce nl cl W).mono (fun r W' (g : _ ∧ _) => (⟨g.1, hW.next g.2⟩ : r = _ ∧ CX w c D E L nd cd ne ce nl cl W')))
  have H4 := Lib.hid (fun W (hW : CX w c D E L nd cd ne ce nl cl W) => (rightDelays_any c D E L nd cd ne ce nl cl W (hW.mem HM.out)).mono (fun r W' (g : _ ∧ _) => (⟨g.1, hW.next g.2⟩ : r = _ ∧ CX w c D E L nd cd ne ce nl cl W')))
  have H5 := Lib.hid (fun (b1 : btw c.hosts 1 6 = true) W (hW : CX w c D E L nd cd ne ce nl cl W) => (rightEntries_any c D E L nd cd ne ce nl cl W (hW.mem HM.out) (btw_iff.1 b1)).mono (fun r W' (g : _ ∧ _) => (⟨g.1, hW.next g.2⟩ : r = _ ∧ CX w c D E L nd cd ne ce nl cl W')))
  have H6 := Lib.hid (fun W (hW : CX w c D E L nd cd ne ce nl cl W) => (rightPhases_any c D E L nd cd ne ce nl cl W (hW.mem HM.out)).mono (fun r W' (g : _ ∧ _) => (⟨g.1, hW.next g.2⟩ : r = _ ∧ CX w c D E L nd cd ne ce nl cl W')))
  have H9 := Lib.hid (fun (b1 : btw c.hosts 1 6 = true) W (hW : CX w c D E L nd cd ne ce nl cl W) => (rightLinks_any c D E L nd cd ne ce nl cl W (hW.mem HM.out) (btw_iff.1 b1)).mono (fun r W' (g : _ ∧ _) => (⟨g.1, hW.next g.2⟩ : r = _ ∧ CX w c D E L nd cd ne ce nl cl W')))
  have H10 := Lib.hid (fun W => between_int c.queue 1 64 W)
  have H7a := Lib.hid (show btw c.cycle 1 1073741824 = true → phOk c = true → ∀ W, (Hid (CX w c D E L nd cd ne ce nl cl W) ∧ W.cell? ⟨w.heap.size, 0, none⟩ = some (.int .i64 c.hosts) ∧ W.cell? ⟨w.heap.size, 1, none⟩ = some (.int .i64 c.cycle) ∧ W.cell? ⟨w.heap.size, 2, none⟩ = some (.int .i64 c.delay) ∧ W.cell? ⟨w.heap.size, 3, none⟩ = some (.int .i64 c.window) ∧ W.cell? ⟨w.heap.size, 4, none⟩ = some (.int .i64 c.precision) ∧ W.cell? ⟨w.heap.size, 5, none⟩ = some (.slice D nd cd) ∧ W.cell? ⟨w.heap.size, 6, none⟩ = some (.slice E ne ce) ∧ W.cell? ⟨w.heap.size, 7, none⟩ = some (.slice L nl cl) ∧ W.cell? ⟨w.heap.size, 8, none⟩ = some (.int .i64 c.queue)) → Calls Tryz.prog 76 #[] W fun r W' => ∃ lf, r = .returned (.func (.func 159) #[] lf) ∧ FnS W' 159 lf c.entries snd ∧ (Hid (CX w c D E L nd cd ne ce nl cl W') ∧ W'.cell? ⟨w.heap.size, 0, none⟩ = some (.int .i64 c.hosts) ∧ W'.cell? ⟨w.heap.size, 1, none⟩ = some (.int .i64 c.cycle) ∧ W'.cell? ⟨w.heap.size, 2, none⟩ = some (.int .i64 c.delay) ∧ W'.cell? ⟨w.heap.size, 3, none⟩ = some (.int .i64 c.window) ∧ W'.cell? ⟨w.heap.size, 4, none⟩ = some (.int .i64 c.precision) ∧ W'.cell? ⟨w.heap.size, 5, none⟩ = some (.slice D nd cd) ∧ W'.cell? ⟨w.heap.size, 6, none⟩ = some (.slice E ne ce) ∧ W'.cell? ⟨w.heap.size, 7, none⟩ = some (.slice L nl cl) ∧ W'.cell? ⟨w.heap.size, 8, none⟩ = some (.int .i64 c.queue)) from
    fun b2 b6 W hW => (sent_any c.entries W (ph_range b2 b6)).mono fun r W' ⟨lf, h1, h2, h3⟩ => ⟨lf, h1, h2, (hW.1.out.next h3).s⟩)
  have H8a := Lib.hid (show ∀ W, (Hid (CX w c D E L nd cd ne ce nl cl W) ∧ W.cell? ⟨w.heap.size, 0, none⟩ = some (.int .i64 c.hosts) ∧ W.cell? ⟨w.heap.size, 1, none⟩ = some (.int .i64 c.cycle) ∧ W.cell? ⟨w.heap.size, 2, none⟩ = some (.int .i64 c.delay) ∧ W.cell? ⟨w.heap.size, 3, none⟩ = some (.int .i64 c.window) ∧ W.cell? ⟨w.heap.size, 4, none⟩ = some (.int .i64 c.precision) ∧ W.cell? ⟨w.heap.size, 5, none⟩ = some (.slice D nd cd) ∧ W.cell? ⟨w.heap.size, 6, none⟩ = some (.slice E ne ce) ∧ W.cell? ⟨w.heap.size, 7, none⟩ = some (.slice L nl cl) ∧ W.cell? ⟨w.heap.size, 8, none⟩ = some (.int .i64 c.queue)) → Calls Tryz.prog 77 #[.agg #[.int .i64 c.hosts, .int .i64 c.cycle, .int .i64 c.delay, .int .i64 c.window, .int .i64 c.precision, .slice D nd cd, .slice E ne ce, .slice L nl cl, .int .i64 c.queue]] W fun r W' => ∃ lf, r = .returned (.func (.func 159) #[] lf) ∧ FnS W' 159 lf c.entries (rcv c) ∧ (Hid (CX w c D E L nd cd ne ce nl cl W') ∧ W'.cell? ⟨w.heap.size, 0, none⟩ = some (.int .i64 c.hosts) ∧ W'.cell? ⟨w.heap.size, 1, none⟩ = some (.int .i64 c.cycle) ∧ W'.cell? ⟨w.heap.size, 2, none⟩ = some (.int .i64 c.delay) ∧ W'.cell? ⟨w.heap.size, 3, none⟩ = some (.int .i64 c.window) ∧ W'.cell? ⟨w.heap.size, 4, none⟩ = some (.int .i64 c.precision) ∧ W'.cell? ⟨w.heap.size, 5, none⟩ = some (.slice D nd cd) ∧ W'.cell? ⟨w.heap.size, 6, none⟩ = some (.slice E ne ce) ∧ W'.cell? ⟨w.heap.size, 7, none⟩ = some (.slice L nl cl) ∧ W'.cell? ⟨w.heap.size, 8, none⟩ = some (.int .i64 c.queue)) from
    fun W hW => (forwarded_any c D E L nd cd ne ce nl cl c.entries W HM.out.he.u32).mono fun r W' ⟨lf, h1, h2, h3⟩ => ⟨lf, h1, h2, (hW.1.out.next h3).s⟩)
  have HP := Lib.hid (show ∀ W lf p, FnS W 159 lf c.entries p → (Hid (CX w c D E L nd cd ne ce nl cl W) ∧ W.cell? ⟨w.heap.size, 0, none⟩ = some (.int .i64 c.hosts) ∧ W.cell? ⟨w.heap.size, 1, none⟩ = some (.int .i64 c.cycle) ∧ W.cell? ⟨w.heap.size, 2, none⟩ = some (.int .i64 c.delay) ∧ W.cell? ⟨w.heap.size, 3, none⟩ = some (.int .i64 c.window) ∧ W.cell? ⟨w.heap.size, 4, none⟩ = some (.int .i64 c.precision) ∧ W.cell? ⟨w.heap.size, 5, none⟩ = some (.slice D nd cd) ∧ W.cell? ⟨w.heap.size, 6, none⟩ = some (.slice E ne ce) ∧ W.cell? ⟨w.heap.size, 7, none⟩ = some (.slice L nl cl) ∧ W.cell? ⟨w.heap.size, 8, none⟩ = some (.int .i64 c.queue)) → Calls Tryz.prog 75 #[.slice E ne ce, .func (.func 159) #[] lf] W fun r W' => r = .returned (.bool (prs p c.entries)) ∧ (Hid (CX w c D E L nd cd ne ce nl cl W') ∧ W'.cell? ⟨w.heap.size, 0, none⟩ = some (.int .i64 c.hosts) ∧ W'.cell? ⟨w.heap.size, 1, none⟩ = some (.int .i64 c.cycle) ∧ W'.cell? ⟨w.heap.size, 2, none⟩ = some (.int .i64 c.delay) ∧ W'.cell? ⟨w.heap.size, 3, none⟩ = some (.int .i64 c.window) ∧ W'.cell? ⟨w.heap.size, 4, none⟩ = some (.int .i64 c.precision) ∧ W'.cell? ⟨w.heap.size, 5, none⟩ = some (.slice D nd cd) ∧ W'.cell? ⟨w.heap.size, 6, none⟩ = some (.slice E ne ce) ∧ W'.cell? ⟨w.heap.size, 7, none⟩ = some (.slice L nl cl) ∧ W'.cell? ⟨w.heap.size, 8, none⟩ = some (.int .i64 c.queue)) from
    fun W lf p hF hW => (pair_any E ne ce c.entries _ lf p W (hW.1.out.mem HM.out).he HM.out.nE HM.out.mE HM.out.cE hF).mono fun r W' ⟨h1, h2⟩ => ⟨h1, (hW.1.out.next h2).s⟩)
  have HP1 := Lib.hid (fun W lf => HP.out W lf snd)
  have HP2 := Lib.hid (fun W lf => HP.out W lf (rcv c))
  clear HP
  generalize hq : chk c = q
  have HQ := Lib.hid (show q = chk c from hq.symm)
  clear hq
  unfold chk at HQ
  generalize btw c.hosts 1 6 = b1 at *
  generalize btw c.cycle 1 1073741824 = b2 at *
  generalize spansT c = b3 at *
  generalize rowsOk c = b4 at *
  generalize entOk c = b5 at *
  generalize phOk c = b6 at *
  generalize prs snd c.entries = b7 at *
  generalize prs (rcv c) c.entries = b8 at *
  generalize linkOk c = b9 at *
  generalize btw c.queue 1 64 = b10 at *
  have X := Lib.hid (CX.start (w0 := w) (c := c) (D := D) (E := E) (L := L) (nd := nd) (cd := cd) (ne := ne) (ce := ce) (nl := nl) (cl := cl))
  go_enter Tryz.func31, Tryz.ntmps31
  go_wp2_with fail
  refine (H1.out _).mono ?_
  rintro r w9 ⟨rfl, hw⟩
  obtain rfl := hw.symm
  cases b1
  · go_wp2
    go_ret
    exact ⟨by rw [HQ.out]; rfl, X.out.b⟩
  · go_wp2_with fail
    refine (H2.out _).mono ?_
    rintro r w9 ⟨rfl, hw⟩
    obtain rfl := hw.symm
    cases b2
    · go_wp2
      go_ret
      exact ⟨by rw [HQ.out]; rfl, X.out.b⟩
    · go_wp2_with fail
      refine (H3.out _ X.out).mono ?_
      rintro r w3 ⟨rfl, hx⟩
      have X := Lib.hid hx
      clear hx
      obtain ⟨-, a30, a31, a32, a33, a34, a35, a36, a37, a38⟩ := X.out.s
      cases b3
      · go_wp2
        go_ret
        exact ⟨by rw [HQ.out]; rfl, X.out.b⟩
      · go_wp2_with fail
        refine (H4.out _ X.out).mono ?_
        rintro r w4 ⟨rfl, hx⟩
        have X := Lib.hid hx
        clear hx
        obtain ⟨-, a40, a41, a42, a43, a44, a45, a46, a47, a48⟩ := X.out.s
        cases b4
        · go_wp2
          go_ret
          exact ⟨by rw [HQ.out]; rfl, X.out.b⟩
        · go_wp2_with fail
          refine (H5.out (by first | rfl | trivial) _ X.out).mono ?_
          rintro r w5 ⟨rfl, hx⟩
          have X := Lib.hid hx
          clear hx
          obtain ⟨-, a50, a51, a52, a53, a54, a55, a56, a57, a58⟩ := X.out.s
          cases b5
          · go_wp2
            go_ret
            exact ⟨by rw [HQ.out]; rfl, X.out.b⟩
          · go_wp2_with fail
            refine (H6.out _ X.out).mono ?_
            rintro r w6 ⟨rfl, hx⟩
            have X := Lib.hid hx
            clear hx
            obtain ⟨-, a60, a61, a62, a63, a64, a65, a66, a67, a68⟩ := X.out.s
            cases b6
            · go_wp2
              go_ret
              exact ⟨by rw [HQ.out]; rfl, X.out.b⟩
            · go_wp2_with fail
              refine wp_region_held_drew (S := fun W : World => Hid (CX w c D E L nd cd ne ce nl cl W) ∧ W.cell? ⟨w.heap.size, 0, none⟩ = some (.int .i64 c.hosts) ∧ W.cell? ⟨w.heap.size, 1, none⟩ = some (.int .i64 c.cycle) ∧ W.cell? ⟨w.heap.size, 2, none⟩ = some (.int .i64 c.delay) ∧ W.cell? ⟨w.heap.size, 3, none⟩ = some (.int .i64 c.window) ∧ W.cell? ⟨w.heap.size, 4, none⟩ = some (.int .i64 c.precision) ∧ W.cell? ⟨w.heap.size, 5, none⟩ = some (.slice D nd cd) ∧ W.cell? ⟨w.heap.size, 6, none⟩ = some (.slice E ne ce) ∧ W.cell? ⟨w.heap.size, 7, none⟩ = some (.slice L nl cl) ∧ W.cell? ⟨w.heap.size, 8, none⟩ = some (.int .i64 c.queue)) (by kernel_rfl) (X.out.drew.s) (fun hHeld => ?_)
              refine takeR 0 (some 30) ?_ ?_ ?_; rotate_left; (focus (intros; go_simp; (try with_reducible rfl)))
              simp only [aput, lset]
              refine takeR 1 (some 31) ?_ ?_ ?_; rotate_left; (focus (intros; go_simp; (try with_reducible rfl)))
              simp only [aput, lset]
              refine wpAnyH_ready (rs := [2]) (by kernel_rfl) (by simp) ?_
              refine AllReadyH.cons (o := ⟨(some 32), _, _, _, _, _⟩) rfl (fun K hK => ?_) AllReadyH.nil
              go_simp
              ((with_reducible refine (H7a.out (by first | rfl | trivial) (by first | rfl | trivial) _ (by assumption)).mono ?_); rintro r w9 ⟨lf, rfl, hF, hs9⟩)
              go_simp
              refine hK.out _ _ (by assumption) (fun hHeld => ?_)
              clear hK K
              refine wpAnyH_ready (rs := [3]) (by kernel_rfl) (by simp) ?_
              refine AllReadyH.cons (o := ⟨(some 33), _, _, _, _, _⟩) rfl (fun K hK => ?_) AllReadyH.nil
              go_simp
              ((with_reducible refine (HP1.out _ _ hF (by assumption)).mono ?_); rintro r w9 ⟨rfl, hs9⟩)
              go_simp
              refine hK.out _ _ (by assumption) (fun hHeld => ?_)
              clear hK K
              refine takeR 4 (some 29) ?_ ?_ ?_; rotate_left; (focus (intros; go_simp; (try with_reducible rfl)))
              simp only [aput, lset]
              refine wpAnyH_done (by kernel_rfl) ?_ _
              obtain ⟨X, a70, a71, a72, a73, a74, a75, a76, a77, a78⟩ := hHeld
              cases b7
              · go_wp2_with fail
                refine wp_region_held_drew (S := fun W : World => Hid (CX w c D E L nd cd ne ce nl cl W) ∧ W.cell? ⟨w.heap.size, 0, none⟩ = some (.int .i64 c.hosts) ∧ W.cell? ⟨w.heap.size, 1, none⟩ = some (.int .i64 c.cycle) ∧ W.cell? ⟨w.heap.size, 2, none⟩ = some (.int .i64 c.delay) ∧ W.cell? ⟨w.heap.size, 3, none⟩ = some (.int .i64 c.window) ∧ W.cell? ⟨w.heap.size, 4, none⟩ = some (.int .i64 c.precision) ∧ W.cell? ⟨w.heap.size, 5, none⟩ = some (.slice D nd cd) ∧ W.cell? ⟨w.heap.size, 6, none⟩ = some (.slice E ne ce) ∧ W.cell? ⟨w.heap.size, 7, none⟩ = some (.slice L nl cl) ∧ W.cell? ⟨w.heap.size, 8, none⟩ = some (.int .i64 c.queue)) (by kernel_rfl) (X.out.drew.s) (fun hHeld => ?_)
                refine takeR 0 (some 35) ?_ ?_ ?_; rotate_left; (focus (intros; go_simp; (try with_reducible rfl)))
                simp only [aput, lset]
                refine takeR 1 (some 36) ?_ ?_ ?_; rotate_left; (focus (intros; go_simp; (try with_reducible rfl)))
                simp only [aput, lset]
                refine takeR 2 (some 37) ?_ ?_ ?_; rotate_left; (focus (intros; go_simp; (try with_reducible rfl)))
                simp only [aput, lset]
                refine wpAnyH_ready (rs := [3]) (by kernel_rfl) (by simp) ?_
                refine AllReadyH.cons (o := ⟨(some 38), _, _, _, _, _⟩) rfl (fun K hK => ?_) AllReadyH.nil
                go_simp
                ((with_reducible refine (H8a.out _ (by assumption)).mono ?_); rintro r w9 ⟨lf, rfl, hF, hs9⟩)
                go_simp
                refine hK.out _ _ (by assumption) (fun hHeld => ?_)
                clear hK K
                refine wpAnyH_ready (rs := [4]) (by kernel_rfl) (by simp) ?_
                refine AllReadyH.cons (o := ⟨(some 39), _, _, _, _, _⟩) rfl (fun K hK => ?_) AllReadyH.nil
                go_simp
                ((with_reducible refine (HP2.out _ _ hF (by assumption)).mono ?_); rintro r w9 ⟨rfl, hs9⟩)
                go_simp
                refine hK.out _ _ (by assumption) (fun hHeld => ?_)
                clear hK K
                refine takeR 5 (some 34) ?_ ?_ ?_; rotate_left; (focus (intros; go_simp; (try with_reducible rfl)))
                simp only [aput, lset]
                refine wpAnyH_done (by kernel_rfl) ?_ _
                obtain ⟨X, a80, a81, a82, a83, a84, a85, a86, a87, a88⟩ := hHeld
                cases b8
                · go_wp2_with fail
                  refine (H9.out (by first | rfl | trivial) _ X.out).mono ?_
                  rintro r w9 ⟨rfl, hx⟩
                  have X := Lib.hid hx
                  clear hx
                  obtain ⟨-, a90, a91, a92, a93, a94, a95, a96, a97, a98⟩ := X.out.s
                  cases b9
                  · go_wp2
                    go_ret
                    exact ⟨by rw [HQ.out]; rfl, X.out.b⟩
                  · go_wp2_with fail
                    refine (H10.out _).mono ?_
                    rintro r w9 ⟨rfl, hw⟩
                    obtain rfl := hw.symm
                    cases b10
                    · go_wp2
                      go_ret
                      exact ⟨by rw [HQ.out]; rfl, X.out.b⟩
                    · go_wp2
                      go_ret
                      exact ⟨by rw [HQ.out]; rfl, X.out.b⟩
                · go_wp2
                  go_ret
                  exact ⟨by rw [HQ.out]; rfl, X.out.b⟩
              · go_wp2
                go_ret
                exact ⟨by rw [HQ.out]; rfl, X.out.b⟩
end Go.Proofs.YtmagjekmlnpfpaaGreat.ConfW


