/- tocsinlaw06.FrameKeeps. -/
import Derived.Test.YtjejljjahmbhiaaFrameR
import Derived.Test.YtjejljjahmbhiaaFrameQ
namespace Go.Proofs.Ytjejljjahmbhiaa.FrameW.FrameKeeps
open Go.ChangeShapes Go.WideShapes Go.ChangeAt Go.RowKit Shell
/-- An owned row with room, still empty, takes all that came in: nil or not. -/
theorem wpList_append_room (w : World) {ops : Array Oper} {rest : List Oper} {o : Oper} {a : Act} {Q : Exit → Act → World → Prop} (hgd : o.guard = none) (s x : Operand)
    (ho : o.op = .call { callee := .builtin .append, args := #[s, x], argTypes := #[26, 26] })
    (base g cap : Nat) (hs : a.eval s = .slice (some ⟨g, 0, none⟩) 0 cap) (hown : OB w base (.slice (some ⟨g, 0, none⟩) 0 cap) [])
    (A : Option Addr) (xs : List Int) (c : Nat) (hx : a.eval x = .slice A xs.length c) (hf : BL w A xs) (hn : A = none → c = 0) (hroom : xs.length ≤ cap)
    (h : ∀ w', OB w' base (.slice (some ⟨g, 0, none⟩) xs.length cap) xs → w.grownBy w' (some g) → wpList Try.prog ops Q rest (a.put o.dst (.slice (some ⟨g, 0, none⟩) xs.length cap)) w') :
    wpList Try.prog ops Q (o :: rest) a w := by
  obtain ⟨i0, hi, -, hz1, -⟩ := u8_info
  cases A with
  | some ad =>
    refine wpList_append_own_spare _ hgd s x 26 ho base 5 i0 1 Try.underlying26 hi hz1 g 0 cap [] hs hown.1 ad xs.length c (u8s xs) hx (by rw [u8s_len, Nat.mul_one]) (fun j u hj => by
      unfold u8s at hj
      rw [List.getElem?_map] at hj
      cases hy : xs[j]? with
      | none => rw [hy] at hj; cases hj
      | some y =>
        rw [hy] at hj
        obtain ⟨b, hb, hc, -⟩ := hf j y hy
        cases hb
        cases hj
        exact hc) u8s_one (by omega) ?_
    intro w' h1 h2
    rw [List.nil_append, Nat.zero_add] at h1
    rw [Nat.zero_add]
    exact h w' ⟨h1, hf.by⟩ h2
  | none =>
    obtain rfl := hf.nil
    have hc := hn rfl
    subst hc
    exact wpList_append_own_none hgd s x 26 ho base 5 i0 1 Try.underlying26 hi (.slice (some ⟨g, 0, none⟩) 0 cap) 0 [] hs hown.1 hx (h w hown (World.grownBy.refl w _))
theorem row_of {w : World} {base g m c : Nat} {xs : List Int} (h : OB w base (.slice (some ⟨g, 0, none⟩) m c) xs) (hm : m = xs.length) : ∃ C, w.heap[g]? = some (.cells C 5 (0, 0)) ∧ C.size = c ∧ (∀ (j : Nat) (x : Int), xs[j]? = some x → C[j]? = some (Value.int .u8 x)) ∧ base ≤ g := by
  subst hm
  obtain ⟨h1, -⟩ := h
  rcases h1.2 with ⟨h0, _⟩ | ⟨g', cap', cur, hv, hbg, hg, hnc, hcm, hcs, htake⟩
  · cases h0
  · injection hv with e1 e2 e3
    injection e1 with e1
    injection e1 with e1
    subst e1; subst e3
    refine ⟨cur, hg, by rw [hcs, Nat.mul_one], fun j x hj => ?_, hbg⟩
    have hl : j < xs.length := by
      rcases Nat.lt_or_ge j xs.length with h | h
      · exact h
      · rw [List.getElem?_eq_none h] at hj; cases hj
    have h5 : (u8s xs)[j]? = some (.int .u8 x) := by unfold u8s; rw [List.getElem?_map, hj]; rfl
    rw [← htake, List.getElem?_take_of_lt (by omega), Array.getElem?_toList] at h5
    exact h5
/-- The block holds the bytes, and a 9 behind them. -/
structure Room (w : World) (g : Nat) (xs : List Int) (C : Array Value) : Prop where
  h : w.heap[g]? = some (.cells C 5 (0, 0))
  b : ∀ (j : Nat) (x : Int), xs[j]? = some x → C[j]? = some (Value.int .u8 x)
  n : C[xs.length]? = some (Value.int .u8 9)
  y : By xs
theorem Room.bl {w : World} {g : Nat} {xs : List Int} {C : Array Value} (h : Room w g xs C) : BL w (some ⟨g, 0, none⟩) xs := by
  intro k x hk
  refine ⟨_, rfl, ?_, h.y.get hk⟩
  rw [show (⟨g, 0, none⟩ : Addr).add k = ⟨g, k, none⟩ by unfold Addr.add; split <;> simp_all, cell_of_row w g k _ _ _ h.h]
  exact h.b k x hk
theorem Room.nine {w : World} {g : Nat} {xs : List Int} {C : Array Value} (h : Room w g xs C) : w.cell? ⟨g, xs.length, none⟩ = some (.int .u8 9) := by
  rw [cell_of_row w g _ _ _ _ h.h]; exact h.n
theorem Room.below {w w' : World} {g : Nat} {xs : List Int} {C : Array Value} (h : Room w g xs C) (b : Below w.heap.size w w') : Room w' g xs C := ⟨row_below b h.h, h.b, h.n, h.y⟩
theorem Room.make {w : World} {g : Nat} {xs : List Int} {C : Array Value} (h : w.heap[g]? = some (.cells C 5 (0, 0))) (hb : ∀ (j : Nat) (x : Int), xs[j]? = some x → C[j]? = some (Value.int .u8 x)) (hs : C.size = xs.length + 6) (hy : By xs) :
    Room (w.setCell ⟨g, xs.length, none⟩ (.int .u8 9)) g xs (C.setIfInBounds xs.length (.int .u8 9)) := by
  refine ⟨heap_setCell_same w g xs.length C _ _ h, fun j x hx => ?_, ?_, hy⟩
  · have hj : j < xs.length := by
      rcases Nat.lt_or_ge j xs.length with h4 | h4
      · exact h4
      · rw [List.getElem?_eq_none h4] at hx; cases hx
    rw [Array.getElem?_setIfInBounds, if_neg (by omega)]
    exact hb j x hx
  · rw [Array.getElem?_setIfInBounds, if_pos rfl, if_pos (by omega)]
set_option maxHeartbeats 16000000 in
theorem walk (A : Option Addr) (xs : List Int) (c : Nat) (q l n : Int) (p : ByteArray) (s : Int) (w : World) (hf : BL w A xs) (_hc : xs.length ≤ c) (hn : A = none → c = 0) (hl : xs.length ≤ 140737488351232) (hp : p.size ≤ 9223372036854775807) :
    Calls Try.prog 9 #[.slice A xs.length c, DV q l n p s] w fun e w' => e = .returned (.bool true) ∧ Below w.heap.size w w' := by
  have HX := Lib.hid (show ∀ W, Calls Try.prog 11 #[] W fun e w' => e = .returned (.bool true) ∧ Below W.heap.size W w' from fixed_any)
  have HF := Lib.hid hf
  have HL := Lib.hid hl
  have HN := Lib.hid hn
  have HY := Lib.hid hf.by
  have hmk : ∀ w : World, (Instr.makeSlice 26 (.int .i64 0) (.int .i64 ((xs.length : Int) + 6))).run Try.prog w = .ok (.slice (some ⟨w.heap.size, 0, none⟩) 0 (xs.length + 6)) (w.alloc (.cells (u8s (List.replicate (xs.length + 6) 0)).toArray 5)) := fun w => by
    have := make_ob (xs.length + 6) (by omega) w
    rwa [show (((xs.length + 6 : Nat)) : Int) = (xs.length : Int) + 6 by omega] at this
  clear hf hn
  go_enter Try.func9, Try.ntmps9
  go_wp2_with fail
  have hY := heap_alloc_new w (dbox q l n p s)
  have hB := al (Below.refl w.heap.size w) (dbox q l n p s)
  have F0 := HF.out.below hB
  obtain ⟨g3, hg3⟩ : ∃ g, g = w.heap.size := ⟨_, rfl⟩
  rw [← hg3] at hY ⊢
  generalize w.alloc (dbox q l n p s) = w0 at *
  refine (HX.out _).mono ?_
  rintro e w1 ⟨rfl, b1⟩
  have Y1 := Lib.hid (row_below b1 hY)
  have F1 := Lib.hid (F0.below b1)
  have B1 := Lib.hid (show Below w.heap.size w w1 from hB.trans (b1.mono hB.size))
  have HG3 := Lib.hid hg3
  clear b1 hY hB F0 HF hg3
  have HO := Lib.hid (made_ob w1 w1.heap.size (xs.length + 6) (Nat.le_refl _) (by omega))
  go_wp2_with (at_builtin; refine wpList_append_room _ rfl _ _ rfl w1.heap.size w1.heap.size (xs.length + 6) rfl HO.out A xs c rfl (F1.out.below (al (Below.refl _ _) _)) HN.out (by omega) ?_)
  intro w2 o2 gr2
  obtain ⟨C, hC, hCs, hCb, -⟩ := row_of o2 rfl
  have hcell : w2.cell? ⟨w1.heap.size, xs.length, none⟩ = some (C[xs.length]'(by omega)) := by
    rw [cell_of_row w2 _ _ _ _ _ hC, Array.getElem?_eq_getElem (by omega)]
  have hfr := frozen_of_row w2 w1.heap.size xs.length _ _ hC
  have hb2 : Below w1.heap.size w1 w2 := (al (Below.refl w1.heap.size w1) _).trans ⟨gr2.os, gr2.tape, gr2.output, gr2.size, fun k hk => gr2.block k (by rw [World.size_alloc]; omega) (fun e => by cases e; omega)⟩
  have RM := Room.make hC hCb hCs HY.out
  have hb3 : Below w1.heap.size w1 (w2.setCell ⟨w1.heap.size, xs.length, none⟩ (.int .u8 9)) := hb2.setCell (Nat.le_refl _) _
  generalize C[xs.length]'(by omega) = u0 at hcell
  generalize C.setIfInBounds xs.length (.int .u8 9) = C3 at RM
  have YB := Lib.hid (row_below hb3 Y1.out)
  have FB := Lib.hid (F1.out.below hb3)
  have BB := Lib.hid (B1.out.trans (hb3.mono B1.out.size))
  have RMH := Lib.hid RM
  have lI : (xs.length : Int) + 6 ≤ 140737488351238 := by omega
  obtain ⟨G, hG⟩ : ∃ G, G = w1.heap.size := ⟨_, rfl⟩
  rw [← hG] at hcell hfr RMH YB FB BB ⊢
  clear o2 gr2 hC hCs hCb hb2 RM hb3 hmk HO hG Y1 F1 B1
  go_wp2_with fail
  generalize hw3 : w2.setCell ⟨G, xs.length, none⟩ (.int .u8 9) = w3 at *
  clear hw3 hcell hfr
  have HSM := Lib.hid (sum_any (some ⟨G, 0, none⟩) (xs.length + 6) xs w3 RMH.out.bl (by have := HL.out; omega))
  refine HSM.out.mono ?_
  rintro e w4 ⟨rfl, hw⟩
  obtain rfl := hw.symm
  clear HSM
  go_wp2_with fail
  refine (readControl_any (some ⟨G, 0, none⟩) (xs.length + 6) xs w3 RMH.out.bl (by have := HL.out; omega) (by omega)).mono ?_
  rintro e w4 ⟨rfl, b4⟩
  have Y4 := Lib.hid (row_below b4 YB.out)
  have F4 := Lib.hid (FB.out.below b4)
  have R4 := Lib.hid (RMH.out.below b4)
  have B4 := Lib.hid (BB.out.trans (b4.mono BB.out.size))
  clear b4 YB FB RMH BB
  go_wp2_with fail
  refine (readData_any (some ⟨G, 0, none⟩) (xs.length + 6) xs w4 R4.out.bl (by have := HL.out; omega) (by omega)).mono ?_
  rintro e w5 ⟨rfl, b5⟩
  have Y5 := Lib.hid (row_below b5 Y4.out)
  have F5 := Lib.hid (F4.out.below b5)
  have R5 := Lib.hid (R4.out.below b5)
  have B5 := Lib.hid (B4.out.trans (b5.mono B4.out.size))
  clear b5 Y4 F4 R4 B4
  go_wp2_with fail
  refine (which_any (some ⟨G, 0, none⟩) (xs.length + 6) xs w5 R5.out.bl (by have := HL.out; omega) (by omega)).mono ?_
  rintro e w6 ⟨rfl, hw⟩
  obtain rfl := hw.symm
  obtain ⟨c0, c1, c2, c3, c4⟩ := cells5 Y5.out
  go_wp2_with fail
  clear c0 c1 c2 c3 c4
  obtain ⟨L, hL⟩ : ∃ L, L = xs.length := ⟨_, rfl⟩
  rw [← hL] at lI ⊢
  have HLL := Lib.hid hL
  clear hL
  have hgC := guardD
  by_cases hD : rightD q l n (bs p) s
  · have HD := Lib.hid hD
    refine (data_ok q l n p s w5 hD).mono ?_
    rintro e w6 ⟨v6, rfl, o6, b6⟩
    obtain ⟨A6, m6, d6, rfl, hm6, -, -⟩ := o6.form2
    obtain ⟨g6, rfl, -, hg6⟩ := o6.addr (by rw [dat_len hD]; have := hD.2.2.2.2.2.1; omega)
    have m641 : m6 ≤ 1518 := by rw [hm6, dat_len hD]; have := hD.2.2.2.2.2; omega
    have mi1 : (m6 : Int) ≤ 1518 := by omega
    have O6 := Lib.hid (show ∃ ys : List Int, m6 = ys.length ∧ OB w6 w5.heap.size (.slice (some ⟨g6, 0, none⟩) m6 d6) ys from ⟨_, hm6, o6⟩)
    have B6 := Lib.hid b6
    have HG6 := Lib.hid hg6
    clear o6 b6 hm6 hg6 hD m641
    go_wp2_with fail
    go_loopw [44] (fun iv wr => ∃ k : Nat, k ≤ m6 ∧ iv = .int .i64 k ∧ Hid (∃ ys : List Int, m6 = ys.length ∧ OB wr w5.heap.size (.slice (some ⟨g6, 0, none⟩) m6 d6) ys) ∧ Hid (Below w5.heap.size w5 wr)) (fun iv _ => m6 - (intOf iv).toNat)
    case atStart => exact ⟨0, Nat.zero_le _, rfl, O6, B6⟩
    case round =>
      obtain ⟨k, hk, rfl, HOY, HBW⟩ := hrel
      by_cases hlt : k < m6
      · obtain ⟨ys, hys, oy⟩ := HOY.out
        obtain ⟨x, hx⟩ : ∃ x, ys[k]? = some x := ⟨_, List.getElem?_eq_getElem (by omega)⟩
        obtain ⟨hcell, hfr⟩ := oy.cell hys hx
        have HO2 := Lib.hid (show ∃ zs : List Int, m6 = zs.length ∧ OB (wr.setCell ⟨g6, k, none⟩ (.int .u8 0)) w5.heap.size (.slice (some ⟨g6, 0, none⟩) m6 d6) zs from ⟨ys.set k 0, by rw [List.length_set]; exact hys, oy.store hys k ⟨by decide, by decide⟩⟩)
        have HB2 := Lib.hid (show Below w5.heap.size w5 (wr.setCell ⟨g6, k, none⟩ (.int .u8 0)) from HBW.out.setCell HG6.out _)
        clear hys oy hx
        go_wp2
        go_roundw
        case rel => exact ⟨k + 1, by omega, by go_num, HO2, HB2⟩
        case measure => simp [intOf]; omega
      · obtain rfl : k = m6 := by omega
        have Y7 := Lib.hid (row_below HBW.out Y5.out)
        have F7 := Lib.hid (F5.out.below HBW.out)
        have R7 := Lib.hid (R5.out.below HBW.out)
        have B7 := Lib.hid (B5.out.trans (HBW.out.mono B5.out.size))
        clear HOY HBW O6 B6 HG6 Y5 F5 R5 B5
        obtain ⟨c0, c1, c2, c3, c4⟩ := cells5 Y7.out
        go_wp2_with fail
        refine (data_ok q l n p s wr HD.out).mono ?_
        rintro e w8 ⟨v8, rfl, o8, b8⟩
        obtain ⟨A8, m8, d8, rfl, hm8, -, -⟩ := o8.form2
        have Y8 := Lib.hid (row_below b8 Y7.out)
        have F8 := Lib.hid (F7.out.below b8)
        have R8 := Lib.hid (R7.out.below b8)
        have B8 := Lib.hid (B7.out.trans (b8.mono B7.out.size))
        have O8 := Lib.hid o8
        clear o8 b8 hm8 c0 c1 c2 c3 c4 Y7 F7 R7 B7
        obtain ⟨c0, c1, c2, c3, c4⟩ := cells5 Y8.out
        have hn9 : w8.cell? ⟨G, L, none⟩ = some (.int .u8 9) := by rw [HLL.out]; exact R8.out.nine
        have K8 := Lib.hid (And.intro c0 (And.intro c1 (And.intro c2 (And.intro c3 (And.intro c4 hn9)))))
        have HV := Lib.hid (fun W => refData_ok q l n p s W HD.out)
        obtain ⟨S, hS⟩ : ∃ S, S = strOfNums xs := ⟨_, rfl⟩
        obtain ⟨T, hT⟩ : ∃ T, T = strOfNums (dat q l n (bs p) s) := ⟨_, rfl⟩
        have HS := Lib.hid hS
        have HT := Lib.hid hT
        have v1 : (convert 26 9 (.slice (some ⟨G, 0, none⟩) L (L + 6))).run Try.prog w8.drew = .ok (.string S) w8.drew := by rw [hS]; exact conv_str (show BL w8.drew _ xs from R8.out.bl) HLL.out
        have v2 : (convert 26 9 (.slice A L c)).run Try.prog w8.drew = .ok (.string S) w8.drew := by rw [hS]; exact conv_str (show BL w8.drew _ xs from F8.out) HLL.out
        have v3 : (convert 26 9 (.slice A8 m8 d8)).run Try.prog w8.drew = .ok (.string T) w8.drew := by rw [hT]; exact conv_row (show OB w8.drew _ _ _ from O8.out)
        clear hS hT hn9 lI
        have i1 : (L : Int) < (L : Int) + 6 := by omega
        have i2 : (L : Int) < ((L + 6 : Nat) : Int) := by omega
        have i3 : L < L + 6 := by omega
        go_wp2_with fail
        go_region_held (fun w' => w'.cell? ⟨g3, 0, none⟩ = some (.int .i64 q) ∧ w'.cell? ⟨g3, 1, none⟩ = some (.int .i64 l) ∧ w'.cell? ⟨g3, 2, none⟩ = some (.int .i64 n) ∧ w'.cell? ⟨g3, 3, none⟩ = some (.string p) ∧ w'.cell? ⟨g3, 4, none⟩ = some (.int .i64 s) ∧ w'.cell? ⟨G, L, none⟩ = some (.int .u8 9)) (first | exact K8.out | exact K9.out) (first
          | (go_at_call 20; (with_reducible refine (HV.out _).mono ?_); rintro e w9 ⟨v9, rfl, o9, b9⟩; obtain ⟨A9, m9, d9, rfl, hm9, -, -⟩ := o9.form2; have v4 := conv_row o9; rw [← HT.out] at v4; have Y9 := Lib.hid (row_below b9 (show w8.drew.heap[g3]? = _ from Y8.out)); have R9 := Lib.hid (Room.below (w := w8.drew) ⟨R8.out.h, R8.out.b, R8.out.n, R8.out.y⟩ b9); have F9 := Lib.hid (BL.below (w := w8.drew) F8.out b9); have O9 := Lib.hid (OB.below (w := w8.drew) O8.out b9); have v5 := conv_row O9.out; rw [← HT.out] at v5; have v6 := conv_str (c := L + 6) R9.out.bl HLL.out; rw [← HS.out] at v6; have v7 := conv_str (c := c) F9.out HLL.out; rw [← HS.out] at v7; obtain ⟨a0, a1, a2, a3, a4⟩ := cells5 Y9.out; have n9 : w9.cell? ⟨G, L, none⟩ = some (.int .u8 9) := (by rw [HLL.out]; exact R9.out.nine); have K9 := Lib.hid (And.intro a0 (And.intro a1 (And.intro a2 (And.intro a3 (And.intro a4 n9))))); have B9 := Lib.hid (B8.out.trans ((of_drew b9).mono B8.out.size)); clear o9 b9 hm9 a0 a1 a2 a3 a4 n9))
        all_goals
          go_wp2
          go_ret
          exact ⟨rfl, B9.out⟩
  · have HD := Lib.hid (fun W => data_bad q l n p s W hD hp)
    refine (HD.out _).mono ?_
    rintro e w6 ⟨rfl, b6⟩
    have Y6 := Lib.hid (row_below b6 Y5.out)
    have F6 := Lib.hid (F5.out.below b6)
    have R6 := Lib.hid (R5.out.below b6)
    have B6 := Lib.hid (B5.out.trans (b6.mono B5.out.size))
    clear b6 hD Y5 F5 R5 B5
    go_wp2_with fail
    go_loopw [44] (fun iv wr => iv = .int .i64 0 ∧ wr = w6) (fun _ _ => 0)
    case atStart => exact ⟨rfl, rfl⟩
    case round =>
      obtain ⟨rfl, rfl⟩ := hrel
      obtain ⟨c0, c1, c2, c3, c4⟩ := cells5 Y6.out
      go_wp2_with fail
      refine (HD.out _).mono ?_
      rintro e w7 ⟨rfl, b7⟩
      have F7 := Lib.hid (F6.out.below b7)
      have R7 := Lib.hid (R6.out.below b7)
      have B7 := Lib.hid (B6.out.trans (b7.mono B6.out.size))
      have Y7 := Lib.hid (row_below b7 Y6.out)
      clear b7 c0 c1 c2 c3 c4
      obtain ⟨c0, c1, c2, c3, c4⟩ := cells5 Y7.out
      have hn9 : w7.cell? ⟨G, L, none⟩ = some (.int .u8 9) := by rw [HLL.out]; exact R7.out.nine
      have z0 : w7.drew.cell? ⟨g3, 0, none⟩ = some (.int .i64 q) := c0
      have z1 : w7.drew.cell? ⟨g3, 1, none⟩ = some (.int .i64 l) := c1
      have z2 : w7.drew.cell? ⟨g3, 2, none⟩ = some (.int .i64 n) := c2
      have z3 : w7.drew.cell? ⟨g3, 3, none⟩ = some (.string p) := c3
      have z4 : w7.drew.cell? ⟨g3, 4, none⟩ = some (.int .i64 s) := c4
      have z5 : w7.drew.cell? ⟨G, L, none⟩ = some (.int .u8 9) := hn9
      obtain ⟨S, hS⟩ : ∃ S, S = strOfNums xs := ⟨_, rfl⟩
      have v1 : (convert 26 9 (.slice (some ⟨G, 0, none⟩) L (L + 6))).run Try.prog w7.drew = .ok (.string S) w7.drew := by rw [hS]; exact conv_str (show BL w7.drew _ xs from R7.out.bl) HLL.out
      have v2 : (convert 26 9 (.slice A L c)).run Try.prog w7.drew = .ok (.string S) w7.drew := by rw [hS]; exact conv_str (show BL w7.drew _ xs from F7.out) HLL.out
      clear hS hn9 lI
      have i1 : (L : Int) < (L : Int) + 6 := by omega
      have i2 : (L : Int) < ((L + 6 : Nat) : Int) := by omega
      have i3 : L < L + 6 := by omega
      go_wp2_with fail
      go_region
      all_goals
        go_wp2
        go_ret
        exact ⟨rfl, B7.out.drew⟩
set_option maxRecDepth 100000 in
/-- What the walk gives, for every argument and every world. -/
theorem contract (H : Type) (enc : TypeId × Value → H) (W : World) (base : Nat) (args : Array Value) (ds gs : List (DataW H)) (before : List MemPlace)
    (hval : ∀ (j : Nat) t v, Try.f9.params[j]? = some t → args[j]? = some v → Value.okWide Try.prog W .any base t v)
    (hW : DataW.Whole enc Try.prog Try.f9.params.toList Rows.frameKeepsSpec.vars false W args.toList ds gs before) (hz : (DataW.weightsEach Try.prog (Try.f9.params.toList ++ (OpenSpec.ofChange Rows.frameKeepsSpec).bare.plain.varTypes Try.prog) (ds ++ gs)).all (· ≤ reachBytes) = true) : 
    Calls Try.prog 9 args W fun e W' => ∃ v, e = .returned v ∧ Rows.frameKeepsSpec.post enc Try.prog Try.f9 false true false false W args v W' := by
  have hW' := hW
  obtain ⟨p, q, hA0, hV, rfl, hfz, hnd⟩ := hW
  have hA : DataW.TrodAll enc Try.prog W 0 (fun _ => true) true Try.f9.params.toList args.toList ds p := hA0
  rw [Try.params9] at hA hval
  obtain ⟨v0, vs0, d0, ds0, p0, q0, hargs, rfl, rfl, h0, r0⟩ := trodAll_cons hA
  obtain ⟨v1, vs1, d1, ds1, p1, q1, rfl, rfl, rfl, h1, r1⟩ := trodAll_cons r0
  obtain ⟨rfl, rfl, rfl⟩ := trodAll_nil r1
  obtain rfl : args = #[v0, v1] := by cases args; simp_all
  obtain ⟨rfl, rfl⟩ := trodVars_none hV
  obtain ⟨A0, b, c0, rfl, f0, l0, lc0, sz0, nl0⟩ := open_bytes (hval 0 26 v0 rfl rfl) h0
  have z0 : b.length * 1 ≤ 140737488351232 := by
    rcases sz0 with h | ⟨es, sp, hd, hl⟩
    · rw [h]; decide
    · have := sized_slice hz (j := 0) (t := 26) (e := 5) (elems := es) (spare := sp) (by rw [Try.params9]; rfl) (by rw [hd]; rfl) Try.underlying26
      rw [show Try.prog.bytesOf 5 = 1 by kernel_rfl, show reachBytes = 140737488351232 from rfl] at this
      omega
  obtain ⟨q1, l1, n1, s1, u1, rfl, hs1⟩ := open_dat (hval 1 36 v1 rfl rfl) h1
  refine (walk A0 b c0 q1 l1 n1 s1 u1 W f0 lc0 nl0 (by omega) hs1).mono fun e W' ⟨he, hb⟩ => ?_
  exact ⟨_, he, Shell.post_law laidOut (by kernel_rfl) rfl Try.underlying4 rfl hW' rfl hb⟩
theorem reads (os : Os) {H : Type} (enc : TypeId × Value → H) : ∃ places, DataW.whole enc Try.prog ((World.holding Try.prog os ⟨#[], #[], []⟩).forCall (fun _ _ => 0) ⟨#[], #[.slice none 0 0, .agg #[.int .i64 0, .int .i64 0, .int .i64 0, .string ⟨#[]⟩, .int .i64 0]], []⟩).memory Try.f9.params.toList Rows.frameKeepsSpec.vars false (#[Value.slice none 0 0, Value.agg #[.int .i64 0, .int .i64 0, .int .i64 0, .string ⟨#[]⟩, .int .i64 0]]).toList 8 = some ([.nil, .agg [.lit (.int .i64 0), .lit (.int .i64 0), .lit (.int .i64 0), .lit (.string []), .lit (.int .i64 0)]], [], places) :=
  ⟨[], by kernel_rfl⟩
set_option maxRecDepth 100000 in
theorem lifted (os : Os) (started : os.Started) (H : Type) (enc : TypeId × Value → H) (F : Stop.Interp) :
    ReturnsInHanded {} Try.checked os 9 .any ((OpenSpec.ofChange Rows.frameKeepsSpec).preRow enc Try.prog Try.f9 Rows.frameKeepsRow.domain false Rows.frameKeepsRow.laid) (((OpenSpec.ofChange Rows.frameKeepsSpec).at F).post enc Try.prog Try.f9 false true false false) := by
  obtain ⟨places, hx⟩ := reads os enc
  refine returnsInHanded_of_row (C := Try.checked) (s := OpenSpec.ofChange Rows.frameKeepsSpec) own started (by kernel_rfl) Try.func9
    (witness_row_atRef (enc := enc) (C := Try.checked) false (World.holding Try.prog os ⟨#[], #[], []⟩) #[.slice none 0 0, .agg #[.int .i64 0, .int .i64 0, .int .i64 0, .string ⟨#[]⟩, .int .i64 0]] rfl (by kernel_rfl) (by kernel_rfl) (by kernel_rfl)
      (OpenSpec.preRow_of_cond 8 hx (by kernel_rfl) (fun k hk => by cases hk) (by kernel_rfl) (laid_met os _))) ?_
  intro W base args ds gs before hval hW _ _ hz hL _ _
  exact contract H enc W base args ds gs before hval hW hz
theorem said : Rows.FrameKeepsSaid :=
  OpenClaim.holds_of_cond 9 Try.f9 rfl rfl rfl rfl rfl rfl rfl ⟨rfl, rfl, rfl, rfl, rfl⟩ rfl rfl rfl rfl rfl (by kernel_rfl) Try.func9 (by kernel_rfl)
    (of_decide_eq_true (by kernel_rfl)) (by unfold Func.isWrapper; first | (rw [if_pos (by decide +kernel)]; kernel_rfl) | (rw [if_neg (by decide +kernel)]; exact ⟨rfl, rfl⟩))
    (fun os started H enc _ F => by rw [OpenClaim.pre_eq_preRow]; exact lifted os started H enc F)
end Go.Proofs.Ytjejljjahmbhiaa.FrameW.FrameKeeps
