/- The law QueueDrops: what is dropped is gone, the rest comes out as it would have; each thing is asked once, in order: for all lists of things and any bound. No condition. -/
import Derived.Test.YtniemmnmiefgeaaQueueLay
import Derived.Test.YtniemmnmiefgeaaQueueJ
import Derived.Deep.OwnRows
import Derived.Deep.Cut
namespace Go.Proofs.Ytniemmnmiefgeaa.QueueW.QueueDrops
open Go.ChangeShapes Go.WideShapes Go.ChangeAt Go.RowKit QueueW Shell
theorem RO.take {w : World} {A : Option Addr} {ops : List Op5} (h : RO w A ops) (n : Nat) : RO w A (ops.take n) := by
  intro k xs hk
  refine h k xs ?_
  rw [List.map_take, List.getElem?_take] at hk
  split at hk
  · exact hk
  · cases hk
abbrev opBox (o : Op5) : Obj := .cells #[.int .i64 o.q, .int .i64 o.t, .int .i64 o.r, .int .i64 o.d, .int .i64 o.z] 28
theorem Fam.nil {w wr : World} (b : Below w.heap.size w wr) : Fam w wr [] [] :=
  ⟨fun x hx => (by cases hx), fun x hx => (by cases hx), List.Pairwise.nil, b, fun p hp => (by cases hp)⟩
theorem Fam.free {w wr : World} {K : List (Nat × Obj)} {l : List Qd} (h : Fam w wr K l) : Fam w wr [] l := ⟨h.q, h.f, h.dj, h.b, fun p hp => (by cases hp)⟩
/-- What the first loop keeps. -/
structure P1 (W0 wr : World) (ka kb : Nat) (va vb : Value) (nb : Int) (Sb : List It) (j : Nat) (lo cnt : Int) (l : List Op5) : Prop where
  fam : Fam W0 wr [] [⟨ka, j, va, bld l j⟩, ⟨kb, nb, vb, Sb⟩]
  ky : Sb.map key = ((bld l j).filter (kpt lo)).map key
  ct : cnt = ((bld l j).length : Int) - ((bld l j).filter (kpt lo)).length
  nb0 : 0 ≤ nb
  nb1 : nb ≤ j
section
variable {W0 wr w1 : World} {ka kb : Nat} {va vb va' vb' : Value} {nb lo cnt : Int} {Sb : List It} {j : Nat} {l : List Op5} {o : Op5} {p : Nat × Obj}
theorem P1.few (h : P1 W0 wr ka kb va vb nb Sb j lo cnt l) (hj : j ≤ l.length) : Sb.length ≤ j := by
  rw [map_key_length h.ky]
  have := bld_length l j hj
  have := List.length_filter_le (kpt lo) (bld l j)
  omega
theorem P1.kept (h : P1 W0 wr ka kb va vb nb Sb j lo cnt l) (ho : l[j]? = some o) (hz : lo ≤ o.z) (hf : Fam W0 w1 [p] [⟨kb, nb + 1, vb', ins ⟨o.t, o.r, o.d, nb, .int .i64 o.z, rfl⟩ Sb⟩, ⟨ka, (j : Int) + 1, va', ins ⟨o.t, o.r, o.d, j, .int .i64 o.z, rfl⟩ (bld l j)⟩]) :
    P1 W0 w1 ka kb va' vb' (nb + 1) (ins ⟨o.t, o.r, o.d, nb, .int .i64 o.z, rfl⟩ Sb) (j + 1) lo cnt l := by
  have e : (j : Int) + 1 = ((j + 1 : Nat) : Int) := by omega
  have hk : kpt lo ⟨o.t, o.r, o.d, j, .int .i64 o.z, rfl⟩ = true := decide_eq_true hz
  have eb := bld_succ ho
  have ef : (bld l (j + 1)).filter (kpt lo) = ins ⟨o.t, o.r, o.d, j, .int .i64 o.z, rfl⟩ ((bld l j).filter (kpt lo)) := by
    rw [eb, filter_ins _ _ (bld_up l j), if_pos hk]
  rw [← eb, e] at hf
  refine ⟨hf.unbox.swap, ?_, ?_, by have := h.nb0; omega, by have := h.nb1; omega⟩
  · rw [ef, ins_key (fun y hy => (h.fam.q _ (List.mem_cons_of_mem _ List.mem_cons_self)).old y hy), ins_key (fun y hy => bld_old l j y (List.mem_filter.1 hy).1), h.ky]
    rfl
  · rw [ef, eb, ins_length, ins_length, h.ct]
    omega
theorem P1.gone (h : P1 W0 wr ka kb va vb nb Sb j lo cnt l) (ho : l[j]? = some o) (hz : ¬ lo ≤ o.z) (hf : Fam W0 w1 [p] [⟨ka, (j : Int) + 1, va', ins ⟨o.t, o.r, o.d, j, .int .i64 o.z, rfl⟩ (bld l j)⟩, ⟨kb, nb, vb, Sb⟩]) :
    P1 W0 w1 ka kb va' vb nb Sb (j + 1) lo (cnt + 1) l := by
  have e : (j : Int) + 1 = ((j + 1 : Nat) : Int) := by omega
  have hk : ¬ kpt lo ⟨o.t, o.r, o.d, j, .int .i64 o.z, rfl⟩ = true := fun h => hz (of_decide_eq_true h)
  have eb := bld_succ ho
  have ef : (bld l (j + 1)).filter (kpt lo) = (bld l j).filter (kpt lo) := by
    rw [eb, filter_ins _ _ (bld_up l j), if_neg hk]
  rw [← eb, e] at hf
  refine ⟨hf.unbox, by rw [ef]; exact h.ky, ?_, h.nb0, by have := h.nb1; omega⟩
  rw [ef, eb, ins_length, h.ct]
  omega
end
/-- How many things a queue's cells tell. -/
def qlen (k : Nat) (w : World) : Nat := match w.cell? ⟨k, 2, none⟩ with
  | some (.slice _ n _) => n
  | _ => 0
theorem qlen_eq {w : World} {k : Nat} {n : Int} {v : Value} {S : List It} (h : QSI w k 65536 n v S) : qlen k w = S.length := by
  obtain ⟨L, r, p, _⟩ := h.row
  obtain ⟨A, c, rfl⟩ := RowI.form r
  have c2 : w.cell? ⟨k, 2, none⟩ = some (.slice A L.length c) := cell_of_row w k 2 _ _ _ h.blk
  unfold qlen
  rw [c2, ← p.length_eq]
/-- What the last loop keeps. -/
structure P3 (W0 wr : World) (ka kb : Nat) (na nb : Int) (va vb : Value) (Sa Sb : List It) (x : Qd) : Prop where
  fam : Fam W0 wr [] [⟨ka, na, va, Sa⟩, ⟨kb, nb, vb, Sb⟩, x]
  ky : Sb.map key = Sa.map key
  ints : Ints Sa
set_option maxHeartbeats 20000000 in
set_option maxRecDepth 100000 in
theorem walk5 (a : Addr) (ops : List Op5) (c : Nat) (lo : Int) (w : World) (hA : RO w (some a) ops) (hc : ops.length ≤ c) (hl : ops.length ≤ 4398046511104) :
    Calls Try.prog 5 #[.slice (some a) ops.length c, .int .i64 lo] w fun e w' => e = .returned (.bool true) ∧ Below w.heap.size w w' := by
  have bw : Below w.heap.size w (w.alloc (lowBox lo)) := (Below.refl _ _).alloc (Nat.le_refl _) _
  have HA := Lib.hid (hA.below bw)
  have HBW := Lib.hid bw
  have HB0 := Lib.hid (show (w.alloc (lowBox lo)).heap[w.heap.size]? = some (lowBox lo) from heap_alloc_new w _)
  have hc' : (ops.length : Int) ≤ (c : Int) := by omega
  clear hA bw
  go_enter Try.func5, Try.ntmps5
  go_wp2_with fail
  refine (fixed_any _).mono ?_
  rintro e w1 ⟨rfl, b1⟩
  have B1 := Lib.hid b1
  clear b1
  generalize hW0 : w.alloc (lowBox lo) = W0 at *
  clear hW0
  generalize hbb : w.heap.size = bb at *
  have HBB := Lib.hid hbb
  clear hbb
  go_wp2_with fail
  obtain ⟨l, hl0, hl1, HL⟩ : ∃ l : List Op5, l.length = min ops.length 1000 ∧ l.length ≤ 1000 ∧ Hid (RO W0 (some a) l) := ⟨ops.take 1000, by rw [List.length_take]; omega, by rw [List.length_take]; omega, Lib.hid (RO.take HA.out 1000)⟩
  rw [show min (ops.length : Int) 1000 = (l.length : Int) by omega, Int.toNat_natCast]
  have l1 : (l.length : Int) ≤ 1000 := by omega
  generalize hN : l.length = N at *
  clear hl0
  refine ((Fam.nil B1.out).new).mono ?_
  rintro e w2 ⟨rfl, h2⟩
  have H2 := Lib.hid h2
  generalize w1.heap.size = ka at *
  clear h2 B1
  go_wp2_with fail
  refine (H2.out.new).mono ?_
  rintro e w3 ⟨rfl, h3⟩
  have H0 := Lib.hid (show P1 W0 w3 ka w2.heap.size (.slice none 0 0) (.slice none 0 0) 0 [] 0 lo 0 l from ⟨h3.swap, rfl, rfl, Int.le_refl _, Int.le_refl _⟩)
  generalize w2.heap.size = kb at *
  clear h3 H2
  go_wp2_with fail
  go_loopw [7, 31] (fun cv iv wr => ∃ (j : Nat) (cnt nb : Int) (va vb : Value) (Sb : List It), iv = .int .i64 j ∧ cv = .int .i64 cnt ∧ j ≤ N ∧ 0 ≤ cnt ∧ cnt ≤ j ∧ Hid (P1 W0 wr ka kb va vb nb Sb j lo cnt l)) (fun _ iv _ => N - (intOf iv).toNat)
  case atStart => exact ⟨0, 0, 0, _, _, [], rfl, rfl, Nat.zero_le _, Int.le_refl _, Int.le_refl _, H0⟩
  case round =>
    clear H0
    obtain ⟨j, cnt, nb, va, vb, Sb, rfl, rfl, hj, hc0, hc1, H⟩ := hrel
    by_cases hjl : j < N
    · obtain ⟨o, ho⟩ : ∃ o, l[j]? = some o := ⟨_, List.getElem?_eq_getElem (by omega)⟩
      obtain ⟨b, off, ea, a0, a1, a2, a3, a4⟩ := (HL.out.below H.out.fam.b).row ho
      obtain rfl : a = ⟨b, off, none⟩ := Option.some.inj ea
      have lS := bld_length l j (by omega)
      have lB := H.out.few (by omega)
      have nb0 := H.out.nb0
      have nb1 := H.out.nb1
      have KP := Lib.hid (fun (hz : lo ≤ o.z) (w1 : World) (va' vb' : Value) (p : Nat × Obj) => P1.kept (w1 := w1) (va' := va') (vb' := vb') (p := p) H.out ho hz)
      have GN := Lib.hid (fun (hz : ¬ lo ≤ o.z) (w1 : World) (va' : Value) (p : Nat × Obj) => P1.gone (w1 := w1) (va' := va') (p := p) H.out ho hz)
      have HW := H.out.fam.box (opBox o)
      obtain ⟨q, t, r, d, z⟩ := o
      dsimp only [opBox] at HW a0 a1 a2 a3 a4 KP GN
      have P := Lib.hid (HW.push t r d z (by rw [lS]; omega) (by omega))
      clear HW H ho lS
      go_wp2_with fail
      refine P.out.mono ?_
      rintro e w3 ⟨rfl, v3, h3⟩
      obtain ⟨c0, c1, c2, c3, c4⟩ := cells5 (h3.keep _ List.mem_cons_self).1
      have cl : w3.cell? ⟨bb, 0, none⟩ = some (.int .i64 lo) := cell_of_row w3 bb 0 _ _ _ ((h3.b.block bb (lt_heap HB0.out)).trans HB0.out)
      have H3 := Lib.hid h3
      clear h3 P a0 a1 a2 a3 a4
      by_cases hz : lo ≤ z
      · have P2 := Lib.hid (H3.out.swap.push t r d z (by omega) (by omega))
        clear GN
        go_wp2_with fail
        refine P2.out.mono ?_
        rintro e w4 ⟨rfl, v4, h4⟩
        have H4 := Lib.hid (KP.out hz w4 v3 v4 _ h4)
        clear h4 P2 KP
        go_wp2
        go_roundw
        case rel => exact ⟨j + 1, cnt, nb + 1, v3, v4, _, by congr 1, rfl, by omega, hc0, by omega, H4⟩
        case measure => simp only [intOf]; omega
      · have H4 := Lib.hid (GN.out (by omega) w3 v3 _ H3.out)
        clear KP GN
        go_wp2
        go_roundw
        case rel => exact ⟨j + 1, cnt + 1, nb, v3, vb, _, by congr 1, rfl, by omega, by omega, by omega, H4⟩
        case measure => simp only [intOf]; omega
    · obtain rfl : j = N := by omega
      have KY := Lib.hid H.out.ky
      have CT := Lib.hid H.out.ct
      have HNN := Lib.hid hN
      have P := Lib.hid (H.out.fam.new)
      clear H hN hjl hj
      go_wp2_with fail
      refine P.out.mono ?_
      rintro e w2 ⟨rfl, h2⟩
      have H2 := Lib.hid (show Fam W0 (w2.alloc (ptrBox wr.heap.size)) [(w2.heap.size, ptrBox wr.heap.size)] [⟨wr.heap.size, (0 : Nat), .slice none 0 0, bld l 0⟩, ⟨ka, j, va, bld l j⟩, ⟨kb, nb, vb, Sb⟩] from h2.box _)
      generalize wr.heap.size = kc at *
      clear h2 P
      go_wp2_with fail
      generalize w2.heap.size = cb at *
      go_loopw [65] (fun iv wr => ∃ (i : Nat) (vc : Value), iv = .int .i64 i ∧ i ≤ j ∧ Hid (Fam W0 wr [(cb, ptrBox kc)] [⟨kc, i, vc, bld l i⟩, ⟨ka, j, va, bld l j⟩, ⟨kb, nb, vb, Sb⟩])) (fun iv _ => j - (intOf iv).toNat)
      case atStart => exact ⟨0, _, rfl, Nat.zero_le _, H2⟩
      case round =>
        clear H2
        obtain ⟨i, vc, rfl, hi, H⟩ := hrel
        by_cases hil : i < j
        · obtain ⟨o, ho⟩ : ∃ o, l[i]? = some o := ⟨_, List.getElem?_eq_getElem (by have := HNN.out; omega)⟩
          obtain ⟨b, off, ea, a0, a1, a2, a3, a4⟩ := (HL.out.below H.out.b).row ho
          obtain rfl : a = ⟨b, off, none⟩ := Option.some.inj ea
          have lS := bld_length l i (by have := HNN.out; omega)
          have eb := bld_succ ho
          have HW := H.out.box (opBox o)
          obtain ⟨q, t, r, d, z⟩ := o
          dsimp only [opBox] at HW a0 a1 a2 a3 a4 eb
          have cc : (wr.alloc (.cells #[.int .i64 q, .int .i64 t, .int .i64 r, .int .i64 d, .int .i64 z] 28)).cell? ⟨cb, 0, none⟩ = some (.pointer (some ⟨kc, 0, none⟩)) := cell_of_row _ cb 0 _ _ _ (HW.keep (cb, ptrBox kc) (List.mem_cons_of_mem _ List.mem_cons_self)).1
          have cw : wr.cell? ⟨cb, 0, none⟩ = some (.pointer (some ⟨kc, 0, none⟩)) := cell_of_row _ cb 0 _ _ _ (H.out.keep (cb, ptrBox kc) List.mem_cons_self).1
          have P := Lib.hid (HW.push t r d z (by rw [lS]; omega) (by omega))
          have EB := Lib.hid eb
          clear HW H ho lS eb
          go_wp2_with fail
          refine P.out.mono ?_
          rintro e w3 ⟨rfl, v3, h3⟩
          have h4 := h3.unbox
          rw [← EB.out, show (i : Int) + 1 = ((i + 1 : Nat) : Int) by omega] at h4
          have H4 := Lib.hid h4
          clear h3 h4 P cc cw
          go_wp2
          go_roundw
          case rel => exact ⟨i + 1, v3, by congr 1, by omega, H4⟩
          case measure => simp only [intOf]; omega
        · obtain rfl : i = j := by omega
          have h1 := H.out.box ordBox
          have kp : ¬ cb = wr.heap.size := fun e => by have := lt_heap (H.out.keep (cb, ptrBox kc) List.mem_cons_self).1; dsimp only at this; omega
          have cw : (wr.alloc ordBox).cell? ⟨cb, 0, none⟩ = some (.pointer (some ⟨kc, 0, none⟩)) := cell_of_row _ cb 0 _ _ _ (h1.keep (cb, ptrBox kc) (List.mem_cons_of_mem _ List.mem_cons_self)).1
          have P := h1.swap.drop HB0.out (bld_fine l i) (by have := HNN.out; omega)
          rw [← CT.out] at P
          have HP := Lib.hid P
          clear H h1 P hil hi
          go_wp2_with fail
          refine (dropI_nil kc _).mono ?_
          rintro e w3 ⟨rfl, rfl⟩
          go_wp2_with fail
          refine HP.out.mono ?_
          rintro e w3 ⟨rfl, va', vc', h3⟩
          have co : w3.cell? ⟨wr.heap.size, 0, none⟩ = some (.bool true) := cell_of_row _ _ 0 _ _ _ (h3.keep _ List.mem_cons_self).1
          have cp : w3.cell? ⟨cb, 0, none⟩ = some (.pointer (some ⟨kc, 0, none⟩)) := cell_of_row _ cb 0 _ _ _ (h3.keep (cb, ptrBox kc) (List.mem_cons_of_mem _ List.mem_cons_self)).1
          have LN := Lib.hid (h3.swap.len)
          have H3 := Lib.hid (show P3 W0 w3 ka kb i nb va' vb ((bld l i).filter (kpt lo)) Sb ⟨kc, i, vc', []⟩ from ⟨Fam.free h3.swap.turn, KY.out, fun x hx => (bld_fine l i).ints x (List.mem_filter.1 hx).1⟩)
          clear h3 HP cw
          go_wp2_with fail
          refine LN.out.mono ?_
          rintro e w4 ⟨rfl, rfl⟩
          clear LN co cp
          go_wp2_with fail
          go_loopw [] (fun wr => ∃ (va vb : Value) (Sa Sb : List It), Hid (P3 W0 wr ka kb i nb va vb Sa Sb ⟨kc, i, vc', []⟩)) (fun wr => qlen kb wr)
          case atStart => exact ⟨_, _, _, _, H3⟩
          case round =>
            clear H3
            obtain ⟨va, vb, Sa, Sb, H⟩ := hrel
            match Sa, Sb, H with
            | [], [], H =>
              have LB := Lib.hid H.out.fam.swap.len
              have LA := Lib.hid H.out.fam.len
              have HB := Lib.hid H.out.fam.b
              clear H
              go_wp2_with fail
              refine LB.out.mono ?_
              rintro e w5 ⟨rfl, rfl⟩
              go_wp2_with fail
              refine LA.out.mono ?_
              rintro e w5 ⟨rfl, rfl⟩
              go_wp2
              go_ret
              exact ⟨rfl, by rw [HBB.out]; exact HBW.out.trans (HB.out.mono (Nat.le_of_lt (lt_heap HB0.out)))⟩
            | [], y :: Sb, H => exact absurd H.out.ky (by simp)
            | x :: Sa, [], H => exact absurd H.out.ky (by simp)
            | x :: Sa, y :: Sb, H =>
              have LB := Lib.hid H.out.fam.swap.len
              have PA := H.out.fam.pop
              have ky := H.out.ky
              have ix := H.out.ints x List.mem_cons_self
              have IN := Lib.hid (show Ints Sa from fun x hx => H.out.ints x (List.mem_cons_of_mem _ hx))
              have QL := Lib.hid (qlen_eq (H.out.fam.q ⟨kb, nb, vb, y :: Sb⟩ (List.mem_cons_of_mem _ List.mem_cons_self)))
              simp only [List.map_cons, List.cons.injEq] at ky
              have e1 : y.thing = x.thing := congrArg (fun p => p.2.2.2) ky.1
              have e2 : y.time = x.time := congrArg (fun p => p.1) ky.1
              have KY2 := Lib.hid ky.2
              rw [ix] at PA e1
              have HPA := Lib.hid PA
              have E1 := Lib.hid e1
              have E2 := Lib.hid e2
              have hp : (0 : Int) < ((y :: Sb).length : Int) := by simp only [List.length_cons]; omega
              generalize hls : ((y :: Sb).length : Int) = ls at *
              generalize x.num = xu at *
              generalize x.time = xt at *
              clear H PA ky ix e1 e2
              go_wp2_with fail
              refine LB.out.mono ?_
              rintro e w5 ⟨rfl, rfl⟩
              clear LB
              go_wp2_with fail
              refine HPA.out.mono ?_
              rintro e w5 ⟨rfl, va2, h5⟩
              have PB := h5.swap.pop
              rw [E1.out, E2.out] at PB
              have HPB := Lib.hid PB
              clear h5 PB HPA
              go_wp2_with fail
              refine HPB.out.mono ?_
              rintro e w6 ⟨rfl, vb2, h6⟩
              have H6 := Lib.hid (show P3 W0 w6 ka kb i nb va2 vb2 Sa Sb ⟨kc, i, vc', []⟩ from ⟨h6.swap, KY2.out, IN.out⟩)
              have QL2 := Lib.hid (qlen_eq (h6.q ⟨kb, nb, vb2, Sb⟩ List.mem_cons_self))
              clear h6 HPB
              go_wp2
              go_roundw
              case rel => exact ⟨va2, vb2, Sa, Sb, H6⟩
              case measure => rw [QL.out, QL2.out, List.length_cons]; omega
set_option maxHeartbeats 4000000 in
set_option maxRecDepth 100000 in
theorem walk0 (lo : Int) (w : World) : Calls Try.prog 5 #[.slice none 0 0, .int .i64 lo] w fun e w' => e = .returned (.bool true) ∧ Below w.heap.size w w' := by
  have bw : Below w.heap.size w (w.alloc (lowBox lo)) := (Below.refl _ _).alloc (Nat.le_refl _) _
  have HBW := Lib.hid bw
  have HB0 := Lib.hid (show (w.alloc (lowBox lo)).heap[w.heap.size]? = some (lowBox lo) from heap_alloc_new w _)
  clear bw
  go_enter Try.func5, Try.ntmps5
  go_wp2_with fail
  refine (fixed_any _).mono ?_
  rintro e w1 ⟨rfl, b1⟩
  have B1 := Lib.hid b1
  clear b1
  generalize hW0 : w.alloc (lowBox lo) = W0 at *
  clear hW0
  generalize hbb : w.heap.size = bb at *
  have HBB := Lib.hid hbb
  clear hbb
  go_wp2_with fail
  refine ((Fam.nil B1.out).new).mono ?_
  rintro e w2 ⟨rfl, h2⟩
  have H2 := Lib.hid h2
  generalize w1.heap.size = ka at *
  clear h2 B1
  go_wp2_with fail
  refine (H2.out.new).mono ?_
  rintro e w3 ⟨rfl, h3⟩
  have H0 := Lib.hid h3.swap
  generalize w2.heap.size = kb at *
  clear h3 H2
  go_wp2_with fail
  go_loopw [7, 31] (fun cv iv wr => iv = .int .i64 0 ∧ cv = .int .i64 0 ∧ Hid (Fam W0 wr [] [⟨ka, 0, .slice none 0 0, []⟩, ⟨kb, 0, .slice none 0 0, []⟩])) (fun _ _ _ => 0)
  case atStart => exact ⟨rfl, rfl, H0⟩
  case round =>
    clear H0
    obtain ⟨rfl, rfl, H⟩ := hrel
    have P := Lib.hid (H.out.new)
    clear H
    go_wp2_with fail
    refine P.out.mono ?_
    rintro e w2 ⟨rfl, h2⟩
    have H2 := Lib.hid (h2.box (ptrBox wr.heap.size))
    generalize wr.heap.size = kc at *
    clear h2 P
    go_wp2_with fail
    generalize w2.heap.size = cb at *
    go_loopw [65] (fun iv wr => iv = .int .i64 0 ∧ Hid (Fam W0 wr [(cb, ptrBox kc)] [⟨kc, 0, .slice none 0 0, []⟩, ⟨ka, 0, .slice none 0 0, []⟩, ⟨kb, 0, .slice none 0 0, []⟩])) (fun _ _ => 0)
    case atStart => exact ⟨rfl, H2⟩
    case round =>
      clear H2
      obtain ⟨rfl, H⟩ := hrel
      have h1 := H.out.box ordBox
      have kp : ¬ cb = wr.heap.size := fun e => by have := lt_heap (H.out.keep (cb, ptrBox kc) List.mem_cons_self).1; dsimp only at this; omega
      have cw : (wr.alloc ordBox).cell? ⟨cb, 0, none⟩ = some (.pointer (some ⟨kc, 0, none⟩)) := cell_of_row _ cb 0 _ _ _ (h1.keep (cb, ptrBox kc) (List.mem_cons_of_mem _ List.mem_cons_self)).1
      have P := h1.swap.drop HB0.out Fine.nil (by omega)
      rw [show ((([] : List It).length : Int) - (([] : List It).filter (kpt lo)).length) = 0 from rfl] at P
      have HP := Lib.hid P
      clear H h1 P
      go_wp2_with fail
      refine (dropI_nil kc _).mono ?_
      rintro e w3 ⟨rfl, rfl⟩
      go_wp2_with fail
      refine HP.out.mono ?_
      rintro e w3 ⟨rfl, va', vc', h3⟩
      have co : w3.cell? ⟨wr.heap.size, 0, none⟩ = some (.bool true) := cell_of_row _ _ 0 _ _ _ (h3.keep _ List.mem_cons_self).1
      have cp : w3.cell? ⟨cb, 0, none⟩ = some (.pointer (some ⟨kc, 0, none⟩)) := cell_of_row _ cb 0 _ _ _ (h3.keep (cb, ptrBox kc) (List.mem_cons_of_mem _ List.mem_cons_self)).1
      have LN := Lib.hid (h3.swap.len)
      have H3 := Lib.hid (show Fam W0 w3 [] [⟨ka, 0, va', []⟩, ⟨kb, 0, .slice none 0 0, []⟩, ⟨kc, 0, vc', []⟩] from Fam.free h3.swap.turn)
      clear h3 HP cw
      go_wp2_with fail
      refine LN.out.mono ?_
      rintro e w4 ⟨rfl, rfl⟩
      clear LN co cp
      go_wp2_with fail
      go_loopw [] (fun wr => Hid (Fam W0 wr [] [⟨ka, 0, va', []⟩, ⟨kb, 0, .slice none 0 0, []⟩, ⟨kc, 0, vc', []⟩])) (fun _ => 0)
      case atStart => exact H3
      case round =>
        clear H3
        have LB := Lib.hid hrel.out.swap.len
        have LA := Lib.hid hrel.out.len
        have HB := Lib.hid hrel.out.b
        clear hrel
        go_wp2_with fail
        refine LB.out.mono ?_
        rintro e w5 ⟨rfl, rfl⟩
        go_wp2_with fail
        refine LA.out.mono ?_
        rintro e w5 ⟨rfl, rfl⟩
        go_wp2
        go_ret
        exact ⟨rfl, by rw [HBB.out]; exact HBW.out.trans (HB.out.mono (Nat.le_of_lt (lt_heap HB0.out)))⟩
theorem walk (A : Option Addr) (ops : List (List Int)) (c : Nat) (lo : Int) (w : World) (hA : RL w [.i64, .i64, .i64, .i64, .i64] A ops) (hc : ops.length ≤ c) (hn : A = none → c = 0) (hl : ops.length ≤ 4398046511104) :
    Calls Try.prog 5 #[.slice A ops.length c, .int .i64 lo] w fun e w' => e = .returned (.bool true) ∧ Below w.heap.size w w' := by
  obtain ⟨l, rfl, h⟩ := RO.of hA
  rw [List.length_map] at hl hc ⊢
  cases A with
  | none =>
    have c0 := hn rfl
    subst c0
    obtain rfl : l = [] := List.eq_nil_of_length_eq_zero (by omega)
    exact walk0 lo w
  | some a => exact walk5 a l c lo w h hc hl
set_option maxRecDepth 100000 in
/-- What the walk gives, for every argument and every world. -/
theorem contract (H : Type) (enc : TypeId × Value → H) (W : World) (base : Nat) (args : Array Value) (ds gs : List (DataW H)) (before : List MemPlace)
    (hval : ∀ (j : Nat) t v, Try.f5.params[j]? = some t → args[j]? = some v → Value.okWide Try.prog W .any base t v)
    (hW : DataW.Whole enc Try.prog Try.f5.params.toList Rows.queueDropsSpec.vars false W args.toList ds gs before) (hz : (DataW.weightsEach Try.prog (Try.f5.params.toList ++ (OpenSpec.ofChange Rows.queueDropsSpec).bare.plain.varTypes Try.prog) (ds ++ gs)).all (· ≤ reachBytes) = true) : 
    Calls Try.prog 5 args W fun e W' => ∃ v, e = .returned v ∧ Rows.queueDropsSpec.post enc Try.prog Try.f5 false true false false W args v W' := by
  have hW' := hW
  obtain ⟨p, q, hA0, hV, rfl, hfz, hnd⟩ := hW
  have hA : DataW.TrodAll enc Try.prog W 0 (fun _ => true) true Try.f5.params.toList args.toList ds p := hA0
  rw [Try.params5] at hA hval
  obtain ⟨v0, vs0, d0, ds0, p0, q0, hargs, rfl, rfl, h0, r0⟩ := trodAll_cons hA
  obtain ⟨v1, vs1, d1, ds1, p1, q1, rfl, rfl, rfl, h1, r1⟩ := trodAll_cons r0
  obtain ⟨rfl, rfl, rfl⟩ := trodAll_nil r1
  obtain rfl : args = #[v0, v1] := by cases args; simp_all
  obtain ⟨rfl, rfl⟩ := trodVars_none hV
  obtain ⟨A0, ops, c0, rfl, f0, l0, lc0, sz0, nl0⟩ := open_rows (qs := [.i64, .i64, .i64, .i64, .i64]) Try.underlying22 Try.underlying28 (by kernel_rfl) rfl (fun i f q hf hq => by
    match i, hf, hq with
    | 0, hf, hq => simp at hf hq; subst hf; subst hq; exact ⟨rfl, by kernel_rfl, Try.underlying3⟩
    | 1, hf, hq => simp at hf hq; subst hf; subst hq; exact ⟨rfl, by kernel_rfl, Try.underlying2⟩
    | 2, hf, hq => simp at hf hq; subst hf; subst hq; exact ⟨rfl, by kernel_rfl, Try.underlying2⟩
    | 3, hf, hq => simp at hf hq; subst hf; subst hq; exact ⟨rfl, by kernel_rfl, Try.underlying2⟩
    | 4, hf, hq => simp at hf hq; subst hf; subst hq; exact ⟨rfl, by kernel_rfl, Try.underlying3⟩
    | n + 5, hf, hq => simp at hq) (hval 0 22 v0 rfl rfl) h0
  have z0 : ops.length * 40 ≤ 140737488351232 := by
    rcases sz0 with h | ⟨es, sp, hd, hl⟩
    · rw [h]; decide
    · have := sized_slice hz (j := 0) (t := 22) (e := 28) (elems := es) (spare := sp) (by rw [Try.params5]; rfl) (by rw [hd]; rfl) Try.underlying22
      rw [show Try.prog.bytesOf 28 = 40 by kernel_rfl, show reachBytes = 140737488351232 from rfl] at this
      omega
  obtain ⟨b, rfl, rfl, rfl, w1⟩ := open_int Try.underlying3 (hval 1 3 v1 rfl rfl) h1
  refine (walk A0 ops c0 b W f0 lc0 nl0 (by omega)).mono fun e W' ⟨he, hb⟩ => ?_
  exact ⟨_, he, Shell.post_law laidOut (by kernel_rfl) rfl Try.underlying4 rfl hW' rfl hb⟩
theorem reads (os : Os) {H : Type} (enc : TypeId × Value → H) : ∃ places, DataW.whole enc Try.prog ((World.holding Try.prog os ⟨#[], #[], []⟩).forCall (fun _ _ => 0) ⟨#[], #[.slice none 0 0, .int .i64 0], []⟩).memory Try.f5.params.toList Rows.queueDropsSpec.vars false (#[Value.slice none 0 0, Value.int .i64 0]).toList 8 = some ([.nil, .lit (.int .i64 0)], [], places) :=
  ⟨[], by kernel_rfl⟩
set_option maxRecDepth 100000 in
theorem lifted (os : Os) (started : os.Started) (H : Type) (enc : TypeId × Value → H) (F : Stop.Interp) :
    ReturnsInHanded {} Try.checked os 5 .any ((OpenSpec.ofChange Rows.queueDropsSpec).preRow enc Try.prog Try.f5 Rows.queueDropsRow.domain false Rows.queueDropsRow.laid) (((OpenSpec.ofChange Rows.queueDropsSpec).at F).post enc Try.prog Try.f5 false true false false) := by
  obtain ⟨places, hx⟩ := reads os enc
  refine returnsInHanded_of_row (C := Try.checked) (s := OpenSpec.ofChange Rows.queueDropsSpec) own started (by kernel_rfl) Try.func5
    (witness_row_atRef (enc := enc) (C := Try.checked) false (World.holding Try.prog os ⟨#[], #[], []⟩) #[.slice none 0 0, .int .i64 0] rfl (by kernel_rfl) (by kernel_rfl) (by kernel_rfl)
      (OpenSpec.preRow_of_cond 8 hx (by kernel_rfl) (fun k hk => by cases hk) (by kernel_rfl) (laid_met os _))) ?_
  intro W base args ds gs before hval hW _ _ hz hL _ _
  exact contract H enc W base args ds gs before hval hW hz
theorem said : Rows.QueueDropsSaid :=
  OpenClaim.holds_of_cond 5 Try.f5 rfl rfl rfl rfl rfl rfl rfl ⟨rfl, rfl, rfl, rfl, rfl⟩ rfl rfl rfl rfl rfl (by kernel_rfl) Try.func5 (by kernel_rfl)
    (of_decide_eq_true (by kernel_rfl)) (by unfold Func.isWrapper; first | (rw [if_pos (by decide +kernel)]; kernel_rfl) | (rw [if_neg (by decide +kernel)]; exact ⟨rfl, rfl⟩))
    (fun os started H enc _ F => by rw [OpenClaim.pre_eq_preRow]; exact lifted os started H enc F)
end Go.Proofs.Ytniemmnmiefgeaa.QueueW.QueueDrops
