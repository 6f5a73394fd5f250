/- The law QueuePlays: every answer of every script of a queue is as the document says: for any greatest number and all scripts. No condition. -/
import Derived.Test.YtniemmnmiefgeaaQueueLay
import Derived.Test.YtniemmnmiefgeaaQueueRe
namespace Go.Proofs.Ytniemmnmiefgeaa.QueueW.QueuePlays
open Go.ChangeShapes Go.WideShapes Go.ChangeAt Go.RowKit QueueW Shell
abbrev opBox (o : Op5) : Obj := .cells #[.int .i64 o.q, .int .i64 o.t, .int .i64 o.r, .int .i64 o.d, .int .i64 o.z] 28
abbrev toldBox : Obj := .cells #[.int .i64 0, .int .i64 0, .bool false, .int .i64 0] 30
theorem below_of {w w1 : World} {base : Nat} (c : Chg (fun j => base ≤ j) w w1) (hb : base ≤ w.heap.size) : Below base w w1 := c.below (fun j hj e => by omega) hb
theorem keep4 {w w1 : World} {g o : Nat} {u0 u1 u2 u3 : Value} (h : w.cell? ⟨g, o, none⟩ = some u0 ∧ w.cell? ⟨g, o + 1, none⟩ = some u1 ∧ w.cell? ⟨g, o + 2, none⟩ = some u2 ∧ w.cell? ⟨g, o + 3, none⟩ = some u3) (b : Below w.heap.size w w1) :
    w1.cell? ⟨g, o, none⟩ = some u0 ∧ w1.cell? ⟨g, o + 1, none⟩ = some u1 ∧ w1.cell? ⟨g, o + 2, none⟩ = some u2 ∧ w1.cell? ⟨g, o + 3, none⟩ = some u3 := ⟨cell_keep h.1 b, cell_keep h.2.1 b, cell_keep h.2.2.1 b, cell_keep h.2.2.2 b⟩
/-- What lies in memory at a call: the call, its answer, what was got. -/
structure Mem (wr w1 : World) (g j : Nat) (o : Op5) (D : Td) : Prop where
  op : w1.heap[wr.heap.size]? = some (opBox o)
  told : w1.heap[wr.heap.size + 1]? = some toldBox
  got : w1.cell? ⟨g, j * 4, none⟩ = some (.int .i64 D.th) ∧ w1.cell? ⟨g, j * 4 + 1, none⟩ = some (.int .i64 D.ti) ∧ w1.cell? ⟨g, j * 4 + 2, none⟩ = some (.bool D.ok) ∧ w1.cell? ⟨g, j * 4 + 3, none⟩ = some (.int .i64 D.nn)
theorem Mem.start {wr : World} {g j : Nat} {o : Op5} {D : Td} (hg : wr.cell? ⟨g, j * 4, none⟩ = some (.int .i64 D.th) ∧ wr.cell? ⟨g, j * 4 + 1, none⟩ = some (.int .i64 D.ti) ∧ wr.cell? ⟨g, j * 4 + 2, none⟩ = some (.bool D.ok) ∧ wr.cell? ⟨g, j * 4 + 3, none⟩ = some (.int .i64 D.nn)) : Mem wr ((wr.alloc (opBox o)).alloc toldBox) g j o D := by
  have b : Below wr.heap.size wr ((wr.alloc (opBox o)).alloc toldBox) := alC (alC (Below.refl _ _) _) _
  refine ⟨?_, ?_, cell_keep hg.1 b, cell_keep hg.2.1 b, cell_keep hg.2.2.1 b, cell_keep hg.2.2.2 b⟩
  · exact (heap_alloc_old _ _ (by simp)).trans (heap_alloc_new _ _)
  · exact heap_at (by simp) _
theorem Mem.chg {wr w1 w2 : World} {g j : Nat} {o : Op5} {D : Td} {X : Nat → Prop} (h : Mem wr w1 g j o D) (c : Chg X w1 w2) (h0 : ¬ X wr.heap.size) (h1 : ¬ X (wr.heap.size + 1)) (hg : ¬ X g) : Mem wr w2 g j o D :=
  ⟨c.heap h.op h0, c.heap h.told h1, c.cell h.got.1 hg, c.cell h.got.2.1 hg, c.cell h.got.2.2.1 hg, c.cell h.got.2.2.2 hg⟩
theorem two {wr : World} (a b : Obj) : Chg (fun j => wr.heap.size ≤ j) wr ((wr.alloc a).alloc b) := ((Chg.refl _ _).alloc _).alloc _
set_option maxHeartbeats 20000000 in
set_option maxRecDepth 100000 in
theorem walk5 (m : Int) (A : Option Addr) (ops : List Op5) (c : Nat) (w : World) (hA : RO w A ops) (hl : ops.length ≤ 4398046511104) :
    Calls Try.prog 3 #[.int .i64 m, .slice A ops.length c] w fun e w' => e = .returned (.bool true) ∧ Below w.heap.size w w' := by
  have HA := Lib.hid hA
  clear hA
  go_enter Try.func3, Try.ntmps3
  go_wp2_with fail
  refine (fixed_any _).mono ?_
  rintro e w1 ⟨rfl, b1⟩
  have HA1 := Lib.hid (HA.out.below b1)
  have B1 := Lib.hid b1
  clear b1 HA
  go_wp2_with fail
  refine (playsI_any m A ops c w1 HA1.out hl (fun o _ => playC_any o)).mono ?_
  rintro e w2 ⟨g, rfl, t2, b2, -⟩
  have HA2 := Lib.hid (HA1.out.below b2)
  have HT := Lib.hid t2
  have hg2 : g < w2.heap.size := lt_heap t2
  have MA := Lib.hid (fun w => most_any m w)
  have hm2 : most m ≤ 65536 ∧ 0 ≤ most m := by unfold most; repeat' split <;> omega
  have B2 := Lib.hid (B1.out.trans (b2.mono B1.out.size))
  generalize most m = mm at *
  have H0 := Lib.hid (show PP w2 w2 w2.heap.size mm 0 (.slice none 0 0) [] 0 ops (answers mm 0 [] ops) from
    ⟨Or.inl ⟨rfl, rfl⟩, Fine.nil, List.Pairwise.nil, fun x hx => (by cases hx), hm2.2, Int.le_refl _, rfl, Below.refl _ _⟩)
  generalize answers mm 0 [] ops = AS at *
  have HG2 := Lib.hid hg2
  clear t2 b2 HA1 B1 hg2
  go_wp2_with fail
  go_loopw [6, 23] (fun lv iv wr => ∃ (j : Nat) (n : Int) (v : Value) (S : List It), v = lv ∧ iv = .int .i64 j ∧ j ≤ ops.length ∧ Hid (PP w2 wr w2.heap.size mm n v S j ops AS)) (fun _ iv _ => ops.length - (intOf iv).toNat)
  case atStart => exact ⟨0, 0, _, [], rfl, rfl, Nat.zero_le _, H0⟩
  case round =>
    clear H0
    obtain ⟨j, n, v, S, rfl, rfl, hj, H⟩ := hrel
    by_cases hjl : j < ops.length
    · obtain ⟨o, ho⟩ : ∃ o, ops[j]? = some o := ⟨_, List.getElem?_eq_getElem hjl⟩
      obtain ⟨b, off, rfl, a0, a1, a2, a3, a4⟩ := (HA2.out.below H.out.b).row ho
      have hT : TR wr g AS := (H.out.b.block g HG2.out).trans HT.out
      have G0 := hT.cells (H.out.got ho).1
      have M0 := Mem.start (o := o) G0
      have GK := fun ob : Obj => (keep4 G0 (alC (alC (Below.refl wr.heap.size wr) (opBox o)) ob))
      have bs : w2.heap.size ≤ wr.heap.size := H.out.b.size
      have NX := Lib.hid (fun (w1 : World) (v1 : Value) (S1 : List It) (n1 : Int) (e1 : o.S mm n S = S1) (e2 : nxtN mm n S o.q = n1) (l1 : LS w1 w2.heap.size v1 (S1.map ri)) (c1 : Chg (fun j => w2.heap.size ≤ j) wr w1) => (show PP w2 w1 w2.heap.size mm n1 v1 S1 (j + 1) ops AS by rw [← e2, ← e1]; rw [← e1] at l1; exact H.out.next ho l1 (below_of c1 bs)))
      have OWN := Lib.hid (H.out.ls.lt)
      have L0 := Lib.hid (H.out.ls.below (w1 := (wr.alloc (opBox o)).alloc toldBox) (alC (alC (Below.refl _ _) _) _))
      have L1 := Lib.hid H.out.ls
      have UP := Lib.hid (sorted_ri H.out.up)
      have OLD := Lib.hid H.out.old
      have few := H.out.few
      obtain ⟨A1, c1, hv⟩ := H.out.ls.form
      rw [List.length_map] at hv
      subst hv
      obtain ⟨q, t, r, d, z⟩ := o
      dsimp only [opBox, toldBox] at a0 a1 a2 a3 a4 G0 GK M0 L0 NX
      have gb : ¬ wr.heap.size + 1 = g := by have := HG2.out; omega
      have gb' : ¬ g = wr.heap.size + 1 := by omega
      have gc : ¬ wr.heap.size = g := by have := HG2.out; omega
      have gc' : ¬ g = wr.heap.size := by omega
      have gT := guardT
      have nT := neq_told
      have BS := Lib.hid bs
      clear H ho hT
      by_cases hq : q = 1
      · subst hq
        by_cases hs : (S.length : Int) < mm
        · have eD : ansD mm S 1 z = ⟨0, 0, true, 0⟩ := by simp [ansD, hs]
          rw [eD] at M0
          have P := Lib.hid (put_any ⟨t, r, d, z⟩ (S.map ri) (.slice A1 S.length c1) w2.heap.size _ L0.out (by have := BS.out; simp; omega) UP.out (by rw [List.length_map]; omega))
          have HM0 := Lib.hid M0
          have EQ1 := Lib.hid (show (⟨1, t, r, d, z⟩ : Op5).S mm n S = ins ⟨t, r, d, n, .int .i64 z, rfl⟩ S by simp [Op5.S, nxtS, hs])
          have EQ2 := Lib.hid (show nxtN mm n S 1 = n + 1 by simp [nxtN, hs])
          dsimp only [Ri.v] at P
          clear M0 eD G0 GK
          go_wp2_with fail
          refine (MA.out _).mono ?_
          rintro e w3 ⟨rfl, rfl⟩
          go_wp2_with fail
          refine P.out.mono ?_
          rintro e w3 ⟨v1, rfl, l1, p1, g1⟩
          obtain ⟨A3, c3, hv3⟩ := l1.form
          subst hv3
          have M3 := HM0.out.chg g1 (fun e => by have := (OWN.out _ e).2; omega) (fun e => by have := (OWN.out _ e).2; omega) (fun e => by have := (OWN.out _ e).1; have := HG2.out; omega)
          obtain ⟨o0, o1, o2, o3, o4⟩ := cells5 M3.op
          obtain ⟨e0, e1, e2, e3⟩ := cells4 M3.told
          obtain ⟨f0, f1, f2, f3⟩ := frozen4 M3.told
          obtain ⟨d0, d1, d2, d3⟩ := M3.got
          dsimp only at d0 d1 d2 d3
          have HL1 := Lib.hid l1
          have HP1 := Lib.hid p1
          have HG1 := Lib.hid g1
          clear P M3 l1 p1 g1 a0 a1 a2 a3 a4
          go_wp2_with fail
          go_region
          go_wp2
          go_roundw
          case rel =>
            have lt1 : ((S.map ri).length : Nat) = S.length := List.length_map _
            have cs : Chg (fun j => j = wr.heap.size + 1) w3 (w3.setCell ⟨wr.heap.size + 1, 2, none⟩ (.bool true)) := (Chg.refl (fun j => j = wr.heap.size + 1) w3).setCell (p := ⟨wr.heap.size + 1, 2, none⟩) rfl _
            have li := HL1.out.chg cs.drew (fun j hj e => by
              rcases HP1.out j hj with e1 | e1
              · have := (OWN.out _ e1).2; omega
              · simp at e1; omega)
            refine ⟨j + 1, n + 1, _, _, rfl, by congr 1, by omega, Lib.hid (NX.out _ _ _ _ EQ1.out EQ2.out ?_ ?_)⟩
            · rw [ins_ri (x := ⟨t, r, d, n, .int .i64 z, rfl⟩) (fun y hy => OLD.out y hy)]
              exact li
            · exact ((((two _ _).mono (Y := fun j => w2.heap.size ≤ j) (fun j _ e => Nat.le_trans BS.out e)).trans HG1.out (fun j _ e => (OWN.out _ e).1)).trans cs (fun j _ e => by have := BS.out; omega)).drew
          case measure => simp only [intOf]; omega
        · have eD : ansD mm S 1 z = ⟨0, 0, false, 0⟩ := by simp [ansD, hs]
          rw [eD] at M0
          have EQ1 := Lib.hid (show (⟨1, t, r, d, z⟩ : Op5).S mm n S = S by simp [Op5.S, nxtS, hs])
          have EQ2 := Lib.hid (show nxtN mm n S 1 = n by simp [nxtN, hs])
          obtain ⟨d0, d1, d2, d3⟩ := M0.got
          dsimp only at d0 d1 d2 d3
          clear M0 eD G0 GK
          go_wp2_with fail
          refine (MA.out _).mono ?_
          rintro e w3 ⟨rfl, rfl⟩
          go_wp2_with fail
          go_region
          go_wp2
          go_roundw
          case rel => exact ⟨j + 1, n, _, S, rfl, by congr 1, by omega, Lib.hid (NX.out _ _ _ _ EQ1.out EQ2.out (L0.out.of_block (fun _ _ => rfl) (Nat.le_refl _)) (((two _ _).mono (fun j _ e => Nat.le_trans BS.out e)).drew))⟩
          case measure => simp only [intOf]; omega
      by_cases hq2 : q = 2
      · subst hq2
        rcases S with _ | ⟨x, S⟩
        · have eD : ansD mm ([] : List It) 2 z = ⟨0, 0, false, 0⟩ := by simp [ansD]
          rw [eD] at M0
          have EQ1 := Lib.hid (show (⟨2, t, r, d, z⟩ : Op5).S mm n [] = [] by simp [Op5.S, nxtS])
          have EQ2 := Lib.hid (show nxtN mm n [] 2 = n by simp [nxtN])
          obtain ⟨d0, d1, d2, d3⟩ := M0.got
          dsimp only at d0 d1 d2 d3
          clear M0 eD G0 GK
          go_wp2_with fail
          go_region
          go_wp2
          go_roundw
          case rel => exact ⟨j + 1, n, _, [], rfl, by congr 1, by omega, Lib.hid (NX.out _ _ _ _ EQ1.out EQ2.out (L0.out.of_block (fun _ _ => rfl) (Nat.le_refl _)) (((two _ _).mono (fun j _ e => Nat.le_trans BS.out e)).drew))⟩
          case measure => simp only [intOf]; omega
        · obtain ⟨g2, off2, e2, -, hb2, la⟩ := L1.out.lies (by simp)
          subst e2
          have eD : ansD mm (x :: S) 2 z = ⟨x.num, x.time, true, 0⟩ := by simp [ansD]
          rw [eD] at GK
          have EQ1 := Lib.hid (show (⟨2, t, r, d, z⟩ : Op5).S mm n (x :: S) = S by simp [Op5.S, nxtS])
          have EQ2 := Lib.hid (show nxtN mm n (x :: S) 2 = n by simp [nxtN])
          obtain ⟨d0, d1, d2, d3⟩ := GK (.cells #[.int .i64 x.num, .int .i64 x.time, .bool true, .int .i64 0] 30)
          dsimp only at d0 d1 d2 d3
          obtain ⟨l0, l1, l2, l3⟩ := (la.of_block (w1 := ((wr.alloc (.cells #[.int .i64 2, .int .i64 t, .int .i64 r, .int .i64 d, .int .i64 z] 28)).alloc (.cells #[.int .i64 0, .int .i64 0, .bool false, .int .i64 0] 30))) ((heap_alloc_old _ _ (by have := la.lt; simp; omega)).trans (heap_alloc_old _ _ la.lt)) (by simp; omega)).cells (i := 0) (x := ri x) rfl
          simp only [ri, Nat.zero_mul, Nat.add_zero] at l0 l1 l2 l3
          have g2s := la.lt
          have ng2 : ¬ g2 = wr.heap.size + 1 := by omega
          have ng2' : ¬ wr.heap.size + 1 = g2 := by omega
          have LX := Lib.hid (la.of_block (w1 := ((wr.alloc (.cells #[.int .i64 2, .int .i64 t, .int .i64 r, .int .i64 d, .int .i64 z] 28)).alloc (.cells #[.int .i64 x.num, .int .i64 x.time, .bool true, .int .i64 0] 30)).drew.drew) ((heap_alloc_old _ _ (by have := la.lt; simp; omega)).trans (heap_alloc_old _ _ la.lt)) (by show wr.heap.size ≤ ((wr.alloc _).alloc _).heap.size; simp; omega))
          have HB2 := Lib.hid hb2
          have hcap := la.le
          simp only [List.map_cons, List.length_cons, List.length_map] at hcap
          clear M0 eD G0 GK la hb2 g2s
          by_cases hc : c1 = 1
          · subst hc
            obtain rfl : S = [] := List.eq_nil_of_length_eq_zero (by omega)
            go_wp2_with fail
            go_region
            go_wp2_with fail
            go_region
            go_wp2
            go_roundw
            case rel => exact ⟨j + 1, n, _, [], rfl, by congr 1, by omega, Lib.hid (NX.out _ _ _ _ EQ1.out EQ2.out (Or.inr ⟨g2, off2, 0, rfl, HB2.out, ⟨Nat.le_refl _, Nat.zero_le _, LX.out.lt, fun j u h => by simp [rflat] at h, fun j h => by omega⟩⟩) ((((two _ _).mono (fun j _ e => Nat.le_trans BS.out e)).drew).drew))⟩
            case measure => simp only [intOf]; omega
          · have HC := Lib.hid hcap
            go_wp2_with fail
            go_region
            go_wp2_with fail
            go_region
            go_wp2
            go_roundw
            case rel => exact ⟨j + 1, n, _, S, rfl, by congr 1, by omega, Lib.hid (NX.out _ _ _ _ EQ1.out EQ2.out (Or.inr ⟨g2, off2 + 4, c1 - 1, by rw [List.length_map], HB2.out, LA.tail (x := ri x) LX.out⟩) ((((two _ _).mono (fun j _ e => Nat.le_trans BS.out e)).drew).drew))⟩
            case measure => simp only [intOf]; omega
      by_cases hq3 : q = 3
      · subst hq3
        rcases S with _ | ⟨x, S⟩
        · have eD : ansD mm ([] : List It) 3 z = ⟨0, 0, false, 0⟩ := by simp [ansD]
          rw [eD] at M0
          have EQ1 := Lib.hid (show (⟨3, t, r, d, z⟩ : Op5).S mm n [] = [] by simp [Op5.S, nxtS])
          have EQ2 := Lib.hid (show nxtN mm n [] 3 = n by simp [nxtN])
          obtain ⟨d0, d1, d2, d3⟩ := M0.got
          dsimp only at d0 d1 d2 d3
          clear M0 eD G0 GK
          go_wp2_with fail
          go_region
          go_wp2
          go_roundw
          case rel => exact ⟨j + 1, n, _, [], rfl, by congr 1, by omega, Lib.hid (NX.out _ _ _ _ EQ1.out EQ2.out (L0.out.of_block (fun _ _ => rfl) (Nat.le_refl _)) (((two _ _).mono (fun j _ e => Nat.le_trans BS.out e)).drew))⟩
          case measure => simp only [intOf]; omega
        · obtain ⟨g2, off2, e2, -, hb2, la⟩ := L1.out.lies (by simp)
          subst e2
          have eD : ansD mm (x :: S) 3 z = ⟨x.num, x.time, true, 0⟩ := by simp [ansD]
          rw [eD] at GK
          have EQ1 := Lib.hid (show (⟨3, t, r, d, z⟩ : Op5).S mm n (x :: S) = x :: S by simp [Op5.S, nxtS])
          have EQ2 := Lib.hid (show nxtN mm n (x :: S) 3 = n by simp [nxtN])
          obtain ⟨d0, d1, d2, d3⟩ := GK (.cells #[.int .i64 x.num, .int .i64 x.time, .bool true, .int .i64 0] 30)
          dsimp only at d0 d1 d2 d3
          obtain ⟨l0, l1, l2, l3⟩ := (la.of_block (w1 := ((wr.alloc (.cells #[.int .i64 3, .int .i64 t, .int .i64 r, .int .i64 d, .int .i64 z] 28)).alloc (.cells #[.int .i64 0, .int .i64 0, .bool false, .int .i64 0] 30))) ((heap_alloc_old _ _ (by have := la.lt; simp; omega)).trans (heap_alloc_old _ _ la.lt)) (by simp; omega)).cells (i := 0) (x := ri x) rfl
          simp only [ri, Nat.zero_mul, Nat.add_zero] at l0 l1 l2 l3
          have g2s := la.lt
          have ng2 : ¬ g2 = wr.heap.size + 1 := by omega
          have ng2' : ¬ wr.heap.size + 1 = g2 := by omega
          have LX := Lib.hid (la.of_block (w1 := ((wr.alloc (.cells #[.int .i64 3, .int .i64 t, .int .i64 r, .int .i64 d, .int .i64 z] 28)).alloc (.cells #[.int .i64 x.num, .int .i64 x.time, .bool true, .int .i64 0] 30)).drew.drew) ((heap_alloc_old _ _ (by have := la.lt; simp; omega)).trans (heap_alloc_old _ _ la.lt)) (by show wr.heap.size ≤ ((wr.alloc _).alloc _).heap.size; simp; omega))
          have HB2 := Lib.hid hb2
          have hcap := la.le
          simp only [List.map_cons, List.length_cons, List.length_map] at hcap
          clear M0 eD G0 GK la hb2 g2s
          go_wp2_with fail
          go_region
          go_wp2_with fail
          go_region
          go_wp2
          go_roundw
          case rel => exact ⟨j + 1, n, _, x :: S, rfl, by congr 1, by omega, Lib.hid (NX.out _ _ _ _ EQ1.out EQ2.out (Or.inr ⟨g2, off2, c1, by rw [List.length_map], HB2.out, LX.out⟩) ((((two _ _).mono (fun j _ e => Nat.le_trans BS.out e)).drew).drew))⟩
          case measure => simp only [intOf]; omega
      by_cases hq4 : q = 4
      · subst hq4
        have eD : ansD mm S 4 z = ⟨0, 0, false, S.length⟩ := by simp [ansD]
        rw [eD] at GK
        have EQ1 := Lib.hid (show (⟨4, t, r, d, z⟩ : Op5).S mm n S = S by simp [Op5.S, nxtS])
        have EQ2 := Lib.hid (show nxtN mm n S 4 = n by simp [nxtN])
        obtain ⟨d0, d1, d2, d3⟩ := GK (.cells #[.int .i64 0, .int .i64 0, .bool false, .int .i64 (S.length : Int)] 30)
        dsimp only at d0 d1 d2 d3
        have LW := Lib.hid (fun ob : Obj => LS.of_block (w1 := ((wr.alloc (.cells #[.int .i64 4, .int .i64 t, .int .i64 r, .int .i64 d, .int .i64 z] 28)).alloc ob).drew) L1.out (fun g hg => (heap_alloc_old _ _ (by have := (OWN.out g hg).2; simp; omega)).trans (heap_alloc_old _ _ (OWN.out g hg).2)) (by show wr.heap.size ≤ (((wr.alloc _).alloc ob)).heap.size; simp; omega))
        clear M0 eD G0 GK
        go_wp2_with fail
        go_region
        go_wp2
        go_roundw
        case rel => exact ⟨j + 1, n, _, S, rfl, by congr 1, by omega, Lib.hid (NX.out _ _ _ _ EQ1.out EQ2.out (LW.out _) (((two _ _).mono (fun j _ e => Nat.le_trans BS.out e)).drew))⟩
        case measure => simp only [intOf]; omega
      by_cases hq5 : q = 5
      · subst hq5
        have eD : ansD mm S 5 z = ⟨0, 0, false, (S.length : Int) - (keep z S).length⟩ := by simp [ansD]
        rw [eD] at M0
        have EQ1 := Lib.hid (show (⟨5, t, r, d, z⟩ : Op5).S mm n S = keep z S by simp [Op5.S, nxtS])
        have EQ2 := Lib.hid (show nxtN mm n S 5 = n by simp [nxtN])
        have P0 := keep_any z (S.map ri) (.slice A1 S.length c1) w2.heap.size _ L0.out (by rw [List.length_map]; omega)
        rw [← keep_ri] at P0
        have kl : ((keep z S).length : Int) ≤ (S.length : Int) := by have := List.length_filter_le (fun x : It => decide (z ≤ x.num)) S; unfold keep; omega
        have P := Lib.hid P0
        have HM0 := Lib.hid M0
        generalize keep z S = SK at *
        obtain ⟨o0, o1, o2, o3, o4⟩ := cells5 M0.op
        clear P0 M0 eD G0 GK
        go_wp2_with fail
        refine P.out.mono ?_
        rintro e w3 ⟨v1, rfl, l1, g1⟩
        obtain ⟨A3, c3, hv3⟩ := l1.form
        rw [List.length_map] at hv3
        subst hv3
        have M3 := HM0.out.chg (X := fun _ => False) (Chg.of g1) (fun e => e) (fun e => e) (fun e => e)
        clear a0 a1 a2 a3 a4
        obtain ⟨o0, o1, o2, o3, o4⟩ := cells5 M3.op
        obtain ⟨e0, e1, e2, e3⟩ := cells4 M3.told
        obtain ⟨f0, f1, f2, f3⟩ := frozen4 M3.told
        obtain ⟨d0, d1, d2, d3⟩ := M3.got
        dsimp only at d0 d1 d2 d3
        have HL1 := Lib.hid l1
        have HG1 := Lib.hid g1
        clear P M3 l1 g1
        go_wp2_with fail
        go_region
        go_wp2
        go_roundw
        case rel =>
          have cs : Chg (fun j => j = wr.heap.size + 1) w3 _ := (Chg.refl (fun j => j = wr.heap.size + 1) _).setCell (p := ⟨wr.heap.size + 1, 3, none⟩) rfl (.int .i64 ((S.length : Int) - (SK.length : Int)))
          have li := (HL1.out.chg cs.drew (fun j hj e => by have := (HL1.out.lt _ hj).1; simp at this; omega)).rebase (base' := w2.heap.size) (by have := BS.out; simp; omega)
          exact ⟨j + 1, n, _, SK, rfl, by congr 1, by omega, Lib.hid (NX.out _ _ _ _ EQ1.out EQ2.out li (((((two _ _).mono (Y := fun j => w2.heap.size ≤ j) (fun j _ e => Nat.le_trans BS.out e)).trans (Chg.of HG1.out) (fun j hj e => by omega)).trans cs (fun j _ e => by have := BS.out; omega)).drew))⟩
        case measure => simp only [intOf]; omega
      have eD : ansD mm S q z = ⟨0, 0, false, 0⟩ := by simp [ansD, hq, hq2, hq3, hq4, hq5]
      rw [eD] at M0
      have EQ1 := Lib.hid (show (⟨q, t, r, d, z⟩ : Op5).S mm n S = S by simp [Op5.S, nxtS, hq, hq2, hq5])
      have EQ2 := Lib.hid (show nxtN mm n S q = n by simp [nxtN, hq])
      obtain ⟨d0, d1, d2, d3⟩ := M0.got
      dsimp only at d0 d1 d2 d3
      have k1 : (q == 1) = false := by simpa using hq
      have k2 : (q == 2) = false := by simpa using hq2
      have k3 : (q == 3) = false := by simpa using hq3
      have k4 : (q == 4) = false := by simpa using hq4
      have k5 : (q == 5) = false := by simpa using hq5
      clear M0 eD G0 GK
      go_wp2_with fail
      go_region
      go_wp2
      go_roundw
      case rel => exact ⟨j + 1, n, _, S, rfl, by congr 1, by omega, Lib.hid (NX.out _ _ _ _ EQ1.out EQ2.out (L0.out.of_block (fun _ _ => rfl) (Nat.le_refl _)) (((two _ _).mono (fun j _ e => Nat.le_trans BS.out e)).drew))⟩
      case measure => simp only [intOf]; omega
    · obtain rfl : j = ops.length := by omega
      have HB := Lib.hid H.out.b
      clear H
      go_wp2
      go_ret
      exact ⟨rfl, B2.out.trans (HB.out.mono B2.out.size)⟩
theorem walk (m : Int) (A : Option Addr) (ops : List (List Int)) (c : Nat) (w : World) (hA : RL w [.i64, .i64, .i64, .i64, .i64] A ops) (hl : ops.length ≤ 4398046511104) :
    Calls Try.prog 3 #[.int .i64 m, .slice A ops.length c] w fun e w' => e = .returned (.bool true) ∧ Below w.heap.size w w' := by
  obtain ⟨l, rfl, h⟩ := RO.of hA
  rw [List.length_map] at hl ⊢
  exact walk5 m A l c w h hl
set_option maxRecDepth 100000 in
/-- What the walk gives, for every argument and every world. -/
theorem contract (H : Type) (enc : TypeId × Value → H) (W : World) (base : Nat) (args : Array Value) (ds gs : List (DataW H)) (before : List MemPlace)
    (hval : ∀ (j : Nat) t v, Try.f3.params[j]? = some t → args[j]? = some v → Value.okWide Try.prog W .any base t v)
    (hW : DataW.Whole enc Try.prog Try.f3.params.toList Rows.queuePlaysSpec.vars false W args.toList ds gs before) (hz : (DataW.weightsEach Try.prog (Try.f3.params.toList ++ (OpenSpec.ofChange Rows.queuePlaysSpec).bare.plain.varTypes Try.prog) (ds ++ gs)).all (· ≤ reachBytes) = true) : 
    Calls Try.prog 3 args W fun e W' => ∃ v, e = .returned v ∧ Rows.queuePlaysSpec.post enc Try.prog Try.f3 false true false false W args v W' := by
  have hW' := hW
  obtain ⟨p, q, hA0, hV, rfl, hfz, hnd⟩ := hW
  have hA : DataW.TrodAll enc Try.prog W 0 (fun _ => true) true Try.f3.params.toList args.toList ds p := hA0
  rw [Try.params3] at hA hval
  obtain ⟨v0, vs0, d0, ds0, p0, q0, hargs, rfl, rfl, h0, r0⟩ := trodAll_cons hA
  obtain ⟨v1, vs1, d1, ds1, p1, q1, rfl, rfl, rfl, h1, r1⟩ := trodAll_cons r0
  obtain ⟨rfl, rfl, rfl⟩ := trodAll_nil r1
  obtain rfl : args = #[v0, v1] := by cases args; simp_all
  obtain ⟨rfl, rfl⟩ := trodVars_none hV
  obtain ⟨m, rfl, rfl, rfl, w0⟩ := open_int Try.underlying3 (hval 0 3 v0 rfl rfl) h0
  obtain ⟨A1, ops, c1, rfl, f1, l1, lc1, sz1, nl1⟩ := open_rows (qs := [.i64, .i64, .i64, .i64, .i64]) Try.underlying22 Try.underlying28 (by kernel_rfl) rfl (fun i f q hf hq => by
    match i, hf, hq with
    | 0, hf, hq => simp at hf hq; subst hf; subst hq; exact ⟨rfl, by kernel_rfl, Try.underlying3⟩
    | 1, hf, hq => simp at hf hq; subst hf; subst hq; exact ⟨rfl, by kernel_rfl, Try.underlying2⟩
    | 2, hf, hq => simp at hf hq; subst hf; subst hq; exact ⟨rfl, by kernel_rfl, Try.underlying2⟩
    | 3, hf, hq => simp at hf hq; subst hf; subst hq; exact ⟨rfl, by kernel_rfl, Try.underlying2⟩
    | 4, hf, hq => simp at hf hq; subst hf; subst hq; exact ⟨rfl, by kernel_rfl, Try.underlying3⟩
    | n + 5, hf, hq => simp at hq) (hval 1 22 v1 rfl rfl) h1
  have z1 : ops.length * 40 ≤ 140737488351232 := by
    rcases sz1 with h | ⟨es, sp, hd, hl⟩
    · rw [h]; decide
    · have := sized_slice hz (j := 1) (t := 22) (e := 28) (elems := es) (spare := sp) (by rw [Try.params3]; rfl) (by rw [hd]; rfl) Try.underlying22
      rw [show Try.prog.bytesOf 28 = 40 by kernel_rfl, show reachBytes = 140737488351232 from rfl] at this
      omega
  refine (walk m A1 ops c1 W f1 (by omega)).mono fun e W' ⟨he, hb⟩ => ?_
  exact ⟨_, he, Shell.post_law laidOut (by kernel_rfl) rfl Try.underlying4 rfl hW' rfl hb⟩
theorem reads (os : Os) {H : Type} (enc : TypeId × Value → H) : ∃ places, DataW.whole enc Try.prog ((World.holding Try.prog os ⟨#[], #[], []⟩).forCall (fun _ _ => 0) ⟨#[], #[.int .i64 0, .slice none 0 0], []⟩).memory Try.f3.params.toList Rows.queuePlaysSpec.vars false (#[Value.int .i64 0, Value.slice none 0 0]).toList 8 = some ([.lit (.int .i64 0), .nil], [], places) :=
  ⟨[], by kernel_rfl⟩
set_option maxRecDepth 100000 in
theorem lifted (os : Os) (started : os.Started) (H : Type) (enc : TypeId × Value → H) (F : Stop.Interp) :
    ReturnsInHanded {} Try.checked os 3 .any ((OpenSpec.ofChange Rows.queuePlaysSpec).preRow enc Try.prog Try.f3 Rows.queuePlaysRow.domain false Rows.queuePlaysRow.laid) (((OpenSpec.ofChange Rows.queuePlaysSpec).at F).post enc Try.prog Try.f3 false true false false) := by
  obtain ⟨places, hx⟩ := reads os enc
  refine returnsInHanded_of_row (C := Try.checked) (s := OpenSpec.ofChange Rows.queuePlaysSpec) own started (by kernel_rfl) Try.func3
    (witness_row_atRef (enc := enc) (C := Try.checked) false (World.holding Try.prog os ⟨#[], #[], []⟩) #[.int .i64 0, .slice none 0 0] rfl (by kernel_rfl) (by kernel_rfl) (by kernel_rfl)
      (OpenSpec.preRow_of_cond 8 hx (by kernel_rfl) (fun k hk => by cases hk) (by kernel_rfl) (laid_met os _))) ?_
  intro W base args ds gs before hval hW _ _ hz hL _ _
  exact contract H enc W base args ds gs before hval hW hz
theorem said : Rows.QueuePlaysSaid :=
  OpenClaim.holds_of_cond 3 Try.f3 rfl rfl rfl rfl rfl rfl rfl ⟨rfl, rfl, rfl, rfl, rfl⟩ rfl rfl rfl rfl rfl (by kernel_rfl) Try.func3 (by kernel_rfl)
    (of_decide_eq_true (by kernel_rfl)) (by unfold Func.isWrapper; first | (rw [if_pos (by decide +kernel)]; kernel_rfl) | (rw [if_neg (by decide +kernel)]; exact ⟨rfl, rfl⟩))
    (fun os started H enc _ F => by rw [OpenClaim.pre_eq_preRow]; exact lifted os started H enc F)
end Go.Proofs.Ytniemmnmiefgeaa.QueueW.QueuePlays
