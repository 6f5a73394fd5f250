/- The law QueueOrders: what is pushed comes out in order, each thing once, those that are due alike in the order of their coming: for all lists of things. No condition. -/
import Derived.Test.YtniemmnmiefgeaaQueueLay
import Derived.Deep.OwnRows
import Derived.Deep.Cut
namespace Go.Proofs.Ytniemmnmiefgeaa.QueueW.QueueOrders
open Go.ChangeShapes Go.WideShapes Go.ChangeAt Go.RowKit QueueW Shell
theorem RO.take {w : World} {A : Option Addr} {ops : List Op5} (h : RO w A ops) (n : Nat) : RO w A (ops.take n) := by
  intro k xs hk
  refine h k xs ?_
  rw [List.map_take, List.getElem?_take] at hk
  split at hk
  · exact hk
  · cases hk
abbrev opBox (o : Op5) : Obj := .cells #[.int .i64 o.q, .int .i64 o.t, .int .i64 o.r, .int .i64 o.d, .int .i64 o.z] 28
/-- The thing of place p. -/
abbrev itm (p : Nat) (o : Op5) : It := ⟨o.t, o.r, o.d, p, .int .i64 p, rfl⟩
/-- All things are calls' things. -/
def From (ops : List Op5) (S : List It) : Prop := ∀ x ∈ S, ∃ (p : Nat) (o : Op5), ops[p]? = some o ∧ x = itm p o
theorem From.ins {ops : List Op5} {S : List It} (h : From ops S) {p : Nat} {o : Op5} (hp : ops[p]? = some o) : From ops (ins (itm p o) S) := fun x hx => by
  rcases List.mem_cons.1 ((ins_perm _ S).mem_iff.1 hx) with rfl | hx
  · exact ⟨p, o, hp, rfl⟩
  · exact h x hx
theorem From.apart {ops : List Op5} {p : Nat} {o : Op5} {S : List It} (h : From ops (itm p o :: S)) (hp : ops[p]? = some o) (hs : (itm p o :: S).Pairwise lt) : ∀ y ∈ S, y.place ≠ p := by
  intro y hy e
  obtain ⟨p', o', hp', rfl⟩ := h y (List.mem_cons_of_mem _ hy)
  have e' : p' = p := by have e1 : (p' : Int) = p := e; omega
  subst e'
  rw [hp] at hp'
  obtain rfl := Option.some.inj hp'
  exact lt_irrefl _ ((List.pairwise_cons.1 hs).1 _ hy)
def isn (l : List Int) : List Value := l.map (Value.int .i64)
abbrev seenRow (l : List Int) : Obj := .cells (isn l).toArray 3
theorem made_ints (n : Nat) : madeCells #[.int .i64 0] n = (isn (List.replicate n 0)).toArray := by
  apply Array.ext'
  simp only [madeCells, Array.toList_map, Array.toList_range, isn, List.map_replicate]
  apply List.ext_getElem
  · simp
  · intro i h1 h2
    simp [Nat.mod_one]
theorem make_ints (n : Nat) (hn : n ≤ 4000) (w : World) : Sem.run Try.prog (Instr.makeSlice 41 (.int .i64 (n : Int)) (.int .i64 (n : Int))) w = .ok (.slice (some ⟨w.heap.size, 0, none⟩) n n) (w.alloc (seenRow (List.replicate n 0))) := by
  rw [seenRow, ← made_ints]
  exact run_make_row' 41 3 (.int .i64 0) 8 Try.underlying41 (by kernel_rfl) rfl .i64 .i64 n (by omega) (by omega) w
theorem isn_at {w : World} {g : Nat} {l : List Int} (h : w.heap[g]? = some (seenRow l)) {p : Nat} {x : Int} (hx : l[p]? = some x) : w.cell? ⟨g, p, none⟩ = some (.int .i64 x) := by
  rw [cell_of_row w g p _ _ _ h, List.getElem?_toArray, isn, List.getElem?_map, hx]
  rfl
theorem isn_set {w : World} {g : Nat} {l : List Int} (h : w.heap[g]? = some (seenRow l)) (p : Nat) (x : Int) : (w.setCell ⟨g, p, none⟩ (.int .i64 x)).heap[g]? = some (seenRow (l.set p x)) := by
  have := Go.heap_setCell_same w g p _ _ (.int .i64 x) h
  rwa [List.setIfInBounds_toArray, isn, ← List.map_set] at this
theorem turn {w wr : World} {g : Nat} {o o' : Obj} {k : Nat} {m n : Int} {v : Value} {S : List It} (h : OQI w wr [(g, o)] k m n v S) {p : Nat} {u : Value} (hg : w.heap.size ≤ g) (hn : (wr.setCell ⟨g, p, none⟩ u).heap[g]? = some o') : OQI w (wr.setCell ⟨g, p, none⟩ u) [(g, o')] k m n v S := by
  have c : Chg (fun j => j = g) wr (wr.setCell ⟨g, p, none⟩ u) := (Chg.refl (fun j => j = g) wr).setCell (p := ⟨g, p, none⟩) rfl u
  obtain ⟨h1, h2, h3⟩ := h.keep (g, o) List.mem_cons_self
  refine ⟨h.q.frame c (fun e => h2 e.symm) (fun j hj e => h3 (e ▸ hj)), h.b.trans (c.below (B := w.heap.size) (fun j hj e => by omega) h.b.size), h.k0, h.o0, fun x hx => ?_⟩
  simp only [List.mem_cons, List.not_mem_nil, or_false] at hx
  subst hx
  exact ⟨hn, h2, h3⟩
theorem box {w wr : World} {K : List (Nat × Obj)} {k : Nat} {m n : Int} {v : Value} {S : List It} (h : OQI w wr K k m n v S) (ob : Obj) : OQI w (wr.alloc ob) ((wr.heap.size, ob) :: K) k m n v S := by
  have h1 := h.below (w1 := wr.alloc ob) ((Below.refl _ _).alloc (Nat.le_refl _) _)
  refine ⟨h1.q, h1.b, h1.k0, h1.o0, fun x hx => ?_⟩
  rcases List.mem_cons.1 hx with rfl | hx
  · exact ⟨heap_alloc_new _ _, fun e => by have := h.q.lt.1; omega, fun e => by have := h.q.lt.2 _ e; omega⟩
  · exact h1.keep x hx
/-- What the first loop keeps. -/
structure P1 (w wr : World) (k : Nat) (v : Value) (S : List It) (j : Nat) (ops : List Op5) : Prop where
  q : OQI w wr [] k 65536 j v S
  frm : From ops S
  len : S.length = j
/-- What the second loop keeps. -/
structure P2 (w wr : World) (k sg : Nat) (v : Value) (S : List It) (j : Nat) (ops : List Op5) (sn : List Int) (last : Int) : Prop where
  q : OQI w wr [(sg, seenRow sn)] k 65536 ops.length v S
  frm : From ops S
  len : S.length + j = ops.length
  snl : sn.length = ops.length
  free : ∀ x ∈ S, ∀ p : Nat, x.place = p → sn[p]? = some 0
  lst : last = -1 ∨ ∃ (p : Nat) (o : Op5), last = p ∧ ops[p]? = some o ∧ ∀ x ∈ S, lt (itm p o) x
  sg0 : w.heap.size ≤ sg
theorem P2.next {w wr : World} {k sg : Nat} {v : Value} {S : List It} {j : Nat} {ops : List Op5} {sn : List Int} {last : Int} {p : Nat} {o : Op5} {v' : Value} {wx w1 : World} (h : P2 w wr k sg v (itm p o :: S) j ops sn last) (hp : ops[p]? = some o) (hq : OQI w wx [(sg, seenRow sn)] k 65536 ops.length v' S)
    (e : Below (wx.setCell ⟨sg, p, none⟩ (.int .i64 1)).heap.size (wx.setCell ⟨sg, p, none⟩ (.int .i64 1)) w1) : P2 w w1 k sg v' S (j + 1) ops (sn.set p 1) p := by
  have ap := From.apart h.frm hp h.q.q.up
  refine ⟨(turn hq h.sg0 (isn_set (hq.keep _ List.mem_cons_self).1 p 1)).below e, fun x hx => h.frm x (List.mem_cons_of_mem _ hx), ?_, by rw [List.length_set]; exact h.snl, fun x hx q hq => ?_, Or.inr ⟨p, o, rfl, hp, (List.pairwise_cons.1 h.q.q.up).1⟩, h.sg0⟩
  · have := h.len; rw [List.length_cons] at this; omega
  · rw [List.getElem?_set_ne (fun e => ap x hx (by rw [hq, e]))]
    exact h.free x (List.mem_cons_of_mem _ hx) q hq
set_option maxHeartbeats 20000000 in
set_option maxRecDepth 100000 in
theorem walk5 (a : Addr) (ops : List Op5) (c : Nat) (w : World) (hA : RO w (some a) ops) (hc : ops.length ≤ c) (hl : ops.length ≤ 4398046511104) :
    Calls Try.prog 4 #[.slice (some a) ops.length c] w fun e w' => e = .returned (.bool true) ∧ Below w.heap.size w w' := by
  have HA := Lib.hid hA
  have hc' : (ops.length : Int) ≤ (c : Int) := by omega
  clear hA
  go_enter Try.func4, Try.ntmps4
  go_wp2_with fail
  refine (fixed_any _).mono ?_
  rintro e w1 ⟨rfl, b1⟩
  have B1 := Lib.hid b1
  clear b1
  go_wp2_with fail
  all_goals
    obtain ⟨l, hl0, hl1, HL⟩ : ∃ l : List Op5, l.length = min ops.length 4000 ∧ l.length ≤ 4000 ∧ Hid (RO w (some a) l) := ⟨ops.take 4000, by rw [List.length_take]; omega, by rw [List.length_take]; omega, Lib.hid (RO.take HA.out 4000)⟩
    first
      | rw [show (4000 : Nat) = l.length by omega]
      | rw [show ops.length = l.length by omega]
    have l1 : (l.length : Int) ≤ 4000 := by omega
    generalize hN : l.length = N at *
    clear hl0
    refine (newI_at (w := w) (K := []) 65536 B1.out (fun x hx => (by cases hx))).mono ?_
    rintro e w2 ⟨rfl, h2⟩
    have H0 := Lib.hid (show P1 w w2 w1.heap.size (.slice none 0 0) [] 0 l from ⟨h2, fun x hx => (by cases hx), rfl⟩)
    generalize w1.heap.size = k at *
    clear h2 B1
    go_wp2_with fail
    go_loopw [23] (fun iv wr => ∃ (j : Nat) (v : Value) (S : List It), iv = .int .i64 j ∧ j ≤ N ∧ Hid (P1 w wr k v S j l)) (fun iv _ => N - (intOf iv).toNat)
    case atStart => exact ⟨0, _, [], rfl, Nat.zero_le _, H0⟩
    case round =>
      clear H0
      obtain ⟨j, v, S, rfl, hj, H⟩ := hrel
      by_cases hjl : j < N
      · obtain ⟨o, ho⟩ : ∃ o, l[j]? = some o := ⟨_, List.getElem?_eq_getElem (by omega)⟩
        obtain ⟨b, off, ea, a0, a1, a2, a3, a4⟩ := (HL.out.below H.out.q.b).row ho
        obtain rfl : a = ⟨b, off, none⟩ := Option.some.inj ea
        have HO := Lib.hid ho
        have Q0 := H.out.q.below (w1 := wr.alloc (opBox o)) ((Below.refl _ _).alloc (Nat.le_refl _) _)
        have P := Lib.hid (Q0.push o.t o.r o.d j (by rw [H.out.len]; omega) (by decide) (by omega))
        have HF := Lib.hid H.out.frm
        have HLen := Lib.hid H.out.len
        clear Q0 H ho
        go_wp2_with fail
        refine P.out.mono ?_
        rintro e w3 ⟨rfl, v3, h3⟩
        have H3 := Lib.hid h3
        clear h3 P
        go_wp2
        go_roundw
        case rel => exact ⟨j + 1, v3, _, by congr 1, by omega, Lib.hid ⟨H3.out, HF.out.ins HO.out, by rw [ins_length, HLen.out]⟩⟩
        case measure => simp only [intOf]; omega
      · have ej : j = N := by omega
        subst ej
        have HM := make_ints j hl1
        go_wp2_with fail
        have H0 := Lib.hid (show P2 w (wr.alloc (seenRow (List.replicate j 0))) k wr.heap.size v S 0 l (List.replicate j 0) (-1) from
          ⟨by rw [hN]; exact box H.out.q _, H.out.frm, by rw [H.out.len, hN]; rfl, by simp [hN], fun x hx p hp => by
            obtain ⟨p', o', hp', rfl⟩ := H.out.frm x hx
            have e1 : (p' : Int) = p := hp
            have e2 : p' = p := by omega
            subst e2
            rw [List.getElem?_replicate, if_pos (by rw [← hN]; exact (List.getElem?_eq_some_iff.1 hp').1)], Or.inl rfl, H.out.q.b.size⟩)
        generalize wr.heap.size = sg at *
        have HNN := Lib.hid hN
        clear H HM hj hjl hN
        go_loopw [7, 44] (fun lv iv wr => ∃ (i : Nat) (v : Value) (S : List It) (sn : List Int) (last : Int), iv = .int .i64 i ∧ lv = .int .i64 last ∧ i ≤ j ∧ Hid (P2 w wr k sg v S i l sn last)) (fun _ iv _ => j - (intOf iv).toNat)
        case atStart => exact ⟨0, v, S, _, -1, rfl, rfl, Nat.zero_le _, H0⟩
        case round =>
          clear H0
          obtain ⟨i, v, S, sn, last, rfl, rfl, hi, H⟩ := hrel
          by_cases hil : i < j
          · match S, H with
            | [], H => exact absurd H.out.len (by have := HNN.out; simp only [List.length_nil]; omega)
            | x :: S, H =>
              obtain ⟨p, o, hp, rfl⟩ := H.out.frm x List.mem_cons_self
              have hpj : p < j := by have := (List.getElem?_eq_some_iff.1 hp).1; have := HNN.out; omega
              have P := Lib.hid H.out.q.pop
              have HF := Lib.hid (fun (v' : Value) (wx w1 : World) => P2.next (v' := v') (wx := wx) (w1 := w1) H.out hp)
              have HZ := Lib.hid (H.out.free _ List.mem_cons_self p rfl)
              have HS := Lib.hid H.out.sg0
              have LST := H.out.lst
              have HP := Lib.hid hp
              have HLT := Lib.hid (fun (p0 : Nat) (o0 : Op5) (g : ∀ x ∈ (itm p o :: S), lt (itm p0 o0) x) => g _ List.mem_cons_self)
              clear H hp
              go_wp2_with fail
              refine P.out.mono ?_
              rintro e w3 ⟨rfl, v3, h3⟩
              obtain ⟨b, off, ea, a0, a1, a2, a3, a4⟩ := (HL.out.below h3.b).row HP.out
              obtain rfl : a = ⟨b, off, none⟩ := Option.some.inj ea
              have s0 := isn_at (h3.keep _ List.mem_cons_self).1 HZ.out
              have sf := frozen_of_row w3 sg p _ _ (h3.keep _ List.mem_cons_self).1
              have HN := Lib.hid (fun w1 => HF.out v3 w3 w1 h3)
              have lb : b < w.heap.size := by
                obtain ⟨b', off', ea', c0, _⟩ := HL.out.row HP.out
                cases ea'
                exact World.block_lt_of_cell? _ _ c0
              have sb : ¬ sg = b := fun e => by have := HS.out; omega
              have ip : (p : Int) < (j : Int) := by omega
              have HB := Lib.hid h3.b
              clear h3 ea P HF HZ lb
              rcases LST with rfl | ⟨p0, o0, rfl, hp0, hlt0⟩
              · clear HLT
                go_wp2
                go_roundw
                case rel => exact ⟨i + 1, v3, S, _, _, by congr 1, rfl, by omega, Lib.hid (HN.out _ (Below.refl _ _))⟩
                case measure => simp only [intOf]; omega
              · have L0 := HLT.out p0 o0 hlt0
                obtain ⟨b', off', ea', d0, d1, d2, d3, d4⟩ := (HL.out.below HB.out).row hp0
                cases ea'
                have hp0j : (p0 : Int) < (j : Int) := by have := (List.getElem?_eq_some_iff.1 hp0).1; have := HNN.out; omega
                obtain ⟨q, t, r, e, z⟩ := o
                obtain ⟨q0, t0, r0, e0, z0⟩ := o0
                unfold lt at L0
                dsimp only at L0 a0 a1 a2 a3 a4 d0 d1 d2 d3 d4 s0 HN
                have HL0 := Lib.hid L0
                clear HLT hlt0 hp0 L0
                dsimp only
                go_upto_region 20 with fail
                have o4 : ∀ off, ¬ (⟨sg, p, none⟩ : Addr) = ⟨b, off, none⟩ := fun off e => sb (congrArg (·.block) e)
                have K4 : Hid (((w3.setCell ⟨sg, p, none⟩ (.int .i64 1)).cell? ⟨b, off + p0 * 5, none⟩ = some (.int .i64 q0) ∧ (w3.setCell ⟨sg, p, none⟩ (.int .i64 1)).cell? ⟨b, off + p0 * 5 + 1, none⟩ = some (.int .i64 t0) ∧ (w3.setCell ⟨sg, p, none⟩ (.int .i64 1)).cell? ⟨b, off + p0 * 5 + 2, none⟩ = some (.int .i64 r0) ∧ (w3.setCell ⟨sg, p, none⟩ (.int .i64 1)).cell? ⟨b, off + p0 * 5 + 3, none⟩ = some (.int .i64 e0) ∧ (w3.setCell ⟨sg, p, none⟩ (.int .i64 1)).cell? ⟨b, off + p0 * 5 + 4, none⟩ = some (.int .i64 z0)) ∧ ((w3.setCell ⟨sg, p, none⟩ (.int .i64 1)).cell? ⟨b, off + p * 5, none⟩ = some (.int .i64 q) ∧ (w3.setCell ⟨sg, p, none⟩ (.int .i64 1)).cell? ⟨b, off + p * 5 + 1, none⟩ = some (.int .i64 t) ∧ (w3.setCell ⟨sg, p, none⟩ (.int .i64 1)).cell? ⟨b, off + p * 5 + 2, none⟩ = some (.int .i64 r) ∧ (w3.setCell ⟨sg, p, none⟩ (.int .i64 1)).cell? ⟨b, off + p * 5 + 3, none⟩ = some (.int .i64 e) ∧ (w3.setCell ⟨sg, p, none⟩ (.int .i64 1)).cell? ⟨b, off + p * 5 + 4, none⟩ = some (.int .i64 z))) := Lib.hid ⟨⟨(World.cell?_setCell_other _ _ _ _ (o4 _)).trans d0, (World.cell?_setCell_other _ _ _ _ (o4 _)).trans d1, (World.cell?_setCell_other _ _ _ _ (o4 _)).trans d2, (World.cell?_setCell_other _ _ _ _ (o4 _)).trans d3, (World.cell?_setCell_other _ _ _ _ (o4 _)).trans d4⟩, (World.cell?_setCell_other _ _ _ _ (o4 _)).trans a0, (World.cell?_setCell_other _ _ _ _ (o4 _)).trans a1, (World.cell?_setCell_other _ _ _ _ (o4 _)).trans a2, (World.cell?_setCell_other _ _ _ _ (o4 _)).trans a3, (World.cell?_setCell_other _ _ _ _ (o4 _)).trans a4⟩
                have HN := Lib.hid HN.out
                generalize hW4 : w3.setCell ⟨sg, p, none⟩ (.int .i64 1) = W4 at *
                clear a0 a1 a2 a3 a4 d0 d1 d2 d3 d4 s0 sf o4 sb HB HP
                obtain ⟨⟨d0, d1, d2, d3, d4⟩, a0, a1, a2, a3, a4⟩ := K4.out
                have lb := World.block_lt_of_cell? _ _ a0
                dsimp only at lb
                have n0 := World.new_ne W4 _ a0
                have n1 : ¬ W4.heap.size + 1 = b := by omega
                have n2 : ¬ b = W4.heap.size := by omega
                have n3 : ¬ b = W4.heap.size + 1 := by omega
                go_region_held3 (fun w' => (w'.cell? ⟨b, off + p0 * 5, none⟩ = some (.int .i64 q0) ∧ w'.cell? ⟨b, off + p0 * 5 + 1, none⟩ = some (.int .i64 t0) ∧ w'.cell? ⟨b, off + p0 * 5 + 2, none⟩ = some (.int .i64 r0) ∧ w'.cell? ⟨b, off + p0 * 5 + 3, none⟩ = some (.int .i64 e0) ∧ w'.cell? ⟨b, off + p0 * 5 + 4, none⟩ = some (.int .i64 z0)) ∧ (w'.cell? ⟨b, off + p * 5, none⟩ = some (.int .i64 q) ∧ w'.cell? ⟨b, off + p * 5 + 1, none⟩ = some (.int .i64 t) ∧ w'.cell? ⟨b, off + p * 5 + 2, none⟩ = some (.int .i64 r) ∧ w'.cell? ⟨b, off + p * 5 + 3, none⟩ = some (.int .i64 e) ∧ w'.cell? ⟨b, off + p * 5 + 4, none⟩ = some (.int .i64 z))) (first | exact K4.out | go_keep) (fail)
                all_goals
                  rename_i hHeld
                  clear hHeld K4
                  rcases HL0.out with L0 | ⟨rfl, L0 | ⟨rfl, L0 | ⟨rfl, L0⟩⟩⟩
                  · have k0 : (t0 == t) = false := by simp; omega
                    clear d0 d1 d2 d3 d4 a0 a1 a2 a3 a4
                    go_wp2
                    go_roundw
                    case rel => exact ⟨i + 1, v3, S, _, _, by congr 1, rfl, by omega, Lib.hid (HN.out _ (alC (alC (Below.refl _ _) _) _).drew)⟩
                    case measure => simp only [intOf]; omega
                  · have k0 : (r0 == r) = false := by simp; omega
                    clear d0 d1 d2 d3 d4 a0 a1 a2 a3 a4
                    go_wp2
                    go_roundw
                    case rel => exact ⟨i + 1, v3, S, _, _, by congr 1, rfl, by omega, Lib.hid (HN.out _ (alC (alC (Below.refl _ _) _) _).drew)⟩
                    case measure => simp only [intOf]; omega
                  · have k0 : (e0 == e) = false := by simp; omega
                    clear d0 d1 d2 d3 d4 a0 a1 a2 a3 a4
                    go_wp2
                    go_roundw
                    case rel => exact ⟨i + 1, v3, S, _, _, by congr 1, rfl, by omega, Lib.hid (HN.out _ (alC (alC (Below.refl _ _) _) _).drew)⟩
                    case measure => simp only [intOf]; omega
                  · skip
                    clear d0 d1 d2 d3 d4 a0 a1 a2 a3 a4
                    go_wp2
                    go_roundw
                    case rel => exact ⟨i + 1, v3, S, _, _, by congr 1, rfl, by omega, Lib.hid (HN.out _ (alC (alC (Below.refl _ _) _) _).drew)⟩
                    case measure => simp only [intOf]; omega
          · have hj' : ¬ (i : Int) < (j : Int) := by omega
            match S, H with
            | x :: S, H => exact absurd H.out.len (by have := HNN.out; simp only [List.length_cons]; omega)
            | [], H =>
              have P := Lib.hid H.out.q.len
              clear H
              go_wp2_with fail
              refine P.out.mono ?_
              rintro e w3 ⟨rfl, h3⟩
              go_wp2
              go_ret
              exact ⟨rfl, h3.b⟩
set_option maxHeartbeats 1000000 in
set_option maxRecDepth 100000 in
theorem walk0 (w : World) : Calls Try.prog 4 #[.slice none 0 0] w fun e w' => e = .returned (.bool true) ∧ Below w.heap.size w w' := by
  have HM := make_ints 0 (by omega)
  rw [show ((0 : Nat) : Int) = 0 from rfl] at HM
  go_enter Try.func4, Try.ntmps4
  go_wp2_with fail
  refine (fixed_any _).mono ?_
  rintro e w1 ⟨rfl, b1⟩
  go_wp2_with fail
  refine (newI_at (w := w) (K := []) 65536 b1 (fun x hx => (by cases hx))).mono ?_
  rintro e w2 ⟨rfl, h2⟩
  have H0 := Lib.hid h2
  clear h2 b1
  go_wp2_with fail
  go_loopw [23] (fun iv wr => iv = .int .i64 0 ∧ Hid (OQI w wr [] w1.heap.size (most 65536) 0 (.slice none 0 0) [])) (fun _ _ => 0)
  case atStart => exact ⟨rfl, H0⟩
  case round =>
    clear H0
    obtain ⟨rfl, H⟩ := hrel
    go_wp2_with fail
    have H1 := Lib.hid (H.out.below (w1 := wr.alloc (seenRow (List.replicate 0 0))) ((Below.refl _ _).alloc (Nat.le_refl _) _))
    clear H
    go_loopw [44] (fun iv wr => iv = .int .i64 0 ∧ Hid (OQI w wr [] w1.heap.size (most 65536) 0 (.slice none 0 0) [])) (fun _ _ => 0)
    case atStart => exact ⟨rfl, H1⟩
    case round =>
      clear H1
      obtain ⟨rfl, H⟩ := hrel
      go_wp2_with fail
      refine (H.out.len).mono ?_
      rintro e w3 ⟨rfl, h3⟩
      go_wp2
      go_ret
      exact ⟨rfl, h3.b⟩
theorem walk (A : Option Addr) (ops : List (List Int)) (c : Nat) (w : World) (hA : RL w [.i64, .i64, .i64, .i64, .i64] A ops) (hc : ops.length ≤ c) (hn : A = none → c = 0) (hl : ops.length ≤ 4398046511104) :
    Calls Try.prog 4 #[.slice A ops.length c] w fun e w' => e = .returned (.bool true) ∧ Below w.heap.size w w' := by
  obtain ⟨l, rfl, h⟩ := RO.of hA
  rw [List.length_map] at hl hc ⊢
  cases A with
  | none =>
    have c0 := hn rfl
    subst c0
    obtain rfl : l = [] := List.eq_nil_of_length_eq_zero (by omega)
    exact walk0 w
  | some a => exact walk5 a l c w h hc hl
set_option maxRecDepth 100000 in
/-- What the walk gives, for every argument and every world. -/
theorem contract (H : Type) (enc : TypeId × Value → H) (W : World) (base : Nat) (args : Array Value) (ds gs : List (DataW H)) (before : List MemPlace)
    (hval : ∀ (j : Nat) t v, Try.f4.params[j]? = some t → args[j]? = some v → Value.okWide Try.prog W .any base t v)
    (hW : DataW.Whole enc Try.prog Try.f4.params.toList Rows.queueOrdersSpec.vars false W args.toList ds gs before) (hz : (DataW.weightsEach Try.prog (Try.f4.params.toList ++ (OpenSpec.ofChange Rows.queueOrdersSpec).bare.plain.varTypes Try.prog) (ds ++ gs)).all (· ≤ reachBytes) = true) : 
    Calls Try.prog 4 args W fun e W' => ∃ v, e = .returned v ∧ Rows.queueOrdersSpec.post enc Try.prog Try.f4 false true false false W args v W' := by
  have hW' := hW
  obtain ⟨p, q, hA0, hV, rfl, hfz, hnd⟩ := hW
  have hA : DataW.TrodAll enc Try.prog W 0 (fun _ => true) true Try.f4.params.toList args.toList ds p := hA0
  rw [Try.params4] at hA hval
  obtain ⟨v0, vs0, d0, ds0, p0, q0, hargs, rfl, rfl, h0, r0⟩ := trodAll_cons hA
  obtain ⟨rfl, rfl, rfl⟩ := trodAll_nil r0
  obtain rfl : args = #[v0] := by cases args; simp_all
  obtain ⟨rfl, rfl⟩ := trodVars_none hV
  obtain ⟨A0, ops, c0, rfl, f0, l0, lc0, sz0, nl0⟩ := open_rows (qs := [.i64, .i64, .i64, .i64, .i64]) Try.underlying22 Try.underlying28 (by kernel_rfl) rfl (fun i f q hf hq => by
    match i, hf, hq with
    | 0, hf, hq => simp at hf hq; subst hf; subst hq; exact ⟨rfl, by kernel_rfl, Try.underlying3⟩
    | 1, hf, hq => simp at hf hq; subst hf; subst hq; exact ⟨rfl, by kernel_rfl, Try.underlying2⟩
    | 2, hf, hq => simp at hf hq; subst hf; subst hq; exact ⟨rfl, by kernel_rfl, Try.underlying2⟩
    | 3, hf, hq => simp at hf hq; subst hf; subst hq; exact ⟨rfl, by kernel_rfl, Try.underlying2⟩
    | 4, hf, hq => simp at hf hq; subst hf; subst hq; exact ⟨rfl, by kernel_rfl, Try.underlying3⟩
    | n + 5, hf, hq => simp at hq) (hval 0 22 v0 rfl rfl) h0
  have z0 : ops.length * 40 ≤ 140737488351232 := by
    rcases sz0 with h | ⟨es, sp, hd, hl⟩
    · rw [h]; decide
    · have := sized_slice hz (j := 0) (t := 22) (e := 28) (elems := es) (spare := sp) (by rw [Try.params4]; rfl) (by rw [hd]; rfl) Try.underlying22
      rw [show Try.prog.bytesOf 28 = 40 by kernel_rfl, show reachBytes = 140737488351232 from rfl] at this
      omega
  refine (walk A0 ops c0 W f0 lc0 nl0 (by omega)).mono fun e W' ⟨he, hb⟩ => ?_
  exact ⟨_, he, Shell.post_law laidOut (by kernel_rfl) rfl Try.underlying4 rfl hW' rfl hb⟩
theorem reads (os : Os) {H : Type} (enc : TypeId × Value → H) : ∃ places, DataW.whole enc Try.prog ((World.holding Try.prog os ⟨#[], #[], []⟩).forCall (fun _ _ => 0) ⟨#[], #[.slice none 0 0], []⟩).memory Try.f4.params.toList Rows.queueOrdersSpec.vars false (#[Value.slice none 0 0]).toList 8 = some ([.nil], [], places) :=
  ⟨[], by kernel_rfl⟩
set_option maxRecDepth 100000 in
theorem lifted (os : Os) (started : os.Started) (H : Type) (enc : TypeId × Value → H) (F : Stop.Interp) :
    ReturnsInHanded {} Try.checked os 4 .any ((OpenSpec.ofChange Rows.queueOrdersSpec).preRow enc Try.prog Try.f4 Rows.queueOrdersRow.domain false Rows.queueOrdersRow.laid) (((OpenSpec.ofChange Rows.queueOrdersSpec).at F).post enc Try.prog Try.f4 false true false false) := by
  obtain ⟨places, hx⟩ := reads os enc
  refine returnsInHanded_of_row (C := Try.checked) (s := OpenSpec.ofChange Rows.queueOrdersSpec) own started (by kernel_rfl) Try.func4
    (witness_row_atRef (enc := enc) (C := Try.checked) false (World.holding Try.prog os ⟨#[], #[], []⟩) #[.slice none 0 0] rfl (by kernel_rfl) (by kernel_rfl) (by kernel_rfl)
      (OpenSpec.preRow_of_cond 8 hx (by kernel_rfl) (fun k hk => by cases hk) (by kernel_rfl) (laid_met os _))) ?_
  intro W base args ds gs before hval hW _ _ hz hL _ _
  exact contract H enc W base args ds gs before hval hW hz
theorem said : Rows.QueueOrdersSaid :=
  OpenClaim.holds_of_cond 4 Try.f4 rfl rfl rfl rfl rfl rfl rfl ⟨rfl, rfl, rfl, rfl, rfl⟩ rfl rfl rfl rfl rfl (by kernel_rfl) Try.func4 (by kernel_rfl)
    (of_decide_eq_true (by kernel_rfl)) (by unfold Func.isWrapper; first | (rw [if_pos (by decide +kernel)]; kernel_rfl) | (rw [if_neg (by decide +kernel)]; exact ⟨rfl, rfl⟩))
    (fun os started H enc _ F => by rw [OpenClaim.pre_eq_preRow]; exact lifted os started H enc F)
end Go.Proofs.Ytniemmnmiefgeaa.QueueW.QueueOrders
