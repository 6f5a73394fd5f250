/- The document's own list: a thing put in its place. -/
import Derived.Test.YtniemmnmiefgeaaQueueRb
import Derived.Deep.AppendLies
namespace Go.Proofs.Ytniemmnmiefgeaa.QueueW
open Go.RowKit
theorem LS.form {w : World} {base : Nat} {v : Value} {L : List Ri} (h : LS w base v L) : ∃ A c, v = .slice A L.length c := by
  rcases h with ⟨rfl, rfl⟩ | ⟨g, off, cap, rfl, _⟩
  · exact ⟨none, 0, rfl⟩
  · exact ⟨_, cap, rfl⟩
theorem LS.lies {w : World} {base : Nat} {A : Option Addr} {n c : Nat} {L : List Ri} (h : LS w base (.slice A n c) L) (h0 : L ≠ []) : ∃ g off, A = some ⟨g, off, none⟩ ∧ n = L.length ∧ base ≤ g ∧ LA w g off c L := by
  rcases h with ⟨_, e⟩ | ⟨g, off, cap, e, hb, h⟩
  · exact absurd e h0
  · injection e with e1 e2 e3
    subst e3
    exact ⟨g, off, e1, e2, hb, h⟩
theorem LS.snoc {w : World} {base : Nat} {v : Value} {L : List Ri} {x : Ri} (h : LS w base v (L ++ [x])) : ∃ g off c, v = .slice (some ⟨g, off, none⟩) (L.length + 1) c ∧ base ≤ g ∧ LA w g off c (L ++ [x]) := by
  rcases h with ⟨_, e⟩ | ⟨g, off, cap, e, hb, h⟩
  · exact absurd e (by simp)
  · exact ⟨g, off, cap, by rw [e]; simp, hb, h⟩
abbrev itBox (x : Ri) : Obj := .cells #[.int .i64 x.t, .int .i64 x.r, .int .i64 x.d, .int .i64 x.z] 34
/-- What the search keeps of memory. -/
structure Pw (w wr : World) (base : Nat) (v : Value) (L : List Ri) (x : Ri) : Prop where
  ls : LS wr base v L
  b : Below (w.heap.size + 1) (w.alloc (itBox x)) wr
theorem Pw.box {w wr : World} {base : Nat} {v : Value} {L : List Ri} {x : Ri} (h : Pw w wr base v L x) : wr.heap[w.heap.size]? = some (itBox x) := (h.b.block _ (by omega)).trans (heap_alloc_new _ _)
theorem Pw.step {w wr w1 : World} {base : Nat} {v : Value} {L : List Ri} {x : Ri} (h : Pw w wr base v L x) (b : Below wr.heap.size wr w1) : Pw w w1 base v L x := ⟨h.ls.below b, h.b.trans (b.mono (by have := h.b.size; simpa using this))⟩
/-- What the shifting keeps. -/
structure Sh (w wr : World) (v : Value) (g off c : Nat) (L : List Ri) (x : Ri) (i : Nat) : Prop where
  la : LA wr g off c (L.take i ++ x :: L.drop i)
  box : wr.heap[w.heap.size]? = some (itBox x)
  chg : Chg (fun j => v.ownBlock = some j ∨ w.heap.size ≤ j) w wr
theorem Sh.at {L : List Ri} {x y : Ri} {p : Nat} (hy : L[p]? = some y) : (L.take (p + 1) ++ x :: L.drop (p + 1))[p]? = some y ∧ (L.take (p + 1) ++ x :: L.drop (p + 1))[p + 1]? = some x ∧ ((L.take (p + 1) ++ x :: L.drop (p + 1)).set (p + 1) y).set p x = L.take p ++ x :: L.drop p := by
  obtain ⟨hp, e⟩ := List.getElem?_eq_some_iff.1 hy
  have l1 : (L.take (p + 1)).length = p + 1 := by rw [List.length_take]; omega
  refine ⟨?_, ?_, ?_⟩
  · rw [List.getElem?_append_left (by omega), List.getElem?_take, if_pos (by omega)]
    exact hy
  · rw [List.getElem?_append_right (by omega), l1, Nat.sub_self]
    rfl
  · rw [List.set_append, if_neg (by omega), l1, Nat.sub_self, List.set_cons_zero, List.set_append, if_pos (by omega)]
    rw [List.take_succ_eq_append_getElem hp, e, List.drop_eq_getElem_cons hp, e]
    have l2 : (L.take p).length = p := by rw [List.length_take]; omega
    rw [List.set_append, if_neg (by omega), l2, Nat.sub_self, List.set_cons_zero, List.append_assoc]
    rfl
theorem Sh.next {w wr : World} {v : Value} {g off c : Nat} {L : List Ri} {x y : Ri} {p : Nat} (h : Sh w wr v g off c L x (p + 1)) (hy : L[p]? = some y) (ng : ¬ g = w.heap.size) (hg : v.ownBlock = some g ∨ w.heap.size ≤ g) : Sh w ((wr.setCells g (off + (p + 1) * 4) y.cs).setCells g (off + p * 4) x.cs) v g off c L x p := by
  obtain ⟨hp, e⟩ := List.getElem?_eq_some_iff.1 hy
  have hlen : (L.take (p + 1) ++ x :: L.drop (p + 1)).length = L.length + 1 := by simp only [List.length_append, List.length_cons, List.length_take, List.length_drop]; omega
  have h1 := (h.la.set (i := p + 1) (by rw [hlen]; omega) y).set (i := p) (by rw [List.length_set, hlen]; omega) x
  rw [(Sh.at hy).2.2] at h1
  have g1 := Chg.setCells (X := fun j => j = g) (g := g) rfl (Chg.setCells (X := fun j => j = g) (g := g) rfl (Chg.refl _ wr) (off + (p + 1) * 4) y.cs) (off + p * 4) x.cs
  exact ⟨h1, g1.heap h.box (fun e => ng e.symm), h.chg.trans g1 (fun j _ e => by rw [e]; exact hg)⟩
set_option maxHeartbeats 4000000 in
set_option maxRecDepth 100000 in
theorem put_any (x : Ri) (L : List Ri) (v : Value) (base : Nat) (w : World) (h : LS w base v L) (hb : base ≤ w.heap.size) (hs : L.Pairwise (fun a b => ¬ rlt b a)) (hl : L.length ≤ 65536) :
    Calls Try.prog 11 #[v, x.v] w fun e w' => ∃ v', e = .returned v' ∧ LS w' base v' (insR x L) ∧ (∀ j, v'.ownBlock = some j → v.ownBlock = some j ∨ w.heap.size ≤ j) ∧ Chg (fun j => v.ownBlock = some j) w w' := by
  obtain ⟨A, c, rfl⟩ := h.form
  have H0 := Lib.hid (show Pw w (w.alloc (itBox x)) base (.slice A L.length c) L x from ⟨h.below ((Below.refl _ _).alloc (Nat.le_refl _) _), Below.refl _ _⟩)
  have HB := Lib.hid hb
  have HS := Lib.hid hs
  have B0 := Lib.hid (Bs.start x L)
  have OW := Lib.hid (show ∀ j, (Value.slice A L.length c).ownBlock = some j → j < w.heap.size from fun j hj => (h.lt j hj).2)
  clear h hb hs
  go_enter Try.func11, Try.ntmps11
  go_wp2_with fail
  go_loopw [5, 6] (fun lv hv wr => ∃ lo hi : Nat, lv = .int .i64 lo ∧ hv = .int .i64 hi ∧ Hid (Bs x L lo hi) ∧ Hid (Pw w wr base (.slice A L.length c) L x)) (fun lv hv _ => (intOf hv).toNat - (intOf lv).toNat)
  case atStart => exact ⟨0, L.length, rfl, rfl, B0, H0⟩
  case round =>
    clear B0 H0
    obtain ⟨lo, hi, rfl, rfl, B, H⟩ := hrel
    by_cases hlh : lo < hi
    · have ne : L ≠ [] := fun e => by have := B.out.top; rw [e] at this; simp at this; omega
      obtain ⟨g, off, rfl, -, -, la⟩ := H.out.ls.lies ne
      obtain ⟨m, hm⟩ : ∃ m, m = (lo + hi) / 2 := ⟨_, rfl⟩
      have top := B.out.top
      have hm1 : lo ≤ m := by omega
      have hm2 : m < hi := by omega
      obtain ⟨y, hy⟩ : ∃ y, L[m]? = some y := ⟨_, List.getElem?_eq_getElem (by omega)⟩
      obtain ⟨a0, a1, a2, a3⟩ := la.cells hy
      have em : ((lo : Int) + (hi : Int)) / 2 = (m : Int) := by omega
      have ml : (m : Int) < (L.length : Int) := by omega
      obtain ⟨b0, b1, b2, b3⟩ := cells4 H.out.box
      have HY := Lib.hid hy
      have HH1 := Lib.hid hm1
      have HH2 := Lib.hid hm2
      have K : Hid ((wr.cell? ⟨w.heap.size, 0, none⟩ = some (.int .i64 x.t) ∧ wr.cell? ⟨w.heap.size, 1, none⟩ = some (.int .i64 x.r) ∧ wr.cell? ⟨w.heap.size, 2, none⟩ = some (.int .i64 x.d) ∧ wr.cell? ⟨w.heap.size, 3, none⟩ = some (.int .i64 x.z)) ∧
        (wr.cell? ⟨g, off + m * 4, none⟩ = some (.int .i64 y.t) ∧ wr.cell? ⟨g, off + m * 4 + 1, none⟩ = some (.int .i64 y.r) ∧ wr.cell? ⟨g, off + m * 4 + 2, none⟩ = some (.int .i64 y.d) ∧ wr.cell? ⟨g, off + m * 4 + 3, none⟩ = some (.int .i64 y.z))) := Lib.hid ⟨⟨b0, b1, b2, b3⟩, a0, a1, a2, a3⟩
      clear la ne hy hm hm1 hm2
      go_wp2_with fail
      rw [em]
      have HE := Lib.hid em
      have HPn := Lib.hid (fun w1 => H.out.step (w1 := w1))
      clear em a0 a1 a2 a3 b0 b1 b2 b3
      go_region_held3 (fun w' => (w'.cell? ⟨w.heap.size, 0, none⟩ = some (.int .i64 x.t) ∧ w'.cell? ⟨w.heap.size, 1, none⟩ = some (.int .i64 x.r) ∧ w'.cell? ⟨w.heap.size, 2, none⟩ = some (.int .i64 x.d) ∧ w'.cell? ⟨w.heap.size, 3, none⟩ = some (.int .i64 x.z)) ∧
        (w'.cell? ⟨g, off + m * 4, none⟩ = some (.int .i64 y.t) ∧ w'.cell? ⟨g, off + m * 4 + 1, none⟩ = some (.int .i64 y.r) ∧ w'.cell? ⟨g, off + m * 4 + 2, none⟩ = some (.int .i64 y.d) ∧ w'.cell? ⟨g, off + m * 4 + 3, none⟩ = some (.int .i64 y.z))) (first | exact K.out | exact K1.out) (first
        | (go_at_call 27; (with_reducible refine (behind_any x y _).mono ?_); rintro e w1 ⟨rfl, b0⟩; have b1 := of_drew b0; have B1 := Lib.hid b1; have K1 : Hid ((w1.cell? ⟨w.heap.size, 0, none⟩ = some (.int .i64 x.t) ∧ w1.cell? ⟨w.heap.size, 1, none⟩ = some (.int .i64 x.r) ∧ w1.cell? ⟨w.heap.size, 2, none⟩ = some (.int .i64 x.d) ∧ w1.cell? ⟨w.heap.size, 3, none⟩ = some (.int .i64 x.z)) ∧
        (w1.cell? ⟨g, off + m * 4, none⟩ = some (.int .i64 y.t) ∧ w1.cell? ⟨g, off + m * 4 + 1, none⟩ = some (.int .i64 y.r) ∧ w1.cell? ⟨g, off + m * 4 + 2, none⟩ = some (.int .i64 y.d) ∧ w1.cell? ⟨g, off + m * 4 + 3, none⟩ = some (.int .i64 y.z))) := Lib.hid ⟨⟨cell_keep K.out.1.1 b1, cell_keep K.out.1.2.1 b1, cell_keep K.out.1.2.2.1 b1, cell_keep K.out.1.2.2.2 b1⟩, cell_keep K.out.2.1 b1, cell_keep K.out.2.2.1 b1, cell_keep K.out.2.2.2.1 b1, cell_keep K.out.2.2.2.2 b1⟩; clear b0 b1))
      rename_i hHeld
      clear hHeld K K1
      by_cases hr : rlt x y
      · have BN := Lib.hid (B.out.down HS.out HY.out HH1.out HH2.out hr)
        rw [show (!decide (rlt x y)) = false by rw [decide_eq_true hr]; rfl]
        clear hr
        go_wp2
        go_roundw
        case rel => exact ⟨lo, m, rfl, rfl, BN, Lib.hid (HPn.out _ B1.out)⟩
        case measure => simp only [intOf]; have := HH2.out; omega
      · have BN := Lib.hid (B.out.up HS.out HY.out HH1.out HH2.out hr)
        rw [show (!decide (rlt x y)) = true by rw [decide_eq_false hr]; rfl]
        clear hr
        go_wp2
        go_roundw
        case rel => exact ⟨m + 1, hi, by congr 1, rfl, BN, Lib.hid (HPn.out _ B1.out)⟩
        case measure => simp only [intOf]; have := HH2.out; have := HH1.out; omega
    · obtain rfl : lo = hi := by have := B.out.le; omega
      obtain ⟨b0, b1, b2, b3⟩ := cells4 H.out.box
      have hwr : w.heap.size + 1 ≤ wr.heap.size := by have := H.out.b.size; simpa using this
      have LSa := Lib.hid (H.out.ls.below (w1 := wr.alloc (itBox x)) ((Below.refl _ _).alloc (Nat.le_refl _) _))
      have BA := Lib.hid (show base ≤ (wr.alloc (itBox x)).heap.size by have := HB.out; simp; omega)
      have NW := Lib.hid (show ∀ j u, x.cs[j]? = some u → (wr.alloc (itBox x)).cell? ((⟨wr.heap.size, 0, none⟩ : Addr).add j) = some u from World.news_of_block (heap_alloc_new wr _))
      have BX := Lib.hid (show ∀ w1, Chg (fun j => (Value.slice A L.length c).ownBlock = some j) (wr.alloc (itBox x)) w1 → w1.heap[w.heap.size]? = some (itBox x) ∧ Chg (fun j => (Value.slice A L.length c).ownBlock = some j ∨ w.heap.size ≤ j) w w1 from fun w1 g1 =>
        ⟨g1.heap ((heap_alloc_old _ _ (by omega)).trans H.out.box) (fun e => by have := OW.out _ e; omega),
          (((Chg.refl _ w).alloc (itBox x)).trans ((show Chg (fun j => w.heap.size + 1 ≤ j) (w.alloc (itBox x)) wr from ⟨H.out.b.os, H.out.b.tape, H.out.b.output, H.out.b.size, fun j _ hj => H.out.b.block j (by omega)⟩).alloc (itBox x)) (fun j _ e => Or.inr (by omega))).trans g1 (fun _ _ e => Or.inl e)⟩)
      have hll : L.length ≤ 1000000 := by omega
      clear H hlh
      go_wp2_with (at_builtin; refine wpList_append_ls (v := .slice A L.length c) (L := L) _ rfl _ _ rfl rfl LSa.out BA.out x ⟨wr.heap.size, 0, none⟩ 1 rfl NW.out hll ?_; intro v1 w1 l1 o1 g1; obtain ⟨g, off, c1, rfl, hbg, la⟩ := l1.snoc; have O1 := Lib.hid o1; have G1 := Lib.hid g1; have LA1 := Lib.hid la; clear l1 o1 g1 la)
      have ng : ¬ w.heap.size = g := fun e => by
        rcases O1.out g rfl with e1 | e1
        · have := OW.out _ e1; omega
        · rw [show (wr.alloc (.cells #[.int .i64 x.t, .int .i64 x.r, .int .i64 x.d, .int .i64 x.z] 34)).heap.size = wr.heap.size + 1 by simp] at e1; omega
      have ng' : ¬ g = w.heap.size := fun e => ng e.symm
      have O2 := Lib.hid (show ∀ j, (Value.slice (some ⟨g, off, none⟩) (L.length + 1) c1).ownBlock = some j → (Value.slice A L.length c).ownBlock = some j ∨ w.heap.size ≤ j from fun j hj => (O1.out j hj).imp id (fun e1 => by
        rw [show (wr.alloc (.cells #[.int .i64 x.t, .int .i64 x.r, .int .i64 x.d, .int .i64 x.z] 34)).heap.size = wr.heap.size + 1 by simp] at e1; omega))
      have S0 := Lib.hid (show Sh w w1 (.slice A L.length c) g off c1 L x L.length from ⟨by rw [List.take_length, List.drop_length]; exact LA1.out, (BX.out w1 G1.out).1, (BX.out w1 G1.out).2⟩)
      have top := B.out.top
      clear LSa BA NW BX O1 G1 LA1 b0 b1 b2 b3 hwr hll
      go_wp2_with fail
      go_loopw [8] (fun iv wr => ∃ i : Nat, iv = .int .i64 i ∧ lo ≤ i ∧ i ≤ L.length ∧ Hid (Sh w wr (.slice A L.length c) g off c1 L x i)) (fun iv _ => (intOf iv).toNat)
      case atStart => exact ⟨L.length, by congr 1, top, Nat.le_refl _, S0⟩
      case round =>
        clear S0
        obtain ⟨i, rfl, hi1, hi2, S⟩ := hrel
        by_cases hli : lo < i
        · obtain ⟨p, rfl⟩ : ∃ p, i = p + 1 := ⟨i - 1, by omega⟩
          obtain ⟨y, hy⟩ : ∃ y, L[p]? = some y := ⟨_, List.getElem?_eq_getElem (by omega)⟩
          have HY := Lib.hid hy
          obtain ⟨e1, e2, e3⟩ := Sh.at (x := x) hy
          obtain ⟨a0, a1, a2, a3⟩ := S.out.la.cells e1
          obtain ⟨d0, d1, d2, d3⟩ := S.out.la.cells e2
          have hcap : L.length + 1 ≤ c1 := by have := S.out.la.le; simp only [List.length_append, List.length_cons, List.length_take, List.length_drop] at this; omega
          obtain ⟨f0, f1, f2, f3⟩ := S.out.la.frozen4 (i := p) (by omega)
          obtain ⟨h0, h1, h2, h3⟩ := S.out.la.frozen4 (i := p + 1) (by omega)
          obtain ⟨b0, b1, b2, b3⟩ := cells4 S.out.box
          have ep : ((p + 1 : Nat) : Int) = (p : Int) + 1 := by omega
          have pl : (p : Int) < (L.length : Int) := by omega
          have lp : (lo : Int) < (p : Int) + 1 := by omega
          rw [ep]
          clear e1 e2 e3 hy hcap ep hi2 hli
          go_wp2
          go_roundw
          case rel => exact ⟨p, rfl, by omega, by omega, Lib.hid (S.out.next HY.out ng' (O2.out g rfl))⟩
          case measure => simp only [intOf]; omega
        · obtain rfl : i = lo := by omega
          go_wp2
          go_ret
          have hrow := insR_at x L i top B.out.low B.out.high
          have hlen : (L.take i ++ x :: L.drop i).length = L.length + 1 := by simp only [List.length_append, List.length_cons, List.length_take, List.length_drop]; omega
          exact ⟨.slice (some ⟨g, off, none⟩) (L.length + 1) c1, rfl, Or.inr ⟨g, off, c1, by rw [hrow, hlen], hbg, by rw [hrow]; exact S.out.la⟩, O2.out, S.out.chg.mono (fun j hj e => e.elim id (fun e => by omega))⟩
end Go.Proofs.Ytniemmnmiefgeaa.QueueW
