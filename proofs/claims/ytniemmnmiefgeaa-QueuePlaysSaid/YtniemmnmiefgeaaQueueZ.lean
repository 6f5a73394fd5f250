/- DeleteFunc at a pile: the walk. -/
import Derived.Test.YtniemmnmiefgeaaQueueY
namespace Go.Proofs.Ytniemmnmiefgeaa.QueueW
open Go.RowKit
def stays (ks : List Int) (x : It) : Bool := decide (¬ x.place ∈ ks)
/-- What DeleteFunc keeps in memory. -/
structure DM (w wr : World) (bx mb : Nat) (ks : List Int) (g c : Nat) (L M : List It) (i j : Nat) : Prop where
  di : DI (stays ks) i j M L
  row : Row wr 64 0 (.slice (some ⟨g, 0, none⟩) L.length c) M
  dv : DV wr bx mb ks
  chg : Chg (fun b => b = g) w wr
theorem Row.len {w : World} {T : TypeId} {base g n c : Nat} {M : List It} (h : Row w T base (.slice (some ⟨g, 0, none⟩) n c) M) : n = M.length := h.block.1
set_option maxHeartbeats 4000000 in
set_option maxRecDepth 100000 in
theorem delFuncI (bx mb : Nat) (ks : List Int) (A : Option Addr) (c : Nat) (L : List It) (w : World) (h : Row w 64 0 (.slice A L.length c) L) (hd : DV w bx mb ks) (hw : wfP L) (hl : L.length ≤ 65536) (hbx : (Value.slice A L.length c).ownBlock ≠ some bx) (hmb : (Value.slice A L.length c).ownBlock ≠ some mb) :
    Calls Try.prog 31 #[.slice A L.length c, delF bx] w fun e w' => e = .returned (.slice A (L.filter (stays ks)).length c) ∧ Row w' 64 0 (.slice A (L.filter (stays ks)).length c) (L.filter (stays ks)) ∧ Chg (fun b => (Value.slice A L.length c).ownBlock = some b) w w' := by
  have P := Lib.hid (idxI bx mb ks A c L w h hd hw hl)
  have HR := Lib.hid h
  have HD := Lib.hid hd
  have HW := Lib.hid hw
  have HX := Lib.hid hbx
  have HMB := Lib.hid hmb
  clear h hd hw hbx hmb
  go_enter Try.func31, Try.ntmps31
  go_wp2_with fail
  refine P.out.mono ?_
  rintro e w1 ⟨⟨rfl, hn⟩ | ⟨i, rfl, hi, hk, hf⟩, b1⟩
  · have ef : L.filter (stays ks) = L := List.filter_eq_self.2 (fun x hx => by
      obtain ⟨t, ht⟩ := List.getElem?_of_mem hx
      have := hn t (List.getElem?_eq_some_iff.1 ht).1
      rw [nth_some ht] at this
      exact decide_eq_true this)
    have EF := Lib.hid ef
    clear ef
    go_wp2
    go_ret
    rw [EF.out]
    exact ⟨rfl, Row.of_block HR.out (fun g hg => b1.block g (HR.out.lt hg)), Chg.of b1⟩
  · obtain ⟨g, rfl⟩ : ∃ g, A = some ⟨g, 0, none⟩ := by
      rcases HR.out.nil_form with ⟨_, e⟩ | ⟨g, c', e, _⟩
      · exact absurd hi (by rw [e]; exact Nat.not_lt_zero _)
      · exact ⟨g, by injection e⟩
    have H0 := Lib.hid (show DM w w1 bx mb ks g c L L i (i + 1) from ⟨DI.start hi (decide_eq_false (fun q => q hk)) (fun t ht => decide_eq_true (hf t ht)), Row.of_block HR.out (fun g hg => b1.block g (HR.out.lt hg)), HD.out.below b1, Chg.of b1⟩)
    have gx : ¬ bx = g := fun e => HX.out (by subst e; rfl)
    have gm : ¬ mb = g := fun e => HMB.out (by subst e; rfl)
    have HGX := Lib.hid gx
    have HGM := Lib.hid gm
    have li : i < 65536 := by omega
    have im : ((i : Int) == -1) = false := by simp
    clear hk hf b1 P HR HD HX HMB gx gm
    go_wp2_with fail
    clear im
    go_loopw [5, 6] (fun iv jv wr => ∃ (i j : Nat) (M : List It), iv = .int .i64 i ∧ jv = .int .i64 j ∧ j ≤ L.length ∧ i < j ∧ Hid (DM w wr bx mb ks g c L M i j)) (fun _ jv _ => L.length - (intOf jv).toNat)
    case atStart => exact ⟨i, i + 1, L, rfl, by congr 1, hi, by omega, H0⟩
    case round =>
      clear H0 hi li
      obtain ⟨i, j, M, rfl, rfl, hj, hij, H⟩ := hrel
      have lM := H.out.di.len
      have HLM := Lib.hid lM
      by_cases hjl : j < L.length
      · have hx := H.out.di.at hjl
        have ex : nth M j = nth L j := nth_some hx
        obtain ⟨a0, a1, a2, a3, a4⟩ := H.out.row.cells (i := j) (by omega)
        rw [ex] at a0 a1 a2 a3 a4
        have jl : (j : Int) < (L.length : Int) := by omega
        have il : (i : Int) < (L.length : Int) := by omega
        have wj := HW.out _ (List.mem_of_getElem? (some_nth hjl))
        clear lM
        by_cases hk : (nth L j).place ∈ ks
        · have HK := Lib.hid (show stays ks (nth L j) = false from decide_eq_false (fun q => q hk))
          have PD := fun W hd => delI bx mb ks (nth L j) W hd wj
          simp only [decide_eq_true hk] at PD
          have HSK := Lib.hid (H.out.di.skip hjl HK.out)
          generalize nth L j = y at *
          obtain ⟨y0, y1, y2, y3, y4, y5⟩ := y
          have sx : ∀ (W : World) (a : Addr) (m : Mode), Sem.run Try.prog (store a y4 m) W = stored Try.prog W a y4 m := fun W a m => run_store _ W a _ m y5
          dsimp only at a0 a1 a2 a3 a4 PD
          have PE := Lib.hid (PD (wr.alloc (.cells #[.int .i64 y0, .int .i64 y1, .int .i64 y2, .int .i64 y3, y4] 64)) (H.out.dv.below ((Below.refl _ _).alloc (Nat.le_refl _) _)))
          clear PD hk wj hx ex
          go_wp2_with fail
          refine PE.out.mono ?_
          rintro e w2 ⟨rfl, b2⟩
          have B2 := Lib.hid (((Below.refl wr.heap.size wr).alloc (Nat.le_refl _) (.cells #[.int .i64 y0, .int .i64 y1, .int .i64 y2, .int .i64 y3, y4] 64)).trans (b2.mono (by simp)))
          clear b2 PE
          go_wp2_with fail
          go_roundw
          case rel => exact ⟨i, j + 1, M, rfl, by congr 1, by omega, by omega, Lib.hid ⟨HSK.out, Row.of_block H.out.row (fun b hb => B2.out.block b (H.out.row.lt hb)), H.out.dv.below B2.out, H.out.chg.trans (Chg.of (X := fun _ => False) B2.out) (fun _ _ f => f.elim)⟩⟩
          case measure => simp only [intOf]; omega
        · have HK := Lib.hid (show stays ks (nth L j) = true from decide_eq_true hk)
          have PD := fun W hd => delI bx mb ks (nth L j) W hd wj
          simp only [decide_eq_false hk] at PD
          have HSK := Lib.hid (H.out.di.keep hjl HK.out)
          have HFR := Lib.hid (fun (W : World) (hr : Row W 64 0 (.slice (some ⟨g, 0, none⟩) M.length c) M) => Row.set hr (i := i) (by have := HLM.out; omega) (nth L j))
          generalize nth L j = y at *
          obtain ⟨y0, y1, y2, y3, y4, y5⟩ := y
          have sx : ∀ (W : World) (a : Addr) (m : Mode), Sem.run Try.prog (store a y4 m) W = stored Try.prog W a y4 m := fun W a m => run_store _ W a _ m y5
          dsimp only [It.cs] at a0 a1 a2 a3 a4 PD HFR
          have PE := Lib.hid (PD (wr.alloc (.cells #[.int .i64 y0, .int .i64 y1, .int .i64 y2, .int .i64 y3, y4] 64)) (H.out.dv.below ((Below.refl _ _).alloc (Nat.le_refl _) _)))
          clear PD hk wj hx ex
          go_wp2_with fail
          refine PE.out.mono ?_
          rintro e w2 ⟨rfl, b2⟩
          have B2 := Lib.hid (((Below.refl wr.heap.size wr).alloc (Nat.le_refl _) (.cells #[.int .i64 y0, .int .i64 y1, .int .i64 y2, .int .i64 y3, y4] 64)).trans (b2.mono (by simp)))
          obtain ⟨c0, c1, c2, c3, c4⟩ := cells5 ((b2.block wr.heap.size (by simp)).trans (heap_alloc_new wr _))
          have r2 := Row.of_block H.out.row (fun b hb => B2.out.block b (H.out.row.lt hb))
          obtain ⟨d0, d1, d2, d3, d4⟩ := r2.cells (i := i) (by have := HLM.out; omega)
          obtain ⟨f0, f1, f2, f3, f4⟩ := Row.frozen5 r2 i
          rw [← HLM.out] at r2
          have R3 := Lib.hid (HFR.out w2 r2)
          have gw : g < wr.heap.size := H.out.row.lt rfl
          have gb : ¬ wr.heap.size = g := by omega
          clear b2 PE a0 a1 a2 a3 a4 HFR r2 gw
          go_wp2_with fail
          go_roundw
          case rel => exact ⟨i + 1, j + 1, _, by congr 1, by congr 1, by omega, by omega, Lib.hid ⟨HSK.out, by rw [← HLM.out]; exact R3.out, (H.out.dv.below B2.out).chg (X := fun b => b = g) (Chg.setCells (X := fun b => b = g) rfl (Chg.refl _ _) _ [.int .i64 y0, .int .i64 y1, .int .i64 y2, .int .i64 y3, y4]) (fun e => HGX.out e) (fun e => HGM.out e), (H.out.chg.trans (Chg.of (X := fun _ => False) B2.out) (fun _ _ f => f.elim)).trans (Chg.setCells (X := fun b => b = g) rfl (Chg.refl _ _) _ [.int .i64 y0, .int .i64 y1, .int .i64 y2, .int .i64 y3, y4]) (fun _ _ e => e)⟩⟩
          case measure => simp only [intOf]; omega
      · have ej : j = L.length := by omega
        subst ej
        have hM : M.take i = L.filter (stays ks) := by have := H.out.di.head; rwa [List.take_length] at this
        have il : (i : Int) ≤ (L.length : Int) := by omega
        have ro := H.out.row
        rw [← lM] at ro
        have CL := Lib.hid (fun cc ty => clear_row (cc := cc) ro (i := i) (by omega) ty)
        have lc : (L.length : Int) ≤ (c : Int) := by
          obtain ⟨_, _, rest, _, h2, _⟩ := ro.block
          rw [List.length_append, flat_length] at h2
          omega
        have ic : (i : Int) ≤ (c : Int) := by omega
        have HMM := Lib.hid hM
        obtain ⟨w5, hr, r5, g5⟩ := CL.out (c - i) 0
        rw [lM] at hr
        rw [hM] at r5
        have ci : ¬ c = i := by omega
        have R5 := Lib.hid r5
        have G5 := Lib.hid g5
        clear ro hM CL r5 g5 lM
        go_wp2
        go_ret
        have e5 : i = (L.filter (stays ks)).length := by
          rw [← HMM.out, List.length_take]
          have := HLM.out
          omega
        rw [← e5] at R5 ⊢
        exact ⟨rfl, R5.out, H.out.chg.trans G5.out (fun _ _ e => e) |>.mono (fun b _ e => by subst e; rfl)⟩
end Go.Proofs.Ytniemmnmiefgeaa.QueueW
