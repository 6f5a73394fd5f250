/- What is dropped: the closure, IndexFunc, DeleteFunc. -/
import Derived.Test.YtniemmnmiefgeaaQueueW
namespace Go.Proofs.Ytniemmnmiefgeaa.QueueW
open Go.RowKit
def wfP (L : List It) : Prop := ∀ x ∈ L, (Lit.int .i64 x.place).wf = true
/-- The closure's variable and its set. -/
structure DV (w : World) (bx mb : Nat) (ks : List Int) : Prop where
  cell : w.cell? ⟨bx, 0, none⟩ = some (.map (some mb))
  set : PS w mb ks
theorem DV.chg {w w1 : World} {bx mb : Nat} {ks : List Int} (h : DV w bx mb ks) {X : Nat → Prop} (c : Chg X w w1) (h1 : ¬ X bx) (h2 : ¬ X mb) : DV w1 bx mb ks :=
  ⟨c.cell h.cell h1, h.set.of_heap (c.block mb h.set.lt h2)⟩
theorem DV.below {w w1 : World} {bx mb : Nat} {ks : List Int} (h : DV w bx mb ks) (b : Below w.heap.size w w1) : DV w1 bx mb ks := h.chg (X := fun _ => False) (Chg.of b) (fun f => f) (fun f => f)
abbrev delF (bx : Nat) : Value := .func (.func 32) #[] #[.pointer (some ⟨bx, 0, none⟩)]
set_option maxHeartbeats 1000000 in
set_option maxRecDepth 100000 in
theorem delI (bx mb : Nat) (ks : List Int) (x : It) (w : World) (h : DV w bx mb ks) (hw : (Lit.int .i64 x.place).wf = true) :
    Calls Try.prog 32 #[.agg #[.int .i64 x.time, .int .i64 x.rank, .int .i64 x.node, .int .i64 x.place, x.thing], .pointer (some ⟨bx, 0, none⟩)] w fun e w' => e = .returned (.bool (decide (x.place ∈ ks))) ∧ Below w.heap.size w w' := by
  obtain ⟨x0, x1, x2, x3, x4, x5⟩ := x
  dsimp only at *
  have lb := World.block_lt_of_cell? _ _ h.cell
  dsimp only at lb
  have c0 := h.cell
  obtain ⟨n, D, ho, hn, hD⟩ := h.set.of_heap (w1 := w.alloc (.cells #[.int .i64 x0, .int .i64 x1, .int .i64 x2, .int .i64 x3, x4] 64)) (heap_alloc_old _ _ h.set.lt)
  have HO := Lib.hid ho
  have HE := Lib.hid (hD x3 hw)
  have HKY := Lib.hid (Maps.keyOf_int_mk (P := Try.prog) (k := 2) Try.underlying2 hw)
  have c1 : (w.alloc (.cells #[.int .i64 x0, .int .i64 x1, .int .i64 x2, .int .i64 x3, x4] 64)).cell? ⟨bx, 0, none⟩ = some (.map (some mb)) := cell_keep c0 ((Below.refl _ _).alloc (Nat.le_refl _) _)
  clear h ho hn hD hw lb
  go_enter Try.func32, Try.ntmps32
  go_wp2_with (at_lookup; refine wpList_lookup_own_unit _ rfl _ _ 66 rfl 2 69 (Maps.int_keyed Try.underlying2) Try.underlying66 (Try.zeroValue69 _) mb n D rfl HO.out (.int .i64 x3) (.int .i64 x3) rfl HKY.out ?_; rw [HE.out])
  go_ret
  exact ⟨rfl, ((Below.refl _ _).alloc (Nat.le_refl _) _).alloc (by simp) _⟩
set_option maxHeartbeats 2000000 in
set_option maxRecDepth 100000 in
theorem idxI (bx mb : Nat) (ks : List Int) (A : Option Addr) (c : Nat) (L : List It) (w : World) (h : Row w 64 0 (.slice A L.length c) L) (hd : DV w bx mb ks) (hw : wfP L) (hl : L.length ≤ 65536) :
    Calls Try.prog 40 #[.slice A L.length c, delF bx] w fun e w' => ((e = .returned (.int .i64 (-1)) ∧ ∀ t, t < L.length → ¬ (nth L t).place ∈ ks) ∨ ∃ i : Nat, e = .returned (.int .i64 i) ∧ i < L.length ∧ (nth L i).place ∈ ks ∧ ∀ t, t < i → ¬ (nth L t).place ∈ ks) ∧ Below w.heap.size w w' := by
  have HR := Lib.hid h
  have HD := Lib.hid hd
  have HW := Lib.hid hw
  clear h hd hw
  go_enter Try.func40, Try.ntmps40
  go_wp2_with fail
  go_loopw [8] (fun iv wr => ∃ j : Nat, iv = .int .i64 j ∧ j ≤ L.length ∧ Hid (Below w.heap.size w wr) ∧ Hid (∀ t, t < j → ¬ (nth L t).place ∈ ks)) (fun iv _ => L.length - (intOf iv).toNat)
  case atStart => exact ⟨0, rfl, Nat.zero_le _, Lib.hid (Below.refl _ _), Lib.hid (fun t ht => by omega)⟩
  case round =>
    obtain ⟨j, rfl, hj, HB, HT⟩ := hrel
    by_cases hjl : j < L.length
    · have hx := some_nth hjl
      have rr := Row.of_block HR.out (fun g hg => HB.out.block g (HR.out.lt hg))
      obtain ⟨g, c', e, _⟩ : ∃ g c', Value.slice A L.length c = .slice (some ⟨g, 0, none⟩) L.length c' ∧ 0 ≤ g := by
        rcases rr.nil_form with ⟨_, e⟩ | h
        · rw [e] at hjl; simp at hjl
        · exact h
      obtain ⟨rfl, rfl⟩ : A = some ⟨g, 0, none⟩ ∧ c = c' := by injection e with e1 _ e3; exact ⟨e1, e3⟩
      obtain ⟨a0, a1, a2, a3, a4⟩ := rr.cells hjl
      have jl : (j : Int) < (L.length : Int) := by omega
      have P := Lib.hid (delI bx mb ks (nth L j) wr (HD.out.below HB.out) (HW.out _ (List.mem_of_getElem? hx)))
      clear rr hx e
      by_cases hk : (nth L j).place ∈ ks
      · have HK := Lib.hid hk
        rw [decide_eq_true hk] at P
        clear hk
        generalize hy : nth L j = y at *
        have HY := Lib.hid hy
        obtain ⟨y0, y1, y2, y3, y4, y5⟩ := y
        dsimp only at a0 a1 a2 a3 a4 P
        clear hy
        go_wp2_with fail
        refine P.out.mono ?_
        rintro e w2 ⟨rfl, b2⟩
        go_wp2
        go_ret
        exact ⟨Or.inr ⟨j, rfl, hjl, by rw [HY.out]; exact HK.out, HT.out⟩, HB.out.trans (b2.mono HB.out.size)⟩
      · have HK := Lib.hid hk
        rw [decide_eq_false hk] at P
        clear hk
        generalize hy : nth L j = y at *
        have HY := Lib.hid hy
        obtain ⟨y0, y1, y2, y3, y4, y5⟩ := y
        dsimp only at a0 a1 a2 a3 a4 P
        clear hy
        go_wp2_with fail
        refine P.out.mono ?_
        rintro e w2 ⟨rfl, b2⟩
        have B2 := Lib.hid (HB.out.trans (b2.mono HB.out.size))
        clear b2
        go_wp2_with fail
        go_roundw
        case rel => exact ⟨j + 1, by congr 1, by omega, B2, Lib.hid (fun t ht => by
          rcases Nat.lt_or_ge t j with h | h
          · exact HT.out t h
          · have e : t = j := by omega
            subst e
            rw [HY.out]
            exact HK.out)⟩
        case measure => simp only [intOf]; omega
    · go_wp2
      go_ret
      exact ⟨Or.inl ⟨rfl, fun t ht => HT.out t (by omega)⟩, HB.out⟩
end Go.Proofs.Ytniemmnmiefgeaa.QueueW
