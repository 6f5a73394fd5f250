/- The heap's up. -/
import Derived.Test.YtmkgnkbcdkcboaaPqL
namespace Go.Proofs.Ytmkgnkbcdkcboaa.QueueW
open Go.RowKit
/-- What up and down keep. -/
structure HeapC (w0 w : World) (k g c base : Nat) (L M : List It) : Prop where
  small : L.length ≤ 65536
  len : M.length = L.length
  perm : M.Perm L
  row : Row w 90 base (.slice (some ⟨g, 0, none⟩) L.length c) M
  chg : Chg (fun x => x = g) w0 w
  cell : w.cell? ⟨k, 2, none⟩ = some (.slice (some ⟨g, 0, none⟩) L.length c)
theorem HeapC.step {w0 w w1 : World} {k g c base : Nat} {L M : List It} (h : HeapC w0 w k g c base L M) (b : Below w.heap.size w w1) : HeapC w0 w1 k g c base L M :=
  ⟨h.small, h.len, h.perm, Row.of_block h.row (fun j hj => b.block j (h.row.lt hj)), h.chg.trans (Chg.of (X := fun _ => False) b) (fun _ _ f => f.elim), (b.cell (World.block_lt_of_cell? _ _ h.cell)).trans h.cell⟩
theorem HeapC.less {w0 w : World} {k g c base : Nat} {L M : List It} (h : HeapC w0 w k g c base L M) {i j : Nat} (hi : i < L.length) (hj : j < L.length) :
    Calls Try.prog 84 #[.slice (some ⟨g, 0, none⟩) L.length c, .int .i64 (i : Nat), .int .i64 (j : Nat)] w fun e w' => e = .returned (.bool (decide (lt (nth M i) (nth M j)))) ∧ HeapC w0 w' k g c base L M := by
  have r := h.row
  rw [← h.len] at hi hj r ⊢
  exact (lessC_any g c base i j M w r hi hj).mono fun e w' ⟨h1, h2⟩ => ⟨h1, h.step h2⟩
theorem HeapC.swap {w0 w : World} {k g c base : Nat} {L M : List It} (h : HeapC w0 w k g c base L M) (hk : ¬ k = g) {i j : Nat} (hi : i < L.length) (hj : j < L.length) :
    Calls Try.prog 85 #[.slice (some ⟨g, 0, none⟩) L.length c, .int .i64 (i : Nat), .int .i64 (j : Nat)] w fun e w' => e = .returned (.tuple #[]) ∧ HeapC w0 w' k g c base L (swp M i j) := by
  have r := h.row
  have l := h.len
  have hi' : i < M.length := by omega
  have hj' : j < M.length := by omega
  rw [← h.len] at r
  have C := swapC_any g c base i j M w r hi' hj'
  rw [l] at C
  exact C.mono fun e w' ⟨h1, h2, h3⟩ => ⟨h1, h.small, by rw [length_swp, l], (perm_swp hi' hj').trans h.perm, h2, h.chg.trans h3 (fun _ _ x => x), h3.cell h.cell (fun e => hk e)⟩
set_option maxHeartbeats 4000000 in
set_option maxRecDepth 100000 in
theorem upC_any (k g c base j : Nat) (L : List It) (w : World) (h : HeapC w w k g c base L L) (hk : ¬ k = g) (hj : j < L.length) (hu : UpOk j L) :
    Calls Try.prog 52 #[.iface 88 (.pointer (some ⟨k, 2, none⟩)), .int .i64 (j : Nat)] w fun e w' => e = .returned (.tuple #[]) ∧ ∃ M, HeapC w w' k g c base L M ∧ HO 0 L.length M := by
  have HH := Lib.hid h
  have HU := Lib.hid hu
  have HJ := Lib.hid hj
  have HK := Lib.hid hk
  clear h hu hj hk
  go_enter Try.func52, Try.ntmps52
  go_wp2_with fail
  go_loopw [1] (fun jv wr => ∃ (j : Nat) (M : List It), jv = .int .i64 j ∧ Hid (j < L.length) ∧ Hid (UpOk j M) ∧ Hid (HeapC w wr k g c base L M)) (fun jv _ => (intOf jv).toNat)
  case atStart => exact ⟨j, L, rfl, HJ, HU, HH⟩
  case round =>
    clear HJ HU HH
    obtain ⟨j, M, rfl, HJ, HU, HH⟩ := hrel
    have mL := fun n => lessC_f n k _ wr HH.out.cell
    rcases Nat.eq_zero_or_pos j with rfl | hp
    · go_wp2
      go_end0
      exact ⟨rfl, M, HH.out, by rw [← HH.out.len]; exact HU.out.done (Or.inl rfl)⟩
    · obtain ⟨m, rfl⟩ : ∃ m, j = m + 1 := ⟨j - 1, by omega⟩
      have hm : m ≤ 65536 := by have := HJ.out; have := HH.out.small; omega
      have HD : Hid ((m + 1 - 1) / 2 = m / 2) := Lib.hid rfl
      have HL := HH.out.less (i := m + 1) (j := m / 2) HJ.out (by have := HJ.out; omega)
      rw [show ((m + 1 : Nat) : Int) = (m : Int) + 1 by omega, show ((m / 2 : Nat) : Int) = (m : Int) / 2 by omega] at HL
      clear hp
      by_cases hl : lt (nth M (m + 1)) (nth M (m / 2))
      · rw [decide_eq_true hl] at HL
        have HQ := Lib.hid hl
        clear hl
        go_wp2_with fail
        refine HL.mono ?_
        rintro e w1 ⟨rfl, h1⟩
        have H1 := Lib.hid h1
        clear h1 HL mL
        have mS := fun n => swapC_f n k _ w1 H1.out.cell
        have HS := H1.out.swap HK.out (i := m / 2) (j := m + 1) (by have := HJ.out; omega) HJ.out
        rw [show ((m + 1 : Nat) : Int) = (m : Int) + 1 by omega, show ((m / 2 : Nat) : Int) = (m : Int) / 2 by omega] at HS
        go_wp2_with fail
        refine HS.mono ?_
        rintro e w2 ⟨rfl, h2⟩
        have H2 := Lib.hid h2
        clear h2 HS mS
        go_wp2_with fail
        go_roundw
        case rel => exact ⟨m / 2, _, by rw [show ((m / 2 : Nat) : Int) = (m : Int) / 2 by omega], Lib.hid (by have := HJ.out; omega), Lib.hid (HU.out.step (by rw [HH.out.len]; exact HJ.out) (by omega) HQ.out), H2⟩
        case measure => simp only [intOf]; omega
      · rw [decide_eq_false hl] at HL
        have HQ := Lib.hid (show Not (lt (nth M (m + 1)) (nth M (m / 2))) from hl)
        clear hl
        go_wp2_with fail
        refine HL.mono ?_
        rintro e w1 ⟨rfl, h1⟩
        have H1 := Lib.hid h1
        clear h1 HL mL
        go_wp2_with fail
        go_end0
        exact ⟨rfl, M, H1.out, by rw [← HH.out.len]; exact HU.out.done (Or.inr HQ.out)⟩
end Go.Proofs.Ytmkgnkbcdkcboaa.QueueW
