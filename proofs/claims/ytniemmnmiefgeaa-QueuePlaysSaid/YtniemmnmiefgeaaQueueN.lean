/- The heap's Init. -/
import Derived.Test.YtniemmnmiefgeaaQueueGI
namespace Go.Proofs.Ytniemmnmiefgeaa.QueueW
open Go.RowKit
theorem dn_of {q n : Nat} {M : List It} (h : HO (q + 1) n M) : DnOk q q n M :=
  ⟨fun c hc h1 h2 h3 => h c hc h1 (by omega), fun c _ _ _ h1 h2 => by omega⟩
set_option maxHeartbeats 4000000 in
set_option maxRecDepth 100000 in
theorem initI (k g c : Nat) (m n : Int) (L : List It) (w : World) (hq : w.heap[k]? = some (qI m n (.slice (some ⟨g, 0, none⟩) L.length c))) (h : Row w 64 0 (.slice (some ⟨g, 0, none⟩) L.length c) L) (hk : ¬ k = g) (hl : L.length ≤ 65536) :
    Calls Try.prog 33 #[.iface 62 (.pointer (some ⟨k, 2, none⟩))] w fun e w' => e = .returned (.tuple #[]) ∧ ∃ M, HeapI w w' k g c 0 L M ∧ HO 0 L.length M := by
  have hs := HeapI.start hq h hl
  have HH := Lib.hid hs
  have HK := Lib.hid hk
  have mN := fun n => lenI_f n k _ w hs.cell
  clear hs hq h hk
  go_enter Try.func33, Try.ntmps33
  go_wp2_with (go_at_call 81; refine (lenI_at _ _ _ _).mono ?_; rintro e w' ⟨rfl, hw⟩; cases hw)
  go_loopw [3] (fun iv wr => ∃ (p : Nat) (M : List It), iv = .int .i64 ((p : Int) - 1) ∧ p ≤ L.length / 2 ∧ Hid (HeapI w wr k g c 0 L M ∧ HO p L.length M)) (fun iv _ => (intOf iv + 1).toNat)
  case atStart => exact ⟨L.length / 2, L, by congr 1, Nat.le_refl _, Lib.hid ⟨HH.out, fun c hc h1 h2 => by omega⟩⟩
  case round =>
    clear HH
    obtain ⟨p, M, rfl, hp, H⟩ := hrel
    rcases Nat.eq_zero_or_pos p with rfl | h0
    · go_wp2
      go_end0
      exact ⟨rfl, M, H.out⟩
    · obtain ⟨q, rfl⟩ : ∃ q, p = q + 1 := ⟨p - 1, by omega⟩
      have D := Lib.hid (downI_any k g c 0 q q L.length M wr H.out.1.again HK.out (by rw [H.out.1.len]; exact Nat.le_refl _) (by omega) (Nat.le_refl _) (dn_of H.out.2))
      have e1 : ((q + 1 : Nat) : Int) - 1 = (q : Int) := by omega
      rw [e1]
      have HQ := Lib.hid H.out.1
      clear e1 H h0
      go_wp2_with fail
      refine D.out.mono ?_
      rintro e w2 ⟨⟨b, rfl⟩, M2, h2, o2, -⟩
      have h3 : HeapI w w2 k g c 0 L M2 := ⟨HQ.out.small, h2.len.trans HQ.out.len, h2.perm.trans HQ.out.perm, by have := h2.row; rwa [HQ.out.len] at this, HQ.out.chg.trans h2.chg (fun _ _ e => e), by have := h2.cell; rwa [HQ.out.len] at this⟩
      have H3 := Lib.hid (⟨h3, o2⟩ : HeapI w w2 k g c 0 L M2 ∧ HO q L.length M2)
      clear h2 o2 h3 D HQ
      go_wp2_with fail
      go_roundw
      case rel => exact ⟨q, M2, by congr 1, by omega, H3⟩
      case measure => simp only [intOf]; omega
theorem initI0 (k : Nat) (A : Option Addr) (c : Nat) (w : World) (hv : w.cell? ⟨k, 2, none⟩ = some (.slice A 0 c)) :
    Calls Try.prog 33 #[.iface 62 (.pointer (some ⟨k, 2, none⟩))] w fun e w' => e = .returned (.tuple #[]) ∧ w = w' := by
  have mN := fun n => lenI_f n k _ w hv
  clear hv
  go_enter Try.func33, Try.ntmps33
  go_wp2_with (go_at_call 81; refine (lenI_at _ _ _ _).mono ?_; rintro e w' ⟨rfl, hw⟩; cases hw)
  go_loopw [3] (fun iv wr => iv = .int .i64 (-1) ∧ wr = w) (fun _ _ => 0)
  case atStart => exact ⟨rfl, rfl⟩
  case round =>
    obtain ⟨rfl, rfl⟩ := hrel
    go_wp2
    go_end0
    exact ⟨rfl, rfl⟩
end Go.Proofs.Ytniemmnmiefgeaa.QueueW
