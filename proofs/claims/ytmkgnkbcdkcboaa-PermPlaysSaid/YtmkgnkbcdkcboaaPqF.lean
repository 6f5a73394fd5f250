/- The heap's Push, Pop and Init. -/
import Derived.Test.YtmkgnkbcdkcboaaPqD
import Derived.Test.YtmkgnkbcdkcboaaPqE
namespace Go.Proofs.Ytmkgnkbcdkcboaa.QueueW
open Go.RowKit
theorem HeapC.start {w : World} {k g c : Nat} {m n : Int} {L : List It} (hq : w.heap[k]? = some (qC m n (.slice (some ⟨g, 0, none⟩) L.length c))) (h : Row w 90 0 (.slice (some ⟨g, 0, none⟩) L.length c) L) (hl : L.length ≤ 65536) : HeapC w w k g c 0 L L :=
  ⟨hl, rfl, List.Perm.refl _, h, Chg.refl _ _, cell_of_row w k 2 _ _ _ hq⟩
theorem lenC_at (a : Option Addr) (n c : Nat) (w : World) : Calls Try.prog 83 #[.slice a n c] w fun e w' => e = .returned (.int .i64 (n : Nat)) ∧ w = w' := (lenC_any a n c w).mono fun _ _ h => ⟨h.1, h.2.symm⟩
theorem HeapC.again {w0 w : World} {k g c base : Nat} {L M : List It} (h : HeapC w0 w k g c base L M) : HeapC w w k g c base M M :=
  ⟨by rw [h.len]; exact h.small, rfl, List.Perm.refl _, by rw [h.len]; exact h.row, Chg.refl _ _, by rw [h.len]; exact h.cell⟩
set_option maxHeartbeats 4000000 in
set_option maxRecDepth 100000 in
theorem hPushC_any (k : Nat) (m n : Int) (v : Value) (L : List It) (x : It) (w : World) (hq : w.heap[k]? = some (qC m n v)) (h : Row w 90 0 v L) (hk : v.ownBlock ≠ some k) (hl : L.length < 65536) (ho : HO 0 L.length L) :
    Calls Try.prog 43 #[.iface 88 (.pointer (some ⟨k, 2, none⟩)), .iface 90 (.agg #[.int .i64 x.time, .int .i64 x.rank, .int .i64 x.node, .int .i64 x.place, .int .i64 x.k, .int .i64 x.f, .int .i64 x.y, .int .u32 x.c, .int .i64 x.l])] w fun e w' => e = .returned (.tuple #[]) ∧
      ∃ g c M, w'.heap[k]? = some (qC m n (.slice (some ⟨g, 0, none⟩) (L.length + 1) c)) ∧ Row w' 90 0 (.slice (some ⟨g, 0, none⟩) (L.length + 1) c) M ∧ M.Perm (x :: L) ∧ HO 0 M.length M ∧ ¬ k = g ∧ (v.ownBlock = some g ∨ w.heap.size ≤ g) ∧ Chg (fun j => j = k ∨ v.ownBlock = some j) w w' := by
  have mP := fun n a w => pushC_m n a w
  have P := Lib.hid (pPushC_any k m n v L x w hq h hk (by omega))
  have lk := lt_heap hq
  have HK := Lib.hid hk
  have HO' := Lib.hid ho
  generalize hV : Value.agg #[.int .i64 x.time, .int .i64 x.rank, .int .i64 x.node, .int .i64 x.place, .int .i64 x.k, .int .i64 x.f, .int .i64 x.y, .int .u32 x.c, .int .i64 x.l] = V at *
  clear h hq hk ho hV
  go_enter Try.func43, Try.ntmps43
  go_wp2_with fail
  refine P.out.mono ?_
  rintro e w1 ⟨rfl, g, c, q1, r1, a1, g1⟩
  have hkg : ¬ k = g := fun e => by
    rcases a1 with a | a
    · exact HK.out (e ▸ a)
    · omega
  have U := Lib.hid (upC_any k g c 0 L.length (L ++ [x]) w1 (HeapC.start (by simpa using q1) (by simpa using r1) (by simp; omega)) hkg (by simp) (UpOk.start HO'.out x))
  have mN := fun n => lenC_f n k _ w1 (cell_of_row w1 k 2 _ _ _ q1)
  have Q1 := Lib.hid q1
  have A1 := Lib.hid a1
  have G1 := Lib.hid g1
  have HKG := Lib.hid hkg
  clear q1 r1 a1 g1 mP P hkg
  go_wp2_with (go_at_call 83; refine (lenC_at _ _ _ _).mono ?_; rintro e w' ⟨rfl, rfl⟩)
  refine U.out.mono ?_
  rintro e w2 ⟨rfl, M, h2, o2⟩
  go_wp2_with fail
  go_end0
  have c2 := h2.chg.heap Q1.out (fun e => HKG.out e)
  have r2 := h2.row
  have l2 := h2.len
  rw [List.length_append, List.length_singleton] at r2 l2 o2
  refine ⟨rfl, g, c, M, c2, r2, h2.perm.trans (List.perm_append_comm), by rw [l2]; exact o2, HKG.out, A1.out, G1.out.trans h2.chg (fun j hj e => ?_)⟩
  subst e
  rcases A1.out with a | a
  · exact Or.inr a
  · omega
theorem swpC_dn {L : List It} {l : Nat} (hl : L.length = l + 1) (ho : HO 0 L.length L) : DnOk 0 0 l (swp L 0 l) := by
  refine ⟨fun c hc h1 _ hn => ?_, fun c hc h1 _ h0 _ => by omega⟩
  rw [nth_swp (by omega) (by omega), nth_swp (by omega) (by omega), if_neg (by omega), if_neg (by omega), if_neg (by omega), if_neg hn]
  exact ho c (by omega) h1 (Nat.zero_le _)
theorem takeC_nth {M : List It} {l : Nat} (hl : M.length = l + 1) : M = M.take l ++ [nth M l] := by
  have e : nth M l = M[l] := nth_some (List.getElem?_eq_getElem (by omega))
  conv => lhs; rw [← List.take_append_drop l M, List.drop_eq_getElem_cons (show l < M.length by omega), List.drop_eq_nil_of_le (show M.length ≤ l + 1 by omega)]
  rw [e]
theorem HOC_take {M : List It} {l : Nat} (hl : l ≤ M.length) (h : HO 0 l M) : HO 0 (M.take l).length (M.take l) := by
  intro c hc h1 hp
  rw [List.length_take, Nat.min_eq_left hl] at hc
  have e : ∀ t, t < l → nth (M.take l) t = nth M t := fun t ht => by unfold nth; rw [List.getElem?_take, if_pos ht]
  rw [e c hc, e _ (by omega)]
  exact h c hc h1 hp
set_option maxHeartbeats 4000000 in
set_option maxRecDepth 100000 in
theorem hPopC_any (k g c : Nat) (m n : Int) (L : List It) (w : World) (hq : w.heap[k]? = some (qC m n (.slice (some ⟨g, 0, none⟩) L.length c))) (h : Row w 90 0 (.slice (some ⟨g, 0, none⟩) L.length c) L) (hk : ¬ k = g) (hl : L.length ≤ 65536) (h0 : 0 < L.length) (ho : HO 0 L.length L) :
    Calls Try.prog 46 #[.iface 88 (.pointer (some ⟨k, 2, none⟩))] w fun e w' => (∃ x, e = .returned x) ∧
      ∃ M, w'.heap[k]? = some (qC m n (.slice (some ⟨g, 0, none⟩) M.length c)) ∧ Row w' 90 0 (.slice (some ⟨g, 0, none⟩) M.length c) M ∧ (nth L 0 :: M).Perm L ∧ HO 0 M.length M ∧ Chg (fun j => j = k ∨ j = g) w w' := by
  obtain ⟨l, hll⟩ : ∃ l, L.length = l + 1 := ⟨L.length - 1, by omega⟩
  have hs := HeapC.start hq h hl
  have mN := fun n => lenC_f n k _ w hs.cell
  have S0 := hs.swap hk (i := 0) (j := l) (by omega) (by omega)
  rw [hll, show ((0 : Nat) : Int) = 0 from rfl] at S0
  have S := Lib.hid S0
  have mS := fun n => swapC_f n k _ w hs.cell
  have HK := Lib.hid hk
  have HO' := Lib.hid ho
  have HQ := Lib.hid hq
  have HL := Lib.hid hll
  have hl2 : l ≤ 65536 := by omega
  rw [hll] at mN mS
  clear hs S0 hq h hk hl h0 ho hll
  go_enter Try.func46, Try.ntmps46
  go_wp2_with (go_at_call 83; refine (lenC_at _ _ _ _).mono ?_; rintro e w' ⟨rfl, rfl⟩)
  refine S.out.mono ?_
  rintro e w1 ⟨rfl, h1⟩
  have D := Lib.hid (downC_any k g c 0 0 0 l (swp L 0 l) w1 h1.again HK.out (by rw [length_swp]; have := HL.out; omega) (by omega) (Nat.le_refl _) (swpC_dn HL.out HO'.out))
  have H1 := Lib.hid h1
  clear h1 S mS mN
  go_wp2_with fail
  refine D.out.mono ?_
  rintro e w2 ⟨⟨b, rfl⟩, M, h2, o2, t2⟩
  have l2 : M.length = l + 1 := by rw [h2.len, length_swp]; exact HL.out
  have q2 : w2.heap[k]? = some (qC m n (.slice (some ⟨g, 0, none⟩) (l + 1) c)) := by
    have := h2.chg.heap (H1.out.chg.heap HQ.out (fun e => HK.out e)) (fun e => HK.out e)
    rwa [HL.out] at this
  have tk := takeC_nth l2
  have ol := HOC_take (by omega) o2
  have e1 : (M.take l).length = l := by rw [List.length_take]; omega
  have ex : nth M l = nth L 0 := by
    rw [t2 l (Nat.le_refl _), nth_swp (by have := HL.out; omega) (by have := HL.out; omega), if_pos rfl]
  have pm : (nth L 0 :: M.take l).Perm L := by
    refine (List.perm_append_comm (l₁ := [nth L 0])).trans ?_
    rw [← ex, ← tk]
    exact (h2.perm.trans (perm_swp (by have := HL.out; omega) (by have := HL.out; omega)))
  have r2 := h2.row
  rw [length_swp, HL.out, tk] at r2
  have cg : Chg (fun x => x = g) w w2 := H1.out.chg.trans h2.chg (fun _ _ e => e)
  have X := pPopC_any k g c m n (M.take l) (nth M l) w2 (by rw [e1]; exact q2) (by rw [e1]; exact r2) HK.out (by rw [e1]; exact hl2)
  generalize M.take l = M1 at *
  have HX := Lib.hid X
  have HP := Lib.hid pm
  have HOl := Lib.hid ol
  have HC := Lib.hid cg
  have mQ := fun n a w => popC_m n a w
  clear X pm ol cg r2 tk ex q2 D l2 h2 o2 t2 e1
  go_wp2_with fail
  refine HX.out.mono ?_
  rintro e w3 ⟨rfl, q3, r3, g3⟩
  go_wp2_with fail
  go_ret
  exact ⟨⟨_, rfl⟩, M1, q3, r3, HP.out, HOl.out, (HC.out.mono (Y := fun j => j = k ∨ j = g) (fun _ _ e => Or.inr e)).trans g3 (fun _ _ e => e)⟩
end Go.Proofs.Ytmkgnkbcdkcboaa.QueueW
