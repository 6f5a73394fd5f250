/- A pile's Push and Pop. -/
import Derived.Test.YtmkgnkbcdkcboaaPqL
import Derived.WalkSpells
import Derived.Deep.RegionLaw
namespace Go.Proofs.Ytmkgnkbcdkcboaa.QueueW
open Go.RowKit
theorem infoC : (Try.prog.info? 90).map (fun i => (i.zero.map (fun z => z.cells.size), i.size, i.bytes)) = some (some 9, 9, 72) := by kernel_rfl
theorem infoC_parts : ∃ (i : TypeInfo) (z : Value), Try.prog.info? 90 = some i ∧ i.zero = some z ∧ i.size = 9 ∧ i.bytes = 72 ∧ z.cells.size = 9 := by
  have h := infoC
  revert h
  cases Try.prog.info? 90 with
  | none => intro h; cases h
  | some i =>
    intro h
    simp only [Option.map_some, Option.some.injEq, Prod.mk.injEq] at h
    obtain ⟨h1, h2, h3⟩ := h
    cases hz : i.zero with
    | none => rw [hz] at h1; cases h1
    | some z =>
      rw [hz] at h1
      simp only [Option.map_some, Option.some.injEq] at h1
      exact ⟨i, z, rfl, hz, h2, h3, h1⟩
theorem assertC (y : Value) (w : World) : Sem.run Try.prog (Instr.typeAssert (.iface 90 y) 20 90 false) w = .ok y w := by kernel_rfl
abbrev qC (m n : Int) (v : Value) : Obj := .cells #[.int .i64 m, .int .i64 n, v] 82 (0, 0)
def zC : It := ⟨0, 0, 0, 0, 0, 0, 0, 0, 0⟩
theorem chgC {w w1 : World} {o : Obj} {row : Option Nat} (h : (w.alloc o).drew.grownBy w1 row) : Chg (fun j => row = some j) w w1 :=
  ⟨h.os, h.tape, h.output, Nat.le_trans (show w.heap.size ≤ (w.alloc o).heap.size by simp) h.size, fun j hj hn => (h.block j (show j < (w.alloc o).heap.size by simp; omega) (fun e => hn e.symm)).trans (heap_alloc_old _ _ hj)⟩
set_option maxHeartbeats 8000000 in
set_option maxRecDepth 100000 in
theorem pPushC_any (k : Nat) (m n : Int) (v : Value) (L : List It) (x : It) (w : World) (hq : w.heap[k]? = some (qC m n v)) (h : Row w 90 0 v L) (hk : v.ownBlock ≠ some k) (hl : L.length ≤ 65536) :
    Calls Try.prog 91 #[.pointer (some ⟨k, 2, none⟩), .iface 90 (.agg #[.int .i64 x.time, .int .i64 x.rank, .int .i64 x.node, .int .i64 x.place, .int .i64 x.k, .int .i64 x.f, .int .i64 x.y, .int .u32 x.c, .int .i64 x.l])] w fun e w' => e = .returned (.tuple #[]) ∧
      ∃ g c, w'.heap[k]? = some (qC m n (.slice (some ⟨g, 0, none⟩) (L.length + 1) c)) ∧ Row w' 90 0 (.slice (some ⟨g, 0, none⟩) (L.length + 1) c) (L ++ [x]) ∧ (v.ownBlock = some g ∨ w.heap.size ≤ g) ∧ Chg (fun j => j = k ∨ v.ownBlock = some j) w w' := by
  obtain ⟨i0, z0, hi0, hz0, hs0, hb0, hz1⟩ := infoC_parts
  have c2 : w.cell? ⟨k, 2, none⟩ = some v := cell_of_row w k 2 _ _ _ hq
  have f2 := frozen_of_row w k 2 _ _ hq
  have lk := lt_heap hq
  obtain ⟨x0, x1, x2, x3, x4, x5, x6, x7, x8⟩ := x
  have HO := Lib.hid (show World.ownsRow (w.alloc (.cells #[.int .i64 x0, .int .i64 x1, .int .i64 x2, .int .i64 x3, .int .i64 x4, .int .i64 x5, .int .i64 x6, .int .u32 x7, .int .i64 x8] 90)).drew 0 90 9 v L.length (flat L) from Row.drew (Row.of_block h (fun g hg => heap_alloc_old _ _ (h.lt hg))))
  have H1 := Lib.hid (show ∀ u ∈ [Value.int .i64 x0, .int .i64 x1, .int .i64 x2, .int .i64 x3, .int .i64 x4, .int .i64 x5, .int .i64 x6, .int .u32 x7, .int .i64 x8], u.oneCell' = true from fun u hu => by
    simp only [List.mem_cons, List.not_mem_nil, or_false] at hu
    rcases hu with rfl | rfl | rfl | rfl | rfl | rfl | rfl | rfl | rfl <;> rfl)
  have HN := Lib.hid (World.news_of_block (cs := #[.int .i64 x0, .int .i64 x1, .int .i64 x2, .int .i64 x3, .int .i64 x4, .int .i64 x5, .int .i64 x6, .int .u32 x7, .int .i64 x8]) (t := 90) (fr := (0, 0)) (w := (w.alloc (.cells #[.int .i64 x0, .int .i64 x1, .int .i64 x2, .int .i64 x3, .int .i64 x4, .int .i64 x5, .int .i64 x6, .int .u32 x7, .int .i64 x8] 90)).drew) (heap_alloc_new w _))
  have HI := Lib.hid hi0
  have HZ := Lib.hid hz0
  have HK := Lib.hid hk
  have M1 := Lib.hid (show L.length + 1 ≤ maxLen by simp only [maxLen]; omega)
  have M2 := Lib.hid (show (L.length + 1) * 72 ≤ 140737488355328 by omega)
  have KN := Lib.hid (show ∀ (w1 : World), World.grownBy (w.alloc (.cells #[.int .i64 x0, .int .i64 x1, .int .i64 x2, .int .i64 x3, .int .i64 x4, .int .i64 x5, .int .i64 x6, .int .u32 x7, .int .i64 x8] 90)).drew w1 v.ownBlock → w1.heap[k]? = some (qC m n v) from fun w1 hg => (hg.block k (by simp; omega) (fun e => hk e.symm)).trans ((heap_alloc_old _ _ lk).trans hq))
  have C := Lib.hid c2
  have HQ := Lib.hid hq
  clear h hq hi0 hz0 hk
  dsimp only [It.thing]
  have tA := assertC
  go_enter Try.func91, Try.ntmps91
  go_wp2_with fail
  go_region_law ((refine step_append_lies _ (by rfl) _ _ _ (by rfl) 0 90 i0 _ 9 72 Try.underlying80 HI.out HZ.out hs0 hb0 hz1 (by omega) v L.length (flat L) (by rfl) HO.out ⟨w.heap.size, 0, none⟩ 1 1 [.int .i64 x0, .int .i64 x1, .int .i64 x2, .int .i64 x3, .int .i64 x4, .int .i64 x5, .int .i64 x6, .int .u32 x7, .int .i64 x8] (by rfl) (by rfl) HN.out H1.out (by omega) M1.out M2.out (by omega) (w.heap.size + 1) (by simp) ?_; intro g c w1 o1 gr at1 lt1; have q1 := KN.out w1 gr; have c2 : w1.cell? ⟨k, 2, none⟩ = some v := cell_of_row w1 k 2 _ _ _ q1; have f2 := frozen_of_row w1 k 2 _ _ q1; have K2 := Lib.hid c2; have Q1 := Lib.hid q1; have O1 := Lib.hid o1; have G1 := Lib.hid gr; have A1 := Lib.hid at1; clear q1 o1 gr at1))
  all_goals
    have hg : g ≠ k := fun e => by
      rcases A1.out with h | h
      · exact HK.out (e ▸ h)
      · omega
    go_end0
    refine ⟨rfl, g, c, Go.heap_setCell_same w1 k 2 _ _ _ Q1.out, ?_, ?_, ?_⟩
    · refine Row.of_block (w := w1) ?_ (fun j hj => Go.heap_setCell_other w1 ⟨k, 2, none⟩ j _ (fun e => ?_))
      · unfold Row
        rw [flat_append, List.length_append]
        exact O1.out
      · injection hj with hj
        exact hg (hj.trans e)
    · rcases A1.out with h | h
      · exact Or.inl h
      · exact Or.inr (by omega)
    · exact ((chgC G1.out).mono (Y := fun j => j = k ∨ v.ownBlock = some j) (fun j _ h => Or.inr h)).setCell (X := fun j => j = k ∨ v.ownBlock = some j) (p := ⟨k, 2, none⟩) (Or.inl rfl) _
set_option maxHeartbeats 8000000 in
set_option maxRecDepth 100000 in
theorem pPopC_walk (k g c : Nat) (m n : Int) (L : List It) (x : It) (w : World) (hq : w.heap[k]? = some (qC m n (.slice (some ⟨g, 0, none⟩) (L.length + 1) c))) (h : Row w 90 0 (.slice (some ⟨g, 0, none⟩) (L.length + 1) c) (L ++ [x])) (hk : ¬ k = g) (hl : L.length ≤ 65536) :
    Calls Try.prog 90 #[.pointer (some ⟨k, 2, none⟩)] w fun e w' => e = .returned (.iface 90 (.agg #[.int .i64 x.time, .int .i64 x.rank, .int .i64 x.node, .int .i64 x.place, .int .i64 x.k, .int .i64 x.f, .int .i64 x.y, .int .u32 x.c, .int .i64 x.l])) ∧
      ∃ o, w' = ((w.setCells g (L.length * 9) (zC).cs).setCell ⟨k, 2, none⟩ (.slice (some ⟨g, 0, none⟩) L.length c)).alloc o := by
  obtain ⟨a0, a1, a2, a3, a4, a5, a6, a7, a8⟩ := Row.cells h (i := L.length) (by simp)
  have hx : nth (L ++ [x]) L.length = x := nth_some (by simp)
  rw [hx] at a0 a1 a2 a3 a4 a5 a6 a7 a8
  obtain ⟨f0, f1, f2, f3, f4, f5, f6, f7, f8⟩ := Row.frozen9 h L.length
  have c2 : w.cell? ⟨k, 2, none⟩ = some (.slice (some ⟨g, 0, none⟩) (L.length + 1) c) := cell_of_row w k 2 _ _ _ hq
  have k2 := frozen_of_row w k 2 _ _ hq
  have lk := lt_heap hq
  have lg : g < w.heap.size := h.lt rfl
  have hkg : ¬ g = k := fun e => hk e.symm
  have hc : (L.length : Int) ≤ (c : Int) := by
    obtain ⟨_, _, rest, _, h2, _⟩ := h.block
    rw [List.length_append, flat_length, List.length_append, List.length_cons, List.length_nil] at h2
    omega
  obtain ⟨x0, x1, x2, x3, x4, x5, x6, x7, x8⟩ := x
  dsimp only at a0 a1 a2 a3 a4 a5 a6 a7 a8
  generalize hn : L.length = l at *
  clear h hq hn hx
  dsimp only [It.cs, zC, It.thing]
  go_enter Try.func90, Try.ntmps90
  go_wp2
  go_ret
  exact ⟨rfl, _, rfl⟩
theorem RowC.take {w : World} {T : TypeId} {base g n c : Nat} {L M : List It} (h : Row w T base (.slice (some ⟨g, 0, none⟩) n c) (L ++ M)) : Row w T base (.slice (some ⟨g, 0, none⟩) L.length c) L := by
  obtain ⟨_, hb, rest, hg, hl, hm⟩ := h.block
  rw [flat_append, List.append_assoc] at hg hl
  exact Row.mk hb hg hl hm
theorem pPopC_any (k g c : Nat) (m n : Int) (L : List It) (x : It) (w : World) (hq : w.heap[k]? = some (qC m n (.slice (some ⟨g, 0, none⟩) (L.length + 1) c))) (h : Row w 90 0 (.slice (some ⟨g, 0, none⟩) (L.length + 1) c) (L ++ [x])) (hk : ¬ k = g) (hl : L.length ≤ 65536) :
    Calls Try.prog 90 #[.pointer (some ⟨k, 2, none⟩)] w fun e w' => e = .returned (.iface 90 (.agg #[.int .i64 x.time, .int .i64 x.rank, .int .i64 x.node, .int .i64 x.place, .int .i64 x.k, .int .i64 x.f, .int .i64 x.y, .int .u32 x.c, .int .i64 x.l])) ∧
      w'.heap[k]? = some (qC m n (.slice (some ⟨g, 0, none⟩) L.length c)) ∧ Row w' 90 0 (.slice (some ⟨g, 0, none⟩) L.length c) L ∧ Chg (fun j => j = k ∨ j = g) w w' := by
  refine (pPopC_walk k g c m n L x w hq h hk hl).mono ?_
  rintro e w' ⟨rfl, o, rfl⟩
  have e1 : (L ++ [x]).length = L.length + 1 := by simp
  have h1 := Row.set (L := L ++ [x]) (by rw [e1]; exact h) (i := L.length) (by rw [e1]; omega) (zC)
  have c1 : Chg (fun j => j = k ∨ j = g) w (w.setCells g (L.length * 9) (zC).cs) := Chg.setCells (X := fun j => j = k ∨ j = g) (Or.inr rfl) (Chg.refl _ _) _ _
  have q1 : (w.setCells g (L.length * 9) (zC).cs).heap[k]? = some (qC m n (.slice (some ⟨g, 0, none⟩) (L.length + 1) c)) := (Chg.setCells (X := fun j => j = g) rfl (Chg.refl _ _) _ _).heap hq hk
  rw [List.set_append, if_neg (Nat.lt_irrefl _)] at h1
  simp only [Nat.sub_self, List.set_cons_zero] at h1
  generalize w.setCells g (L.length * 9) (zC).cs = w1 at *
  have h2 := RowC.take h1
  refine ⟨rfl, ?_, ?_, (c1.setCell (X := fun j => j = k ∨ j = g) (p := ⟨k, 2, none⟩) (Or.inl rfl) _).alloc _⟩
  · rw [heap_alloc_old _ _ (by have := lt_heap q1; simpa using this)]
    exact Go.heap_setCell_same w1 k 2 _ _ _ q1
  · refine Row.of_block h2 (fun j hj => ?_)
    have hj' : g = j := by injection hj
    subst hj'
    rw [heap_alloc_old _ _ (by have := h2.lt (g := g) rfl; simpa using this)]
    exact Go.heap_setCell_other w1 ⟨k, 2, none⟩ g _ (fun e => hk e.symm)
end Go.Proofs.Ytmkgnkbcdkcboaa.QueueW
