/- Play: a drop. -/
import Derived.Test.YtniemmnmiefgeaaQueueT
import Derived.Test.YtniemmnmiefgeaaQueueM
namespace Go.Proofs.Ytniemmnmiefgeaa.QueueW
open Go.RowKit Shell
theorem geC (B : Nat) (z u : Int) (W : World) (h : W.cell? ⟨B, 4, none⟩ = some (.int .i64 z)) : Calls Try.prog 34 #[.int .i64 u, .pointer (some ⟨B, 0, none⟩)] W fun e w' => e = .returned (.bool (decide (z ≤ u))) ∧ W = w' := by
  go_enter Try.func34, Try.ntmps34
  go_wp2
  go_ret
  exact ⟨rfl, rfl⟩
theorem ent_ge : ∀ (args : Array Value) (w : World), Sem.run Try.prog (callFunc 34 args) w = .ok (.enter 34 args) w := enters_of Try.func34 (by kernel_rfl) rfl
set_option maxHeartbeats 4000000 in
theorem play_drop (k : Nat) (m n : Int) (v : Value) (S : List It) (t r d z : Int) (w : World) (h : QSI w k m n v S) (hi : Fine S) (hn : n < 4611686018427387904) : Played w k m n v S 5 t r d z := by
  unfold Played ansT nxtN nxtS
  simp only [if_neg (show ¬ (5 : Int) = 1 by decide), if_neg (show ¬ ((5 : Int) = 2 ∨ (5 : Int) = 3) by decide), if_neg (show ¬ (5 : Int) = 4 by decide), if_neg (show ¬ (5 : Int) = 2 by decide), if_true]
  have lt := h.lt
  have B := alC (alC (alC (Below.refl w.heap.size w) (Obj.cells #[.int .i64 5, .int .i64 t, .int .i64 r, .int .i64 d, .int .i64 z] 28)) (Obj.cells #[.int .i64 0, .int .i64 0, .bool false, .int .i64 0] 30)) (Obj.cells #[.int .i64 0, .int .i64 0, .bool false, .int .i64 0] 30)
  have HW : (((w.alloc (Obj.cells #[.int .i64 5, .int .i64 t, .int .i64 r, .int .i64 d, .int .i64 z] 28)).alloc (Obj.cells #[.int .i64 0, .int .i64 0, .bool false, .int .i64 0] 30)).alloc (Obj.cells #[.int .i64 0, .int .i64 0, .bool false, .int .i64 0] 30)).heap.size = w.heap.size + 3 := by simp
  have c4 : (((w.alloc (Obj.cells #[.int .i64 5, .int .i64 t, .int .i64 r, .int .i64 d, .int .i64 z] 28)).alloc (Obj.cells #[.int .i64 0, .int .i64 0, .bool false, .int .i64 0] 30)).alloc (Obj.cells #[.int .i64 0, .int .i64 0, .bool false, .int .i64 0] 30)).cell? ⟨w.heap.size, 4, none⟩ = some (.int .i64 z) :=
    cell_of_row _ _ 4 _ _ _ ((tolds (w := w) (X := fun _ => False) (Chg.refl _ _) (fun _ f => f.elim)).2.2)
  have K : KC (((w.alloc (Obj.cells #[.int .i64 5, .int .i64 t, .int .i64 r, .int .i64 d, .int .i64 z] 28)).alloc (Obj.cells #[.int .i64 0, .int .i64 0, .bool false, .int .i64 0] 30)).alloc (Obj.cells #[.int .i64 0, .int .i64 0, .bool false, .int .i64 0] 30)) k v 34 #[.pointer (some ⟨w.heap.size, 0, none⟩)] S (fun x => decide (z ≤ x.num)) (fun _ => False) (fun _ W => W.cell? ⟨w.heap.size, 4, none⟩ = some (.int .i64 z)) := by
    refine ⟨fun _ f => f.elim, ent_ge, c4, fun j x W hx hW hI => ?_, fun j W W' hI hW hc => hc.cell hI (fun e => ?_)⟩
    · rw [hi.ints x (List.mem_of_getElem? hx)]
      refine (geC w.heap.size z x.num W hI).mono ?_
      rintro e w' ⟨rfl, rfl⟩
      exact ⟨rfl, hI, Chg.refl _ _⟩
    · rcases e with e | e | e
      · rw [HW] at e
        have e : w.heap.size + 3 ≤ w.heap.size := e
        omega
      · have e : w.heap.size = k := e
        have := lt.1
        omega
      · have := lt.2 _ e
        dsimp only at this
        omega
  have P := Lib.hid (dropI k m n v S _ _ _ _ _ _ (h.below B) hi.plc hi.dis hn K)
  have HS := Lib.hid h
  have HB := Lib.hid B
  have HH := Lib.hid HW
  have HLT := Lib.hid lt
  clear h B lt HW hi c4 K
  go_enter Try.func26, Try.ntmps26
  go_wp2_with fail
  refine P.out.mono ?_
  rintro e w1 ⟨rfl, v', q1, o1, -, g1⟩
  have g1 := g1.mono (Y := fun j => j = k ∨ v.ownBlock = some j) (fun _ _ e => e.elim (fun f => f.elim) id)
  obtain ⟨t1, t2, _⟩ := tolds g1 (fun j h => h.elim (fun e => e ▸ HLT.out.1) (HLT.out.2 j))
  have E := Lib.hid (fun w2 => play_fin (w2 := w2) HB.out HH.out HLT.out q1 (fun j hj => Or.inl (o1 ▸ hj)) g1)
  have T1 := Lib.hid t1
  obtain ⟨a0, a1, a2, a3⟩ := cells4 t1
  obtain ⟨b0, b1, b2, b3⟩ := cells4 t2
  obtain ⟨f0, f1, f2, f3⟩ := frozen4 t1
  obtain ⟨h0, h1, h2, h3⟩ := frozen4 t2
  clear q1 o1 g1 t1 t2 P
  go_wp2
  refine ret_told rfl rfl (set4 (a := .int .i64 0) (b := .int .i64 0) (c := .bool false) (d := .int .i64 0) (t := 30) ?_ _ _ _ _) ⟨rfl, E.out _ ?_⟩
  · exact (Go.heap_setCell_other _ _ _ _ (by simp)).trans (T1.out)
  · exact (((((Chg.refl _ _).setCell (Or.inr rfl) _).setCell (Or.inl rfl) _).setCell (Or.inl rfl) _).setCell (Or.inl rfl) _).setCell (Or.inl rfl) _
theorem playC_any (o : Op5) : PlayC o := by
  by_cases h5 : o.q = 5
  · intro k m n v S w h hi hm hn
    rw [h5]
    exact play_drop k m n v S _ _ _ _ w h hi hn.2
  · exact playC_not5 o h5
end Go.Proofs.Ytniemmnmiefgeaa.QueueW
