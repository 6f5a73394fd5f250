/- Play, call by call. -/
import Derived.Test.YtniemmnmiefgeaaQueueGI
namespace Go.Proofs.Ytniemmnmiefgeaa.QueueW
open Go.RowKit
theorem alC {w w1 : World} (h : Below w.heap.size w w1) (o : Obj) : Below w.heap.size w (w1.alloc o) := h.alloc h.size o
theorem heap_at {w : World} {g : Nat} (h : w.heap.size = g) (o : Obj) : (w.alloc o).heap[g]? = some o := by subst h; exact heap_alloc_new w o
/-- The number that a thing is. -/
def It.num (x : It) : Int := match x.thing with
  | .int _ z => z
  | _ => 0
def keep (z : Int) (S : List It) : List It := S.filter fun x => decide (z ≤ x.num)
def nxtS (m n : Int) (S : List It) (q t r d z : Int) : List It :=
  if q = 1 then (if (S.length : Int) < m then ins ⟨t, r, d, n, .int .i64 z, rfl⟩ S else S) else if q = 2 then S.tail else if q = 5 then keep z S else S
def nxtN (m n : Int) (S : List It) (q : Int) : Int := if q = 1 then (if (S.length : Int) < m then n + 1 else n) else n
abbrev told (a : Value) (b : Int) (c : Bool) (d : Int) : Value := .agg #[a, .int .i64 b, .bool c, .int .i64 d]
def peeked : List It → Value
  | [] => told (.int .i64 0) 0 false 0
  | x :: _ => told x.thing x.time true 0
def ansT (m : Int) (S : List It) (q z : Int) : Value :=
  if q = 1 then told (.int .i64 0) 0 (decide ((S.length : Int) < m)) 0 else if q = 2 ∨ q = 3 then peeked S else if q = 4 then told (.int .i64 0) 0 false S.length
  else if q = 5 then told (.int .i64 0) 0 false ((S.length : Int) - (keep z S).length) else told (.int .i64 0) 0 false 0
/-- What play does with a queue. -/
def Played (w : World) (k : Nat) (m n : Int) (v : Value) (S : List It) (q t r d z : Int) : Prop :=
  Calls Try.prog 26 #[.pointer (some ⟨k, 0, none⟩), .agg #[.int .i64 q, .int .i64 t, .int .i64 r, .int .i64 d, .int .i64 z]] w fun e w' => e = .returned (ansT m S q z) ∧
    ∃ v', QSI w' k m (nxtN m n S q) v' (nxtS m n S q t r d z) ∧ (∀ j, v'.ownBlock = some j → v.ownBlock = some j ∨ w.heap.size ≤ j) ∧ Chg (fun j => j = k ∨ v.ownBlock = some j) w w'
theorem ret_told {fn : Func} {R : Ending → World → Prop} {p : Tmp} (h : fn.results = #[.cell p 30]) {tmps : Array Value} {w : World} {g : Nat} {a b c d : Value} {t : TypeId} {fr : Nat × Nat}
    (hp : tmps.getD p undef = .pointer (some ⟨g, 0, none⟩)) (hg : w.heap[g]? = some (.cells #[a, b, c, d] t fr)) (hR : R (.returned (.agg #[a, b, c, d])) w) :
    bodyPost Try.prog fn R .ret { tmps := tmps, defers := [] } w := by
  refine bodyPost_ret (v := .agg #[a, b, c, d]) ?_ rfl hR
  have hp' : tmps[p]?.getD undef = .pointer (some ⟨g, 0, none⟩) := by simpa using hp
  simp [results, h, hp', asAddr, run_loadVar_row w g t 30 #[a, b, c, d] fr _ hg Try.underlying30 rfl (by kernel_rfl)]
set_option maxHeartbeats 2000000 in
theorem play_other (k : Nat) (m n : Int) (v : Value) (S : List It) (q t r d z : Int) (w : World) (h : QSI w k m n v S) (h1 : ¬ q = 1) (h2 : ¬ q = 2) (h3 : ¬ q = 3) (h4 : ¬ q = 4) (h5 : ¬ q = 5) : Played w k m n v S q t r d z := by
  unfold Played ansT nxtN nxtS
  rw [if_neg h1, if_neg h1, if_neg (by omega : ¬ (q = 2 ∨ q = 3)), if_neg h4, if_neg h5, if_neg h1, if_neg h2, if_neg h5]
  have e1 : (q == 1) = false := by simpa using h1
  have e2 : (q == 2) = false := by simpa using h2
  have e3 : (q == 3) = false := by simpa using h3
  have e4 : (q == 4) = false := by simpa using h4
  have e5 : (q == 5) = false := by simpa using h5
  have HS := Lib.hid h
  clear h h1 h2 h3 h4 h5
  go_enter Try.func26, Try.ntmps26
  go_wp2
  refine ret_told rfl rfl ((heap_alloc_old _ _ (by simp)).trans (heap_at (by simp) _)) ⟨rfl, v, ?_, fun j hj => Or.inl hj, ?_⟩
  · exact HS.out.below (alC (alC (alC (Below.refl _ _) _) _) _)
  · exact Chg.of (alC (alC (alC (Below.refl _ _) _) _) _)
/-- The two Tolds of a call, kept. -/
theorem tolds {w w1 : World} {o : Obj} {X : Nat → Prop} (g : Chg X (((w.alloc o).alloc (.cells #[.int .i64 0, .int .i64 0, .bool false, .int .i64 0] 30)).alloc (.cells #[.int .i64 0, .int .i64 0, .bool false, .int .i64 0] 30)) w1) (hX : ∀ j, X j → j < w.heap.size) :
    w1.heap[w.heap.size + 1]? = some (.cells #[.int .i64 0, .int .i64 0, .bool false, .int .i64 0] 30) ∧ w1.heap[w.heap.size + 1 + 1]? = some (.cells #[.int .i64 0, .int .i64 0, .bool false, .int .i64 0] 30) ∧ w1.heap[w.heap.size]? = some o := by
  refine ⟨g.heap ((heap_alloc_old _ _ (by simp)).trans (heap_at (by simp) _)) (fun h => by have := hX _ h; omega), g.heap (heap_at (by simp) _) (fun h => by have := hX _ h; omega), g.heap (((heap_alloc_old _ _ (by simp; omega)).trans (heap_alloc_old _ _ (by simp))).trans (heap_at rfl _)) (fun h => by have := hX _ h; omega)⟩
theorem frozen4 {w : World} {j : Nat} {cs : Array Value} {t : TypeId} (h : w.heap[j]? = some (.cells cs t (0, 0))) : w.frozen? ⟨j, 0, none⟩ = false ∧ w.frozen? ⟨j, 1, none⟩ = false ∧ w.frozen? ⟨j, 2, none⟩ = false ∧ w.frozen? ⟨j, 3, none⟩ = false :=
  ⟨frozen_of_row w j 0 _ _ h, frozen_of_row w j 1 _ _ h, frozen_of_row w j 2 _ _ h, frozen_of_row w j 3 _ _ h⟩
theorem set4 {w : World} {g : Nat} {a b c d : Value} {t : TypeId} (h : w.heap[g]? = some (.cells #[a, b, c, d] t (0, 0))) (x y z u : Value) : ((((w.setCell ⟨g, 0, none⟩ x).setCell ⟨g, 1, none⟩ y).setCell ⟨g, 2, none⟩ z).setCell ⟨g, 3, none⟩ u).heap[g]? = some (.cells #[x, y, z, u] t (0, 0)) :=
  Go.heap_setCell_same _ _ 3 _ _ _ (Go.heap_setCell_same _ _ 2 _ _ _ (Go.heap_setCell_same _ _ 1 _ _ _ (Go.heap_setCell_same w _ 0 _ _ _ h)))
theorem play_fin {w W w1 w2 : World} {k : Nat} {m n : Int} {v v' : Value} {S : List It} (B : Below w.heap.size w W) (hW : W.heap.size = w.heap.size + 3) (hlt : k < w.heap.size ∧ ∀ j, v.ownBlock = some j → j < w.heap.size) (q1 : QSI w1 k m n v' S) (o1 : ∀ j, v'.ownBlock = some j → v.ownBlock = some j ∨ W.heap.size ≤ j)
    (g1 : Chg (fun j => j = k ∨ v.ownBlock = some j) W w1) (g2 : Chg (fun j => j = w.heap.size + 1 ∨ j = w.heap.size + 1 + 1) w1 w2) : ∃ v', QSI w2 k m n v' S ∧ (∀ j, v'.ownBlock = some j → v.ownBlock = some j ∨ w.heap.size ≤ j) ∧ Chg (fun j => j = k ∨ v.ownBlock = some j) w w2 := by
  refine ⟨v', q1.frame g2 (by have := hlt.1; omega) (fun j hj => ?_), fun j hj => (o1 j hj).imp id (fun h => by omega), ((Chg.of B).trans g1 (fun _ _ e => e)).trans g2 (fun j hj e => by omega)⟩
  rcases o1 j hj with h | h
  · have := hlt.2 j h; omega
  · omega
theorem lenqI_b (k : Nat) (m n : Int) (v : Value) (S : List It) (w : World) (h : QSI w k m n v S) : Calls Try.prog 16 #[.pointer (some ⟨k, 0, none⟩)] w fun e w' => e = .returned (.int .i64 (S.length : Nat)) ∧ Below w.heap.size w w' :=
  (lenqI_any k m n v S w h).mono fun e w' h => ⟨h.1, by rw [← h.2]; exact Below.refl _ _⟩
-- WAYS
set_option maxHeartbeats 4000000 in
theorem play_push (k : Nat) (m n : Int) (v : Value) (S : List It) (t r d z : Int) (w : World) (h : QSI w k m n v S) (hm : m ≤ 65536) (hn : 0 ≤ n ∧ n < 4611686018427387904) (hl : (S.length : Int) < m) : Played w k m n v S 1 t r d z := by
  unfold Played ansT nxtN nxtS
  rw [if_pos rfl, if_pos rfl, if_pos rfl, if_pos hl, if_pos hl, decide_eq_true hl]
  have lt := h.lt
  have B := alC (alC (alC (Below.refl w.heap.size w) (Obj.cells #[.int .i64 1, .int .i64 t, .int .i64 r, .int .i64 d, .int .i64 z] 28)) (Obj.cells #[.int .i64 0, .int .i64 0, .bool false, .int .i64 0] 30)) (Obj.cells #[.int .i64 0, .int .i64 0, .bool false, .int .i64 0] 30)
  have HW : (((w.alloc (Obj.cells #[.int .i64 1, .int .i64 t, .int .i64 r, .int .i64 d, .int .i64 z] 28)).alloc (Obj.cells #[.int .i64 0, .int .i64 0, .bool false, .int .i64 0] 30)).alloc (Obj.cells #[.int .i64 0, .int .i64 0, .bool false, .int .i64 0] 30)).heap.size = w.heap.size + 3 := by simp
  have P := Lib.hid (pushI_ok k m n t r d z v S _ (h.below B) hl hm hn)
  have HS := Lib.hid h
  have HB := Lib.hid B
  have HH := Lib.hid HW
  have HLT := Lib.hid lt
  clear h B lt hl hn hm HW
  go_enter Try.func26, Try.ntmps26
  go_wp2_with fail
  refine P.out.mono ?_
  rintro e w1 ⟨rfl, v', q1, o1, g1⟩
  obtain ⟨t1, t2, _⟩ := tolds g1 (fun j h => h.elim (fun e => e ▸ HLT.out.1) (HLT.out.2 j))
  have E := Lib.hid (fun w2 => play_fin (w2 := w2) HB.out HH.out HLT.out q1 o1 g1)
  have T1 := Lib.hid t1
  obtain ⟨a0, a1, a2, a3⟩ := cells4 t1
  obtain ⟨b0, b1, b2, b3⟩ := cells4 t2
  obtain ⟨f0, f1, f2, f3⟩ := frozen4 t1
  obtain ⟨h0, h1, h2, h3⟩ := frozen4 t2
  clear q1 o1 g1 t1 t2 P
  go_wp2
  refine ret_told rfl rfl (set4 (a := .int .i64 0) (b := .int .i64 0) (c := .bool false) (d := .int .i64 0) (t := 30) ?_ _ _ _ _) ⟨rfl, E.out _ ?_⟩
  · exact (Go.heap_setCell_other _ _ _ _ (by simp)).trans (T1.out)
  · exact (((((Chg.refl _ _).setCell (Or.inr rfl) _).setCell (Or.inl rfl) _).setCell (Or.inl rfl) _).setCell (Or.inl rfl) _).setCell (Or.inl rfl) _
set_option maxHeartbeats 4000000 in
theorem play_full (k : Nat) (m n : Int) (v : Value) (S : List It) (t r d z : Int) (w : World) (h : QSI w k m n v S) (hl : ¬ (S.length : Int) < m) : Played w k m n v S 1 t r d z := by
  unfold Played ansT nxtN nxtS
  rw [if_pos rfl, if_pos rfl, if_pos rfl, if_neg hl, if_neg hl, decide_eq_false hl]
  have lt := h.lt
  have B := alC (alC (alC (Below.refl w.heap.size w) (Obj.cells #[.int .i64 1, .int .i64 t, .int .i64 r, .int .i64 d, .int .i64 z] 28)) (Obj.cells #[.int .i64 0, .int .i64 0, .bool false, .int .i64 0] 30)) (Obj.cells #[.int .i64 0, .int .i64 0, .bool false, .int .i64 0] 30)
  have HW : (((w.alloc (Obj.cells #[.int .i64 1, .int .i64 t, .int .i64 r, .int .i64 d, .int .i64 z] 28)).alloc (Obj.cells #[.int .i64 0, .int .i64 0, .bool false, .int .i64 0] 30)).alloc (Obj.cells #[.int .i64 0, .int .i64 0, .bool false, .int .i64 0] 30)).heap.size = w.heap.size + 3 := by simp
  have P := Lib.hid (pushI_full k m n t r d (.int .i64 z) v S _ (h.below B) (by omega))
  have HS := Lib.hid h
  have HB := Lib.hid B
  have HH := Lib.hid HW
  have HLT := Lib.hid lt
  clear h B lt hl HW
  go_enter Try.func26, Try.ntmps26
  go_wp2_with fail
  refine P.out.mono ?_
  rintro e w1 ⟨rfl, b1⟩
  have q1 := (HS.out.below HB.out).below b1
  have g1 : Chg (fun j => j = k ∨ v.ownBlock = some j) _ w1 := Chg.of b1
  have o1 := fun j (hj : v.ownBlock = some j) => (Or.inl hj : v.ownBlock = some j ∨ (((w.alloc (Obj.cells #[.int .i64 1, .int .i64 t, .int .i64 r, .int .i64 d, .int .i64 z] 28)).alloc (Obj.cells #[.int .i64 0, .int .i64 0, .bool false, .int .i64 0] 30)).alloc (Obj.cells #[.int .i64 0, .int .i64 0, .bool false, .int .i64 0] 30)).heap.size ≤ j)
  obtain ⟨t1, t2, _⟩ := tolds g1 (fun j h => h.elim (fun e => e ▸ HLT.out.1) (HLT.out.2 j))
  have E := Lib.hid (fun w2 => play_fin (w2 := w2) HB.out HH.out HLT.out q1 o1 g1)
  have T1 := Lib.hid t1
  obtain ⟨a0, a1, a2, a3⟩ := cells4 t1
  obtain ⟨b0, b1, b2, b3⟩ := cells4 t2
  obtain ⟨f0, f1, f2, f3⟩ := frozen4 t1
  obtain ⟨h0, h1, h2, h3⟩ := frozen4 t2
  clear q1 o1 g1 t1 t2 P
  go_wp2
  refine ret_told rfl rfl (set4 (a := .int .i64 0) (b := .int .i64 0) (c := .bool false) (d := .int .i64 0) (t := 30) ?_ _ _ _ _) ⟨rfl, E.out _ ?_⟩
  · exact (Go.heap_setCell_other _ _ _ _ (by simp)).trans (T1.out)
  · exact (((((Chg.refl _ _).setCell (Or.inr rfl) _).setCell (Or.inl rfl) _).setCell (Or.inl rfl) _).setCell (Or.inl rfl) _).setCell (Or.inl rfl) _
set_option maxHeartbeats 4000000 in
theorem play_pop0 (k : Nat) (m n : Int) (v : Value)  (t r d z : Int) (w : World) (h : QSI w k m n v []) : Played w k m n v [] 2 t r d z := by
  unfold Played ansT nxtN nxtS
  simp only [if_neg (show ¬ (2 : Int) = 1 by decide), true_or, if_true]
  unfold peeked
  dsimp only [List.tail]
  have lt := h.lt
  have B := alC (alC (alC (Below.refl w.heap.size w) (Obj.cells #[.int .i64 2, .int .i64 t, .int .i64 r, .int .i64 d, .int .i64 z] 28)) (Obj.cells #[.int .i64 0, .int .i64 0, .bool false, .int .i64 0] 30)) (Obj.cells #[.int .i64 0, .int .i64 0, .bool false, .int .i64 0] 30)
  have HW : (((w.alloc (Obj.cells #[.int .i64 2, .int .i64 t, .int .i64 r, .int .i64 d, .int .i64 z] 28)).alloc (Obj.cells #[.int .i64 0, .int .i64 0, .bool false, .int .i64 0] 30)).alloc (Obj.cells #[.int .i64 0, .int .i64 0, .bool false, .int .i64 0] 30)).heap.size = w.heap.size + 3 := by simp
  have P := Lib.hid (popI_none k m n v _ (h.below B))
  have HS := Lib.hid h
  have HB := Lib.hid B
  have HH := Lib.hid HW
  have HLT := Lib.hid lt
  dsimp only [zI] at P
  clear h B lt HW
  go_enter Try.func26, Try.ntmps26
  go_wp2_with fail
  refine P.out.mono ?_
  rintro e w1 ⟨rfl, b1⟩
  have q1 := (HS.out.below HB.out).below b1
  have g1 : Chg (fun j => j = k ∨ v.ownBlock = some j) _ w1 := Chg.of b1
  have o1 := fun j (hj : v.ownBlock = some j) => (Or.inl hj : v.ownBlock = some j ∨ (((w.alloc (Obj.cells #[.int .i64 2, .int .i64 t, .int .i64 r, .int .i64 d, .int .i64 z] 28)).alloc (Obj.cells #[.int .i64 0, .int .i64 0, .bool false, .int .i64 0] 30)).alloc (Obj.cells #[.int .i64 0, .int .i64 0, .bool false, .int .i64 0] 30)).heap.size ≤ j)
  obtain ⟨t1, t2, _⟩ := tolds g1 (fun j h => h.elim (fun e => e ▸ HLT.out.1) (HLT.out.2 j))
  have E := Lib.hid (fun w2 => play_fin (w2 := w2) HB.out HH.out HLT.out q1 o1 g1)
  have T1 := Lib.hid t1
  obtain ⟨a0, a1, a2, a3⟩ := cells4 t1
  obtain ⟨b0, b1, b2, b3⟩ := cells4 t2
  obtain ⟨f0, f1, f2, f3⟩ := frozen4 t1
  obtain ⟨h0, h1, h2, h3⟩ := frozen4 t2
  clear q1 o1 g1 t1 t2 P
  go_wp2
  refine ret_told rfl rfl (set4 (a := .int .i64 0) (b := .int .i64 0) (c := .bool false) (d := .int .i64 0) (t := 30) ?_ _ _ _ _) ⟨rfl, E.out _ ?_⟩
  · exact (Go.heap_setCell_other _ _ _ _ (by simp)).trans ((Go.heap_setCell_other _ _ _ _ (by simp)).trans ((Go.heap_setCell_other _ _ _ _ (by simp)).trans (T1.out)))
  · exact (((((((Chg.refl _ _).setCell (Or.inr rfl) _).setCell (Or.inr rfl) _).setCell (Or.inr rfl) _).setCell (Or.inl rfl) _).setCell (Or.inl rfl) _).setCell (Or.inl rfl) _).setCell (Or.inl rfl) _
set_option maxHeartbeats 4000000 in
theorem play_pop1 (k : Nat) (m n : Int) (v : Value) (x : It) (S : List It) (t r d z : Int) (w : World) (h : QSI w k m n v (x :: S)) (u : Int) (hx : x.thing = .int .i64 u) : Played w k m n v (x :: S) 2 t r d z := by
  unfold Played ansT nxtN nxtS
  simp only [if_neg (show ¬ (2 : Int) = 1 by decide), true_or, if_true]
  unfold peeked
  dsimp only [List.tail]
  have lt := h.lt
  have B := alC (alC (alC (Below.refl w.heap.size w) (Obj.cells #[.int .i64 2, .int .i64 t, .int .i64 r, .int .i64 d, .int .i64 z] 28)) (Obj.cells #[.int .i64 0, .int .i64 0, .bool false, .int .i64 0] 30)) (Obj.cells #[.int .i64 0, .int .i64 0, .bool false, .int .i64 0] 30)
  have HW : (((w.alloc (Obj.cells #[.int .i64 2, .int .i64 t, .int .i64 r, .int .i64 d, .int .i64 z] 28)).alloc (Obj.cells #[.int .i64 0, .int .i64 0, .bool false, .int .i64 0] 30)).alloc (Obj.cells #[.int .i64 0, .int .i64 0, .bool false, .int .i64 0] 30)).heap.size = w.heap.size + 3 := by simp
  have P := Lib.hid (popI_some k m n v x S _ (h.below B))
  have HS := Lib.hid h
  have HB := Lib.hid B
  have HH := Lib.hid HW
  have HLT := Lib.hid lt
  rw [hx] at P ⊢
  generalize x.time = xi at *
  clear h B lt hx HW
  go_enter Try.func26, Try.ntmps26
  go_wp2_with fail
  refine P.out.mono ?_
  rintro e w1 ⟨rfl, v', q1, o1, g1⟩
  have o1 : ∀ j, v'.ownBlock = some j → v.ownBlock = some j ∨ (((w.alloc (Obj.cells #[.int .i64 2, .int .i64 t, .int .i64 r, .int .i64 d, .int .i64 z] 28)).alloc (Obj.cells #[.int .i64 0, .int .i64 0, .bool false, .int .i64 0] 30)).alloc (Obj.cells #[.int .i64 0, .int .i64 0, .bool false, .int .i64 0] 30)).heap.size ≤ j := fun j hj => Or.inl (o1 ▸ hj)
  obtain ⟨t1, t2, _⟩ := tolds g1 (fun j h => h.elim (fun e => e ▸ HLT.out.1) (HLT.out.2 j))
  have E := Lib.hid (fun w2 => play_fin (w2 := w2) HB.out HH.out HLT.out q1 o1 g1)
  have T1 := Lib.hid t1
  obtain ⟨a0, a1, a2, a3⟩ := cells4 t1
  obtain ⟨b0, b1, b2, b3⟩ := cells4 t2
  obtain ⟨f0, f1, f2, f3⟩ := frozen4 t1
  obtain ⟨h0, h1, h2, h3⟩ := frozen4 t2
  clear q1 o1 g1 t1 t2 P
  go_wp2
  refine ret_told rfl rfl (set4 (a := .int .i64 0) (b := .int .i64 0) (c := .bool false) (d := .int .i64 0) (t := 30) ?_ _ _ _ _) ⟨rfl, E.out _ ?_⟩
  · exact (Go.heap_setCell_other _ _ _ _ (by simp)).trans ((Go.heap_setCell_other _ _ _ _ (by simp)).trans ((Go.heap_setCell_other _ _ _ _ (by simp)).trans (T1.out)))
  · exact (((((((Chg.refl _ _).setCell (Or.inr rfl) _).setCell (Or.inr rfl) _).setCell (Or.inr rfl) _).setCell (Or.inl rfl) _).setCell (Or.inl rfl) _).setCell (Or.inl rfl) _).setCell (Or.inl rfl) _
set_option maxHeartbeats 4000000 in
theorem play_peek0 (k : Nat) (m n : Int) (v : Value)  (t r d z : Int) (w : World) (h : QSI w k m n v []) : Played w k m n v [] 3 t r d z := by
  unfold Played ansT nxtN nxtS
  simp only [if_neg (show ¬ (3 : Int) = 1 by decide), or_true, if_true, if_neg (show ¬ (3 : Int) = 2 by decide), if_neg (show ¬ (3 : Int) = 5 by decide)]
  unfold peeked
  dsimp only
  have lt := h.lt
  have B := alC (alC (alC (Below.refl w.heap.size w) (Obj.cells #[.int .i64 3, .int .i64 t, .int .i64 r, .int .i64 d, .int .i64 z] 28)) (Obj.cells #[.int .i64 0, .int .i64 0, .bool false, .int .i64 0] 30)) (Obj.cells #[.int .i64 0, .int .i64 0, .bool false, .int .i64 0] 30)
  have HW : (((w.alloc (Obj.cells #[.int .i64 3, .int .i64 t, .int .i64 r, .int .i64 d, .int .i64 z] 28)).alloc (Obj.cells #[.int .i64 0, .int .i64 0, .bool false, .int .i64 0] 30)).alloc (Obj.cells #[.int .i64 0, .int .i64 0, .bool false, .int .i64 0] 30)).heap.size = w.heap.size + 3 := by simp
  have P := Lib.hid (peekI_none k m n v _ (h.below B))
  have HS := Lib.hid h
  have HB := Lib.hid B
  have HH := Lib.hid HW
  have HLT := Lib.hid lt
  dsimp only [zI] at P
  clear h B lt HW
  go_enter Try.func26, Try.ntmps26
  go_wp2_with fail
  refine P.out.mono ?_
  rintro e w1 ⟨rfl, b1⟩
  have q1 := (HS.out.below HB.out).below b1
  have g1 : Chg (fun j => j = k ∨ v.ownBlock = some j) _ w1 := Chg.of b1
  have o1 := fun j (hj : v.ownBlock = some j) => (Or.inl hj : v.ownBlock = some j ∨ (((w.alloc (Obj.cells #[.int .i64 3, .int .i64 t, .int .i64 r, .int .i64 d, .int .i64 z] 28)).alloc (Obj.cells #[.int .i64 0, .int .i64 0, .bool false, .int .i64 0] 30)).alloc (Obj.cells #[.int .i64 0, .int .i64 0, .bool false, .int .i64 0] 30)).heap.size ≤ j)
  obtain ⟨t1, t2, _⟩ := tolds g1 (fun j h => h.elim (fun e => e ▸ HLT.out.1) (HLT.out.2 j))
  have E := Lib.hid (fun w2 => play_fin (w2 := w2) HB.out HH.out HLT.out q1 o1 g1)
  have T1 := Lib.hid t1
  obtain ⟨a0, a1, a2, a3⟩ := cells4 t1
  obtain ⟨b0, b1, b2, b3⟩ := cells4 t2
  obtain ⟨f0, f1, f2, f3⟩ := frozen4 t1
  obtain ⟨h0, h1, h2, h3⟩ := frozen4 t2
  clear q1 o1 g1 t1 t2 P
  go_wp2
  refine ret_told rfl rfl (set4 (a := .int .i64 0) (b := .int .i64 0) (c := .bool false) (d := .int .i64 0) (t := 30) ?_ _ _ _ _) ⟨rfl, E.out _ ?_⟩
  · exact (Go.heap_setCell_other _ _ _ _ (by simp)).trans ((Go.heap_setCell_other _ _ _ _ (by simp)).trans ((Go.heap_setCell_other _ _ _ _ (by simp)).trans (T1.out)))
  · exact (((((((Chg.refl _ _).setCell (Or.inr rfl) _).setCell (Or.inr rfl) _).setCell (Or.inr rfl) _).setCell (Or.inl rfl) _).setCell (Or.inl rfl) _).setCell (Or.inl rfl) _).setCell (Or.inl rfl) _
set_option maxHeartbeats 4000000 in
theorem play_peek1 (k : Nat) (m n : Int) (v : Value) (x : It) (S : List It) (t r d z : Int) (w : World) (h : QSI w k m n v (x :: S)) (u : Int) (hx : x.thing = .int .i64 u) : Played w k m n v (x :: S) 3 t r d z := by
  unfold Played ansT nxtN nxtS
  simp only [if_neg (show ¬ (3 : Int) = 1 by decide), or_true, if_true, if_neg (show ¬ (3 : Int) = 2 by decide), if_neg (show ¬ (3 : Int) = 5 by decide)]
  unfold peeked
  dsimp only
  have lt := h.lt
  have B := alC (alC (alC (Below.refl w.heap.size w) (Obj.cells #[.int .i64 3, .int .i64 t, .int .i64 r, .int .i64 d, .int .i64 z] 28)) (Obj.cells #[.int .i64 0, .int .i64 0, .bool false, .int .i64 0] 30)) (Obj.cells #[.int .i64 0, .int .i64 0, .bool false, .int .i64 0] 30)
  have HW : (((w.alloc (Obj.cells #[.int .i64 3, .int .i64 t, .int .i64 r, .int .i64 d, .int .i64 z] 28)).alloc (Obj.cells #[.int .i64 0, .int .i64 0, .bool false, .int .i64 0] 30)).alloc (Obj.cells #[.int .i64 0, .int .i64 0, .bool false, .int .i64 0] 30)).heap.size = w.heap.size + 3 := by simp
  have P := Lib.hid (peekI_some k m n v x S _ (h.below B))
  have HS := Lib.hid h
  have HB := Lib.hid B
  have HH := Lib.hid HW
  have HLT := Lib.hid lt
  rw [hx] at P ⊢
  generalize x.time = xi at *
  clear h B lt hx HW
  go_enter Try.func26, Try.ntmps26
  go_wp2_with fail
  refine P.out.mono ?_
  rintro e w1 ⟨rfl, b1⟩
  have q1 := (HS.out.below HB.out).below b1
  have g1 : Chg (fun j => j = k ∨ v.ownBlock = some j) _ w1 := Chg.of b1
  have o1 := fun j (hj : v.ownBlock = some j) => (Or.inl hj : v.ownBlock = some j ∨ (((w.alloc (Obj.cells #[.int .i64 3, .int .i64 t, .int .i64 r, .int .i64 d, .int .i64 z] 28)).alloc (Obj.cells #[.int .i64 0, .int .i64 0, .bool false, .int .i64 0] 30)).alloc (Obj.cells #[.int .i64 0, .int .i64 0, .bool false, .int .i64 0] 30)).heap.size ≤ j)
  obtain ⟨t1, t2, _⟩ := tolds g1 (fun j h => h.elim (fun e => e ▸ HLT.out.1) (HLT.out.2 j))
  have E := Lib.hid (fun w2 => play_fin (w2 := w2) HB.out HH.out HLT.out q1 o1 g1)
  have T1 := Lib.hid t1
  obtain ⟨a0, a1, a2, a3⟩ := cells4 t1
  obtain ⟨b0, b1, b2, b3⟩ := cells4 t2
  obtain ⟨f0, f1, f2, f3⟩ := frozen4 t1
  obtain ⟨h0, h1, h2, h3⟩ := frozen4 t2
  clear q1 o1 g1 t1 t2 P
  go_wp2
  refine ret_told rfl rfl (set4 (a := .int .i64 0) (b := .int .i64 0) (c := .bool false) (d := .int .i64 0) (t := 30) ?_ _ _ _ _) ⟨rfl, E.out _ ?_⟩
  · exact (Go.heap_setCell_other _ _ _ _ (by simp)).trans ((Go.heap_setCell_other _ _ _ _ (by simp)).trans ((Go.heap_setCell_other _ _ _ _ (by simp)).trans (T1.out)))
  · exact (((((((Chg.refl _ _).setCell (Or.inr rfl) _).setCell (Or.inr rfl) _).setCell (Or.inr rfl) _).setCell (Or.inl rfl) _).setCell (Or.inl rfl) _).setCell (Or.inl rfl) _).setCell (Or.inl rfl) _
set_option maxHeartbeats 4000000 in
theorem play_len (k : Nat) (m n : Int) (v : Value) (S : List It) (t r d z : Int) (w : World) (h : QSI w k m n v S) : Played w k m n v S 4 t r d z := by
  unfold Played ansT nxtN nxtS
  simp only [if_neg (show ¬ (4 : Int) = 1 by decide), if_neg (show ¬ ((4 : Int) = 2 ∨ (4 : Int) = 3) by decide), if_true, if_neg (show ¬ (4 : Int) = 2 by decide), if_neg (show ¬ (4 : Int) = 5 by decide)]
  have lt := h.lt
  have B := alC (alC (alC (Below.refl w.heap.size w) (Obj.cells #[.int .i64 4, .int .i64 t, .int .i64 r, .int .i64 d, .int .i64 z] 28)) (Obj.cells #[.int .i64 0, .int .i64 0, .bool false, .int .i64 0] 30)) (Obj.cells #[.int .i64 0, .int .i64 0, .bool false, .int .i64 0] 30)
  have HW : (((w.alloc (Obj.cells #[.int .i64 4, .int .i64 t, .int .i64 r, .int .i64 d, .int .i64 z] 28)).alloc (Obj.cells #[.int .i64 0, .int .i64 0, .bool false, .int .i64 0] 30)).alloc (Obj.cells #[.int .i64 0, .int .i64 0, .bool false, .int .i64 0] 30)).heap.size = w.heap.size + 3 := by simp
  have P := Lib.hid (lenqI_b k m n v S _ (h.below B))
  have HS := Lib.hid h
  have HB := Lib.hid B
  have HH := Lib.hid HW
  have HLT := Lib.hid lt
  clear h B lt HW
  go_enter Try.func26, Try.ntmps26
  go_wp2_with fail
  refine P.out.mono ?_
  rintro e w1 ⟨rfl, b1⟩
  have q1 := (HS.out.below HB.out).below b1
  have g1 : Chg (fun j => j = k ∨ v.ownBlock = some j) _ w1 := Chg.of b1
  have o1 := fun j (hj : v.ownBlock = some j) => (Or.inl hj : v.ownBlock = some j ∨ (((w.alloc (Obj.cells #[.int .i64 4, .int .i64 t, .int .i64 r, .int .i64 d, .int .i64 z] 28)).alloc (Obj.cells #[.int .i64 0, .int .i64 0, .bool false, .int .i64 0] 30)).alloc (Obj.cells #[.int .i64 0, .int .i64 0, .bool false, .int .i64 0] 30)).heap.size ≤ j)
  obtain ⟨t1, t2, _⟩ := tolds g1 (fun j h => h.elim (fun e => e ▸ HLT.out.1) (HLT.out.2 j))
  have E := Lib.hid (fun w2 => play_fin (w2 := w2) HB.out HH.out HLT.out q1 o1 g1)
  have T1 := Lib.hid t1
  obtain ⟨a0, a1, a2, a3⟩ := cells4 t1
  obtain ⟨b0, b1, b2, b3⟩ := cells4 t2
  obtain ⟨f0, f1, f2, f3⟩ := frozen4 t1
  obtain ⟨h0, h1, h2, h3⟩ := frozen4 t2
  clear q1 o1 g1 t1 t2 P
  go_wp2
  refine ret_told rfl rfl (set4 (a := .int .i64 0) (b := .int .i64 0) (c := .bool false) (d := .int .i64 0) (t := 30) ?_ _ _ _ _) ⟨rfl, E.out _ ?_⟩
  · exact (Go.heap_setCell_other _ _ _ _ (by simp)).trans (T1.out)
  · exact (((((Chg.refl _ _).setCell (Or.inr rfl) _).setCell (Or.inl rfl) _).setCell (Or.inl rfl) _).setCell (Or.inl rfl) _).setCell (Or.inl rfl) _
end Go.Proofs.Ytniemmnmiefgeaa.QueueW
