/- Queues of the call's own side by side; the order of things without their places. -/
import Derived.Test.YtniemmnmiefgeaaQueueOI
import Derived.Test.YtniemmnmiefgeaaQueueT
import Derived.Test.YtniemmnmiefgeaaQueueM
namespace Go.Proofs.Ytniemmnmiefgeaa.QueueW
open Go.RowKit
structure Qd where
  k : Nat
  n : Int
  v : Value
  S : List It
/-- The blocks of a queue. -/
def Qd.foot (x : Qd) (j : Nat) : Prop := j = x.k ∨ x.v.ownBlock = some j
/-- Queues of the call's own, side by side, and blocks that it keeps. -/
structure Fam (w wr : World) (K : List (Nat × Obj)) (l : List Qd) : Prop where
  q : ∀ x ∈ l, QSI wr x.k 65536 x.n x.v x.S
  f : ∀ x ∈ l, ∀ j, x.foot j → w.heap.size ≤ j
  dj : l.Pairwise (fun x y => ∀ j, x.foot j → ¬ y.foot j)
  b : Below w.heap.size w wr
  keep : ∀ p ∈ K, wr.heap[p.1]? = some p.2 ∧ w.heap.size ≤ p.1 ∧ ∀ x ∈ l, ¬ x.foot p.1
theorem foot_lt {w : World} {x : Qd} (h : QSI w x.k 65536 x.n x.v x.S) {j : Nat} (hj : x.foot j) : j < w.heap.size := by
  rcases hj with e | e
  · exact e ▸ h.lt.1
  · exact h.lt.2 j e
section
variable {w wr w1 : World} {K : List (Nat × Obj)} {x x' y z : Qd} {l : List Qd}
theorem Fam.step (h : Fam w wr K (x :: l)) (q : QSI w1 x'.k 65536 x'.n x'.v x'.S) (o : ∀ j, x'.foot j → x.foot j ∨ wr.heap.size ≤ j) (g : Chg (fun j => j = x.k ∨ x.v.ownBlock = some j) wr w1) : Fam w w1 K (x' :: l) := by
  have d := List.pairwise_cons.1 h.dj
  refine ⟨fun y hy => ?_, fun y hy j hj => ?_, List.pairwise_cons.2 ⟨fun y hy j hj hy2 => ?_, d.2⟩, h.b.trans (g.below (B := w.heap.size) (fun j hj e => ?_) h.b.size), fun p hp => ?_⟩
  · rcases List.mem_cons.1 hy with rfl | hy
    · exact q
    · have hq := h.q y (List.mem_cons_of_mem _ hy)
      exact hq.frame g (fun e => d.1 y hy _ e (Or.inl rfl)) (fun j hj e => d.1 y hy j e (Or.inr hj))
  · rcases List.mem_cons.1 hy with rfl | hy
    · rcases o j hj with e | e
      · exact h.f x List.mem_cons_self j e
      · exact Nat.le_trans h.b.size e
    · exact h.f y (List.mem_cons_of_mem _ hy) j hj
  · rcases o j hj with e | e
    · exact d.1 y hy j e hy2
    · have := foot_lt (h.q y (List.mem_cons_of_mem _ hy)) hy2
      omega
  · have : w.heap.size ≤ j := h.f x List.mem_cons_self j e
    omega
  · obtain ⟨h1, h2, h3⟩ := h.keep p hp
    refine ⟨g.heap h1 (fun e => h3 x List.mem_cons_self e), h2, fun y hy hf => ?_⟩
    rcases List.mem_cons.1 hy with rfl | hy
    · rcases o p.1 hf with e | e
      · exact h3 x List.mem_cons_self e
      · have := lt_heap h1
        omega
    · exact h3 y (List.mem_cons_of_mem _ hy) hf
theorem Fam.perm {l' : List Qd} (h : Fam w wr K l) (p : l.Perm l') : Fam w wr K l' :=
  ⟨fun x hx => h.q x (p.mem_iff.2 hx), fun x hx => h.f x (p.mem_iff.2 hx), (p.pairwise_iff (fun {a b} (hab : ∀ j, a.foot j → ¬ b.foot j) j hb ha => hab j ha hb)).1 h.dj, h.b, fun q hq => ⟨(h.keep q hq).1, (h.keep q hq).2.1, fun x hx => (h.keep q hq).2.2 x (p.mem_iff.2 hx)⟩⟩
theorem Fam.swap (h : Fam w wr K (x :: y :: l)) : Fam w wr K (y :: x :: l) := h.perm (List.Perm.swap _ _ _)
theorem Fam.turn (h : Fam w wr K [x, y, z]) : Fam w wr K [y, z, x] := h.perm ((List.Perm.swap y x [z]).trans ((List.Perm.swap z x []).cons y))
theorem Fam.below (h : Fam w wr K l) (b : Below wr.heap.size wr w1) : Fam w w1 K l :=
  ⟨fun x hx => (h.q x hx).below b, h.f, h.dj, h.b.trans (b.mono h.b.size), fun p hp => ⟨(b.block p.1 (lt_heap (h.keep p hp).1)).trans (h.keep p hp).1, (h.keep p hp).2⟩⟩
theorem Fam.box (h : Fam w wr K l) (ob : Obj) : Fam w (wr.alloc ob) ((wr.heap.size, ob) :: K) l := by
  have h1 := h.below (w1 := wr.alloc ob) ((Below.refl _ _).alloc (Nat.le_refl _) _)
  refine ⟨h1.q, h1.f, h1.dj, h1.b, fun p hp => ?_⟩
  rcases List.mem_cons.1 hp with rfl | hp
  · exact ⟨heap_alloc_new _ _, h.b.size, fun x hx hf => by have := foot_lt (h.q x hx) hf; exact Nat.lt_irrefl _ this⟩
  · exact h1.keep p hp
theorem Fam.unbox {p : Nat × Obj} (h : Fam w wr (p :: K) l) : Fam w wr K l := ⟨h.q, h.f, h.dj, h.b, fun y hy => h.keep y (List.mem_cons_of_mem _ hy)⟩
theorem Fam.new (h : Fam w wr K l) : Calls Try.prog 13 #[.int .i64 65536] wr fun e w' => e = .returned (.pointer (some ⟨wr.heap.size, 0, none⟩)) ∧ Fam w w' K (⟨wr.heap.size, 0, .slice none 0 0, []⟩ :: l) :=
  (newI_any 65536 wr).mono fun e w' ⟨h1, h2, h3⟩ => by
    have g := h.below h3
    have ff : ∀ j, (⟨wr.heap.size, 0, .slice none 0 0, []⟩ : Qd).foot j → j = wr.heap.size := fun j hj => hj.elim id (fun e => by cases e)
    refine ⟨h1, fun x hx => ?_, fun x hx j hj => ?_, List.pairwise_cons.2 ⟨fun y hy _ hj hf => ?_, g.dj⟩, g.b, fun p hp => ⟨(g.keep p hp).1, (g.keep p hp).2.1, fun x hx hf => ?_⟩⟩
    · rcases List.mem_cons.1 hx with rfl | hx
      · exact h2
      · exact g.q x hx
    · rcases List.mem_cons.1 hx with rfl | hx
      · rw [ff j hj]; exact h.b.size
      · exact g.f x hx j hj
    · have := foot_lt (h.q y hy) hf
      have := ff _ hj
      omega
    · rcases List.mem_cons.1 hx with rfl | hx
      · have := ff _ hf
        have := lt_heap (h.keep p hp).1
        omega
      · exact (g.keep p hp).2.2 x hx hf
theorem Fam.push {k : Nat} {n : Int} {v : Value} {S : List It} (h : Fam w wr K (⟨k, n, v, S⟩ :: l)) (t r d u : Int) (hS : (S.length : Int) < 65536) (hn : 0 ≤ n ∧ n < 4611686018427387904) :
    Calls Try.prog 14 #[.pointer (some ⟨k, 0, none⟩), .int .i64 t, .int .i64 r, .int .i64 d, .int .i64 u] wr fun e w' => e = .returned (.int .i64 0) ∧ ∃ v', Fam w w' K (⟨k, n + 1, v', ins ⟨t, r, d, n, .int .i64 u, rfl⟩ S⟩ :: l) :=
  (pushI_ok k 65536 n t r d u v S wr (h.q _ List.mem_cons_self) hS (by decide) hn).mono fun _ _ ⟨h1, v', q, o, g⟩ => ⟨h1, v', h.step q (fun j hj => hj.elim (fun e => Or.inl (Or.inl e)) (fun e => (o j e).imp (fun e => Or.inr e) id)) g⟩
theorem Fam.len {k : Nat} {n : Int} {v : Value} {S : List It} (h : Fam w wr K (⟨k, n, v, S⟩ :: l)) : Calls Try.prog 16 #[.pointer (some ⟨k, 0, none⟩)] wr fun e w' => e = .returned (.int .i64 (S.length : Nat)) ∧ wr = w' :=
  lenqI_any k 65536 n v S wr (h.q _ List.mem_cons_self)
theorem Fam.pop {k : Nat} {n : Int} {v : Value} {i : It} {S : List It} (h : Fam w wr K (⟨k, n, v, i :: S⟩ :: l)) : Calls Try.prog 15 #[.pointer (some ⟨k, 0, none⟩)] wr fun e w' => e = .returned (.tuple #[i.thing, .int .i64 i.time, .bool true]) ∧ ∃ v', Fam w w' K (⟨k, n, v', S⟩ :: l) :=
  (popI_some k 65536 n v i S wr (h.q _ List.mem_cons_self)).mono fun _ _ ⟨h1, v', q, o, g⟩ => ⟨h1, v', h.step q (fun _ hj => hj.elim (fun e => Or.inl (Or.inl e)) (fun e => Or.inl (Or.inr (o ▸ e)))) g⟩
end
/-- What an order goes by, places aside. -/
def key (x : It) : Int × Int × Int × Value := (x.time, x.rank, x.node, x.thing)
def klt (a b : Int × Int × Int × Value) : Prop := a.1 < b.1 ∨ (a.1 = b.1 ∧ (a.2.1 < b.2.1 ∨ (a.2.1 = b.2.1 ∧ a.2.2.1 < b.2.2.1)))
instance (a b : Int × Int × Int × Value) : Decidable (klt a b) := by unfold klt; infer_instance
def insK (x : Int × Int × Int × Value) : List (Int × Int × Int × Value) → List (Int × Int × Int × Value)
  | [] => [x]
  | y :: S => if klt x y then x :: y :: S else y :: insK x S
theorem lt_key {x y : It} (h : y.place < x.place) : lt x y ↔ klt (key x) (key y) := by unfold lt klt key; dsimp only; omega
theorem ins_key {x : It} : ∀ {S : List It}, (∀ y ∈ S, y.place < x.place) → (ins x S).map key = insK (key x) (S.map key)
  | [], _ => rfl
  | y :: S, h => by
    have e := lt_key (h y List.mem_cons_self)
    simp only [ins, List.map_cons, insK]
    by_cases g : lt x y
    · rw [if_pos g, if_pos (e.1 g)]
      simp only [List.map_cons]
    · rw [if_neg g, if_neg (fun k => g (e.2 k)), List.map_cons, ins_key (fun z hz => h z (List.mem_cons_of_mem _ hz))]
theorem ins_all {x : It} : ∀ {S : List It}, (∀ z ∈ S, lt x z) → ins x S = x :: S
  | [], _ => rfl
  | y :: S, h => by unfold ins; rw [if_pos (h y List.mem_cons_self)]
theorem ins_cons (x y : It) (S : List It) : ins x (y :: S) = if lt x y then x :: y :: S else y :: ins x S := rfl
theorem filter_ins (kp : It → Bool) (x : It) : ∀ {S : List It}, S.Pairwise lt → (ins x S).filter kp = if kp x then ins x (S.filter kp) else S.filter kp
  | [], _ => by unfold ins; rw [List.filter_cons, List.filter_nil]
  | y :: S, h => by
    have h' := List.pairwise_cons.1 h
    rw [ins_cons]
    by_cases g : lt x y
    · rw [if_pos g]
      have ha : ∀ z ∈ (y :: S).filter kp, lt x z := fun z hz => by
        rcases List.mem_cons.1 (List.mem_filter.1 hz).1 with rfl | hz
        · exact g
        · exact lt_trans g (h'.1 z hz)
      rw [ins_all ha]
      exact List.filter_cons
    · rw [if_neg g, List.filter_cons, filter_ins kp x h'.2, List.filter_cons]
      by_cases k : kp y = true
      · rw [if_pos k, if_pos k]
        by_cases kx : kp x = true
        · rw [if_pos kx, if_pos kx, ins_cons, if_neg g]
        · rw [if_neg kx, if_neg kx]
      · rw [if_neg k, if_neg k]
theorem Fine.ins {S : List It} (h : Fine S) {t r d n z : Int} (hn : 0 ≤ n) (ho : ∀ y ∈ S, y.place < n) : Fine (ins ⟨t, r, d, n, .int .i64 z, rfl⟩ S) :=
  ⟨h.ints.ins t r d n z, fun x hx => by
    rcases List.mem_cons.1 ((ins_perm _ S).mem_iff.1 hx) with rfl | hx
    · exact hn
    · exact h.plc x hx, dis_ins h.dis ho⟩
/-- The first j calls' things, in order. -/
def bld (l : List Op5) : Nat → List It
  | 0 => []
  | j + 1 => match l[j]? with
    | some o => ins ⟨o.t, o.r, o.d, j, .int .i64 o.z, rfl⟩ (bld l j)
    | none => bld l j
theorem bld_succ {l : List Op5} {j : Nat} {o : Op5} (h : l[j]? = some o) : bld l (j + 1) = ins ⟨o.t, o.r, o.d, j, .int .i64 o.z, rfl⟩ (bld l j) := by
  rw [bld, h]
theorem bld_length (l : List Op5) : ∀ j, j ≤ l.length → (bld l j).length = j
  | 0, _ => rfl
  | j + 1, h => by
    rw [bld_succ (List.getElem?_eq_getElem (show j < l.length by omega)), ins_length, bld_length l j (by omega)]
theorem bld_old (l : List Op5) : ∀ j, ∀ x ∈ bld l j, x.place < j
  | 0, x, h => by cases h
  | j + 1, x, h => by
    rw [bld] at h
    split at h
    · rcases List.mem_cons.1 ((ins_perm _ _).mem_iff.1 h) with rfl | h
      · show (j : Int) < ((j + 1 : Nat) : Int)
        omega
      · have := bld_old l j x h
        omega
    · have := bld_old l j x h
      omega
theorem bld_fine (l : List Op5) : ∀ j, Fine (bld l j)
  | 0 => Fine.nil
  | j + 1 => by
    rw [bld]
    split
    · exact (bld_fine l j).ins (by omega) (bld_old l j)
    · exact bld_fine l j
theorem bld_up (l : List Op5) : ∀ j, (bld l j).Pairwise lt
  | 0 => List.Pairwise.nil
  | j + 1 => by
    rw [bld]
    split
    · exact ins_sorted (bld_up l j) (bld_old l j)
    · exact bld_up l j
/-- Those that aren't below. -/
def kpt (lo : Int) (x : It) : Bool := decide (lo ≤ x.num)
theorem map_key_length {S T : List It} (h : S.map key = T.map key) : S.length = T.length := by
  have := congrArg List.length h
  simpa using this
theorem key_ints {S T : List It} (h : S.map key = T.map key) (hT : Ints T) : Ints S := by
  intro x hx
  have : key x ∈ T.map key := h ▸ List.mem_map_of_mem hx
  obtain ⟨y, hy, e⟩ := List.mem_map.1 this
  have e1 : y.thing = x.thing := congrArg (fun p => p.2.2.2) e
  have e2 : y.num = x.num := by unfold It.num; rw [e1]
  rw [← e1, ← e2]
  exact hT y hy
set_option maxHeartbeats 1000000 in
set_option maxRecDepth 100000 in
theorem dropI_nil (k : Nat) (w : World) : Calls Try.prog 17 #[.pointer (some ⟨k, 0, none⟩), .nilFunc] w fun e w' => e = .returned (.int .i64 0) ∧ w = w' := by
  have fq : ∀ w, Sem.run Try.prog (binOp .eql 47 .nilFunc .nilFunc) w = .ok (.bool true) w := fun w => by kernel_rfl
  go_enter Try.func17, Try.ntmps17
  go_wp2
  go_ret
  exact ⟨rfl, rfl⟩
end Go.Proofs.Ytniemmnmiefgeaa.QueueW
