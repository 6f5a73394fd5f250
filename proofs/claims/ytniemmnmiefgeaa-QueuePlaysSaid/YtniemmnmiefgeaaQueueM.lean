/- Play: the answers of a script. -/
import Derived.Test.YtniemmnmiefgeaaQueueK
namespace Go.Proofs.Ytniemmnmiefgeaa.QueueW
open Go.RowKit Shell
/-- All things are whole numbers. -/
def Ints (S : List It) : Prop := ∀ x ∈ S, x.thing = .int .i64 x.num
theorem Ints.tail {S : List It} (h : Ints S) : Ints S.tail := fun x hx => h x (List.mem_of_mem_tail hx)
theorem Ints.ins {S : List It} (h : Ints S) (t r d n z : Int) : Ints (ins ⟨t, r, d, n, .int .i64 z, rfl⟩ S) := fun x hx => by
  rcases List.mem_cons.1 ((ins_perm _ S).mem_iff.1 hx) with rfl | hx
  · rfl
  · exact h x hx
theorem Ints.nxt {S : List It} (h : Ints S) (m n q t r d z : Int) : Ints (nxtS m n S q t r d z) := by
  unfold nxtS
  split
  · split
    · exact h.ins _ _ _ _ _
    · exact h
  · split
    · exact h.tail
    · split
      · exact fun x hx => h x ((List.mem_filter.1 hx).1)
      · exact h
def ansD (m : Int) (S : List It) (q z : Int) : Td :=
  if q = 1 then ⟨0, 0, decide ((S.length : Int) < m), 0⟩ else if q = 2 ∨ q = 3 then (match S with | [] => ⟨0, 0, false, 0⟩ | x :: _ => ⟨x.num, x.time, true, 0⟩) else if q = 4 then ⟨0, 0, false, S.length⟩
  else if q = 5 then ⟨0, 0, false, (S.length : Int) - (keep z S).length⟩ else ⟨0, 0, false, 0⟩
theorem ansT_eq (m : Int) {S : List It} (h : Ints S) (q z : Int) : ansT m S q z = .agg (ansD m S q z).cs.toArray := by
  unfold ansT ansD
  split
  · rfl
  · split
    · cases S with
      | nil => rfl
      | cons x S =>
        unfold peeked
        dsimp only
        rw [h x List.mem_cons_self]
        rfl
    · split
      · rfl
      · split
        · rfl
        · rfl
def Op5.S (o : Op5) (m n : Int) (S : List It) : List It := nxtS m n S o.q o.t o.r o.d o.z
/-- The answers of a script. -/
def answers (m : Int) : Int → List It → List Op5 → List Td
  | _, _, [] => []
  | n, S, o :: ops => ansD m S o.q o.z :: answers m (nxtN m n S o.q) (o.S m n S) ops
theorem answers_length (m : Int) : ∀ (ops : List Op5) (n : Int) (S : List It), (answers m n S ops).length = ops.length
  | [], _, _ => rfl
  | o :: ops, n, S => by simp only [answers, List.length_cons, answers_length m ops]
theorem nxtN_le (m n : Int) (S : List It) (q : Int) : n ≤ nxtN m n S q ∧ nxtN m n S q ≤ n + 1 := by
  unfold nxtN
  repeat' split
  all_goals omega
/-- What a queue's things are: whole numbers, of places of their own. -/
structure Fine (S : List It) : Prop where
  ints : Ints S
  plc : ∀ x ∈ S, 0 ≤ x.place
  dis : S.Pairwise (fun a b => a.place ≠ b.place)
theorem Fine.nil : Fine [] := ⟨fun x hx => (by cases hx), fun x hx => (by cases hx), List.Pairwise.nil⟩
theorem dis_ins {x : It} : ∀ {S : List It}, S.Pairwise (fun a b => a.place ≠ b.place) → (∀ y ∈ S, y.place < x.place) → (ins x S).Pairwise (fun a b => a.place ≠ b.place)
  | [], _, _ => by simp [ins]
  | y :: S, h, hp => by
    have h' := List.pairwise_cons.1 h
    unfold ins
    split
    · exact List.pairwise_cons.2 ⟨fun z hz => by have := hp z hz; omega, h⟩
    · refine List.pairwise_cons.2 ⟨fun z hz => ?_, dis_ins h'.2 (fun z hz => hp z (List.mem_cons_of_mem _ hz))⟩
      rcases List.mem_cons.1 ((ins_perm x S).mem_iff.1 hz) with rfl | hz
      · have := hp y List.mem_cons_self; omega
      · exact h'.1 z hz
theorem Fine.nxt {S : List It} (h : Fine S) {m n q t r d z : Int} (hn : 0 ≤ n) (ho : ∀ y ∈ S, y.place < n) : Fine (nxtS m n S q t r d z) := by
  refine ⟨h.ints.nxt m n q t r d z, ?_, ?_⟩
  · unfold nxtS
    split
    · split
      · intro x hx
        rcases List.mem_cons.1 ((ins_perm _ S).mem_iff.1 hx) with rfl | hx
        · exact hn
        · exact h.plc x hx
      · exact h.plc
    · split
      · exact fun x hx => h.plc x (List.mem_of_mem_tail hx)
      · split
        · exact fun x hx => h.plc x (List.mem_filter.1 hx).1
        · exact h.plc
  · unfold nxtS
    split
    · split
      · exact dis_ins h.dis ho
      · exact h.dis
    · split
      · exact h.dis.sublist (List.tail_sublist S)
      · split
        · exact h.dis.filter _
        · exact h.dis
/-- What play does with any queue. -/
def PlayC (o : Op5) : Prop := ∀ (k : Nat) (m n : Int) (v : Value) (S : List It) (w : World), QSI w k m n v S → Fine S → m ≤ 65536 → (0 ≤ n ∧ n < 4611686018427387904) → Played w k m n v S o.q o.t o.r o.d o.z
theorem playC_not5 (o : Op5) (h5 : ¬ o.q = 5) : PlayC o := by
  intro k m n v S w h hi hm hn
  obtain ⟨q, t, r, d, z⟩ := o
  have hi := hi.ints
  dsimp only at *
  by_cases h1 : q = 1
  · subst h1
    by_cases hl : (S.length : Int) < m
    · exact play_push k m n v S t r d z w h hm hn hl
    · exact play_full k m n v S t r d z w h hl
  · by_cases h2 : q = 2
    · subst h2
      match S, h, hi with
      | [], h, _ => exact play_pop0 k m n v t r d z w h
      | x :: S, h, hi => exact play_pop1 k m n v x S t r d z w h _ (hi x List.mem_cons_self)
    · by_cases h3 : q = 3
      · subst h3
        match S, h, hi with
        | [], h, _ => exact play_peek0 k m n v t r d z w h
        | x :: S, h, hi => exact play_peek1 k m n v x S t r d z w h _ (hi x List.mem_cons_self)
      · by_cases h4 : q = 4
        · subst h4
          exact play_len k m n v S t r d z w h
        · exact play_other k m n v S q t r d z w h h1 h2 h3 h4 h5
/-- What Play keeps at call j. -/
structure PI (w wr : World) (k g : Nat) (m n : Int) (v : Value) (S : List It) (j : Nat) (ops : List Op5) (AS : List Td) : Prop where
  q : QSI wr k m n v S
  fine : Fine S
  n0 : 0 ≤ n
  n1 : n ≤ j
  tr : TR wr g (AS.take j ++ List.replicate (ops.length - j) ⟨0, 0, false, 0⟩)
  rest : answers m n S (ops.drop j) = AS.drop j
  b : Below w.heap.size w wr
  own : ∀ i, v.ownBlock = some i → w.heap.size ≤ i ∧ ¬ i = g
  kg : ¬ k = g
  k0 : w.heap.size ≤ k
  g0 : w.heap.size ≤ g
theorem PI.next {w wr w2 w3 : World} {k g : Nat} {m n : Int} {v v' : Value} {S : List It} {j : Nat} {ops : List Op5} {AS : List Td} {o : Op5} {ob : Obj} (h : PI w wr k g m n v S j ops AS) (ho : ops[j]? = some o) (hl : AS.length = ops.length)
    (q2 : QSI w2 k m (nxtN m n S o.q) v' (o.S m n S)) (o2 : ∀ i, v'.ownBlock = some i → v.ownBlock = some i ∨ (wr.alloc ob).heap.size ≤ i) (g2 : Chg (fun i => i = k ∨ v.ownBlock = some i) (wr.alloc ob) w2) (e3 : w3 = w2.setCells g (j * 4) (ansD m S o.q o.z).cs) :
    PI w w3 k g m (nxtN m n S o.q) v' (o.S m n S) (j + 1) ops AS := by
  have hj : j < ops.length := (List.getElem?_eq_some_iff.1 ho).1
  have lg : g < wr.heap.size := lt_heap h.tr
  have own2 : ∀ i, v'.ownBlock = some i → w.heap.size ≤ i ∧ ¬ i = g := fun i hi => by
    rcases o2 i hi with e | e
    · exact h.own i e
    · have e : wr.heap.size + 1 ≤ i := by simpa using e
      have := h.b.size
      have := h.g0
      omega
  have t1 : TR w2 g (AS.take j ++ List.replicate (ops.length - j) ⟨0, 0, false, 0⟩) := g2.heap ((heap_alloc_old _ _ lg).trans h.tr) (fun e => e.elim (fun e => h.kg e.symm) (fun e => (h.own g e).2 rfl))
  have t2 := TR.set t1 (i := j) (by simp [hl]; omega) (ansD m S o.q o.z)
  have hd := h.rest
  rw [List.drop_eq_getElem_cons hj, List.drop_eq_getElem_cons (show j < AS.length by omega)] at hd
  have eo : ops[j] = o := by
    rw [List.getElem?_eq_getElem hj] at ho
    exact Option.some.inj ho
  rw [eo] at hd
  simp only [answers] at hd
  injection hd with hd1 hd2
  have c3 : Chg (fun i => i = g) w2 w3 := by rw [e3]; exact Chg.setCells (X := fun i => i = g) rfl (Chg.refl _ _) _ _
  refine ⟨q2.frame c3 (fun e => h.kg e) (fun i hi e => (own2 i hi).2 e), h.fine.nxt h.n0 h.q.old, ?_, ?_, ?_, hd2, ?_, own2, h.kg, h.k0, h.g0⟩
  · have := (nxtN_le m n S o.q).1; have := h.n0; omega
  · have := (nxtN_le m n S o.q).2; have := h.n1; omega
  · rw [e3]
    have : (AS.take j ++ List.replicate (ops.length - j) (⟨0, 0, false, 0⟩ : Td)).set j (ansD m S o.q o.z) = AS.take (j + 1) ++ List.replicate (ops.length - (j + 1)) ⟨0, 0, false, 0⟩ := by
      have ej : (AS.take j).length = j := by rw [List.length_take]; omega
      rw [List.set_append, if_neg (by omega), ej, Nat.sub_self, show ops.length - j = (ops.length - (j + 1)) + 1 by omega, List.replicate_succ, List.set_cons_zero, List.take_succ_eq_append_getElem (show j < AS.length by omega), hd1, List.append_assoc]
      rfl
    rw [← this]
    exact t2
  · have c1 : Chg (fun i => i = k ∨ v.ownBlock = some i ∨ i = g) wr w3 := ((Chg.refl (fun i => i = k ∨ v.ownBlock = some i ∨ i = g) wr).alloc ob |>.trans g2 (fun _ _ e => e.elim Or.inl (fun e => Or.inr (Or.inl e)))).trans c3 (fun _ _ e => Or.inr (Or.inr e))
    exact h.b.trans (c1.below (B := w.heap.size) (fun i hi e => by
      rcases e with e | e | e
      · have := h.k0; omega
      · have := (h.own i e).1; omega
      · have := h.g0; omega) h.b.size)
set_option maxHeartbeats 2000000 in
theorem playsI_any (m : Int) (A : Option Addr) (ops : List Op5) (c : Nat) (w : World) (hA : RO w A ops) (hl : ops.length ≤ 4398046511104) (hP : ∀ o ∈ ops, PlayC o) :
    Calls Try.prog 9 #[.int .i64 m, .slice A ops.length c] w fun e w' => ∃ g, e = .returned (.slice (some ⟨g, 0, none⟩) ops.length ops.length) ∧ TR w' g (answers (most m) 0 [] ops) ∧ Below w.heap.size w w' ∧ w.heap.size ≤ g := by
  have HA := Lib.hid hA
  have HP := Lib.hid hP
  have HM := fun w => make_told ops.length hl w
  have HL := Lib.hid (answers_length (most m) ops 0 [])
  clear hA hP
  go_enter Try.func9, Try.ntmps9
  go_wp2_with fail
  refine (newI_any m _).mono ?_
  rintro e w1 ⟨rfl, q1, b1⟩
  have l1 := q1.lt.1
  go_wp2_with fail
  generalize hk : w.heap.size = k at *
  have m1 : most m ≤ 65536 := by unfold most; repeat' split <;> omega
  generalize hmm : most m = mm at *
  have H0 := Lib.hid (show PI w (w1.alloc (.cells (tflat (List.replicate ops.length ⟨0, 0, false, 0⟩)).toArray 30)) k w1.heap.size mm 0 (.slice none 0 0) [] 0 ops (answers mm 0 [] ops) from
    ⟨q1.below ((Below.refl _ _).alloc (Nat.le_refl _) _), Fine.nil, Int.le_refl _, Int.le_refl _, by rw [List.take_zero, List.nil_append, Nat.sub_zero]; exact heap_alloc_new w1 _, rfl, by rw [hk]; exact b1.alloc (by omega) _, fun i hi => (by cases hi), by omega, by omega, by omega⟩)
  generalize hg : w1.heap.size = g at *
  generalize hAS : answers mm 0 [] ops = AS at *
  have HAS := Lib.hid hAS
  clear hAS
  have HMM := Lib.hid hmm
  clear q1 b1 l1 hg hmm
  go_loopw [16] (fun iv wr => ∃ (j : Nat) (n : Int) (v : Value) (S : List It), iv = .int .i64 j ∧ j ≤ ops.length ∧ Hid (PI w wr k g mm n v S j ops AS)) (fun iv _ => ops.length - (intOf iv).toNat)
  case atStart => exact ⟨0, 0, _, [], rfl, Nat.zero_le _, H0⟩
  case round =>
    clear H0
    obtain ⟨j, n, v, S, rfl, hj, H⟩ := hrel
    by_cases hjl : j < ops.length
    · obtain ⟨o, ho⟩ : ∃ o, ops[j]? = some o := ⟨_, List.getElem?_eq_getElem hjl⟩
      have HO := Lib.hid ho
      obtain ⟨b, off, rfl, a0, a1, a2, a3, a4⟩ := (HA.out.below (H.out.b.mono (Nat.le_refl _))).row ho
      have P := (HP.out o (List.mem_of_getElem? ho)) k mm n v S (wr.alloc (.cells #[.int .i64 o.q, .int .i64 o.t, .int .i64 o.r, .int .i64 o.d, .int .i64 o.z] 28)) (H.out.q.below ((Below.refl _ _).alloc (Nat.le_refl _) _)) H.out.fine m1 ⟨H.out.n0, by have := H.out.n1; omega⟩
      unfold Played at P
      rw [ansT_eq mm H.out.fine.ints] at P
      have HPl := Lib.hid P
      have HN := Lib.hid (fun v' w2 w3 => PI.next (v' := v') (w2 := w2) (w3 := w3) (ob := .cells #[.int .i64 o.q, .int .i64 o.t, .int .i64 o.r, .int .i64 o.d, .int .i64 o.z] 28) H.out ho HL.out)
      clear P ho
      go_wp2_with fail
      refine HPl.out.mono ?_
      rintro e w2 ⟨rfl, v', q2, o2, g2⟩
      have lg : g < wr.heap.size := lt_heap H.out.tr
      have t2 : TR w2 g _ := g2.heap ((heap_alloc_old _ _ lg).trans H.out.tr) (fun e => e.elim (fun e => H.out.kg e.symm) (fun e => (H.out.own g e).2 rfl))
      obtain ⟨z, hz⟩ : ∃ z, (AS.take j ++ List.replicate (ops.length - j) (⟨0, 0, false, 0⟩ : Td))[j]? = some z := ⟨_, List.getElem?_eq_getElem (by simp [HL.out]; omega)⟩
      obtain ⟨c0, c1, c2, c3⟩ := t2.cells hz
      obtain ⟨f0, f1, f2, f3⟩ := t2.frozen j
      have E := Lib.hid (fun w3 => HN.out v' w2 w3 q2 o2 g2)
      generalize ansD mm S o.q o.z = D at *
      obtain ⟨d0, d1, d2, d3⟩ := D
      dsimp only [Td.cs] at E ⊢
      clear q2 o2 g2 lg t2 hz HPl HN
      go_wp2
      go_roundw
      case rel => exact ⟨j + 1, _, _, _, by congr 1, by omega, Lib.hid (E.out _ rfl)⟩
      case measure => simp only [intOf]; omega
    · have ej : j = ops.length := by omega
      subst ej
      go_wp2
      go_ret
      refine ⟨g, rfl, ?_, H.out.b, by have := H.out.g0; omega⟩
      rw [HMM.out, HAS.out]
      have := H.out.tr
      rwa [Nat.sub_self, List.replicate_zero, List.append_nil, List.take_of_length_le (by rw [HL.out]; exact Nat.le_refl _)] at this
end Go.Proofs.Ytniemmnmiefgeaa.QueueW
