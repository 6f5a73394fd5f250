/- A script beside the document's own list. -/
import Derived.Test.YtniemmnmiefgeaaQueueRd
import Derived.Laws.StructEq
namespace Go.Proofs.Ytniemmnmiefgeaa.QueueW
open Go.RowKit
theorem guardT : Try.prog.eqGuardType Try.prog.depth 30 = false := by kernel_rfl
set_option maxRecDepth 100000 in
theorem neq_told (a b : Int) (c : Bool) (d : Int) (w : World) : Sem.run Try.prog (binOp .neq 30 (.agg #[.int .i64 a, .int .i64 b, .bool c, .int .i64 d]) (.agg #[.int .i64 a, .int .i64 b, .bool c, .int .i64 d])) w = .ok (.bool false) w := by
  have u3 := Try.underlying3
  have u2 := Try.underlying2
  have u4 := Try.underlying4
  have a3 := Try.isAgg3
  have z3 := Try.sizeOf3
  have a2 := Try.isAgg2
  have z2 := Try.sizeOf2
  have a4 := Try.isAgg4
  have z4 := Try.sizeOf4
  have hS : Try.prog.underlying 30 = some (.struct (Try.prog.fieldsOf 30)) := by kernel_rfl
  have hp : Try.prog.stoodInHeld 30 = false := by kernel_rfl
  rw [run_neq_struct, show (10000 : Nat) = 9999 + 1 from rfl, run_equalIn_agg w 9999 30 _ _ hS hp]
  simp only [Program.fieldsOf, Try.underlying30]
  go_simp
/-- A thing, as the document's own list holds it. -/
def ri (x : It) : Ri := ⟨x.time, x.rank, x.node, x.num⟩
theorem rlt_ri {x y : It} (h : y.place < x.place) : lt x y ↔ rlt (ri x) (ri y) := by unfold lt rlt ri; dsimp only; omega
theorem ins_ri {x : It} : ∀ {S : List It}, (∀ y ∈ S, y.place < x.place) → (ins x S).map ri = insR (ri x) (S.map ri)
  | [], _ => rfl
  | y :: S, h => by
    have e := rlt_ri (h y List.mem_cons_self)
    simp only [ins, List.map_cons, insR]
    by_cases g : lt x y
    · rw [if_pos g, if_pos (e.1 g)]
      simp only [List.map_cons]
    · rw [if_neg g, if_neg (fun k => g (e.2 k)), List.map_cons, ins_ri (fun z hz => h z (List.mem_cons_of_mem _ hz))]
theorem sorted_ri {S : List It} (h : S.Pairwise lt) : (S.map ri).Pairwise (fun a b => ¬ rlt b a) :=
  List.pairwise_map.2 (h.imp (fun {a b} h => by unfold lt at h; unfold rlt ri; dsimp only; omega))
theorem keep_ri (z : Int) (S : List It) : (keep z S).map ri = keepR z (S.map ri) := by
  unfold keep keepR
  rw [List.filter_map]
  rfl
/-- What the law keeps at call j. -/
structure PP (W wr : World) (base : Nat) (mm n : Int) (v : Value) (S : List It) (j : Nat) (ops : List Op5) (AS : List Td) : Prop where
  ls : LS wr base v (S.map ri)
  fine : Fine S
  up : S.Pairwise lt
  old : ∀ x ∈ S, x.place < n
  few : (S.length : Int) ≤ mm
  n0 : 0 ≤ n
  rest : answers mm n S (ops.drop j) = AS.drop j
  b : Below base W wr
theorem ns_old {m n q t r d z : Int} {S : List It} (h : ∀ x ∈ S, x.place < n) : ∀ x ∈ nxtS m n S q t r d z, x.place < nxtN m n S q := by
  unfold nxtS nxtN
  by_cases h1 : q = 1
  · rw [if_pos h1, if_pos h1]
    by_cases h2 : (S.length : Int) < m
    · rw [if_pos h2, if_pos h2]
      intro x hx
      rcases List.mem_cons.1 ((ins_perm _ S).mem_iff.1 hx) with rfl | hx
      · exact Int.lt_succ n
      · have := h x hx; omega
    · rw [if_neg h2, if_neg h2]
      exact h
  · rw [if_neg h1, if_neg h1]
    by_cases h2 : q = 2
    · rw [if_pos h2]
      exact fun x hx => h x (List.mem_of_mem_tail hx)
    · rw [if_neg h2]
      by_cases h5 : q = 5
      · rw [if_pos h5]
        exact fun x hx => h x (List.mem_filter.1 hx).1
      · rw [if_neg h5]
        exact h
theorem ns_up {m n q t r d z : Int} {S : List It} (hu : S.Pairwise lt) (h : ∀ x ∈ S, x.place < n) : (nxtS m n S q t r d z).Pairwise lt := by
  unfold nxtS
  by_cases h1 : q = 1
  · rw [if_pos h1]
    by_cases h2 : (S.length : Int) < m
    · rw [if_pos h2]
      exact ins_sorted hu h
    · rw [if_neg h2]
      exact hu
  · rw [if_neg h1]
    by_cases h2 : q = 2
    · rw [if_pos h2]
      exact hu.sublist (List.tail_sublist S)
    · rw [if_neg h2]
      by_cases h5 : q = 5
      · rw [if_pos h5]
        exact hu.filter _
      · rw [if_neg h5]
        exact hu
theorem ns_few {m n q t r d z : Int} {S : List It} (h : (S.length : Int) ≤ m) : ((nxtS m n S q t r d z).length : Int) ≤ m := by
  unfold nxtS
  by_cases h1 : q = 1
  · rw [if_pos h1]
    by_cases h2 : (S.length : Int) < m
    · rw [if_pos h2, ins_length]
      omega
    · rw [if_neg h2]
      exact h
  · rw [if_neg h1]
    by_cases h2 : q = 2
    · rw [if_pos h2]
      have := List.length_tail (l := S)
      omega
    · rw [if_neg h2]
      by_cases h5 : q = 5
      · rw [if_pos h5]
        have := List.length_filter_le (fun x : It => decide (z ≤ x.num)) S
        unfold keep
        omega
      · rw [if_neg h5]
        exact h
section
variable {W wr w1 : World} {base : Nat} {mm n : Int} {v v1 : Value} {S : List It} {j : Nat} {ops : List Op5} {AS : List Td} {o : Op5}
theorem PP.got (h : PP W wr base mm n v S j ops AS) (ho : ops[j]? = some o) : AS[j]? = some (ansD mm S o.q o.z) ∧ answers mm (nxtN mm n S o.q) (o.S mm n S) (ops.drop (j + 1)) = AS.drop (j + 1) := by
  obtain ⟨hj, e⟩ := List.getElem?_eq_some_iff.1 ho
  have hd := h.rest
  rw [List.drop_eq_getElem_cons hj, e] at hd
  simp only [answers] at hd
  have hl : j < AS.length := by
    rcases Nat.lt_or_ge j AS.length with h | h
    · exact h
    · rw [List.drop_eq_nil_of_le h] at hd
      cases hd
  rw [List.drop_eq_getElem_cons hl] at hd
  injection hd with h1 h2
  exact ⟨by rw [List.getElem?_eq_getElem hl, h1], h2⟩
theorem PP.next (h : PP W wr base mm n v S j ops AS) (ho : ops[j]? = some o) (l1 : LS w1 base v1 ((o.S mm n S).map ri)) (b1 : Below base wr w1) : PP W w1 base mm (nxtN mm n S o.q) v1 (o.S mm n S) (j + 1) ops AS :=
  ⟨l1, h.fine.nxt h.n0 h.old, ns_up h.up h.old, ns_old h.old, ns_few h.few, by have := (nxtN_le mm n S o.q).1; have := h.n0; omega, (h.got ho).2, h.b.trans b1⟩
end
end Go.Proofs.Ytniemmnmiefgeaa.QueueW
