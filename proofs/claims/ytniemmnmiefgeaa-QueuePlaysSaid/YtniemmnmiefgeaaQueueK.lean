/- Rows of what play told; calls that came in. -/
import Derived.Test.YtniemmnmiefgeaaQueueH
import Derived.Test.YtniemmnmiefgeaaOpen
import Derived.Laws.MakeOwn
namespace Go.Proofs.Ytniemmnmiefgeaa.QueueW
open Go.RowKit Shell
structure Td where
  th : Int
  ti : Int
  ok : Bool
  nn : Int
instance : Inhabited Td := ⟨⟨0, 0, false, 0⟩⟩
def Td.cs (x : Td) : List Value := [.int .i64 x.th, .int .i64 x.ti, .bool x.ok, .int .i64 x.nn]
def tflat : List Td → List Value
  | [] => []
  | x :: L => x.cs ++ tflat L
theorem tflat_length : ∀ L, (tflat L).length = L.length * 4
  | [] => rfl
  | x :: L => by simp only [tflat, List.length_append, tflat_length L, List.length_cons]; simp only [Td.cs, List.length_cons, List.length_nil]; omega
theorem tflat_append : ∀ L M, tflat (L ++ M) = tflat L ++ tflat M
  | [], _ => rfl
  | x :: L, M => by simp only [List.cons_append, tflat, tflat_append L M, List.append_assoc]
theorem tflat_at : ∀ (L : List Td) (i c : Nat) (x : Td), L[i]? = some x → c < 4 → (tflat L)[i * 4 + c]? = x.cs[c]?
  | y :: L, 0, c, x, h, hc => by
    simp only [List.getElem?_cons_zero, Option.some.injEq] at h
    subst h
    rw [tflat, Nat.zero_mul, Nat.zero_add, List.getElem?_append_left (by simp only [Td.cs, List.length_cons, List.length_nil]; omega)]
  | y :: L, i + 1, c, x, h, hc => by
    simp only [List.getElem?_cons_succ] at h
    rw [tflat, List.getElem?_append_right (by simp only [Td.cs, List.length_cons, List.length_nil]; omega)]
    rw [show (i + 1) * 4 + c - y.cs.length = i * 4 + c by simp only [Td.cs, List.length_cons, List.length_nil]; omega]
    exact tflat_at L i c x h hc
/-- The row of what was told, in a block of its own. -/
def TR (w : World) (g : Nat) (L : List Td) : Prop := w.heap[g]? = some (.cells (tflat L).toArray 30 (0, 0))
theorem TR.cells {w : World} {g : Nat} {L : List Td} (h : TR w g L) {i : Nat} {x : Td} (hi : L[i]? = some x) :
    w.cell? ⟨g, i * 4, none⟩ = some (.int .i64 x.th) ∧ w.cell? ⟨g, i * 4 + 1, none⟩ = some (.int .i64 x.ti) ∧ w.cell? ⟨g, i * 4 + 2, none⟩ = some (.bool x.ok) ∧ w.cell? ⟨g, i * 4 + 3, none⟩ = some (.int .i64 x.nn) := by
  have k : ∀ j u, j < 4 → x.cs[j]? = some u → w.cell? ⟨g, i * 4 + j, none⟩ = some u := fun j u hc hu => by
    rw [cell_of_row w g (i * 4 + j) _ _ _ h, List.getElem?_toArray]
    exact (tflat_at L i j x hi hc).trans hu
  exact ⟨k 0 _ (by omega) rfl, k 1 _ (by omega) rfl, k 2 _ (by omega) rfl, k 3 _ (by omega) rfl⟩
theorem TR.frozen {w : World} {g : Nat} {L : List Td} (h : TR w g L) (i : Nat) : w.frozen? ⟨g, i * 4, none⟩ = false ∧ w.frozen? ⟨g, i * 4 + 1, none⟩ = false ∧ w.frozen? ⟨g, i * 4 + 2, none⟩ = false ∧ w.frozen? ⟨g, i * 4 + 3, none⟩ = false :=
  ⟨frozen_of_row w g _ _ _ h, frozen_of_row w g _ _ _ h, frozen_of_row w g _ _ _ h, frozen_of_row w g _ _ _ h⟩
theorem tflat_parts (L : List Td) (i : Nat) (hi : i < L.length) (x : Td) : ∃ o : Td, tflat L = tflat (L.take i) ++ o.cs ++ tflat (L.drop (i + 1)) ∧ tflat (L.set i x) = tflat (L.take i) ++ x.cs ++ tflat (L.drop (i + 1)) ∧ (tflat (L.take i)).length = i * 4 := by
  refine ⟨L[i], ?_, ?_, ?_⟩
  · conv => lhs; rw [← List.take_append_drop i L, List.drop_eq_getElem_cons hi, tflat_append]
    rw [tflat, List.append_assoc]
  · rw [List.set_eq_take_append_cons_drop, if_pos hi, tflat_append, tflat, List.append_assoc]
  · rw [tflat_length, List.length_take, Nat.min_eq_left (by omega)]
theorem TR.set {w : World} {g : Nat} {L : List Td} (h : TR w g L) {i : Nat} (hi : i < L.length) (x : Td) : TR (w.setCells g (i * 4) x.cs) g (L.set i x) := by
  obtain ⟨o, e1, e2, e3⟩ := tflat_parts L i hi x
  unfold TR at *
  rw [e1, List.append_assoc] at h
  have h1 := heap_setCells x.cs o.cs (tflat (L.take i)) (tflat (L.drop (i + 1))) w rfl (by simpa [List.append_assoc] using h)
  rw [e3] at h1
  rw [e2]
  exact h1
theorem made4 (a b c d : Value) : ∀ n, (List.range (n * 4)).map (fun i => #[a, b, c, d][i % 4]!) = (List.replicate n [a, b, c, d]).flatten
  | 0 => rfl
  | n + 1 => by
    rw [show (n + 1) * 4 = n * 4 + 1 + 1 + 1 + 1 by omega, List.range_succ, List.range_succ, List.range_succ, List.range_succ]
    simp only [List.map_append, made4 a b c d n, List.map_cons, List.map_nil]
    rw [List.replicate_succ', List.flatten_append]
    rw [show n * 4 % 4 = 0 by omega, show (n * 4 + 1) % 4 = 1 by omega, show (n * 4 + 1 + 1) % 4 = 2 by omega, show (n * 4 + 1 + 1 + 1) % 4 = 3 by omega]
    simp
theorem tflat_replicate (x : Td) : ∀ n, tflat (List.replicate n x) = (List.replicate n x.cs).flatten
  | 0 => rfl
  | n + 1 => by rw [List.replicate_succ, List.replicate_succ, tflat, tflat_replicate x n, List.flatten_cons]
theorem made_told (n : Nat) : madeCells #[.int .i64 0, .int .i64 0, .bool false, .int .i64 0] (n * 4) = (tflat (List.replicate n ⟨0, 0, false, 0⟩)).toArray := by
  apply Array.ext'
  rw [tflat_replicate]
  simp only [madeCells, Array.toList_map, Array.toList_range]
  exact made4 _ _ _ _ n
theorem infoT : (Try.prog.info? 30).map (fun i => (i.zero, i.size, i.bytes)) = some (some (.agg #[.int .i64 0, .int .i64 0, .bool false, .int .i64 0]), 4, 32) := by kernel_rfl
theorem make_told (n : Nat) (hn : n ≤ 4398046511104) (w : World) : Sem.run Try.prog (Instr.makeSlice 24 (.int .i64 (n : Int)) (.int .i64 (n : Int))) w = .ok (.slice (some ⟨w.heap.size, 0, none⟩) n n) (w.alloc (.cells (tflat (List.replicate n ⟨0, 0, false, 0⟩)).toArray 30)) := by
  obtain ⟨i, hi, hzz⟩ := Option.map_eq_some_iff.1 infoT
  simp only [Prod.mk.injEq] at hzz
  obtain ⟨hz, hs, hb⟩ := hzz
  have h := run_make (P := Try.prog) w 24 30 i _ Try.underlying24 hi hz .i64 .i64 n n (by omega) (Int.le_refl _) (by rw [hb]; omega) (by omega)
  rw [hs, Int.toNat_natCast] at h
  rw [← made_told]
  exact h
/-- A call that came in. -/
structure Op5 where
  q : Int
  t : Int
  r : Int
  d : Int
  z : Int
def Op5.l (o : Op5) : List Int := [o.q, o.t, o.r, o.d, o.z]
def RO (w : World) (A : Option Addr) (ops : List Op5) : Prop := RL w [.i64, .i64, .i64, .i64, .i64] A (ops.map Op5.l)
theorem RO.below {w w1 : World} {A : Option Addr} {ops : List Op5} (h : RO w A ops) (b : Below w.heap.size w w1) : RO w1 A ops := RL.below h b
theorem len5 {l : List Int} (h : l.length = 5) : ∃ o : Op5, l = o.l := by
  match l, h with
  | [a, b, c, d, e], _ => exact ⟨⟨a, b, c, d, e⟩, rfl⟩
theorem RO.of {w : World} {A : Option Addr} {rows : List (List Int)} (h : RL w [.i64, .i64, .i64, .i64, .i64] A rows) : ∃ ops : List Op5, rows = ops.map Op5.l ∧ RO w A ops := by
  have each : ∀ (rows : List (List Int)), (∀ x ∈ rows, x.length = 5) → ∃ ops : List Op5, rows = ops.map Op5.l := by
    intro rows
    induction rows with
    | nil => exact fun _ => ⟨[], rfl⟩
    | cons x rows ih =>
      intro hx
      obtain ⟨o, ho⟩ := len5 (hx x List.mem_cons_self)
      obtain ⟨ops, e⟩ := ih (fun y hy => hx y (List.mem_cons_of_mem _ hy))
      exact ⟨o :: ops, by rw [ho, e]; rfl⟩
  obtain ⟨ops, e⟩ := each rows (fun x hx => by
    obtain ⟨k, hk⟩ := List.getElem?_of_mem hx
    exact (h k x hk).1)
  exact ⟨ops, e, by unfold RO; rw [← e]; exact h⟩
theorem RO.row {w : World} {A : Option Addr} {ops : List Op5} (h : RO w A ops) {k : Nat} {o : Op5} (hk : ops[k]? = some o) :
    ∃ b off, A = some ⟨b, off, none⟩ ∧ w.cell? ⟨b, off + k * 5, none⟩ = some (.int .i64 o.q) ∧ w.cell? ⟨b, off + k * 5 + 1, none⟩ = some (.int .i64 o.t) ∧ w.cell? ⟨b, off + k * 5 + 2, none⟩ = some (.int .i64 o.r) ∧ w.cell? ⟨b, off + k * 5 + 3, none⟩ = some (.int .i64 o.d) ∧ w.cell? ⟨b, off + k * 5 + 4, none⟩ = some (.int .i64 o.z) := by
  have hk' : (ops.map Op5.l)[k]? = some o.l := by rw [List.getElem?_map, hk]; rfl
  obtain ⟨hl, ⟨b, off, spot⟩, rfl, hc⟩ := h k o.l hk'
  have h0 := hc 0 .i64 o.q rfl rfl
  have h1 := hc 1 .i64 o.t rfl rfl
  have h2 := hc 2 .i64 o.r rfl rfl
  have h3 := hc 3 .i64 o.d rfl rfl
  have h4 := hc 4 .i64 o.z rfl rfl
  have hspot : spot = none := by
    have hlt : 0 < (ops.map Op5.l).length := by have := (List.getElem?_eq_some_iff.1 hk').1; omega
    obtain ⟨o', ho'⟩ : ∃ o', ops[0]? = some o' := ⟨_, List.getElem?_eq_getElem (by simpa using hlt)⟩
    obtain ⟨hl', a', ha', hc'⟩ := h 0 o'.l (by rw [List.getElem?_map, ho']; rfl)
    cases ha'
    have h3 := World.cell?_spot (hc' 0 .i64 o'.q rfl rfl).1
    simpa [Addr.add] using h3
  subst hspot
  have e : ∀ i, (⟨b, off, none⟩ : Addr).add (k * [IntKind.i64, .i64, .i64, .i64, .i64].length + i) = ⟨b, off + k * 5 + i, none⟩ := fun i => by unfold Addr.add; split <;> simp_all; omega
  rw [e] at h0 h1 h2 h3 h4
  exact ⟨b, off, rfl, h0.1, h1.1, h2.1, h3.1, h4.1⟩
end Go.Proofs.Ytniemmnmiefgeaa.QueueW
