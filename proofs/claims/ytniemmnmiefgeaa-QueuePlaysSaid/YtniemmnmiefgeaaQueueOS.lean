/- A queue of the call's own, beside blocks that it keeps. -/
import Derived.Test.YtniemmnmiefgeaaQueueGS
namespace Go.Proofs.Ytniemmnmiefgeaa.QueueW
open Go.RowKit
structure OQS (w wr : World) (K : List (Nat × Obj)) (k : Nat) (m n : Int) (v : Value) (S : List It) : Prop where
  q : QSS wr k m n v S
  b : Below w.heap.size w wr
  k0 : w.heap.size ≤ k
  o0 : ∀ j, v.ownBlock = some j → w.heap.size ≤ j
  keep : ∀ x ∈ K, wr.heap[x.1]? = some x.2 ∧ ¬ x.1 = k ∧ v.ownBlock ≠ some x.1
section
variable {w wr w1 : World} {K : List (Nat × Obj)} {k : Nat} {m n : Int} {v v' : Value} {S S' : List It}
theorem OQS.below (h : OQS w wr K k m n v S) (b : Below wr.heap.size wr w1) : OQS w w1 K k m n v S :=
  ⟨h.q.below b, h.b.trans (b.mono h.b.size), h.k0, h.o0, fun x hx => ⟨(b.block x.1 (lt_heap (h.keep x hx).1)).trans (h.keep x hx).1, (h.keep x hx).2⟩⟩
theorem OQS.chg (h : OQS w wr K k m n v S) {m' n' : Int} (q : QSS w1 k m' n' v' S') (o : ∀ j, v'.ownBlock = some j → v.ownBlock = some j ∨ wr.heap.size ≤ j) (g : Chg (fun j => j = k ∨ v.ownBlock = some j) wr w1) : OQS w w1 K k m' n' v' S' :=
  ⟨q, h.b.trans (g.below (B := w.heap.size) (fun j hj e => e.elim (fun e => by have := h.k0; omega) (fun e => by have := h.o0 j e; omega)) h.b.size), h.k0,
    fun j hj => (o j hj).elim (h.o0 j) (fun e => Nat.le_trans h.b.size e), fun x hx => by
      obtain ⟨h1, h2, h3⟩ := h.keep x hx
      refine ⟨g.heap h1 (fun e => e.elim h2 (fun e => h3 e)), h2, fun e => ?_⟩
      rcases o x.1 e with e | e
      · exact h3 e
      · have := lt_heap h1; omega⟩
theorem newS_at (m : Int) (hb : Below w.heap.size w wr) (hK : ∀ x ∈ K, wr.heap[x.1]? = some x.2) : Calls Try.prog 21 #[.int .i64 m] wr fun e w' => e = .returned (.pointer (some ⟨wr.heap.size, 0, none⟩)) ∧ OQS w w' K wr.heap.size (most m) 0 (.slice none 0 0) [] :=
  (newS_any m wr).mono fun e w' ⟨h1, h2, h3⟩ => ⟨h1, h2, hb.trans (h3.mono hb.size), hb.size, fun _ hj => by (cases hj), fun x hx => ⟨(h3.block x.1 (lt_heap (hK x hx))).trans (hK x hx), fun e => by have := lt_heap (hK x hx); omega, fun e => by cases e⟩⟩
theorem OQS.push (h : OQS w wr K k m n v S) (t r d : Int) (u : ByteArray) (hm : (S.length : Int) < m) (hm2 : m ≤ 65536) (hn : 0 ≤ n ∧ n < 4611686018427387904) :
    Calls Try.prog 22 #[.pointer (some ⟨k, 0, none⟩), .int .i64 t, .int .i64 r, .int .i64 d, .string u] wr fun e w' => e = .returned (.int .i64 0) ∧ ∃ v', OQS w w' K k m (n + 1) v' (ins ⟨t, r, d, n, .string u, rfl⟩ S) :=
  (pushS_ok k m n t r d u v S wr h.q hm hm2 hn).mono fun _ _ ⟨h1, v', q, o, g⟩ => ⟨h1, v', h.chg q o g⟩
theorem OQS.full (h : OQS w wr K k m n v S) (t r d : Int) (z : Value) (hm : m ≤ (S.length : Int)) :
    Calls Try.prog 22 #[.pointer (some ⟨k, 0, none⟩), .int .i64 t, .int .i64 r, .int .i64 d, z] wr fun e w' => e = .returned (.int .i64 6) ∧ OQS w w' K k m n v S :=
  (pushS_full k m n t r d z v S wr h.q hm).mono fun _ _ ⟨h1, b⟩ => ⟨h1, h.below b⟩
theorem OQS.len (h : OQS w wr K k m n v S) : Calls Try.prog 23 #[.pointer (some ⟨k, 0, none⟩)] wr fun e w' => e = .returned (.int .i64 (S.length : Nat)) ∧ OQS w w' K k m n v S :=
  (lenqS_any k m n v S wr h.q).mono fun _ _ ⟨h1, e⟩ => ⟨h1, e ▸ h⟩
theorem OQS.peek {x : It} (h : OQS w wr K k m n v (x :: S)) : Calls Try.prog 24 #[.pointer (some ⟨k, 0, none⟩)] wr fun e w' => e = .returned (.tuple #[x.thing, .int .i64 x.time, .bool true]) ∧ OQS w w' K k m n v (x :: S) :=
  (peekS_some k m n v x S wr h.q).mono fun _ _ ⟨h1, b⟩ => ⟨h1, h.below b⟩
theorem OQS.peek0 (h : OQS w wr K k m n v []) : Calls Try.prog 24 #[.pointer (some ⟨k, 0, none⟩)] wr fun e w' => e = .returned (.tuple #[.string ⟨#[]⟩, .int .i64 0, .bool false]) ∧ OQS w w' K k m n v [] :=
  (peekS_none k m n v wr h.q).mono fun _ _ ⟨h1, b⟩ => ⟨h1, h.below b⟩
theorem OQS.pop {x : It} (h : OQS w wr K k m n v (x :: S)) : Calls Try.prog 25 #[.pointer (some ⟨k, 0, none⟩)] wr fun e w' => e = .returned (.tuple #[x.thing, .int .i64 x.time, .bool true]) ∧ ∃ v', OQS w w' K k m n v' S :=
  (popS_some k m n v x S wr h.q).mono fun _ _ ⟨h1, v', q, o, g⟩ => ⟨h1, v', h.chg q (fun _ hj => Or.inl (o ▸ hj)) g⟩
theorem OQS.pop0 (h : OQS w wr K k m n v []) : Calls Try.prog 25 #[.pointer (some ⟨k, 0, none⟩)] wr fun e w' => e = .returned (.tuple #[.string ⟨#[]⟩, .int .i64 0, .bool false]) ∧ OQS w w' K k m n v [] :=
  (popS_none k m n v wr h.q).mono fun _ _ ⟨h1, b⟩ => ⟨h1, h.below b⟩
end
end Go.Proofs.Ytniemmnmiefgeaa.QueueW
