/- The document's own small functions: clocks that may be, spans, in time, due. -/
import Derived.Test.YtmagjekmlnpfpaaGreatConfPJa
import Derived.Test.YtmagjekmlnpfpaaGreatTickIntsJa
import Derived.Test.YtmagjekmlnpfpaaGreatConfNJa
import Derived.Test.YtmagjekmlnpfpaaGreatRowGJa
import Derived.Test.YtmagjekmlnpfpaaGreatRow1
import Derived.Test.YtmagjekmlnpfpaaGreatTake
import Derived.Laws.OwnMore
namespace Go.Proofs.YtmagjekmlnpfpaaGreat.RoundW
open Go.RowKit Shell
open ConfW (Cfg CM chk)
open ClockW (sh wh CI tell tell_iff okT okB okR okT_iff okB_iff)
/-- A clock as a value. -/
abbrev kv (k : Ck) : Value := .agg #[.int .i64 k.m, .int .i64 k.b, .int .i64 k.r]
/-- The configuration's box, a clock's. -/
abbrev cbx (c : Cfg) (D E L : Option Addr) (nd cd ne ce nl cl : Nat) : Obj := .cells #[.int .i64 c.hosts, .int .i64 c.cycle, .int .i64 c.delay, .int .i64 c.window, .int .i64 c.precision, .slice D nd cd, .slice E ne ce, .slice L nl cl, .int .i64 c.queue] 26 (0, 0)
theorem cells9 {w : World} {j : Nat} {x0 x1 x2 x3 x4 x5 x6 x7 x8 : Value} {t : TypeId} {fr : Nat × Nat} (h : w.heap[j]? = some (.cells #[x0, x1, x2, x3, x4, x5, x6, x7, x8] t fr)) : w.cell? ⟨j, 0, none⟩ = some x0 ∧ w.cell? ⟨j, 1, none⟩ = some x1 ∧ w.cell? ⟨j, 2, none⟩ = some x2 ∧ w.cell? ⟨j, 3, none⟩ = some x3 ∧ w.cell? ⟨j, 4, none⟩ = some x4 ∧ w.cell? ⟨j, 5, none⟩ = some x5 ∧ w.cell? ⟨j, 6, none⟩ = some x6 ∧ w.cell? ⟨j, 7, none⟩ = some x7 ∧ w.cell? ⟨j, 8, none⟩ = some x8 :=
  ⟨cell_of_row w j 0 _ _ _ h, cell_of_row w j 1 _ _ _ h, cell_of_row w j 2 _ _ _ h, cell_of_row w j 3 _ _ _ h, cell_of_row w j 4 _ _ _ h, cell_of_row w j 5 _ _ _ h, cell_of_row w j 6 _ _ _ h, cell_of_row w j 7 _ _ _ h, cell_of_row w j 8 _ _ _ h⟩
/-- Rows of clocks. -/
def FK : Flat Ck where
  n := 3
  cs k := [.int .i64 k.m, .int .i64 k.b, .int .i64 k.r]
  len _ := rfl
  one x u hu := by
    simp only [List.mem_cons, List.not_mem_nil, or_false] at hu
    rcases hu with rfl | rfl | rfl <;> rfl
  pos := by decide
theorem fk_at {w : World} {A : Option Addr} {l : List Ck} (h : SG FK w A l) {i : Nat} {k : Ck} (hi : l[i]? = some k) : ∃ b off, A = some ⟨b, off, none⟩ ∧ w.cell? ⟨b, off + i * 3, none⟩ = some (.int .i64 k.m) ∧ w.cell? ⟨b, off + i * 3 + 1, none⟩ = some (.int .i64 k.b) ∧ w.cell? ⟨b, off + i * 3 + 2, none⟩ = some (.int .i64 k.r) := by
  obtain ⟨b, off, hA, -, hc⟩ := h i k hi
  exact ⟨b, off, hA, hc 0 _ rfl, hc 1 _ rfl, hc 2 _ rfl⟩
theorem okK_parts (k : Ck) : okK k = ((okT k.m && okB k.b) && okR k.r) := rfl
theorem all_to {α : Type} {l : List α} {p : α → Bool} {n i : Nat} (hn : l.length = n) (h : (n : Int) ≤ (i : Int)) (hd : ∀ j x, l[j]? = some x → j < i → p x = true) : l.all p = true := by
  rw [List.all_eq_true]
  intro x hx
  obtain ⟨j, hj⟩ := List.getElem?_of_mem hx
  have := lt_of_get hj
  exact hd j x hj (by omega)
theorem all_off {α : Type} {l : List α} {p : α → Bool} {i : Nat} {x : α} (hi : l[i]? = some x) (h : p x = false) : l.all p = false := by
  rw [List.all_eq_false]
  exact ⟨x, List.mem_of_getElem? hi, by rw [h]; decide⟩
end Go.Proofs.YtmagjekmlnpfpaaGreat.RoundW


/- The landed round, plain: sorting in place; rows of clocks by their blocks. -/
namespace Go.Proofs.YtmagjekmlnpfpaaGreat.RoundW
open Go.RowKit Shell
open ClockW (CK sh wh CI)
/-- The hosts that send, as they stand. -/
def hst (S : List Int) (n : Nat) : List Nat := (List.range n).filter fun h => decide (S.getD h (-1) ≠ -1)
theorem hst_mem {S : List Int} {n i : Nat} : i ∈ hst S n ↔ i < n ∧ S.getD i (-1) ≠ -1 := by
  unfold hst
  rw [List.mem_filter, List.mem_range, decide_eq_true_eq]
theorem hst_up (S : List Int) (n : Nat) : (hst S n).Pairwise (· < ·) := List.Pairwise.filter _ List.pairwise_lt_range
theorem hst_succ_yes {S : List Int} {n : Nat} (h : S.getD n (-1) ≠ -1) : hst S (n + 1) = hst S n ++ [n] := by
  unfold hst
  rw [List.range_succ, List.filter_append, List.filter_cons_of_pos (by rw [decide_eq_true_eq]; exact h)]
  rfl
theorem hst_succ_no {S : List Int} {n : Nat} (h : S.getD n (-1) = -1) : hst S (n + 1) = hst S n := by
  unfold hst
  rw [List.range_succ, List.filter_append, List.filter_cons_of_neg (by rw [decide_eq_true_eq]; exact fun h2 => h2 h)]
  simp
theorem hst_len (S : List Int) (n : Nat) : (hst S n).length ≤ n := by
  unfold hst
  exact Nat.le_trans (List.length_filter_le _ _) (by rw [List.length_range]; exact Nat.le_refl _)
theorem hst_ord {S : List Int} (hS : ∀ s ∈ S, -1 ≤ s) : (hst S S.length).Perm (ord S) := by
  rw [List.perm_ext_iff_of_nodup ((hst_up S S.length).imp (fun h => Nat.ne_of_lt h)) (ord_nodup S)]
  intro i
  rw [hst_mem, ord_mem]
  constructor
  · rintro ⟨h1, h2⟩
    refine ⟨h1, ?_⟩
    have h3 := hS _ (List.getElem_mem h1)
    have e : S.getD i (-1) = S[i] := by rw [List.getD_eq_getElem?_getD, List.getElem?_eq_getElem h1]; rfl
    omega
  · rintro ⟨h1, h2⟩
    exact ⟨h1, by omega⟩
/-- The first i are sorted. -/
structure Ins (S : List Int) (O : List Nat) (i : Nat) (M : List Nat) : Prop where
  h : ∃ A, M = A ++ O.drop i ∧ A.Perm (O.take i) ∧ A.Pairwise (ahd S)
/-- The one at i has come down to j. -/
structure InI (S : List Int) (O : List Nat) (i j : Nat) (M : List Nat) : Prop where
  h : ∃ A x B, O[i]? = some x ∧ M = A ++ x :: (B ++ O.drop (i + 1)) ∧ A.length = j ∧ (A ++ B).Perm (O.take i) ∧ (A ++ B).Pairwise (ahd S) ∧ ∀ b ∈ B, S.getD x (-1) < S.getD b (-1)
theorem drop_cons {α : Type} {O : List α} {i : Nat} {x : α} (h : O[i]? = some x) : O.drop i = x :: O.drop (i + 1) := by
  obtain ⟨h1, rfl⟩ := List.getElem?_eq_some_iff.1 h
  exact List.drop_eq_getElem_cons h1
theorem Ins.one (S : List Int) (O : List Nat) : Ins S O 1 O := by
  cases O with
  | nil => exact ⟨[], by simp, by simp, List.Pairwise.nil⟩
  | cons a O => exact ⟨[a], by simp, by simp, List.pairwise_singleton _ _⟩
theorem Ins.len {S : List Int} {O M : List Nat} {i : Nat} (h : Ins S O i M) : M.length = O.length := by
  obtain ⟨A, rfl, h1, -⟩ := h.h
  have := h1.length_eq
  rw [List.length_append, this, ← List.length_append, List.take_append_drop]
theorem InI.len {S : List Int} {O M : List Nat} {i j : Nat} (h : InI S O i j M) : M.length = O.length ∧ j ≤ i ∧ i < O.length := by
  obtain ⟨A, x, B, h1, rfl, h2, h3, -⟩ := h.h
  have h4 := h3.length_eq
  have h5 := (List.getElem?_eq_some_iff.1 h1).1
  simp only [List.length_append, List.length_cons, List.length_take, List.length_drop] at h4 ⊢
  omega
theorem Ins.start {S : List Int} {O M : List Nat} {i : Nat} (h : Ins S O i M) (hi : i < O.length) : InI S O i i M := by
  obtain ⟨A, rfl, h1, h2⟩ := h.h
  have h3 : O[i]? = some O[i] := List.getElem?_eq_getElem hi
  refine ⟨A, O[i], [], h3, by rw [drop_cons h3]; rfl, ?_, by rw [List.append_nil]; exact h1, by rw [List.append_nil]; exact h2, fun b hb => by cases hb⟩
  have := h1.length_eq
  rw [List.length_take] at this
  omega
/-- It goes down by one. -/
theorem InI.down {S : List Int} {O M : List Nat} {i j x z : Nat} (h : InI S O i (j + 1) M) (hx : M[j + 1]? = some x) (hz : M[j]? = some z) (hlt : S.getD x (-1) < S.getD z (-1)) : InI S O i j ((M.set (j + 1) z).set j x) := by
  obtain ⟨A, x', B, h1, rfl, h2, h3, h4, h5⟩ := h.h
  have e1 : x' = x := by
    rw [List.getElem?_append_right (by omega), h2, Nat.sub_self] at hx
    exact Option.some.inj hx
  subst e1
  rcases List.eq_nil_or_concat A with rfl | ⟨A', z', rfl⟩
  · simp at h2
  rw [List.concat_eq_append] at *
  simp only [List.length_append, List.length_singleton, Nat.add_right_cancel_iff] at h2
  have e2 : z' = z := by
    rw [List.append_assoc, List.getElem?_append_right (by omega), h2, Nat.sub_self] at hz
    exact Option.some.inj hz
  subst e2
  refine ⟨A', x', z' :: B, h1, ?_, h2, ?_, ?_, fun b hb => ?_⟩
  · rw [List.append_assoc, List.set_append_right _ _ (by omega), List.set_append_right _ _ (by omega), h2]
    simp
  · rw [List.append_assoc] at h3
    exact h3
  · rw [List.append_assoc] at h4
    exact h4
  · rcases List.mem_cons.1 hb with rfl | hb
    · exact hlt
    · exact h5 b hb
/-- It stands where it should. -/
theorem InI.done {S : List Int} {O M : List Nat} {i j : Nat} (up : O.Pairwise (· < ·)) (h : InI S O i j M) (hs : ∀ k x z, j = k + 1 → M[k + 1]? = some x → M[k]? = some z → S.getD z (-1) ≤ S.getD x (-1)) : Ins S O (i + 1) M := by
  obtain ⟨A, x, B, h1, rfl, h2, h3, h4, h5⟩ := h.h
  have hi := (List.getElem?_eq_some_iff.1 h1).1
  have ht : O.take (i + 1) = O.take i ++ [x] := by rw [List.take_add_one, h1]; rfl
  have lt : ∀ a ∈ A ++ B, a < x := fun a ha => by
    have h6 := (h3.mem_iff).1 ha
    have h7 : (O.take i ++ [x]).Pairwise (· < ·) := by rw [← ht]; exact up.sublist (List.take_sublist _ _)
    exact (List.pairwise_append.1 h7).2.2 a h6 x (List.mem_singleton.2 rfl)
  have le : ∀ a ∈ A, S.getD a (-1) ≤ S.getD x (-1) := fun a ha => by
    rcases List.eq_nil_or_concat A with rfl | ⟨A', z, rfl⟩
    · cases ha
    rw [List.concat_eq_append] at *
    simp only [List.length_append, List.length_singleton] at h2
    have h8 := hs A'.length x z h2.symm (by rw [List.getElem?_append_right (by simp)]; simp) (by rw [List.append_assoc, List.getElem?_append_right (by omega), Nat.sub_self]; rfl)
    rcases List.mem_append.1 ha with ha | ha
    · rw [List.append_assoc] at h4
      have := (List.pairwise_append.1 h4).2.2 a ha z (List.mem_append_left _ (List.mem_singleton.2 rfl))
      unfold ahd at this
      omega
    · rw [List.mem_singleton.1 ha]
      exact h8
  have p4 := List.pairwise_append.1 h4
  refine ⟨A ++ x :: B, by rw [List.append_assoc]; rfl, ?_, ?_⟩
  · rw [ht]
    exact (List.perm_middle.trans (h3.cons x)).trans (List.perm_append_singleton x _).symm
  · refine List.pairwise_append.2 ⟨p4.1, List.Pairwise.cons (fun b hb => Or.inl (h5 b hb)) p4.2.1, fun a ha b hb => ?_⟩
    rcases List.mem_cons.1 hb with rfl | hb
    · have h6 := le a ha
      have h7 := lt a (List.mem_append_left _ ha)
      unfold ahd
      omega
    · exact p4.2.2 a ha b hb
theorem Ins.fin {S : List Int} {O M : List Nat} {i : Nat} (h : Ins S O i M) (hi : O.length ≤ i) (hp : O.Perm (ord S)) : M = ord S := by
  obtain ⟨A, rfl, h1, h2⟩ := h.h
  rw [List.drop_eq_nil_of_le hi, List.append_nil]
  rw [List.take_of_length_le hi] at h1
  exact ord_only (h1.trans hp) h2
/-! ### rows of clocks -/
def FP : Flat Nat where
  n := 1
  cs p := [.pointer (some ⟨p, 0, none⟩)]
  len _ := rfl
  one x u hu := by
    simp only [List.mem_cons, List.not_mem_nil, or_false] at hu
    subst hu
    rfl
  pos := by decide
/-- From the i-th on the clocks stand in these blocks. -/
structure KS (w : World) (base i : Nat) (P : List Nat) (l : List Ck) : Prop where
  n : P.length = l.length
  k : ∀ j p k, i ≤ j → P[j]? = some p → l[j]? = some k → CK w p k.m k.b k.r
  lo : ∀ p ∈ P, base ≤ p ∧ p < w.heap.size
  nd : P.Nodup
theorem KS.nil (w : World) (base i : Nat) : KS w base i [] [] := ⟨rfl, fun j p k _ h => by simp at h, fun p h => (by cases h), List.nodup_nil⟩
theorem KS.below {w w1 : World} {base i : Nat} {P : List Nat} {l : List Ck} (h : KS w base i P l) (b : Below w.heap.size w w1) : KS w1 base i P l :=
  ⟨h.n, fun j p k hj hp hk => (h.k j p k hj hp hk).below b, fun p hp => ⟨(h.lo p hp).1, Nat.lt_of_lt_of_le (h.lo p hp).2 b.size⟩, h.nd⟩
theorem KS.get {w : World} {base i : Nat} {P : List Nat} {l : List Ck} (h : KS w base i P l) {j : Nat} {k : Ck} (hj : i ≤ j) (hk : l[j]? = some k) : ∃ p, P[j]? = some p ∧ CK w p k.m k.b k.r := by
  have h1 := (List.getElem?_eq_some_iff.1 hk).1
  have h2 : P[j]? = some (P[j]'(by rw [h.n]; exact h1)) := List.getElem?_eq_getElem _
  exact ⟨_, h2, h.k j _ k hj h2 hk⟩
theorem KS.push {w w1 : World} {base : Nat} {P : List Nat} {l : List Ck} {p : Nat} {k : Ck} (h : KS w base 0 P l) (b : Below w.heap.size w w1) (hp : w.heap.size ≤ p) (hb : base ≤ p) (c : CK w1 p k.m k.b k.r) : KS w1 base 0 (P ++ [p]) (l ++ [k]) := by
  have h1 := h.below b
  refine ⟨by rw [List.length_append, List.length_append, h.n]; rfl, fun j q z _ hq hz => ?_, fun q hq => ?_, ?_⟩
  · rcases Nat.lt_trichotomy j P.length with g | g | g
    · rw [List.getElem?_append_left g] at hq
      rw [List.getElem?_append_left (by rw [← h.n]; exact g)] at hz
      exact h1.k j q z (Nat.zero_le _) hq hz
    · rw [List.getElem?_append_right (by omega), g, Nat.sub_self] at hq
      rw [List.getElem?_append_right (by have := h.n; omega), g, h.n, Nat.sub_self] at hz
      cases hq
      cases hz
      exact c
    · rw [List.getElem?_eq_none (by simp; omega)] at hq
      cases hq
  · rcases List.mem_append.1 hq with g | g
    · exact h1.lo q g
    · rw [List.mem_singleton.1 g]
      exact ⟨hb, c.lt⟩
  · refine List.nodup_append.2 ⟨h.nd, by simp, fun a ha b' hb' e => ?_⟩
    rw [List.mem_singleton.1 hb'] at e
    have := (h.lo a ha).2
    omega
/-- One clock has turned. -/
theorem KS.turn {w w1 : World} {base i : Nat} {P : List Nat} {l : List Ck} (h : KS w base i P l) {p : Nat} (hp : P[i]? = some p) (kp : Kept p w w1) : KS w1 base (i + 1) P l := by
  refine ⟨h.n, fun j q k hj hq hk => ?_, fun q hq => ⟨(h.lo q hq).1, Nat.lt_of_lt_of_le (h.lo q hq).2 kp.size⟩, h.nd⟩
  refine (h.k j q k (by omega) hq hk).kept kp (fun e => ?_)
  obtain ⟨a1, a2⟩ := List.getElem?_eq_some_iff.1 hp
  obtain ⟨b1, b2⟩ := List.getElem?_eq_some_iff.1 hq
  exact (List.pairwise_iff_getElem.1 h.nd) i j a1 b1 (by omega) (a2.trans (e.symm.trans b2.symm))
/-- A block that none of them is. -/
theorem KS.kept {w w1 : World} {base i j : Nat} {P : List Nat} {l : List Ck} (h : KS w base i P l) (kp : Kept j w w1) (hj : j ∉ P) : KS w1 base i P l :=
  ⟨h.n, fun m p k hm hp hk => (h.k m p k hm hp hk).kept kp (fun e => hj (e ▸ List.mem_of_getElem? hp)), fun p hp => ⟨(h.lo p hp).1, Nat.lt_of_lt_of_le (h.lo p hp).2 kp.size⟩, h.nd⟩
theorem KS.step {w w1 : World} {v v1 : Value} {base i : Nat} {P : List Nat} {l : List Ck} (h : KS w base i P l) (s : Step w v w1 v1) (hv : ∀ p ∈ P, v.ownBlock ≠ some p) : KS w1 base i P l :=
  ⟨h.n, fun m p k hm hp hk => (s.g.block p (h.k m p k hm hp hk).lt (fun e => hv p (List.mem_of_getElem? hp) e.symm)).trans (h.k m p k hm hp hk), fun p hp => ⟨(h.lo p hp).1, Nat.lt_of_lt_of_le (h.lo p hp).2 s.g.size⟩, h.nd⟩
end Go.Proofs.YtmagjekmlnpfpaaGreat.RoundW


/- The landed round: clocks are started; is one above; when they send. -/
namespace Go.Proofs.YtmagjekmlnpfpaaGreat.RoundW
open Go.RowKit Shell
open ClockW (CK sh wh CI tell tell_iff)
abbrev sbx (k : Ck) : Obj := .cells #[.int .i64 k.m, .int .i64 k.b, .int .i64 k.r] 60 (0, 0)
theorem oneP : OneG Tryz.prog 86 98 FP.n 8 := oneG_of Tryz.underlying86 (by kernel_rfl)
theorem okN_okK (k : Ck) : ClockW.okN k.m k.b k.r = okK k := by unfold ClockW.okN; rw [okK_parts, Bool.and_assoc]
theorem lwhen_ok {k : Ck} (hk : CkOk k) {p : Nat} {w : World} (c : CK w p k.m k.b k.r) {n : Int} (h : ¬ sho k 1125899906842624 < n) : Calls Tryz.prog 82 #[.pointer (some ⟨p, 0, none⟩), .int .i64 n] w fun e w' => e = .returned (.tuple #[.int .i64 (wh k.m k.b k.r n), .int .i64 0]) ∧ Below w.heap.size w w' := by
  by_cases hb : n ≤ k.b
  · refine (ClockW.when_low p k.m k.b k.r n w c hb).mono ?_
    rintro e w' ⟨rfl, rfl⟩
    exact ⟨by rw [ClockW.wh_low hb], Below.refl _ _⟩
  · exact ClockW.when_ok p k.m k.b k.r n w c hk.ci hb h
theorem lwhen_no {k : Ck} (hk : CkOk k) {p : Nat} {w : World} (c : CK w p k.m k.b k.r) {n : Int} (h : sho k 1125899906842624 < n) : Calls Tryz.prog 82 #[.pointer (some ⟨p, 0, none⟩), .int .i64 n] w fun e w' => e = .returned (.tuple #[.int .i64 0, .int .i64 5]) ∧ Below w.heap.size w w' :=
  ClockW.when_none p k.m k.b k.r n w c hk.ci (fun hb => by have := (ClockW.sh_bounds hk.ci hk.m1).1; unfold sho at h; omega) h
/-- Behind i clocks that were started. -/
structure SL (w : World) (l : List Ck) (i : Nat) (v : Value) (P : List Nat) (wr : World) : Prop where
  b : Below w.heap.size w wr
  o : OG FP wr w.heap.size 98 v P
  k : KS wr w.heap.size 0 P (l.take i)
  d : ∀ p ∈ P, v.ownBlock ≠ some p
theorem SL.push {w wr w6 w7 : World} {l : List Ck} {i p : Nat} {v v7 : Value} {P : List Nat} {k : Ck} (h : SL w l i v P wr) (hk : l[i]? = some k) (b : Below wr.heap.size wr w6) (hp : wr.heap.size ≤ p) (c : CK w6 p k.m k.b k.r) (o7 : OG FP w7 w.heap.size 98 v7 (P ++ [p])) (s7 : Step w6 v w7 v7) : SL w l (i + 1) v7 (P ++ [p]) w7 := by
  have nd : ∀ q ∈ P ++ [p], v.ownBlock ≠ some q ∧ q < w6.heap.size := fun q hq => by
    rcases List.mem_append.1 hq with g | g
    · exact ⟨h.d q g, Nat.lt_of_lt_of_le (h.k.lo q g).2 b.size⟩
    · rw [List.mem_singleton.1 g]
      exact ⟨fun e => by have := (h.o.lt _ e).2; omega, c.lt⟩
  have k6 : KS w6 w.heap.size 0 (P ++ [p]) (l.take i ++ [k]) := h.k.push b hp (by have := h.b.size; omega) c
  refine ⟨(h.b.trans (b.mono h.b.size)).trans (s7.belowG (h.o.below b) (by have := h.b.size; have := b.size; omega)), o7, ?_, fun q hq e => ?_⟩
  · rw [take_snoc hk]
    exact k6.step s7 (fun q hq => (nd q hq).1)
  · rcases s7.m with e2 | ⟨j, e2, hj⟩
    · exact (nd q hq).1 (e2.symm.trans e)
    · rw [e2] at e
      cases e
      have := (nd q hq).2
      omega
/-- What started tells. -/
def Started (w : World) (l : List Ck) (ao : Bool) (e : Ending) (w' : World) : Prop := ∃ v P, e = .returned (.tuple #[v, .bool ao]) ∧ (ao = true → OG FP w' w.heap.size 98 v P ∧ KS w' w.heap.size 0 P l ∧ ∀ p ∈ P, v.ownBlock ≠ some p) ∧ (ao = false → v = nilS) ∧ Below w.heap.size w w'
set_option maxHeartbeats 4000000 in
set_option maxRecDepth 100000 in
theorem started_any (A : Option Addr) (l : List Ck) (n cp : Nat) (w : World) (hn : l.length = n) (hl : n * 24 ≤ 140737488351232) (h : SG FK w A l) :
    Calls Tryz.prog 33 #[.slice A n cp] w (Started w l (l.all okK)) := by
  obtain ⟨ao, hao⟩ : ∃ ao, l.all okK = ao := ⟨_, rfl⟩
  rw [hao]
  have HAO := Lib.hid hao
  have HA := Lib.hid h
  have HN := Lib.hid hn
  have HL := Lib.hid hl
  have hn63 : n ≤ 9223372036854775807 := by omega
  have Q0 := Lib.hid (show SL w l 0 nilS [] w from ⟨Below.refl _ _, OG.nil _ _ _, KS.nil _ _ _, fun p h => by cases h⟩)
  clear h hn hl hao
  go_enter Tryz.func33, Tryz.ntmps33
  go_wp2
  go_loopw [4, 11] (fun v iv wr => ∃ (i : Nat), i ≤ n ∧ iv = .int .i64 i ∧ Hid (∃ P, SL w l i v P wr) ∧ Hid (∀ j x, l[j]? = some x → j < i → okK x = true)) (fun _ iv _ => n - (intOf iv).toNat)
  case atStart => exact ⟨0, Nat.zero_le _, rfl, Lib.hid ⟨[], Q0.out⟩, Lib.hid (fun j x _ h => absurd h (Nat.not_lt_zero _))⟩
  case round =>
    clear Q0
    obtain ⟨i, hi, rfl, HQ, H⟩ := hrel
    obtain ⟨P, hq⟩ := HQ.out
    have hPl : P.length = i := by rw [hq.k.n, List.length_take, HN.out]; omega
    have HPL := Lib.hid hPl
    obtain ⟨Av, cv, hv, -⟩ := hq.o.form
    rw [hPl] at hv
    subst hv
    have Q := Lib.hid hq
    clear HQ hq hPl
    by_cases hlt : (i : Int) < (n : Int)
    · obtain ⟨k, hk⟩ : ∃ k, l[i]? = some k := ⟨_, List.getElem?_eq_getElem (by have := HN.out; omega)⟩
      obtain ⟨b, off, rfl, c0, c1, c2⟩ := fk_at (HA.out.below Q.out.b) hk
      have HK := Lib.hid hk
      clear hk
      have B1 := Lib.hid (al (Below.refl wr.heap.size wr) (sbx k))
      cases hok : okK k with
      | false =>
        have RES := Lib.hid (show ao = false by rw [← HAO.out]; exact all_off HK.out hok)
        have NEW := Lib.hid (fun W => ClockW.new_bad k.m k.b k.r (by rw [okN_okK]; exact hok) W)
        have BQ := Lib.hid (Q.out.b.trans (B1.out.mono Q.out.b.size))
        clear hok Q H
        go_wp2_with (go_at_call 79; refine (NEW.out _).mono ?_; rintro e w' ⟨rfl, rfl⟩)
        go_ret2
        unfold Started
        exact ⟨_, [], by rw [RES.out]; rfl, fun h => (by rw [RES.out] at h; cases h), fun _ => rfl, BQ.out⟩
      | true =>
        have OK := Lib.hid hok
        have NE := ClockW.new_ok k.m k.b k.r (by rw [okN_okK]; exact hok) (wr.alloc (sbx k))
        rw [World.size_alloc] at NE
        obtain ⟨p, hp⟩ : ∃ p, wr.heap.size + 1 = p := ⟨_, rfl⟩
        rw [hp] at NE
        have HP := Lib.hid hp
        have NEW := Lib.hid NE
        clear hok NE hp
        go_wp2_with fail
        refine NEW.out.mono ?_
        rintro e w6 ⟨rfl, ck, b6⟩
        have B6 := Lib.hid (show Below wr.heap.size wr w6 from B1.out.trans (b6.mono (by rw [← HP.out]; exact Nat.le_succ _)))
        have CKP := Lib.hid ck
        have O6 := Lib.hid (Q.out.o.below B6.out)
        clear b6 ck NEW c0 c1 c2
        go_wp2_with (at_builtin; refine wpList_append_one oneP _ rfl _ _ rfl w.heap.size _ P rfl (O6.out.alloc _) p _ rfl (heap_at rfl _) ?c1 (by decide) ?c2 ?_)
        case c1 =>
          rw [HPL.out]
          have := HL.out
          omega
        case c2 =>
          have := Q.out.b.size
          have := B6.out.size
          rw [World.size_alloc]
          omega
        intro v7 w7 o7 s7
        have BA := Lib.hid (al (Below.refl _ w6) (.cells #[.pointer (some ⟨p, 0, none⟩)] 98))
        have Q7 := Lib.hid (Q.out.push HK.out B6.out (by rw [← HP.out]; exact Nat.le_succ _) CKP.out o7 ((Step.of BA.out _).trans s7))
        clear o7 s7
        go_wp2
        go_roundw
        case rel => exact ⟨i + 1, by omega, by go_num, Lib.hid ⟨_, Q7.out⟩, Lib.hid (fun j x hj hlt2 => by
          rcases Nat.lt_succ_iff_lt_or_eq.1 hlt2 with h4 | h4
          · exact H.out j x hj h4
          · subst h4
            rw [HK.out] at hj
            cases hj
            exact OK.out)⟩
        case measure => simp [intOf]; omega
    · obtain rfl : n = i := by omega
      have RES := Lib.hid (show ao = true by rw [← HAO.out]; exact all_to HN.out (by omega) H.out)
      have QF := Lib.hid (show l.take n = l by rw [List.take_of_length_le (by rw [HN.out]; exact Nat.le_refl _)])
      go_wp2
      go_ret2
      unfold Started
      exact ⟨_, P, by rw [RES.out]; rfl, fun _ => ⟨Q.out.o, by rw [← QF.out]; exact Q.out.k, Q.out.d⟩, fun h => (by rw [RES.out] at h; cases h), Q.out.b⟩
/-- The base of one of the clocks is above a local time. -/
def abv (l : List Ck) (y : Int) : Bool := l.any fun k => decide (y < k.b)
abbrev ibx (y : Int) : Obj := .cells #[.int .i64 y] 2 (0, 0)
theorem above1_any (k : Ck) (y : Int) (q : Nat) (w : World) (hq : w.heap[q]? = some (ibx y)) : Calls Tryz.prog 81 #[.agg #[.int .i64 k.m, .int .i64 k.b, .int .i64 k.r], .pointer (some ⟨q, 0, none⟩)] w fun e w' => e = .returned (.bool (decide (y < k.b))) ∧ Below w.heap.size w w' := by
  have B := Lib.hid (al (Below.refl w.heap.size w) (sbx k))
  have c0 := cell_of_row _ q 0 _ _ _ (row_below B.out hq)
  clear hq
  go_enter Tryz.func81, Tryz.ntmps81
  go_wp2
  go_ret
  exact ⟨by simp, B.out⟩
theorem ent_above1 : ∀ args w, (callFunc 81 args).run Tryz.prog w = .ok (.enter 81 args) w := enters_of Tryz.func81 (by kernel_rfl) rfl
set_option maxHeartbeats 4000000 in
set_option maxRecDepth 100000 in
theorem index_any (A : Option Addr) (l : List Ck) (n cp : Nat) (y : Int) (q : Nat) (w : World) (hn : l.length = n) (hl : n ≤ 9223372036854775807) (h : SG FK w A l) (hq : w.heap[q]? = some (ibx y)) :
    Calls Tryz.prog 133 #[.slice A n cp, .func (.func 81) #[] #[.pointer (some ⟨q, 0, none⟩)]] w fun e w' => (∃ r : Int, e = .returned (.int .i64 r) ∧ decide (0 ≤ r) = abv l y ∧ -1 ≤ r ∧ r ≤ 9223372036854775807) ∧ Below w.heap.size w w' := by
  have HA := Lib.hid h
  have HN := Lib.hid hn
  have HQ := Lib.hid hq
  have ENT := ent_above1
  clear h hn hq
  go_enter Tryz.func133, Tryz.ntmps133
  go_wp2
  go_loopw [8] (fun iv wr => ∃ (i : Nat), i ≤ n ∧ iv = .int .i64 i ∧ Hid (Below w.heap.size w wr) ∧ Hid (∀ j x, l[j]? = some x → j < i → x.b ≤ y)) (fun iv _ => n - (intOf iv).toNat)
  case atStart => exact ⟨0, Nat.zero_le _, rfl, Lib.hid (Below.refl _ _), Lib.hid (fun j x _ h => absurd h (Nat.not_lt_zero _))⟩
  case round =>
    obtain ⟨i, hi, rfl, B, H⟩ := hrel
    by_cases hlt : (i : Int) < (n : Int)
    · obtain ⟨k, hk⟩ : ∃ k, l[i]? = some k := ⟨_, List.getElem?_eq_getElem (by have := HN.out; omega)⟩
      obtain ⟨b, off, rfl, c0, c1, c2⟩ := fk_at (HA.out.below B.out) hk
      have HK := Lib.hid hk
      have CL := Lib.hid (above1_any k y q wr (row_below B.out HQ.out))
      clear hk
      by_cases hy : y < k.b
      · have RES := Lib.hid (show abv l y = true by unfold abv; rw [List.any_eq_true]; exact ⟨k, List.mem_of_getElem? HK.out, decide_eq_true hy⟩)
        have hd := decide_eq_true hy
        rw [hd] at CL
        clear hy hd
        go_wp2_with (go_at_call 81; refine CL.out.mono ?_; rintro e w1 ⟨rfl, b1⟩)
        go_ret
        exact ⟨⟨_, rfl, by rw [RES.out]; exact decide_eq_true (by omega), by omega, by omega⟩, B.out.trans (b1.mono B.out.size)⟩
      · have OK := Lib.hid (Int.not_lt.1 hy)
        have hd := decide_eq_false hy
        rw [hd] at CL
        clear hy hd
        go_wp2_with fail
        refine CL.out.mono ?_
        rintro e w1 ⟨rfl, b1⟩
        have B1 := Lib.hid (B.out.trans (b1.mono B.out.size))
        clear b1 c0 c1 c2
        go_wp2
        go_roundw
        case rel => exact ⟨i + 1, by omega, by go_num, B1, Lib.hid (fun j x hj hlt2 => by
          rcases Nat.lt_succ_iff_lt_or_eq.1 hlt2 with h4 | h4
          · exact H.out j x hj h4
          · subst h4
            rw [HK.out] at hj
            cases hj
            exact OK.out)⟩
        case measure => simp [intOf]; omega
    · have RES := Lib.hid (show abv l y = false by
        unfold abv
        rw [List.any_eq_false]
        intro x hx
        obtain ⟨j, hj⟩ := List.getElem?_of_mem hx
        have h1 := H.out j x hj (by have := lt_of_get hj; have := HN.out; omega)
        simpa using h1)
      go_wp2
      go_ret
      exact ⟨⟨-1, rfl, by rw [RES.out]; rfl, by omega, by omega⟩, B.out⟩
theorem contains_any (A : Option Addr) (l : List Ck) (n cp : Nat) (y : Int) (q : Nat) (w : World) (hn : l.length = n) (hl : n ≤ 9223372036854775807) (h : SG FK w A l) (hq : w.heap[q]? = some (ibx y)) :
    Calls Tryz.prog 80 #[.slice A n cp, .func (.func 81) #[] #[.pointer (some ⟨q, 0, none⟩)]] w fun e w' => e = .returned (.bool (abv l y)) ∧ Below w.heap.size w w' := by
  have CL := Lib.hid (index_any A l n cp y q w hn hl h hq)
  clear h hn hq
  go_enter Tryz.func80, Tryz.ntmps80
  go_wp2_with fail
  refine CL.out.mono ?_
  rintro e w1 ⟨⟨r, rfl, hr, h1, h2⟩, b1⟩
  have HR := Lib.hid hr
  clear hr
  go_wp2
  go_ret
  exact ⟨by rw [← HR.out]; rfl, b1⟩
set_option maxRecDepth 100000 in
theorem above_any (A : Option Addr) (l : List Ck) (n cp : Nat) (y : Int) (w : World) (hn : l.length = n) (hl : n ≤ 9223372036854775807) (h : SG FK w A l) :
    Calls Tryz.prog 34 #[.slice A n cp, .int .i64 y] w fun e w' => e = .returned (.bool (abv l y)) ∧ Below w.heap.size w w' := by
  have B := Lib.hid (al (Below.refl w.heap.size w) (ibx y))
  have CL := Lib.hid (contains_any A l n cp y w.heap.size (w.alloc (ibx y)) hn hl (h.below B.out) (heap_alloc_new _ _))
  have hmf : ∀ (fn : Fn) (first cap : Array Value) (w : World), (Instr.makeFunc fn first cap).run Tryz.prog w = .ok (.func fn first cap) w := fun _ _ _ _ => rfl
  clear h hn
  go_enter Tryz.func34, Tryz.ntmps34
  go_wp2_with fail
  refine CL.out.mono ?_
  rintro e w1 ⟨rfl, b1⟩
  have B1 := Lib.hid (B.out.trans (b1.mono B.out.size))
  clear b1
  go_wp2
  go_ret
  exact ⟨rfl, B1.out⟩
/-- The clocks that were started, as a slice of their blocks. -/
structure RN (w : World) (base i : Nat) (A : Option Addr) (P : List Nat) (l : List Ck) : Prop where
  a : SG FP w A P
  k : KS w base i P l
  d : ∀ p ∈ P, ∀ a, A = some a → a.block ≠ p
theorem fp_at {w : World} {A : Option Addr} {P : List Nat} (h : SG FP w A P) {i p : Nat} (hi : P[i]? = some p) : ∃ b off, A = some ⟨b, off, none⟩ ∧ w.cell? ⟨b, off + i * 1, none⟩ = some (.pointer (some ⟨p, 0, none⟩)) := by
  obtain ⟨b, off, hA, -, hc⟩ := h i p hi
  exact ⟨b, off, hA, hc 0 _ rfl⟩
theorem RN.below {w w1 : World} {base i : Nat} {A : Option Addr} {P : List Nat} {l : List Ck} (h : RN w base i A P l) (b : Below w.heap.size w w1) : RN w1 base i A P l := ⟨h.a.below b, h.k.below b, h.d⟩
set_option maxHeartbeats 4000000 in
set_option maxRecDepth 100000 in
theorem sendings_any (A : Option Addr) (P : List Nat) (l : List Ck) (n cp base : Nat) (y : Int) (w : World) (hn : l.length = n) (h6 : n * 24 ≤ 140737488351232) (h : RN w base 0 A P l) (ok : ∀ k ∈ l, CkOk k) :
    Calls Tryz.prog 35 #[.slice A n cp, .int .i64 y] w fun e w' => ∃ v, e = .returned v ∧ OG FI w' w.heap.size 2 v (l.map fun k => whn k y) ∧ Below w.heap.size w w' := by
  have HA := Lib.hid h
  have HN := Lib.hid hn
  have HL := Lib.hid h6
  have HO := Lib.hid ok
  have hn63 : n ≤ 9223372036854775807 := by omega
  obtain ⟨S, hS⟩ : ∃ S, (l.map fun k => whn k y) = S := ⟨_, rfl⟩
  rw [hS]
  have HS0 := Lib.hid hS
  have HSL := Lib.hid (show S.length = n by rw [← hS, List.length_map, hn])
  have Q0 := Lib.hid (OG.nil (F := FI) w w.heap.size 2)
  clear h hn h6 ok hS
  go_enter Tryz.func35, Tryz.ntmps35
  go_wp2
  go_loopw [5, 12] (fun v iv wr => ∃ (i : Nat), i ≤ n ∧ iv = .int .i64 i ∧ Hid (Below w.heap.size w wr ∧ OG FI wr w.heap.size 2 v (S.take i))) (fun _ iv _ => n - (intOf iv).toNat)
  case atStart => exact ⟨0, Nat.zero_le _, rfl, Lib.hid ⟨Below.refl _ _, Q0.out⟩⟩
  case round =>
    clear Q0
    obtain ⟨i, hi, rfl, HQ⟩ := hrel
    obtain ⟨Av, cv, hv, -⟩ := HQ.out.2.form
    have hlen : (S.take i).length = i := by rw [List.length_take, HSL.out]; omega
    have HLEN := Lib.hid hlen
    rw [hlen] at hv
    subst hv
    have Q := Lib.hid HQ.out
    clear HQ hlen
    by_cases hlt : (i : Int) < (n : Int)
    · obtain ⟨k, hk⟩ : ∃ k, l[i]? = some k := ⟨_, List.getElem?_eq_getElem (by have := HN.out; omega)⟩
      have R1 := HA.out.below Q.out.1
      obtain ⟨p, hp, ck⟩ := R1.k.get (Nat.zero_le i) hk
      obtain ⟨b, off, rfl, c0⟩ := fp_at R1.a hp
      have KO := Lib.hid (HO.out k (List.mem_of_getElem? hk))
      have CKP := Lib.hid ck
      obtain ⟨s, hs⟩ : ∃ s, whn k y = s := ⟨_, rfl⟩
      have HS := Lib.hid (show S[i]? = some s by rw [← HS0.out, List.getElem?_map, hk, ← hs]; rfl)
      rw [Nat.mul_one] at c0
      clear R1 hk hp ck
      by_cases hw : sho k 1125899906842624 < y
      · have WH := Lib.hid (lwhen_no KO.out CKP.out hw)
        have e5 : s = -1 := by rw [← hs]; unfold whn; rw [if_pos hw]
        subst e5
        clear hw hs
        go_wp2_with fail
        refine WH.out.mono ?_
        rintro e w6 ⟨rfl, b6⟩
        have B6 := Lib.hid b6
        have O6 := Lib.hid (Q.out.2.below b6)
        clear b6 c0 WH
        go_wp2_with (at_builtin; refine wpList_append_one oneI _ rfl _ _ rfl w.heap.size _ (S.take i) rfl (O6.out.alloc _) (-1) _ rfl (heap_at rfl _) ?c1 (by decide) ?c2 ?_)
        case c1 =>
          rw [HLEN.out]
          have := HL.out
          omega
        case c2 =>
          have := Q.out.1.size
          have := B6.out.size
          rw [World.size_alloc]
          omega
        intro v7 w7 o7 s7
        have BA := Lib.hid (al (Below.refl _ w6) (.cells #[.int .i64 (-1)] 2))
        have Q7 := Lib.hid (show Below w.heap.size w w7 ∧ OG FI w7 w.heap.size 2 v7 (S.take (i + 1)) from ⟨(Q.out.1.trans (B6.out.mono Q.out.1.size)).trans (((Step.of BA.out _).trans s7).belowG O6.out (by have := Q.out.1.size; have := B6.out.size; omega)), by rw [take_snoc HS.out]; exact o7⟩)
        clear o7 s7
        go_wp2
        go_roundw
        case rel => exact ⟨i + 1, by omega, by go_num, Q7⟩
        case measure => simp [intOf]; omega
      · have WH := Lib.hid (lwhen_ok KO.out CKP.out hw)
        have e5 : wh k.m k.b k.r y = s := by rw [← hs]; unfold whn; rw [if_neg hw]
        rw [e5] at WH
        clear hw hs e5
        go_wp2_with fail
        refine WH.out.mono ?_
        rintro e w6 ⟨rfl, b6⟩
        have B6 := Lib.hid b6
        have O6 := Lib.hid (Q.out.2.below b6)
        clear b6 c0 WH
        go_wp2_with (at_builtin; refine wpList_append_one oneI _ rfl _ _ rfl w.heap.size _ (S.take i) rfl (O6.out.alloc _) s _ rfl (heap_at rfl _) ?c1 (by decide) ?c2 ?_)
        case c1 =>
          rw [HLEN.out]
          have := HL.out
          omega
        case c2 =>
          have := Q.out.1.size
          have := B6.out.size
          rw [World.size_alloc]
          omega
        intro v7 w7 o7 s7
        have BA := Lib.hid (al (Below.refl _ w6) (.cells #[.int .i64 s] 2))
        have Q7 := Lib.hid (show Below w.heap.size w w7 ∧ OG FI w7 w.heap.size 2 v7 (S.take (i + 1)) from ⟨(Q.out.1.trans (B6.out.mono Q.out.1.size)).trans (((Step.of BA.out _).trans s7).belowG O6.out (by have := Q.out.1.size; have := B6.out.size; omega)), by rw [take_snoc HS.out]; exact o7⟩)
        clear o7 s7
        go_wp2
        go_roundw
        case rel => exact ⟨i + 1, by omega, by go_num, Q7⟩
        case measure => simp [intOf]; omega
    · obtain rfl : n = i := by omega
      have QF := Lib.hid (show S.take n = S by rw [List.take_of_length_le (by rw [HSL.out]; exact Nat.le_refl _)])
      go_wp2
      go_ret
      exact ⟨_, rfl, by rw [← QF.out]; exact Q.out.2, Q.out.1⟩
end Go.Proofs.YtmagjekmlnpfpaaGreat.RoundW


/- The landed round: the hosts that send, in their order. -/
namespace Go.Proofs.YtmagjekmlnpfpaaGreat.RoundW
open Shell (takeR skipR aput lset)
open Go.RowKit Shell
theorem fl_fi : ∀ L : List Int, FI.fl L = L.map (Value.int .i64)
  | [] => rfl
  | x :: L => by rw [Flat.fl, fl_fi L]; rfl
theorem og_put {w : World} {base g n cap : Nat} {e : TypeId} {L : List Int} (h : OG FI w base e (.slice (some ⟨g, 0, none⟩) n cap) L) (hn : L.length = n) (j : Nat) (x : Int) : OG FI (w.setCell ⟨g, j, none⟩ (.int .i64 x)) base e (.slice (some ⟨g, 0, none⟩) n cap) (L.set j x) := by
  subst hn
  have h1 := (World.ownsRow.stored h j (.int .i64 x)).1
  unfold OG
  rw [List.length_set, fl_fi, List.map_set, ← fl_fi]
  exact h1
theorem og_cell {w : World} {base g n cap : Nat} {e : TypeId} {L : List Int} (h : OG FI w base e (.slice (some ⟨g, 0, none⟩) n cap) L) (hn : L.length = n) {j : Nat} {x : Int} (hj : L[j]? = some x) : w.cell? ⟨g, j, none⟩ = some (.int .i64 x) := by
  subst hn
  have hl := lt_of_get hj
  have h1 := World.ownsRow.cellAt h j (by show j < L.length * 1; omega)
  rw [fl_fi, List.getElem?_map, hj] at h1
  exact h1
theorem og_froz {w : World} {base g n cap : Nat} {e : TypeId} {L : List Int} (h : OG FI w base e (.slice (some ⟨g, 0, none⟩) n cap) L) (hn : L.length = n) (j : Nat) : w.frozen? ⟨g, j, none⟩ = false := by
  subst hn
  exact World.ownsRow.frozenAt h j
theorem step_kept {w w' : World} {g : Nat} {v : Value} (k : Kept g w w') (hv : v.ownBlock = some g) : Step w v w' v :=
  ⟨⟨k.os, k.tape, k.output, k.size, fun j hj hne => k.block j (fun e => hne (by rw [hv, e])) hj⟩, Or.inl rfl⟩
/-- How two numbers compare. -/
def cmpI (x y : Int) : Int := if x < y then -1 else if y < x then 1 else 0
theorem nan_any (x : Int) (w : World) : Calls Tryz.prog 166 #[.int .i64 x] w fun e w' => e = .returned (.bool false) ∧ w = w' := by
  go_enter Tryz.func166, Tryz.ntmps166
  go_wp2
  go_ret
  exact ⟨by simp, rfl⟩
theorem cmp_any (x y : Int) (w : World) : Calls Tryz.prog 137 #[.int .i64 x, .int .i64 y] w fun e w' => e = .returned (.int .i64 (cmpI x y)) ∧ w = w' := by
  unfold cmpI
  by_cases h1 : x < y
  · rw [if_pos h1]
    go_enter Tryz.func137, Tryz.ntmps137
    go_wp2_with (go_at_call 166; refine (nan_any _ _).mono ?_; rintro e w' ⟨rfl, rfl⟩)
    go_ret
    exact ⟨rfl, rfl⟩
  · rw [if_neg h1]
    by_cases h2 : y < x
    · rw [if_pos h2]
      have h3 : x > y := h2
      go_enter Tryz.func137, Tryz.ntmps137
      go_wp2_with (go_at_call 166; refine (nan_any _ _).mono ?_; rintro e w' ⟨rfl, rfl⟩)
      go_ret
      exact ⟨rfl, rfl⟩
    · rw [if_neg h2]
      have h3 : ¬ x > y := h2
      go_enter Tryz.func137, Tryz.ntmps137
      go_wp2_with (go_at_call 166; refine (nan_any _ _).mono ?_; rintro e w' ⟨rfl, rfl⟩)
      go_ret
      exact ⟨rfl, rfl⟩
abbrev vbx (v : Value) : Obj := .cells #[v] 35 (0, 0)
set_option maxHeartbeats 8000000 in
set_option maxRecDepth 100000 in
theorem ord1_any (A : Option Addr) (S : List Int) (n cp q a b : Nat) (sa sb : Int) (w : World) (hq : w.heap[q]? = some (vbx (.slice A n cp))) (hA : SG FI w A S) (hn : S.length = n) (ha : S[a]? = some sa) (hb : S[b]? = some sb) :
    Calls Tryz.prog 136 #[.int .i64 (a : Int), .int .i64 (b : Int), .pointer (some ⟨q, 0, none⟩)] w fun e w' => e = .returned (.int .i64 (cmpI sa sb)) ∧ Below w.heap.size w w' := by
  have la := lt_of_get ha
  have lb := lt_of_get hb
  obtain ⟨g, off, hA1, -, hc⟩ := hA a sa ha
  subst hA1
  have c0 := hc 0 (.int .i64 sa) rfl
  obtain ⟨g', off', hA2, -, hc'⟩ := hA b sb hb
  cases hA2
  have c1 := hc' 0 (.int .i64 sb) rfl
  rw [show off + a * FI.n + 0 = off + a by show off + a * 1 + 0 = off + a; omega] at c0
  rw [show off + b * FI.n + 0 = off + b by show off + b * 1 + 0 = off + b; omega] at c1
  have X0 := Lib.hid c0
  have X1 := Lib.hid c1
  have E0 := Lib.hid (cell_of_row w q 0 _ _ _ hq)
  have CM := Lib.hid (fun W => cmp_any sa sb W)
  rw [hn] at la lb
  have l1 : (a : Int) < (n : Int) := by omega
  have l2 : (b : Int) < (n : Int) := by omega
  clear c0 c1 hc hc' hq hA ha hb hn
  go_enter Tryz.func136, Tryz.ntmps136
  go_wp2
  apply wp_some (S := fun Z : World => Below w.heap.size w Z)
  case h =>
    refine wp_region_noPanic ?_
    refine wp_region_held_drew (S := fun Z : World => Below w.heap.size w Z) (by kernel_rfl) ((Below.refl _ _).drew) (fun hHeld => ?_)
    refine takeR 0 (some 6) ?_ ?_ ?_; rotate_left; (focus (intro w hSw; (try dsimp only at hSw); have e0 := cell_keep E0.out hSw; have x0 := cell_keep X0.out hSw; have x1 := cell_keep X1.out hSw; go_simp; (try with_reducible rfl)))
    simp only [aput, lset]
    refine takeR 1 (some 7) ?_ ?_ ?_; rotate_left; (focus (intros; go_simp; (try with_reducible rfl)))
    simp only [aput, lset]
    refine takeR 2 (some 8) ?_ ?_ ?_; rotate_left; (focus (intros; go_simp; (try with_reducible rfl)))
    simp only [aput, lset]
    refine takeR 3 (some 9) ?_ ?_ ?_; rotate_left; (focus (intro w hSw; (try dsimp only at hSw); have e0 := cell_keep E0.out hSw; have x0 := cell_keep X0.out hSw; have x1 := cell_keep X1.out hSw; go_simp; (try with_reducible rfl)))
    simp only [aput, lset]
    refine takeR 4 (some 10) ?_ ?_ ?_; rotate_left; (focus (intro w hSw; (try dsimp only at hSw); have e0 := cell_keep E0.out hSw; have x0 := cell_keep X0.out hSw; have x1 := cell_keep X1.out hSw; go_simp; (try with_reducible rfl)))
    simp only [aput, lset]
    refine takeR 5 (some 11) ?_ ?_ ?_; rotate_left; (focus (intros; go_simp; (try with_reducible rfl)))
    simp only [aput, lset]
    refine takeR 6 (some 12) ?_ ?_ ?_; rotate_left; (focus (intros; go_simp; (try with_reducible rfl)))
    simp only [aput, lset]
    refine takeR 7 (some 13) ?_ ?_ ?_; rotate_left; (focus (intro w hSw; (try dsimp only at hSw); have e0 := cell_keep E0.out hSw; have x0 := cell_keep X0.out hSw; have x1 := cell_keep X1.out hSw; go_simp; (try with_reducible rfl)))
    simp only [aput, lset]
    refine wpAnyH_ready (rs := [8]) (by kernel_rfl) (by simp) ?_
    refine AllReadyH.cons (o := ⟨some 14, _, _, _, _, _⟩) rfl (fun K hK => ?_) AllReadyH.nil
    rw [if_pos (by kernel_rfl)]
    go_simp
    refine (CM.out _).mono ?_
    rintro r w9 ⟨rfl, rfl⟩
    go_simp
    refine hK.out _ _ (by assumption) (fun hHeld => ?_)
    clear hK K
    refine takeR 9 (some 5) ?_ ?_ ?_; rotate_left; (focus (intros; go_simp; (try with_reducible rfl)))
    simp only [aput, lset]
    refine wpAnyH_done (by kernel_rfl) ?_ _
    exact NoPanic.normal ⟨rfl, rfl, hHeld⟩
  case hm =>
    rintro w6 b6
    have B6 := Lib.hid b6
    clear b6
    go_wp2
    go_ret
    exact ⟨rfl, B6.out⟩
theorem ent_ord1 : ∀ args w, (callFunc 136 args).run Tryz.prog w = .ok (.enter 136 args) w := enters_of Tryz.func136 (by kernel_rfl) rfl
abbrev cmpV (q : Nat) : Value := .func (.func 136) #[] #[.pointer (some ⟨q, 0, none⟩)]
/-- Hosts as whole numbers. -/
abbrev hI (M : List Nat) : List Int := M.map fun h : Nat => (h : Int)
theorem hI_at {M : List Nat} {i x : Nat} (h : M[i]? = some x) : (hI M)[i]? = some (x : Int) := by rw [List.getElem?_map, h]; rfl
/-- While it is sorted: what turns is the row alone. -/
structure IW (w : World) (base : Nat) (v : Value) (M : List Nat) (wr : World) : Prop where
  o : OG FI wr base 3 v (hI M)
  s : Step w v wr v
theorem IW.next {w wr w1 : World} {base : Nat} {v : Value} {M : List Nat} (h : IW w base v M wr) (b : Below wr.heap.size wr w1) : IW w base v M w1 := ⟨h.o.below b, h.s.trans (Step.of b v)⟩
theorem IW.swap {w wr : World} {base g n cap : Nat} {M : List Nat} (h : IW w base (.slice (some ⟨g, 0, none⟩) n cap) M wr) (hn : M.length = n) (j k x z : Nat) :
    IW w base (.slice (some ⟨g, 0, none⟩) n cap) ((M.set j z).set k x) ((wr.setCell ⟨g, j, none⟩ (.int .i64 (z : Int))).setCell ⟨g, k, none⟩ (.int .i64 (x : Int))) := by
  have hl : (hI M).length = n := by rw [List.length_map]; exact hn
  refine ⟨?_, h.s.trans (step_kept (kept2 wr g j k _ _) rfl)⟩
  have h1 := og_put (og_put h.o hl j (z : Int)) (by rw [List.length_set]; exact hl) k (x : Int)
  rw [hI, List.map_set, List.map_set]
  exact h1
/-- What the comparing function asks. -/
structure CQ (w : World) (q n cp : Nat) (A : Option Addr) (S : List Int) (v : Value) : Prop where
  hq : w.heap[q]? = some (vbx (.slice A n cp))
  ha : SG FI w A S
  hn : S.length = n
  dq : v.ownBlock ≠ some q
  da : S ≠ [] → ∀ a, A = some a → some a.block ≠ v.ownBlock
theorem CQ.step {w w1 : World} {q n cp : Nat} {A : Option Addr} {S : List Int} {v : Value} (h : CQ w q n cp A S v) (s : Step w v w1 v) : CQ w1 q n cp A S v := ⟨step_row s h.hq h.dq, by
  by_cases e : S = []
  · rw [e]
    exact SG.empty _ _
  · exact h.ha.step s (h.da e), h.hn, h.dq, h.da⟩
set_option maxHeartbeats 8000000 in
set_option maxRecDepth 100000 in
theorem ins_any (B : Option Addr) (m bp base : Nat) (O : List Nat) (A : Option Addr) (S : List Int) (n cp q : Nat) (w : World) (hO : O.length = m) (h63 : m ≤ 4611686018427387904) (up : O.Pairwise (· < ·)) (hS : ∀ h ∈ O, h < S.length) (ho : OG FI w base 3 (.slice B m bp) (hI O)) (hc : CQ w q n cp A S (.slice B m bp)) :
    Calls Tryz.prog 197 #[.slice B m bp, .int .i64 0, .int .i64 (m : Int), cmpV q] w fun e w' => e = .returned (.tuple #[]) ∧ ∃ M i, m ≤ i ∧ Ins S O i M ∧ IW w base (.slice B m bp) M w' := by
  have HO := Lib.hid hO
  have HS := Lib.hid hS
  have HU := Lib.hid up
  have HC := Lib.hid hc
  have ENT := ent_ord1
  have Q0 := Lib.hid (show Ins S O 1 O ∧ IW w base (.slice B m bp) O w from ⟨Ins.one S O, ho, Step.refl _ _⟩)
  clear hO hS up hc ho
  go_enter Tryz.func197, Tryz.ntmps197
  go_wp2
  go_loopw [8] (fun iv wr => ∃ (i : Nat), 1 ≤ i ∧ i ≤ m + 1 ∧ iv = .int .i64 i ∧ Hid (∃ M, Ins S O i M ∧ IW w base (.slice B m bp) M wr)) (fun iv _ => m - (intOf iv).toNat)
  case atStart => exact ⟨1, Nat.le_refl _, by omega, rfl, Lib.hid ⟨O, Q0.out⟩⟩
  case round =>
    clear Q0
    obtain ⟨i, h1i, hi, rfl, HQ⟩ := hrel
    by_cases hlt : (i : Int) < (m : Int)
    · have hin : i < m := by omega
      go_wp2
      go_loopw [9] (fun jv wr2 => ∃ (j : Nat), j ≤ i ∧ jv = .int .i64 j ∧ Hid (∃ M, InI S O i j M ∧ IW w base (.slice B m bp) M wr2)) (fun jv _ => (intOf jv).toNat)
      case atStart =>
        obtain ⟨M, h1, h2⟩ := HQ.out
        exact ⟨i, Nat.le_refl _, rfl, Lib.hid ⟨M, h1.start (by rw [HO.out]; exact hin), h2⟩⟩
      case round =>
        clear HQ
        generalize wr = wr2 at *
        obtain ⟨j, hj, rfl, HQ2⟩ := hrel
        obtain ⟨M, hM, hW⟩ := HQ2.out
        have IJ := Lib.hid hM
        have IW2 := Lib.hid hW
        have HML := Lib.hid (show (hI M).length = m by rw [List.length_map, hM.len.1, HO.out])
        clear HQ2 hM hW
        by_cases hj0 : j = 0
        · subst hj0
          have IN := Lib.hid (IJ.out.done HU.out (fun k x z e => by omega))
          have g0 : decide (((0 : Nat) : Int) > 0) = false := by decide
          go_wp2
          apply wp_some (S := fun Z : World => Below wr2.heap.size wr2 Z)
          case h =>
            refine wp_region_noPanic ?_
            refine wp_region_held_drew (S := fun Z : World => Below wr2.heap.size wr2 Z) (by kernel_rfl) ((Below.refl _ _).drew) (fun hHeld => ?_)
            refine takeR 0 (some 18) ?_ ?_ ?_; rotate_left; (focus (intros; go_simp; (try with_reducible rfl)))
            simp only [aput, lset]
            refine takeR 1 (some 19) ?_ ?_ ?_; rotate_left; (focus (intros; go_simp; (try with_reducible rfl)))
            simp only [aput, lset]
            refine takeR 2 (some 20) ?_ ?_ ?_; rotate_left; (focus (intros; go_simp; (try with_reducible rfl)))
            simp only [aput, lset]
            refine takeR 3 (some 21) ?_ ?_ ?_; rotate_left; (focus (intros; go_simp; (try with_reducible rfl)))
            simp only [aput, lset]
            refine skipR 4 (some 22) ?_
            simp only [aput, lset]
            refine skipR 5 (some 23) ?_
            simp only [aput, lset]
            refine skipR 6 (some 24) ?_
            simp only [aput, lset]
            refine skipR 7 (some 25) ?_
            simp only [aput, lset]
            refine skipR 8 (some 26) ?_
            simp only [aput, lset]
            refine skipR 9 (some 27) ?_
            simp only [aput, lset]
            refine skipR 10 (some 28) ?_
            simp only [aput, lset]
            refine skipR 11 (some 29) ?_
            simp only [aput, lset]
            refine skipR 12 (some 30) ?_
            simp only [aput, lset]
            refine skipR 13 (some 31) ?_
            simp only [aput, lset]
            refine skipR 14 (some 32) ?_
            simp only [aput, lset]
            refine skipR 15 (some 33) ?_
            simp only [aput, lset]
            refine takeR 16 (some 34) ?_ ?_ ?_; rotate_left; (focus (intros; go_simp; (try with_reducible rfl)))
            simp only [aput, lset]
            refine wpAnyH_done (by kernel_rfl) ?_ _
            exact NoPanic.normal ⟨rfl, rfl, hHeld⟩
          case hm =>
            rintro w3 b3
            have I3 := Lib.hid (IW2.out.next b3)
            clear b3
            go_wp2
            go_roundw
            case rel => exact ⟨i + 1, by omega, by omega, by go_num, Lib.hid ⟨M, IN.out, I3.out⟩⟩
            case measure => simp [intOf]; omega
        · obtain ⟨jp, hjp⟩ : ∃ jp, jp + 1 = j := ⟨j - 1, by omega⟩
          have HJ := Lib.hid hjp
          have z1 : (j : Int) > 0 := by omega
          have z2 : IntKind.i64.wrap ((j : Int) - 1) = (jp : Int) := by rw [IntKind.wrap_i64]; omega
          have z3 : wrap64 ((j : Int) - 1) = (jp : Int) := by unfold wrap64; omega
          have z4 : (j : Int) < (m : Int) := by omega
          have z5 : (jp : Int) < (m : Int) := by omega
          have g0 : decide ((j : Int) > 0) = true := decide_eq_true z1
          have g1 : decide (0 < j) = true := decide_eq_true (by omega)
          have g2 : decide ((0 : Int) < (j : Int)) = true := decide_eq_true (by omega)
          have ML : M.length = m := by have := HML.out; rwa [List.length_map] at this
          obtain ⟨x, hx⟩ : ∃ x, M[j]? = some x := ⟨_, List.getElem?_eq_getElem (by omega)⟩
          obtain ⟨z, hz⟩ : ∃ z, M[jp]? = some z := ⟨_, List.getElem?_eq_getElem (by omega)⟩
          have mo : ∀ a ∈ M, a < S.length := fun a ha => HS.out a (by
            obtain ⟨A', x', B', e1, e2, -, e3, -⟩ := IJ.out.h
            rw [e2] at ha
            rcases List.mem_append.1 ha with ha | ha
            · exact List.mem_of_mem_take (e3.mem_iff.1 (List.mem_append_left _ ha))
            · rcases List.mem_cons.1 ha with rfl | ha
              · exact List.mem_of_getElem? e1
              · rcases List.mem_append.1 ha with ha | ha
                · exact List.mem_of_mem_take (e3.mem_iff.1 (List.mem_append_right _ ha))
                · exact List.mem_of_mem_drop ha)
          obtain ⟨sx, hsx⟩ : ∃ s, S[x]? = some s := ⟨_, List.getElem?_eq_getElem (mo x (List.mem_of_getElem? hx))⟩
          obtain ⟨sz, hsz⟩ : ∃ s, S[z]? = some s := ⟨_, List.getElem?_eq_getElem (mo z (List.mem_of_getElem? hz))⟩
          have gx : S.getD x (-1) = sx := by rw [List.getD_eq_getElem?_getD, hsx]; rfl
          have gz : S.getD z (-1) = sz := by rw [List.getD_eq_getElem?_getD, hsz]; rfl
          have SX := Lib.hid hsx
          have SZ := Lib.hid hsz
          have CQ2 := Lib.hid (HC.out.step IW2.out.s)
          obtain ⟨g, rfl⟩ : ∃ g, B = some ⟨g, 0, none⟩ := by
            obtain ⟨A', c', e', -, -, -, h5⟩ := IW2.out.o.form
            cases e'
            cases B with
            | none =>
              obtain ⟨A2, c2, e2, h2, -⟩ := IW2.out.o.form
              injection e2 with e3 _ _
              rw [← e3] at h2
              have h3 : M.length = 0 := by rw [List.map_eq_nil_iff.1 h2.nil]; rfl
              omega
            | some a => have := h5 a rfl; obtain ⟨b, o, s⟩ := a; exact ⟨b, by rw [show o = 0 from this.1, show s = none from this.2.1]⟩
          have Y0 := Lib.hid (og_cell IW2.out.o HML.out (hI_at hx))
          have Y1 := Lib.hid (og_cell IW2.out.o HML.out (hI_at hz))
          have MX := Lib.hid hx
          have MZ := Lib.hid hz
          clear hx hz mo hsx hsz hjp
          by_cases hlt2 : sx < sz
          · have HX := Lib.hid (show S.getD x (-1) < S.getD z (-1) by rw [gx, gz]; exact hlt2)
            have HI2 := Lib.hid (show InI S O i jp ((M.set j z).set jp x) from by
              have h := IJ.out
              rw [← HJ.out] at h ⊢
              exact h.down (by rw [HJ.out]; exact MX.out) MZ.out HX.out)
            have CL := Lib.hid (fun (Z : World) (b : Below wr2.heap.size wr2 Z) => ord1_any A S n cp q x z sx sz Z (row_below b CQ2.out.hq) (CQ2.out.ha.below b) CQ2.out.hn SX.out SZ.out)
            have ec : cmpI sx sz = -1 := if_pos hlt2
            rw [ec] at CL
            clear ec
            go_wp2
            apply wp_some (S := fun Z : World => Below wr2.heap.size wr2 Z)
            case h =>
              refine wp_region_noPanic ?_
              refine wp_region_held_drew (S := fun Z : World => Below wr2.heap.size wr2 Z) (by kernel_rfl) ((Below.refl _ _).drew) (fun hHeld => ?_)
              refine takeR 0 (some 18) ?_ ?_ ?_; rotate_left; (focus (intros; go_simp; (try with_reducible rfl)))
              simp only [aput, lset]
              refine takeR 1 (some 19) ?_ ?_ ?_; rotate_left; (focus (intros; go_simp; (try with_reducible rfl)))
              simp only [aput, lset]
              refine takeR 2 (some 20) ?_ ?_ ?_; rotate_left; (focus (intros; go_simp; (try with_reducible rfl)))
              simp only [aput, lset]
              refine takeR 3 (some 21) ?_ ?_ ?_; rotate_left; (focus (intros; go_simp; (try with_reducible rfl)))
              simp only [aput, lset]
              refine takeR 4 (some 22) ?_ ?_ ?_; rotate_left; (focus (intros; go_simp; (try with_reducible rfl)))
              simp only [aput, lset]
              refine takeR 5 (some 23) ?_ ?_ ?_; rotate_left; (focus (intros; go_simp; (try with_reducible rfl)))
              simp only [aput, lset]
              refine takeR 6 (some 24) ?_ ?_ ?_; rotate_left; (focus (intros; go_simp; (try with_reducible rfl)))
              simp only [aput, lset]
              refine takeR 7 (some 25) ?_ ?_ ?_; rotate_left; (focus (intros; go_simp; (try with_reducible rfl)))
              simp only [aput, lset]
              refine takeR 8 (some 26) ?_ ?_ ?_; rotate_left; (focus (intro w hSw; (try dsimp only at hSw); have y0 := cell_keep Y0.out hSw; have y1 := cell_keep Y1.out hSw; go_simp; (try with_reducible rfl)))
              simp only [aput, lset]
              refine takeR 9 (some 27) ?_ ?_ ?_; rotate_left; (focus (intros; go_simp; (try with_reducible rfl)))
              simp only [aput, lset]
              refine takeR 10 (some 28) ?_ ?_ ?_; rotate_left; (focus (intros; go_simp; (try with_reducible rfl)))
              simp only [aput, lset]
              refine takeR 11 (some 29) ?_ ?_ ?_; rotate_left; (focus (intros; go_simp; (try with_reducible rfl)))
              simp only [aput, lset]
              refine takeR 12 (some 30) ?_ ?_ ?_; rotate_left; (focus (intros; go_simp; (try with_reducible rfl)))
              simp only [aput, lset]
              refine takeR 13 (some 31) ?_ ?_ ?_; rotate_left; (focus (intro w hSw; (try dsimp only at hSw); have y0 := cell_keep Y0.out hSw; have y1 := cell_keep Y1.out hSw; go_simp; (try with_reducible rfl)))
              simp only [aput, lset]
              refine wpAnyH_ready (rs := [14]) (by kernel_rfl) (by simp) ?_
              refine AllReadyH.cons (o := ⟨some 32, _, _, _, _, _⟩) rfl (fun K hK => ?_) AllReadyH.nil
              rw [if_pos (by kernel_rfl)]
              go_simp
              refine (CL.out _ hHeld).mono ?_
              rintro r w9 ⟨rfl, b9⟩
              have hS9 : Below wr2.heap.size wr2 w9 := Below.trans hHeld (Below.mono b9 hHeld.size)
              clear b9
              go_simp
              refine hK.out _ _ (by assumption) (fun hHeld => ?_)
              clear hK K
              refine takeR 15 (some 33) ?_ ?_ ?_; rotate_left; (focus (intros; go_simp; (try with_reducible rfl)))
              simp only [aput, lset]
              refine takeR 16 (some 34) ?_ ?_ ?_; rotate_left; (focus (intros; go_simp; (try with_reducible rfl)))
              simp only [aput, lset]
              refine wpAnyH_done (by kernel_rfl) ?_ _
              exact NoPanic.normal ⟨rfl, rfl, hS9⟩
            case hm =>
              rintro w3 b3
              have I3 := Lib.hid (IW2.out.next b3)
              have y0 := cell_keep Y0.out b3
              have y1 := cell_keep Y1.out b3
              have f0 := og_froz I3.out.o HML.out j
              have f1 := og_froz I3.out.o HML.out jp
              clear b3 CL
              have y2 : w3.drew.cell? ⟨g, j, none⟩ = some (.int .i64 (x : Int)) := y0
              have y3 : w3.drew.cell? ⟨g, jp, none⟩ = some (.int .i64 (z : Int)) := y1
              have f2 : w3.drew.frozen? ⟨g, j, none⟩ = false := f0
              have f3 : w3.drew.frozen? ⟨g, jp, none⟩ = false := f1
              have f4 : (w3.setCell ⟨g, j, none⟩ (.int .i64 (z : Int))).drew.frozen? ⟨g, jp, none⟩ = false := og_froz (og_put I3.out.o HML.out j (z : Int)) (by rw [List.length_set]; exact HML.out) jp
              have y4 : (w3.setCell ⟨g, j, none⟩ (.int .i64 (z : Int))).cell? ⟨g, jp, none⟩ = some (.int .i64 (z : Int)) := og_cell (og_put I3.out.o HML.out j (z : Int)) (by rw [List.length_set]; exact HML.out) (by rw [List.getElem?_set_ne (by have := HJ.out; omega)]; exact hI_at MZ.out)
              have I4 := Lib.hid ((I3.out.swap ML j jp x z).next (Below.refl _ _).drew)
              clear y0 y1 f0 f1
              go_wp2
              go_region
              go_wp2
              go_roundw
              case rel => exact ⟨jp, by (have := HJ.out; omega), by go_num, Lib.hid ⟨_, HI2.out, I4.out⟩⟩
              case measure => (have := HJ.out; simp [intOf]; omega)
          · have HX := Lib.hid (show S.getD z (-1) ≤ S.getD x (-1) by rw [gx, gz]; omega)
            have IN := Lib.hid (IJ.out.done HU.out (fun k' x' z' e h1 h2 => by
              have e1 : k' = jp := by have := HJ.out; omega
              subst e1
              rw [HJ.out, MX.out] at h1
              rw [MZ.out] at h2
              cases h1
              cases h2
              exact HX.out))
            have CL := Lib.hid (fun (Z : World) (b : Below wr2.heap.size wr2 Z) => ord1_any A S n cp q x z sx sz Z (row_below b CQ2.out.hq) (CQ2.out.ha.below b) CQ2.out.hn SX.out SZ.out)
            obtain ⟨ci, hci⟩ : ∃ ci, cmpI sx sz = ci := ⟨_, rfl⟩
            have hc0 : ¬ ci < 0 := by rw [← hci]; unfold cmpI; rw [if_neg hlt2]; split <;> omega
            rw [hci] at CL
            clear hci
            go_wp2
            apply wp_some (S := fun Z : World => Below wr2.heap.size wr2 Z)
            case h =>
              refine wp_region_noPanic ?_
              refine wp_region_held_drew (S := fun Z : World => Below wr2.heap.size wr2 Z) (by kernel_rfl) ((Below.refl _ _).drew) (fun hHeld => ?_)
              refine takeR 0 (some 18) ?_ ?_ ?_; rotate_left; (focus (intros; go_simp; (try with_reducible rfl)))
              simp only [aput, lset]
              refine takeR 1 (some 19) ?_ ?_ ?_; rotate_left; (focus (intros; go_simp; (try with_reducible rfl)))
              simp only [aput, lset]
              refine takeR 2 (some 20) ?_ ?_ ?_; rotate_left; (focus (intros; go_simp; (try with_reducible rfl)))
              simp only [aput, lset]
              refine takeR 3 (some 21) ?_ ?_ ?_; rotate_left; (focus (intros; go_simp; (try with_reducible rfl)))
              simp only [aput, lset]
              refine takeR 4 (some 22) ?_ ?_ ?_; rotate_left; (focus (intros; go_simp; (try with_reducible rfl)))
              simp only [aput, lset]
              refine takeR 5 (some 23) ?_ ?_ ?_; rotate_left; (focus (intros; go_simp; (try with_reducible rfl)))
              simp only [aput, lset]
              refine takeR 6 (some 24) ?_ ?_ ?_; rotate_left; (focus (intros; go_simp; (try with_reducible rfl)))
              simp only [aput, lset]
              refine takeR 7 (some 25) ?_ ?_ ?_; rotate_left; (focus (intros; go_simp; (try with_reducible rfl)))
              simp only [aput, lset]
              refine takeR 8 (some 26) ?_ ?_ ?_; rotate_left; (focus (intro w hSw; (try dsimp only at hSw); have y0 := cell_keep Y0.out hSw; have y1 := cell_keep Y1.out hSw; go_simp; (try with_reducible rfl)))
              simp only [aput, lset]
              refine takeR 9 (some 27) ?_ ?_ ?_; rotate_left; (focus (intros; go_simp; (try with_reducible rfl)))
              simp only [aput, lset]
              refine takeR 10 (some 28) ?_ ?_ ?_; rotate_left; (focus (intros; go_simp; (try with_reducible rfl)))
              simp only [aput, lset]
              refine takeR 11 (some 29) ?_ ?_ ?_; rotate_left; (focus (intros; go_simp; (try with_reducible rfl)))
              simp only [aput, lset]
              refine takeR 12 (some 30) ?_ ?_ ?_; rotate_left; (focus (intros; go_simp; (try with_reducible rfl)))
              simp only [aput, lset]
              refine takeR 13 (some 31) ?_ ?_ ?_; rotate_left; (focus (intro w hSw; (try dsimp only at hSw); have y0 := cell_keep Y0.out hSw; have y1 := cell_keep Y1.out hSw; go_simp; (try with_reducible rfl)))
              simp only [aput, lset]
              refine wpAnyH_ready (rs := [14]) (by kernel_rfl) (by simp) ?_
              refine AllReadyH.cons (o := ⟨some 32, _, _, _, _, _⟩) rfl (fun K hK => ?_) AllReadyH.nil
              rw [if_pos (by kernel_rfl)]
              go_simp
              refine (CL.out _ hHeld).mono ?_
              rintro r w9 ⟨rfl, b9⟩
              have hS9 : Below wr2.heap.size wr2 w9 := Below.trans hHeld (Below.mono b9 hHeld.size)
              clear b9
              go_simp
              refine hK.out _ _ (by assumption) (fun hHeld => ?_)
              clear hK K
              refine takeR 15 (some 33) ?_ ?_ ?_; rotate_left; (focus (intros; go_simp; (try with_reducible rfl)))
              simp only [aput, lset]
              refine takeR 16 (some 34) ?_ ?_ ?_; rotate_left; (focus (intros; go_simp; (try with_reducible rfl)))
              simp only [aput, lset]
              refine wpAnyH_done (by kernel_rfl) ?_ _
              exact NoPanic.normal ⟨rfl, rfl, hS9⟩
            case hm =>
              rintro w3 b3
              have I3 := Lib.hid (IW2.out.next b3)
              clear b3 CL
              go_wp2
              go_roundw
              case rel => exact ⟨i + 1, by omega, by omega, by go_num, Lib.hid ⟨M, IN.out, I3.out⟩⟩
              case measure => simp [intOf]; omega
    · go_wp2
      go_end0
      obtain ⟨M, h1, h2⟩ := HQ.out
      exact ⟨rfl, M, i, by omega, h1, h2⟩
set_option maxHeartbeats 8000000 in
set_option maxRecDepth 100000 in
theorem stable_any (B : Option Addr) (m bp base : Nat) (O : List Nat) (A : Option Addr) (S : List Int) (n cp q : Nat) (w : World) (hO : O.length = m) (h6 : m ≤ 6) (up : O.Pairwise (· < ·)) (hS : ∀ h ∈ O, h < S.length) (ho : OG FI w base 3 (.slice B m bp) (hI O)) (hc : CQ w q n cp A S (.slice B m bp)) :
    Calls Tryz.prog 165 #[.slice B m bp, .int .i64 (m : Int), cmpV q] w fun e w' => e = .returned (.tuple #[]) ∧ ∃ M i, m ≤ i ∧ Ins S O i M ∧ IW w base (.slice B m bp) M w' := by
  have IN := Lib.hid (ins_any B m bp base O A S n cp q w hO (by omega) up hS ho hc)
  have g1 : decide ((20 : Int) ≤ (m : Int)) = false := decide_eq_false (by omega)
  have g2 : decide (20 ≤ m) = false := decide_eq_false (by omega)
  have g3 : decide ((20 : Int) < (m : Int)) = false := decide_eq_false (by omega)
  have g4 : decide (20 < m) = false := decide_eq_false (by omega)
  have g5 : ¬ (20 : Int) ≤ (m : Int) := by omega
  have g6 : ¬ (20 : Int) < (m : Int) := by omega
  clear hO up hS ho hc
  go_enter Tryz.func165, Tryz.ntmps165
  go_wp2
  go_loopw [7, 8] (fun av bv wr => av = .int .i64 0 ∧ bv = .int .i64 20 ∧ wr = w) (fun _ _ _ => 0)
  case atStart => exact ⟨rfl, rfl, rfl⟩
  case round =>
    obtain ⟨rfl, rfl, rfl⟩ := hrel
    go_wp2_with fail
    refine IN.out.mono ?_
    rintro e w3 ⟨rfl, h3⟩
    have H3 := Lib.hid h3
    clear h3 IN
    go_wp2
    go_loopw [6] (fun bv wr => bv = .int .i64 20 ∧ wr = w3) (fun _ _ => 0)
    case atStart => exact ⟨rfl, rfl⟩
    case round =>
      obtain ⟨rfl, rfl⟩ := hrel
      go_wp2
      go_end0
      exact ⟨rfl, H3.out⟩
set_option maxHeartbeats 8000000 in
set_option maxRecDepth 100000 in
theorem sortStable_any (B : Option Addr) (m bp base : Nat) (O : List Nat) (A : Option Addr) (S : List Int) (n cp q : Nat) (w : World) (hO : O.length = m) (h6 : m ≤ 6) (up : O.Pairwise (· < ·)) (hS : ∀ h ∈ O, h < S.length) (ho : OG FI w base 3 (.slice B m bp) (hI O)) (hc : CQ w q n cp A S (.slice B m bp)) :
    Calls Tryz.prog 135 #[.slice B m bp, cmpV q] w fun e w' => e = .returned (.tuple #[]) ∧ ∃ M i, m ≤ i ∧ Ins S O i M ∧ IW w base (.slice B m bp) M w' := by
  have IN := Lib.hid (stable_any B m bp base O A S n cp q w hO h6 up hS ho hc)
  have hm : m ≤ 9223372036854775807 := by omega
  clear hO up hS ho hc
  go_enter Tryz.func135, Tryz.ntmps135
  go_wp2_with fail
  refine IN.out.mono ?_
  rintro e w3 ⟨rfl, h3⟩
  have H3 := Lib.hid h3
  clear h3 IN
  go_wp2
  go_end0
  exact ⟨rfl, H3.out⟩
/-- Behind i of the sendings. -/
structure IO (w : World) (A : Option Addr) (n cp : Nat) (S : List Int) (i : Nat) (v : Value) (wr : World) : Prop where
  st : Stay w [(w.heap.size, vbx (.slice A n cp))] wr
  o : OG FI wr (w.heap.size + 1) 3 v (hI (hst S i))
theorem hI_snoc (M : List Nat) (h : Nat) : hI (M ++ [h]) = hI M ++ [(h : Int)] := by unfold hI; rw [List.map_append]; rfl
set_option maxHeartbeats 8000000 in
set_option maxRecDepth 100000 in
theorem inOrder_any (A : Option Addr) (S : List Int) (n cp : Nat) (w : World) (hn : S.length = n) (h6 : n ≤ 6) (hS : ∀ s ∈ S, -1 ≤ s ∧ s ≤ 1125899906842624) (hA : SG FI w A S) :
    Calls Tryz.prog 83 #[.slice A n cp] w fun e w' => ∃ v, e = .returned v ∧ OG FI w' w.heap.size 3 v (hI (ord S)) ∧ Below w.heap.size w w' := by
  have HA := Lib.hid hA
  have HN := Lib.hid hn
  have HS := Lib.hid hS
  have hn63 : n ≤ 9223372036854775807 := by omega
  have hmf : ∀ (fn : Fn) (first cap : Array Value) (w : World), (Instr.makeFunc fn first cap).run Tryz.prog w = .ok (.func fn first cap) w := fun _ _ _ _ => rfl
  have Q0 := Lib.hid (show IO w A n cp S 0 nilS _ from ⟨(Stay.start w).alloc (vbx (.slice A n cp)), OG.nil _ _ _⟩)
  have c0 := cell_of_row _ _ 0 _ _ _ (Stay.at Q0.out.st 0 rfl)
  clear hA hn hS
  go_enter Tryz.func83, Tryz.ntmps83
  go_wp2
  clear c0
  obtain ⟨q, hq⟩ : ∃ q, w.heap.size = q := ⟨_, rfl⟩
  have HQ := Lib.hid hq
  rw [hq]
  clear hq
  go_loopw [3, 8] (fun v iv wr => ∃ (i : Nat), i ≤ n ∧ iv = .int .i64 i ∧ Hid (IO w A n cp S i v wr)) (fun _ iv _ => n - (intOf iv).toNat)
  case atStart => exact ⟨0, Nat.zero_le _, rfl, Q0⟩
  case round =>
    clear Q0
    obtain ⟨i, hi, rfl, Q⟩ := hrel
    obtain ⟨Av, cv, hv, -⟩ := Q.out.o.form
    obtain ⟨m, hm⟩ : ∃ m, (hI (hst S i)).length = m := ⟨_, rfl⟩
    rw [hm] at hv
    subst hv
    have hml : (hst S i).length = m := by rw [← hm, List.length_map]
    have HML := Lib.hid hml
    have HM := Lib.hid hm
    have hm6 : m ≤ i := by rw [← hml]; exact hst_len S i
    clear hm hml
    by_cases hlt : (i : Int) < (n : Int)
    · obtain ⟨s, hs⟩ : ∃ s, S[i]? = some s := ⟨_, List.getElem?_eq_getElem (by have := HN.out; omega)⟩
      obtain ⟨b, off, rfl, -, hc⟩ := HA.out.below Q.out.st.b i s hs
      have c0 := hc 0 (.int .i64 s) rfl
      rw [show off + i * FI.n + 0 = off + i by show off + i * 1 + 0 = off + i; omega] at c0
      have gs : S.getD i (-1) = s := by rw [List.getD_eq_getElem?_getD, hs]; rfl
      clear hc hs
      by_cases h1 : s = -1
      · have HH := Lib.hid (hst_succ_no (gs.trans h1))
        subst h1
        clear gs
        go_wp2
        go_roundw
        case rel => exact ⟨i + 1, by omega, by go_num, Lib.hid ⟨Q.out.st, by rw [HH.out]; exact Q.out.o⟩⟩
        case measure => simp [intOf]; omega
      · have HH := Lib.hid (hst_succ_yes (S := S) (n := i) (by rw [gs]; exact h1))
        clear gs
        go_wp2_with (at_builtin; refine wpList_append_one oneN _ rfl _ _ rfl (w.heap.size + 1) _ (hI (hst S i)) rfl (Q.out.o.alloc _) (i : Int) _ rfl (heap_at rfl _) ?c1 (by decide) ?c2 ?_)
        case c1 =>
          rw [HM.out]
          omega
        case c2 =>
          have := lt_of_heap (Q.out.st.at 0 rfl)
          rw [World.size_alloc]
          omega
        intro v7 w7 o7 s7
        have BA := Lib.hid (al (Below.refl _ wr) (.cells #[.int .i64 (i : Int)] 3))
        have Q7 := Lib.hid (show IO w (some ⟨b, off, none⟩) n cp S (i + 1) v7 w7 from ⟨OG.stay Q.out.st Q.out.o ((Step.of BA.out _).trans s7) (by omega) (fun x hx e => by
          have h1 := (Q.out.o.lt _ e).1
          rw [List.mem_singleton.1 hx] at h1
          dsimp only at h1
          omega), by rw [HH.out, hI_snoc]; exact o7⟩)
        clear o7 s7
        go_wp2
        go_roundw
        case rel => exact ⟨i + 1, by omega, by go_num, Q7⟩
        case measure => simp [intOf]; omega
    · obtain rfl : n = i := by omega
      have CC := Lib.hid (show CQ wr q n cp A S (.slice Av m cv) from ⟨by rw [← HQ.out]; exact Q.out.st.at 0 rfl, HA.out.below Q.out.st.b, HN.out, fun e => by have := (Q.out.o.lt _ e).1; have := HQ.out; omega, fun hne a ha e => by
        cases hS2 : S with
        | nil => exact hne hS2
        | cons s0 S0 =>
          obtain ⟨b, off, hA1, hb, -⟩ := HA.out 0 s0 (by rw [hS2]; rfl)
          rw [ha] at hA1
          cases hA1
          have := (Q.out.o.lt _ e.symm).1
          dsimp only at this
          omega⟩)
      have SO := Lib.hid (sortStable_any Av m cv (w.heap.size + 1) (hst S n) A S n cp q wr HML.out (by omega) (hst_up S n) (fun h hh => by rw [HN.out]; exact (hst_mem.1 hh).1) Q.out.o CC.out)
      have PO := Lib.hid (show (hst S n).Perm (ord S) by
        have h := hst_ord (S := S) (fun s hs => (HS.out s hs).1)
        rw [HN.out] at h
        exact h)
      go_wp2_with fail
      refine SO.out.mono ?_
      rintro e w8 ⟨rfl, M, i', h1, h2, h3⟩
      have RES := Lib.hid (show M = ord S from h2.fin (by rw [HML.out]; exact h1) PO.out)
      have W8 := Lib.hid h3
      clear h1 h2 h3 SO CC
      go_wp2
      go_ret
      exact ⟨_, rfl, by rw [← RES.out]; exact W8.out.o.base (Nat.le_succ _), Q.out.st.b.trans (W8.out.s.belowG (Q.out.o.base (Nat.le_succ _)) Q.out.st.b.size)⟩
end Go.Proofs.YtmagjekmlnpfpaaGreat.RoundW


/- The document's own: may a round be asked for; spans; in time; when a frame is permanent. -/
namespace Go.Proofs.YtmagjekmlnpfpaaGreat.RoundW
open Shell (takeR skipR aput lset)
open Go.RowKit Shell
open ConfW (Cfg CM chk)
open ClockW (sh wh CI)
set_option maxRecDepth 100000 in
theorem accept_any (c : Cfg) (D E L : Option Addr) (nd cd ne ce nl cl : Nat) (w : World) (C : COk c) : Calls Tryz.prog 17 #[.agg #[.int .i64 c.hosts, .int .i64 c.cycle, .int .i64 c.delay, .int .i64 c.window, .int .i64 c.precision, .slice D nd cd, .slice E ne ce, .slice L nl cl, .int .i64 c.queue]] w fun r w' => r = .returned (.int .i64 (accC c)) ∧ Below w.heap.size w w' := by
  have S0 := Lib.hid ((Stay.start w).alloc (cbx c D E L nd cd ne ce nl cl))
  obtain ⟨a0, a1, a2, a3, a4, a5, a6, a7, a8⟩ := cells9 (S0.out.at 0 rfl)
  have h1 := C.p
  have h2 := C.w
  clear C
  go_enter Tryz.func17, Tryz.ntmps17
  go_wp2
  go_ret
  exact ⟨rfl, S0.out.b⟩
/-- A quotient of numbers that aren't negative. -/
theorem tdiv_le {a b y : Int} (ha : 0 ≤ a) (hb : 0 < b) : (y ≤ a.tdiv b ↔ y * b ≤ a) ∧ a.tdiv b = a / b := by
  have e : a.tdiv b = a / b := Int.tdiv_eq_ediv_of_nonneg ha
  rw [e]
  exact ⟨Int.le_ediv_iff_mul_le hb, rfl⟩
end Go.Proofs.YtmagjekmlnpfpaaGreat.RoundW

