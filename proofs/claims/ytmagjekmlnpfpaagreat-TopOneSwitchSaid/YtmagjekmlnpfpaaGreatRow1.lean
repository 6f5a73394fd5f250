/- Rows of whole numbers of one kind: slices that came in, rows of our own that grow; all programs at once. -/
import Derived.Test.YtmagjekmlnpfpaaGreatOpen
import Derived.Laws.AppendOwn
import Derived.Laws.AppendOwnNone
import Derived.Laws.OwnMore
import Derived.OwnWalk
import Derived.Deep.DeepAppendRoom
import Derived.DataElems
import Derived.Maps.Range
namespace Go.Proofs.YtmagjekmlnpfpaaGreat.Shell
open Go.ChangeShapes Go.WideShapes Go.ChangeAt Go.RowKit
section
variable {P : Program} {H : Type} {enc : TypeId × Value → H}
/-- All are numbers of that kind. -/
def Wf (q : IntKind) (xs : List Int) : Prop := ∀ x ∈ xs, (Lit.int q x).wf = true
theorem Wf.append {q : IntKind} {a b : List Int} (h : Wf q a) (k : Wf q b) : Wf q (a ++ b) := fun x hx => (List.mem_append.1 hx).elim (h x) (k x)
theorem Wf.nil {q : IntKind} : Wf q [] := fun _ h => by cases h
theorem Wf.one {q : IntKind} {x : Int} (h : (Lit.int q x).wf = true) : Wf q [x] := fun y hy => by rw [List.mem_singleton] at hy; rw [hy]; exact h
theorem lt_of_get {α : Type} {l : List α} {k : Nat} {x : α} (h : l[k]? = some x) : k < l.length := by
  rcases Nat.lt_or_ge k l.length with h1 | h1
  · exact h1
  · rw [List.getElem?_eq_none h1] at h; cases h
/-- The slice's cells hold these numbers. -/
def CL (w : World) (q : IntKind) (A : Option Addr) (xs : List Int) : Prop := ∀ k x, xs[k]? = some x → ∃ a, A = some a ∧ w.cell? (a.add k) = some (.int q x) ∧ (Lit.int q x).wf = true
theorem CL.below {w w1 : World} {q : IntKind} {A : Option Addr} {xs : List Int} (h : CL w q A xs) (b : Below w.heap.size w w1) : CL w1 q A xs := by
  intro k x hx
  obtain ⟨a, ha, hc, hb⟩ := h k x hx
  exact ⟨a, ha, (b.cell (Lib.lt_of_cell hc)).trans hc, hb⟩
theorem CL.wf {w : World} {q : IntKind} {A : Option Addr} {xs : List Int} (h : CL w q A xs) : Wf q xs := by
  intro x hx
  obtain ⟨k, hk⟩ := List.getElem?_of_mem hx
  obtain ⟨_, _, _, hb⟩ := h k x hk
  exact hb
theorem CL.some {w : World} {q : IntKind} {A : Option Addr} {xs : List Int} (h : CL w q A xs) (hl : 0 < xs.length) : ∃ a, A = some a := by
  obtain ⟨a, ha, -⟩ := h 0 xs[0] (List.getElem?_eq_getElem hl)
  exact ⟨a, ha⟩
theorem CL.nil {w : World} {q : IntKind} {xs : List Int} (h : CL w q none xs) : xs = [] := by
  rcases xs with _ | ⟨x, xs⟩
  · rfl
  · obtain ⟨a, ha, -⟩ := h 0 x rfl
    cases ha
theorem CL.none (w : World) (q : IntKind) (A : Option Addr) : CL w q A [] := fun k x h => by simp at h
theorem CL.drop {w : World} {q : IntKind} {a : Addr} {xs : List Int} (h : CL w q (Option.some a) xs) (p : Nat) : CL w q (Option.some (a.add p)) (xs.drop p) := by
  intro k x hx
  rw [List.getElem?_drop] at hx
  obtain ⟨b, hb, hc, hh⟩ := h (p + k) x hx
  cases hb
  exact ⟨_, rfl, by rw [Addr.add_add]; exact hc, hh⟩
theorem CL.take {w : World} {q : IntKind} {A : Option Addr} {xs : List Int} (h : CL w q A xs) (n : Nat) : CL w q A (xs.take n) := by
  intro k x hx
  rw [List.getElem?_take] at hx
  split at hx
  · exact h k x hx
  · cases hx
def nums (q : IntKind) (l : List Int) : List Value := l.map (Value.int q)
theorem nums_len (q : IntKind) (l : List Int) : (nums q l).length = l.length := by simp [nums]
theorem nums_app (q : IntKind) (a b : List Int) : nums q (a ++ b) = nums q a ++ nums q b := by simp [nums]
theorem nums_one {q : IntKind} {l : List Int} : ∀ u ∈ nums q l, u.oneCell' = true := by
  intro u hu
  obtain ⟨x, _, rfl⟩ := List.mem_map.1 hu
  rfl
theorem nums_get {q : IntKind} {l : List Int} {j : Nat} {u : Value} (h : (nums q l)[j]? = some u) : ∃ x, l[j]? = some x ∧ u = .int q x := by
  unfold nums at h
  rw [List.getElem?_map] at h
  cases hy : l[j]? with
  | none => rw [hy] at h; cases h
  | some y => rw [hy] at h; cases h; exact ⟨y, rfl, rfl⟩
/-- Cells of a block that holds a row. -/
theorem row_cl {w : World} {q : IntKind} {g : Nat} {rs : List Int} {t : TypeId} {fr : Nat × Nat} (h : w.heap[g]? = Option.some (.cells (nums q rs).toArray t fr)) (hy : Wf q rs) : CL w q (Option.some ⟨g, 0, none⟩) rs := by
  intro k x hx
  refine ⟨_, rfl, ?_, hy x (List.mem_of_getElem? hx)⟩
  have ha : (⟨g, 0, none⟩ : Addr).add k = ⟨g, k, none⟩ := by unfold Addr.add; split <;> simp_all
  rw [ha]
  unfold World.cell?
  rw [h]
  simp [nums, hx]
theorem new_cl (w : World) (q : IntKind) (rs : List Int) (t : TypeId) (hy : Wf q rs) : CL (w.alloc (.cells (nums q rs).toArray t)) q (Option.some ⟨w.heap.size, 0, none⟩) rs := row_cl (fr := (0, 0)) (heap_alloc_new w _) hy
/-- A row of our own. -/
def OR (w : World) (base : Nat) (e : TypeId) (q : IntKind) (v : Value) (xs : List Int) : Prop := w.ownsRow base e 1 v xs.length (nums q xs) ∧ Wf q xs
theorem OR.nil (w : World) (base : Nat) (e : TypeId) (q : IntKind) : OR w base e q (.slice none 0 0) [] := ⟨World.ownsRow_nil _ _ _ _, Wf.nil⟩
theorem OR.form {w : World} {base : Nat} {e : TypeId} {q : IntKind} {v : Value} {xs : List Int} (h : OR w base e q v xs) : ∃ A c, v = .slice A xs.length c ∧ CL w q A xs ∧ xs.length ≤ c ∧ (A = none → c = 0) ∧ (∀ a, A = Option.some a → a.off = 0 ∧ a.spot = none ∧ a.block < w.heap.size) := by
  obtain ⟨h, hb⟩ := h
  rcases h.2 with ⟨hv, h0⟩ | ⟨g, cap, cur, hv, _, hg, h5, h6, h7, htake⟩
  · have hd : xs = [] := List.eq_nil_of_length_eq_zero h0
    subst hd
    exact ⟨_, 0, hv, fun k d hk => by simp at hk, Nat.le_refl _, fun _ => rfl, fun a ha => by cases ha⟩
  · refine ⟨_, cap, hv, fun j y hy => ⟨_, rfl, ?_, hb y (List.mem_of_getElem? hy)⟩, h5, (fun h => by cases h), fun a ha => ?_⟩
    · have hj := lt_of_get hy
      have ha : (⟨g, 0, none⟩ : Addr).add j = ⟨g, j, none⟩ := by unfold Addr.add; split <;> simp_all
      have h5 : (nums q xs)[j]? = some (.int q y) := by unfold nums; rw [List.getElem?_map, hy]; rfl
      rw [← htake, List.getElem?_take_of_lt (by omega), Array.getElem?_toList] at h5
      rw [ha]
      unfold World.cell?
      simp only [hg]
      exact h5
    · cases ha
      refine ⟨rfl, rfl, ?_⟩
      rcases Nat.lt_or_ge g w.heap.size with h4 | h4
      · exact h4
      · rw [Array.getElem?_eq_none h4] at hg; cases hg
theorem OR.lt {w : World} {base : Nat} {e : TypeId} {q : IntKind} {v : Value} {xs : List Int} (h : OR w base e q v xs) : ∀ k, v.ownBlock = some k → base ≤ k ∧ k < w.heap.size := h.1.lt
theorem OR.alloc {w : World} {base : Nat} {e : TypeId} {q : IntKind} {v : Value} {xs : List Int} (h : OR w base e q v xs) (o : Obj) : OR (w.alloc o) base e q v xs := ⟨h.1.alloc o, h.2⟩
theorem OR.drew {w : World} {base : Nat} {e : TypeId} {q : IntKind} {v : Value} {xs : List Int} (h : OR w base e q v xs) : OR w.drew base e q v xs := ⟨h.1.drew, h.2⟩
theorem OR.below {w w1 : World} {base : Nat} {e : TypeId} {q : IntKind} {v : Value} {xs : List Int} (h : OR w base e q v xs) (b : Below w.heap.size w w1) : OR w1 base e q v xs :=
  ⟨h.1.kept (row := none) ⟨b.os, b.tape, b.output, b.size, fun k hk _ => b.block k hk⟩ (by
    cases hv : v.ownBlock with
    | none => exact Or.inl rfl
    | some k => exact Or.inr (by simp)), h.2⟩
theorem OR.base {w : World} {base b1 : Nat} {e : TypeId} {q : IntKind} {v : Value} {xs : List Int} (h : OR w base e q v xs) (hb : b1 ≤ base) : OR w b1 e q v xs := by
  refine ⟨⟨h.1.1, ?_⟩, h.2⟩
  rcases h.1.2 with h1 | ⟨g, cap, cur, h1, h2, h3⟩
  · exact Or.inl h1
  · exact Or.inr ⟨g, cap, cur, h1, Nat.le_trans hb h2, h3⟩
theorem OR.row {w : World} {base g : Nat} {e : TypeId} {q : IntKind} {rs : List Int} (h : w.heap[g]? = some (.cells (nums q rs).toArray e (0, 0))) (hb : base ≤ g) (hy : Wf q rs) (hl : rs.length ≤ maxLen) : OR w base e q (.slice (some ⟨g, 0, none⟩) rs.length rs.length) rs := by
  refine ⟨⟨by rw [nums_len, Nat.mul_one], Or.inr ⟨g, rs.length, _, rfl, hb, h, Nat.le_refl _, hl, ?_, ?_⟩⟩, hy⟩
  · simp [nums]
  · simp only [nums]; rw [Nat.mul_one]; exact List.take_of_length_le (by simp)
theorem OR.new (w : World) (e : TypeId) (q : IntKind) {base : Nat} (rs : List Int) (hb : base ≤ w.heap.size) (hy : Wf q rs) (hl : rs.length ≤ maxLen) : OR (w.alloc (.cells (nums q rs).toArray e)) base e q (.slice (some ⟨w.heap.size, 0, none⟩) rs.length rs.length) rs := OR.row (heap_alloc_new w _) hb hy hl
/-- Where an append's answer lies: in the block that it had, or in a new one. -/
def Moved (w : World) (v v' : Value) : Prop := v'.ownBlock = v.ownBlock ∨ ∃ k, v'.ownBlock = some k ∧ w.heap.size ≤ k
/-- From w and the row v to w' and the row v': nothing else has turned. -/
structure Step (w : World) (v : Value) (w' : World) (v' : Value) : Prop where
  g : w.grownBy w' v.ownBlock
  m : Moved w v v'
theorem Step.refl (w : World) (v : Value) : Step w v w v := ⟨World.grownBy.refl w _, Or.inl rfl⟩
theorem Step.trans {a b c : World} {u v x : Value} (h : Step a u b v) (k : Step b v c x) : Step a u c x := by
  refine ⟨h.g.andThen k.g (fun j hj => ?_), ?_⟩
  · rcases h.m with h1 | ⟨i, h1, h2⟩
    · exact Or.inr (h1.symm.trans hj)
    · rw [h1] at hj; cases hj; exact Or.inl h2
  · rcases k.m with h1 | ⟨i, h1, h2⟩
    · rcases h.m with h3 | ⟨j, h3, h4⟩
      · exact Or.inl (h1.trans h3)
      · exact Or.inr ⟨j, h1.trans h3, h4⟩
    · exact Or.inr ⟨i, h1, Nat.le_trans h.g.size h2⟩
theorem Step.alloc (w : World) (v : Value) (o : Obj) : Step w v (w.alloc o) v := ⟨World.grownBy_alloc w o _, Or.inl rfl⟩
theorem Step.drew (w : World) (v : Value) : Step w v w.drew v := ⟨⟨rfl, rfl, rfl, Nat.le_refl _, fun _ _ _ => rfl⟩, Or.inl rfl⟩
theorem Step.of {w w1 : World} (b : Below w.heap.size w w1) (v : Value) : Step w v w1 v := ⟨⟨b.os, b.tape, b.output, b.size, fun k hk _ => b.block k hk⟩, Or.inl rfl⟩
theorem Step.below {w w' : World} {v v' : Value} {base : Nat} {e : TypeId} {q : IntKind} {xs : List Int} (h : Step w v w' v') (o : OR w base e q v xs) (hb : base ≤ w.heap.size) : Below base w w' :=
  ⟨h.g.os, h.g.tape, h.g.output, h.g.size, fun k hk => h.g.block k (by omega) (fun e => by have := (o.lt k e.symm).1; omega)⟩
theorem CL.step {w w' : World} {v v' : Value} {q : IntKind} {A : Option Addr} {xs : List Int} (h : CL w q A xs) (s : Step w v w' v') (f : ∀ a, A = Option.some a → Option.some a.block ≠ v.ownBlock) : CL w' q A xs := by
  intro k x hx
  obtain ⟨a, ha, hc, hb⟩ := h k x hx
  have hne : Option.some (a.add k).block ≠ v.ownBlock := by
    have : (a.add k).block = a.block := by unfold Addr.add; split <;> rfl
    rw [this]; exact f a ha
  exact ⟨a, ha, s.g.cell hc hne, hb⟩
theorem run_append_moved (w : World) (base : Nat) (t ty e : TypeId) (i : TypeInfo) (z : Value) (size bytes : Nat) (ht : P.underlying t = some (.slice e)) (hi : P.info? e = some i) (hz : i.zero = some z)
    (hsize : i.size = size) (hby : i.bytes = bytes) (hzs : z.cells.size = size) (hsz : 0 < size)
    (v : Value) (n : Nat) (xs : List Value) (hown : w.ownsRow base e size v n xs)
    (a : Addr) (m c : Nat) (news : List Value) (hl : news.length = m * size) (hnews : ∀ j u, news[j]? = some u → w.cell? (a.add j) = some u) (h1 : ∀ u ∈ news, u.oneCell' = true)
    (h63 : n + m ≤ maxLen) (hbytes : (n + m) * bytes ≤ 140737488355328) (hbase : base ≤ w.heap.size) :
    ∃ v' w', (Builtin.append_ #[t, t] ty #[v, .slice (some a) m c]).run P w = .ok v' w' ∧ w'.ownsRow base e size v' (n + m) (xs ++ news) ∧ w.grownBy w' v.ownBlock ∧ Moved w v v' := by
  obtain ⟨v', w', hr, h2, h3, h4⟩ := run_append_own (P := P) w base t ty e i z size bytes ht hi hz hsize hby hzs hsz v n xs hown a m c news hl hnews h1 h63 hbytes hbase
  refine ⟨v', w', hr, h2, h3, ?_⟩
  rcases hown.2 with ⟨hv, hn⟩ | ⟨g, cap, cur, hv, hbg, hg, hnc, hcm, hcs, htake⟩
  · subst hv; subst hn
    have hx : xs = [] := List.eq_nil_of_length_eq_zero (by simpa using hown.1)
    subst hx
    obtain ⟨v2, w2, hr2, o2, _⟩ := run_append_own (P := P) w w.heap.size t ty e i z size bytes ht hi hz hsize hby hzs hsz (.slice none 0 0) 0 [] (World.ownsRow_nil _ _ _ _) a m c news hl hnews h1 h63 hbytes (Nat.le_refl _)
    rw [hr] at hr2
    cases hr2
    cases hb : v'.ownBlock with
    | none => exact Or.inl (by rw [hb]; rfl)
    | some k => exact Or.inr ⟨k, hb, (o2.lt k hb).1⟩
  · subst hv
    by_cases hroom : n + m ≤ cap
    · obtain ⟨w2, hr2, _, _⟩ := run_append_own_spare (P := P) w base t ty e i size ht hi hsize g n cap xs hown a m c news hl hnews h1 hroom
      rw [hr] at hr2
      cases hr2
      exact Or.inl rfl
    · subst hsize
      subst hby
      have hsmall : n + m ≤ 9223372036854775807 := by simp only [maxLen] at h63; omega
      have holds : ∀ j u, xs[j]? = some u → w.cell? ((⟨g, 0, none⟩ : Addr).add j) = some u := hown.cells (g := g) rfl
      have hr2 := run_append_grow (P := P) w t ty e i z ht hi hz ⟨g, 0, none⟩ n cap xs hown.1 holds a m c news hl hnews (by omega) (by omega) (growslice_fits (by omega) hbytes)
      rw [hr] at hr2
      cases hr2
      exact Or.inr ⟨_, rfl, Nat.le_refl _⟩
/-- An element's look: one cell, so many bytes. -/
structure One (P : Program) (t e : TypeId) (q : IntKind) (bytes : Nat) : Prop where
  u : P.underlying t = some (.slice e)
  i : ∃ i0 : TypeInfo, P.info? e = some i0 ∧ i0.zero = some (.int q 0) ∧ i0.size = 1 ∧ i0.bytes = bytes
/-- append to a row of our own; what is appended may be nil. -/
theorem wpList_append_or {t e : TypeId} {q : IntKind} {bytes : Nat} (O : One P t e q bytes) (w : World) {ops : Array Oper} {rest : List Oper} {o : Oper} {a : Act} {Q : Exit → Act → World → Prop} (hgd : o.guard = none) (s x : Operand)
    (ho : o.op = .call { callee := .builtin .append, args := #[s, x], argTypes := #[t, t] })
    (base : Nat) (v : Value) (xs : List Int) (hs : a.eval s = v) (hown : OR w base e q v xs)
    (A : Option Addr) (m c : Nat) (ys : List Int) (hx : a.eval x = .slice A m c) (hl : ys.length = m) (hb : CL w q A ys) (hn : A = none → c = 0)
    (h63 : (xs.length + m) * bytes ≤ 140737488355328) (hp : 0 < bytes) (hbase : base ≤ w.heap.size)
    (h : ∀ v' w', OR w' base e q v' (xs ++ ys) → Step w v w' v' → wpList P ops Q rest (a.put o.dst v') w') : wpList P ops Q (o :: rest) a w := by
  obtain ⟨i0, hi, hz0, hz1, hz2⟩ := O.i
  have hle : xs.length + m ≤ (xs.length + m) * bytes := Nat.le_mul_of_pos_right _ hp
  cases A with
  | some ad =>
    obtain ⟨v', w', hr, h2, h3, h4⟩ := run_append_moved (P := P) w base t o.type e i0 (.int q 0) 1 bytes O.u hi hz0 hz1 hz2 rfl (by decide) v xs.length (nums q xs) hown.1 ad m c (nums q ys) (by rw [nums_len, hl, Nat.mul_one])
      (fun j u hj => by
        obtain ⟨y, hy, rfl⟩ := nums_get hj
        obtain ⟨b, hb, hc, -⟩ := hb j y hy
        cases hb
        exact hc) nums_one (by simp only [maxLen]; omega) h63 hbase
    refine wpList_plain hgd fun _ hK => ?_
    unfold Oper.wp execOp
    simp only [ho, resolve, invoke, builtin, Sem.run_bind, Sem.run_pure, Result.andThen_ok, List.map_toArray, List.map_cons, List.map_nil, hs, hx, hr]
    refine hK _ _ (h v' w' ⟨?_, hown.2.append hb.wf⟩ ⟨h3, h4⟩)
    rw [List.length_append, hl, nums_app]
    exact h2
  | none =>
    obtain rfl := hb.nil
    have hm : m = 0 := hl.symm
    have hc := hn rfl
    subst hm; subst hc
    exact wpList_append_own_none hgd s x t ho base e i0 1 O.u hi v xs.length (nums q xs) hs hown.1 hx (h v w (by rw [List.append_nil]; exact hown) (Step.refl w v))
/-- A slice of whole numbers that came in, opened. -/
theorem open_nums {W : World} {r : Reach} {b0 : Nat} {t e : TypeId} {q : IntKind} (ht : P.underlying t = some (.slice e)) (he : P.underlying e = some (.int q)) (hc : P.cellsOf e = 1) {v : Value} {d : DataW H} {ps : List MemPlace}
    (hval : Value.okWide P W r b0 t v) (hd : DataW.Trod enc P W 0 (fun _ => true) true t v d ps) : ∃ (A : Option Addr) (xs : List Int) (c : Nat), v = .slice A xs.length c ∧ CL W q A xs ∧ xs.length ≤ maxLen ∧ xs.length ≤ c ∧ (xs = [] ∨ ∃ es sp, d = .slice es sp ∧ xs.length = es.length) ∧ (A = none → c = 0) := by
  obtain ⟨A, n, c, rfl⟩ := slice_val ht hval
  obtain ⟨fuel, hf⟩ := hd
  rcases Go.Deep.open_slice1 ht hc hf with ⟨h1, _⟩ | ⟨a, len, cap, m, k, V, D, Pl, h1, _, hl, hm, hmm, hdat, hx⟩
  · simp only [Value.cells] at h1
    injection h1 with h1 _
    injection h1 with e1 e2 e3
    subst e1; subst e2; subst e3
    exact ⟨none, [], 0, rfl, fun k x h => by simp at h, by decide, Nat.le_refl _, Or.inl rfl, fun _ => rfl⟩
  · simp only [Value.cells] at h1
    injection h1 with h1 _
    injection h1 with e1 e2 e3
    subst e1; subst e2; subst e3
    have hb : ∀ i, i < n → ∃ b : Int, W.cell? (a.add i) = some (.int q b) ∧ (Lit.int q b).wf = true := by
      intro i hi
      obtain ⟨h2, h3⟩ := hx i (by rw [hmm]; simp; omega)
      obtain ⟨b, hv, hlt⟩ := trod_num he h3
      exact ⟨b, by rw [h2, hv], hlt⟩
    obtain ⟨f, hfn⟩ := Go.Deep.choose_lt (α := Int) (p := fun i b => W.cell? (a.add i) = some (.int q b) ∧ (Lit.int q b).wf = true) hb
    refine ⟨some a, (List.range n).map f, c, by simp, ?_, by simp; omega, by simp; exact hl, Or.inr ⟨_, _, congrArg (·.1) hdat, by simp⟩, fun h => by cases h⟩
    intro i x hix
    have hi : i < n := by
      have := lt_of_get hix
      simpa using this
    have : x = f i := by
      rw [List.getElem?_map, List.getElem?_range hi] at hix
      exact (Option.some.inj hix).symm
    subst this
    exact ⟨a, rfl, (hfn i hi).1, (hfn i hi).2⟩
end
end Go.Proofs.YtmagjekmlnpfpaaGreat.Shell


