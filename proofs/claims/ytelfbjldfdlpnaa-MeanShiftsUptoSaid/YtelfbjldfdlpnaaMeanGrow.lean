/- A row of int32 that came in, opened; two rows of our own that grow side by side. -/
import Derived.Test.YtelfbjldfdlpnaaMeanLay
import Derived.Test.YtelfbjldfdlpnaaMeanPure
import Derived.Deep.DeepAppendRoom
namespace Go.Proofs.Ytelfbjldfdlpnaa.MeanW
open Go.ChangeShapes Go.WideShapes Go.ChangeAt Go.RowKit TickW
/-- The slice's cells hold these numbers of 32 bits. -/
def IL32 (w : World) (A : Option Addr) (xs : List Int) : Prop := ∀ k x, xs[k]? = some x → ∃ a, A = some a ∧ w.cell? (a.add k) = some (.int .i32 x) ∧ -2147483648 ≤ x ∧ x ≤ 2147483647
theorem IL32.below {w w1 : World} {A : Option Addr} {xs : List Int} (h : IL32 w A xs) (b : RowKit.Below w.heap.size w w1) : IL32 w1 A xs := by
  intro k x hx
  obtain ⟨a, ha, hc, hb⟩ := h k x hx
  exact ⟨a, ha, cell_keep hc b, hb⟩
section
variable {P : Program} {H : Type} {enc : TypeId × Value → H}
theorem i32_wf {n : Int} (h : (Lit.int .i32 n).wf = true) : -2147483648 ≤ n ∧ n ≤ 2147483647 := by
  simp [Lit.wf] at h
  exact h
theorem trod_i32 {w : World} {base : Nat} {spare : Nat → Bool} {held : Bool} {e : TypeId} (he : P.underlying e = some (.int .i32)) {n : Nat} {v : Value} {x : DataW H × List MemPlace} (h : DataW.trod enc P w base spare held n e [v] = some x) :
    ∃ b : Int, v = .int .i32 b ∧ -2147483648 ≤ b ∧ b ≤ 2147483647 := by
  cases n with
  | zero => simp [DataW.trod] at h
  | succ n =>
    cases v <;> simp only [DataW.trod, he] at h <;> try (cases h; done)
    rename_i k b
    by_cases hk : k = .i32 ∧ (Lit.int .i32 b).wf = true
    · obtain ⟨rfl, hw⟩ := hk
      exact ⟨b, rfl, i32_wf hw⟩
    · rw [if_neg hk] at h; cases h
theorem open_int32s {W : World} {r : Reach} {b0 : Nat} {t e : TypeId} (ht : P.underlying t = some (.slice e)) (he : P.underlying e = some (.int .i32)) (hc : P.cellsOf e = 1) {v : Value} {d : DataW H} {ps : List MemPlace}
    (hval : Value.okWide P W r b0 t v) (hd : DataW.Trod enc P W 0 (fun _ => true) true t v d ps) : ∃ (A : Option Addr) (xs : List Int) (c : Nat), v = .slice A xs.length c ∧ IL32 W A xs ∧ xs.length ≤ maxLen ∧ xs.length ≤ c ∧ (xs = [] ∨ ∃ es sp, d = .slice es sp ∧ xs.length = es.length) ∧ (A = none → c = 0) := by
  obtain ⟨A, n, c, rfl⟩ := TickW.okWide_slice ht hval
  obtain ⟨fuel, hf⟩ := hd
  rcases Go.Deep.open_slice1 ht hc hf with ⟨h1, _⟩ | ⟨a, len, cap, m, k, V, D, Pl, h1, _, hl, hm, hmm, hdat, hx⟩
  · simp only [Value.cells] at h1
    injection h1 with h1 _
    injection h1 with e1 e2 e3
    subst e1; subst e2; subst e3
    exact ⟨none, [], 0, rfl, fun k x h => by simp at h, by decide, Nat.le_refl _, Or.inl rfl, fun _ => rfl⟩
  · simp only [Value.cells] at h1
    injection h1 with h1 _
    injection h1 with e1 e2 e3
    subst e1; subst e2; subst e3
    have hb : ∀ i, i < n → ∃ b : Int, W.cell? (a.add i) = some (.int .i32 b) ∧ -2147483648 ≤ b ∧ b ≤ 2147483647 := by
      intro i hi
      obtain ⟨h2, h3⟩ := hx i (by rw [hmm]; simp; omega)
      obtain ⟨b, hv, hlt⟩ := trod_i32 he h3
      exact ⟨b, by rw [h2, hv], hlt⟩
    obtain ⟨f, hfn⟩ := Go.Deep.choose_lt (α := Int) (p := fun i b => W.cell? (a.add i) = some (.int .i32 b) ∧ -2147483648 ≤ b ∧ b ≤ 2147483647) hb
    refine ⟨some a, (List.range n).map f, c, by simp, ?_, by simp; omega, by simp; exact hl, Or.inr ⟨_, _, congrArg (·.1) hdat, by simp⟩, fun h => by cases h⟩
    intro i x hix
    have hi : i < n := by
      rcases Nat.lt_or_ge i n with h | h
      · exact h
      · rw [List.getElem?_eq_none (by simpa using h)] at hix; cases hix
    have : x = f i := by
      rw [List.getElem?_map, List.getElem?_range hi] at hix
      exact (Option.some.inj hix).symm
    subst this
    exact ⟨a, rfl, (hfn i hi).1, (hfn i hi).2⟩
end
/-- Where an append's answer lies: in the block that it had, or in a new one. -/
def Moved (w : World) (v v' : Value) : Prop := v'.ownBlock = v.ownBlock ∨ ∃ k, v'.ownBlock = some k ∧ w.heap.size ≤ k
theorem run_append_moved {P : Program} (w : World) (base : Nat) (t ty e : TypeId) (i : TypeInfo) (z : Value) (size bytes : Nat) (ht : P.underlying t = some (.slice e)) (hi : P.info? e = some i) (hz : i.zero = some z)
    (hsize : i.size = size) (hby : i.bytes = bytes) (hzs : z.cells.size = size) (hsz : 0 < size)
    (v : Value) (n : Nat) (xs : List Value) (hown : w.ownsRow base e size v n xs)
    (a : Addr) (m c : Nat) (news : List Value) (hl : news.length = m * size) (hnews : ∀ j u, news[j]? = some u → w.cell? (a.add j) = some u) (h1 : ∀ u ∈ news, u.oneCell' = true)
    (h63 : n + m ≤ maxLen) (hbytes : (n + m) * bytes ≤ 140737488355328) (hbase : base ≤ w.heap.size) :
    ∃ v' w', (Builtin.append_ #[t, t] ty #[v, .slice (some a) m c]).run P w = .ok v' w' ∧ w'.ownsRow base e size v' (n + m) (xs ++ news) ∧ w.grownBy w' v.ownBlock ∧ Moved w v v' := by
  obtain ⟨v', w', hr, h2, h3, h4⟩ := run_append_own (P := P) w base t ty e i z size bytes ht hi hz hsize hby hzs hsz v n xs hown a m c news hl hnews h1 h63 hbytes hbase
  refine ⟨v', w', hr, h2, h3, ?_⟩
  rcases hown.2 with ⟨hv, hn⟩ | ⟨g, cap, cur, hv, hbg, hg, hnc, hcm, hcs, htake⟩
  · subst hv; subst hn
    have hx : xs = [] := List.eq_nil_of_length_eq_zero (by simpa using hown.1)
    subst hx
    obtain ⟨v2, w2, hr2, o2, _⟩ := run_append_own (P := P) w w.heap.size t ty e i z size bytes ht hi hz hsize hby hzs hsz (.slice none 0 0) 0 [] (World.ownsRow_nil _ _ _ _) a m c news hl hnews h1 h63 hbytes (Nat.le_refl _)
    rw [hr] at hr2
    cases hr2
    cases hb : v'.ownBlock with
    | none => exact Or.inl (by rw [hb]; rfl)
    | some k => exact Or.inr ⟨k, hb, (o2.lt k hb).1⟩
  · subst hv
    by_cases hroom : n + m ≤ cap
    · obtain ⟨w2, hr2, _, _⟩ := run_append_own_spare (P := P) w base t ty e i size ht hi hsize g n cap xs hown a m c news hl hnews h1 hroom
      rw [hr] at hr2
      cases hr2
      exact Or.inl rfl
    · subst hsize
      subst hby
      have hsmall : n + m ≤ 9223372036854775807 := by simp only [maxLen] at h63; omega
      have holds : ∀ j u, xs[j]? = some u → w.cell? ((⟨g, 0, none⟩ : Addr).add j) = some u := hown.cells (g := g) rfl
      have hr2 := run_append_grow (P := P) w t ty e i z ht hi hz ⟨g, 0, none⟩ n cap xs hown.1 holds a m c news hl hnews (by omega) (by omega) (growslice_fits (by omega) hbytes)
      rw [hr] at hr2
      cases hr2
      exact Or.inr ⟨_, rfl, Nat.le_refl _⟩
theorem wpList_append_moved {P : Program} (w : World) {ops : Array Oper} {rest : List Oper} {o : Oper} {a : Act} {Q : Exit → Act → World → Prop} (hgd : o.guard = none) (s x : Operand) (t : TypeId)
    (ho : o.op = .call { callee := .builtin .append, args := #[s, x], argTypes := #[t, t] })
    (base : Nat) (e : TypeId) (i : TypeInfo) (z : Value) (size bytes : Nat) (ht : P.underlying t = some (.slice e)) (hi : P.info? e = some i) (hz : i.zero = some z)
    (hsize : i.size = size) (hby : i.bytes = bytes) (hzs : z.cells.size = size) (hsz : 0 < size)
    (v : Value) (n : Nat) (xs : List Value) (hs : a.eval s = v) (hown : w.ownsRow base e size v n xs)
    (ad : Addr) (m c : Nat) (news : List Value) (hx : a.eval x = .slice (some ad) m c) (hl : news.length = m * size) (hnews : ∀ j u, news[j]? = some u → w.cell? (ad.add j) = some u) (h1 : ∀ u ∈ news, u.oneCell' = true)
    (h63 : n + m ≤ maxLen) (hbytes : (n + m) * bytes ≤ 140737488355328) (hbase : base ≤ w.heap.size)
    (h : ∀ v' w', w'.ownsRow base e size v' (n + m) (xs ++ news) → w.grownBy w' v.ownBlock → Moved w v v' → wpList P ops Q rest (a.put o.dst v') w') : wpList P ops Q (o :: rest) a w := by
  obtain ⟨v', w', hr, h2, h3, h4⟩ := run_append_moved (P := P) w base t o.type e i z size bytes ht hi hz hsize hby hzs hsz v n xs hown ad m c news hl hnews h1 h63 hbytes hbase
  refine wpList_plain hgd fun _ hK => ?_
  unfold Oper.wp execOp
  simp only [ho, resolve, invoke, builtin, Sem.run_bind, Sem.run_pure, Result.andThen_ok, List.map_toArray, List.map_cons, List.map_nil, hs, hx, hr]
  exact hK _ _ (h v' w' h2 h3 h4)
/-- Two rows that share no block. -/
def Apart (u v : Value) : Prop := ∀ k, u.ownBlock = some k → v.ownBlock ≠ some k
theorem Apart.symm {u v : Value} (h : Apart u v) : Apart v u := fun k h1 h2 => h k h2 h1
theorem Apart.kept {u v : Value} (h : Apart u v) : v.ownBlock = none ∨ v.ownBlock ≠ u.ownBlock := by
  cases hv : v.ownBlock with
  | none => exact Or.inl rfl
  | some k => exact Or.inr (fun e => h k e.symm hv)
theorem Apart.moved {u u' v : Value} {w : World} {base n : Nat} {e : TypeId} {xs : List Value} (h : Apart u v) (hm : Moved w u u') (hv : w.ownsRow base e 1 v n xs) : Apart u' v := by
  intro k h1 h2
  rcases hm with hm | ⟨j, hj, hlt⟩
  · exact h k (hm.symm.trans h1) h2
  · rw [hj] at h1
    cases h1
    have := (hv.lt _ h2).2
    omega
end Go.Proofs.Ytelfbjldfdlpnaa.MeanW
