/- A slice of int64 that came in, opened: the numbers that it holds; a row of our own as such numbers. -/
import Derived.Test.YtelfbjldfdlpnaaTickSum

import Derived.Lib.LaidTab
import Derived.Stop.LaidErr
import Derived.BigRegion
import Derived.Deep.QuietTactic
import Derived.Test.YtelfbjldfdlpnaaLawShell


import Derived.ProofKit
import Derived.OpenShut
import Derived.Laws.Cover2
import Derived.Deep.DeepHandedRow
import Derived.Deep.DeepWitnessRowRef
import Derived.Test.YtelfbjldfdlpnaaTickOf
import Derived.Deep.Slices
import Derived.SizedLaws
namespace Go.Proofs.Ytelfbjldfdlpnaa.TickW
open Go.ChangeShapes Go.WideShapes Go.ChangeAt Go.RowKit
section
variable {P : Program} {H : Type} {enc : TypeId × Value → H}
theorem i64_wf {n : Int} (h : (Lit.int .i64 n).wf = true) : -9223372036854775808 ≤ n ∧ n ≤ 9223372036854775807 := by
  simp [Lit.wf] at h
  exact h
theorem trod_i64 {w : World} {base : Nat} {spare : Nat → Bool} {held : Bool} {e : TypeId} (he : P.underlying e = some (.int .i64)) {n : Nat} {v : Value} {x : DataW H × List MemPlace} (h : DataW.trod enc P w base spare held n e [v] = some x) :
    ∃ b : Int, v = .int .i64 b ∧ -9223372036854775808 ≤ b ∧ b ≤ 9223372036854775807 := by
  cases n with
  | zero => simp [DataW.trod] at h
  | succ n =>
    cases v <;> simp only [DataW.trod, he] at h <;> try (cases h; done)
    rename_i k b
    by_cases hk : k = .i64 ∧ (Lit.int .i64 b).wf = true
    · obtain ⟨rfl, hw⟩ := hk
      exact ⟨b, rfl, i64_wf hw⟩
    · rw [if_neg hk] at h; cases h
theorem okWide_slice {w : World} {r : Reach} {b0 : Nat} {t e : TypeId} {v : Value} (ht : P.underlying t = some (.slice e)) (h : Value.okWide P w r b0 t v) : ∃ A n c, v = .slice A n c := by
  simp only [Value.okWide, ht, Cell.okWide] at h
  cases v <;> simp_all [Cell.ok]
theorem open_int64s {W : World} {r : Reach} {b0 : Nat} {t e : TypeId} (ht : P.underlying t = some (.slice e)) (he : P.underlying e = some (.int .i64)) (hc : P.cellsOf e = 1) {v : Value} {d : DataW H} {ps : List MemPlace}
    (hval : Value.okWide P W r b0 t v) (hd : DataW.Trod enc P W 0 (fun _ => true) true t v d ps) : ∃ (A : Option Addr) (xs : List Int) (c : Nat), v = .slice A xs.length c ∧ IL W A xs ∧ xs.length ≤ maxLen ∧ xs.length ≤ c ∧ (xs = [] ∨ ∃ es sp, d = .slice es sp ∧ xs.length = es.length) ∧ (A = none → c = 0) := by
  obtain ⟨A, n, c, rfl⟩ := okWide_slice ht hval
  obtain ⟨fuel, hf⟩ := hd
  rcases Go.Deep.open_slice1 ht hc hf with ⟨h1, _⟩ | ⟨a, len, cap, m, k, V, D, Pl, h1, _, hl, hm, hmm, hdat, hx⟩
  · simp only [Value.cells] at h1
    injection h1 with h1 _
    injection h1 with e1 e2 e3
    subst e1; subst e2; subst e3
    exact ⟨none, [], 0, rfl, fun k x h => by simp at h, by decide, Nat.le_refl _, Or.inl rfl, fun _ => rfl⟩
  · simp only [Value.cells] at h1
    injection h1 with h1 _
    injection h1 with e1 e2 e3
    subst e1; subst e2; subst e3
    have hb : ∀ i, i < n → ∃ b : Int, W.cell? (a.add i) = some (.int .i64 b) ∧ -9223372036854775808 ≤ b ∧ b ≤ 9223372036854775807 := by
      intro i hi
      obtain ⟨h2, h3⟩ := hx i (by rw [hmm]; simp; omega)
      obtain ⟨b, hv, hlt⟩ := trod_i64 he h3
      exact ⟨b, by rw [h2, hv], hlt⟩
    obtain ⟨f, hfn⟩ := Go.Deep.choose_lt (α := Int) (p := fun i b => W.cell? (a.add i) = some (.int .i64 b) ∧ -9223372036854775808 ≤ b ∧ b ≤ 9223372036854775807) hb
    refine ⟨some a, (List.range n).map f, c, by simp, ?_, by simp; omega, by simp; exact hl, Or.inr ⟨_, _, congrArg (·.1) hdat, by simp⟩, fun h => by cases h⟩
    intro i x hix
    have hi : i < n := by
      rcases Nat.lt_or_ge i n with h | h
      · exact h
      · rw [List.getElem?_eq_none (by simpa using h)] at hix; cases hix
    have : x = f i := by
      rw [List.getElem?_map, List.getElem?_range hi] at hix
      exact (Option.some.inj hix).symm
    subst this
    exact ⟨a, rfl, (hfn i hi).1, (hfn i hi).2⟩
end
def i64s (l : List Int) : List Value := l.map (Value.int .i64)
theorem i64_info : ∃ i0 : TypeInfo, Try.prog.info? 2 = some i0 ∧ i0.zero = some (.int .i64 0) ∧ i0.size = 1 ∧ i0.bytes = 8 :=
  info_parts (show (Try.prog.info? 2).map (fun i => (i.zero, i.size, i.bytes)) = some (some (.int .i64 0), 1, 8) by kernel_rfl)
theorem own_il {w : World} {base n : Nat} {v : Value} {xs : List Int} (h : w.ownsRow base 2 1 v n (i64s xs)) (hn : xs.length = n) (hb : ∀ x ∈ xs, -9223372036854775808 ≤ x ∧ x ≤ 9223372036854775807) : ∃ A c, v = .slice A n c ∧ IL w A xs ∧ n ≤ c := by
  rcases h.2 with ⟨hv, h0⟩ | ⟨g, cap, cur, hv, _, hg, h5, h6, h7, htake⟩
  · have hd : xs = [] := List.eq_nil_of_length_eq_zero (by omega)
    subst hd; subst h0
    exact ⟨none, 0, hv, fun k d hk => by simp at hk, Nat.le_refl _⟩
  · refine ⟨_, cap, hv, fun j y hy => ⟨_, rfl, ?_, hb y (List.mem_of_getElem? hy)⟩, h5⟩
    have hj : j < xs.length := by
      rcases Nat.lt_or_ge j xs.length with h4 | h4
      · exact h4
      · rw [List.getElem?_eq_none h4] at hy; cases hy
    have ha : (⟨g, 0, none⟩ : Addr).add j = ⟨g, j, none⟩ := by unfold Addr.add; split <;> simp_all
    have h5 : (i64s xs)[j]? = some (.int .i64 y) := by unfold i64s; rw [List.getElem?_map, hy]; rfl
    rw [← htake, List.getElem?_take_of_lt (by omega), Array.getElem?_toList] at h5
    rw [ha]
    unfold World.cell?
    simp only [hg]
    exact h5
theorem IL.cells {w : World} {a : Addr} {xs : List Int} (h : IL w (some a) xs) (j : Nat) (u : Value) (hj : (i64s xs)[j]? = some u) : w.cell? (a.add j) = some u := by
  unfold i64s at hj
  rw [List.getElem?_map] at hj
  cases hx : xs[j]? with
  | none => rw [hx] at hj; cases hj
  | some x =>
    rw [hx] at hj
    obtain ⟨b, hb, hc, _⟩ := h j x hx
    cases hb
    cases hj
    exact hc
theorem ildrop_cells {w : World} {a : Addr} {xs : List Int} (h : IL w (some a) xs) (p : Nat) (j : Nat) (u : Value) (hj : (i64s (xs.drop p))[j]? = some u) : w.cell? ((a.add p).add j) = some u := by
  rw [Addr.add_add]
  refine h.cells (p + j) u ?_
  unfold i64s at hj ⊢
  rw [List.map_drop, List.getElem?_drop] at hj
  exact hj
theorem iltake_cells {w : World} {a : Addr} {xs : List Int} (h : IL w (some a) xs) (p : Nat) (j : Nat) (u : Value) (hj : (i64s (xs.take p))[j]? = some u) : w.cell? (a.add j) = some u := by
  refine h.cells j u ?_
  unfold i64s at hj ⊢
  rw [List.map_take, List.getElem?_take] at hj
  split at hj
  · exact hj
  · cases hj
theorem i64s_one {l : List Int} : ∀ u ∈ i64s l, u.oneCell' = true := by
  intro u hu
  obtain ⟨x, _, rfl⟩ := List.mem_map.1 hu
  rfl
theorem step_append_own {P : Program} {w : World} {ops : Array Oper} {o : Oper} {a : Act} {K : Act → World → Prop} {Q : Exit → Act → World → Prop} {E : Prop} (hgd : o.guard = none) (s x : Operand) (t : TypeId)
    (ho : o.op = .call { callee := .builtin .append, args := #[s, x], argTypes := #[t, t] })
    (base : Nat) (e : TypeId) (i : TypeInfo) (z : Value) (size bytes : Nat) (ht : P.underlying t = some (.slice e)) (hi : P.info? e = some i) (hz : i.zero = some z)
    (hsize : i.size = size) (hby : i.bytes = bytes) (hzs : z.cells.size = size) (hsz : 0 < size)
    (v : Value) (n : Nat) (xs : List Value) (hs : a.eval s = v) (hown : w.ownsRow base e size v n xs)
    (ad : Addr) (m c : Nat) (news : List Value) (hx : a.eval x = .slice (some ad) m c) (hl : news.length = m * size) (hnews : ∀ j u, news[j]? = some u → w.cell? (ad.add j) = some u) (h1 : ∀ u ∈ news, u.oneCell' = true)
    (h63 : n + m ≤ maxLen) (hbytes : (n + m) * bytes ≤ 140737488355328) (hbase : base ≤ w.heap.size)
    (h : ∀ v' w', w'.ownsRow base e size v' (n + m) (xs ++ news) → w.grownBy w' v.ownBlock → (v' = .slice none 0 0 ↔ v = .slice none 0 0 ∧ m = 0) → K (a.put o.dst v') w') :
    if Region.wanted o (yielded ops a.tmps) = true then Oper.wp P o a w K Q else E := by
  rw [if_pos (by simp [Region.wanted, hgd])]
  exact wp_append_own w s x t ho base e i z size bytes ht hi hz hsize hby hzs hsz v n xs hs hown ad m c news hx hl hnews h1 h63 hbytes hbase h
theorem turn_at (t : Int) (n : Nat) (h0 : 0 < n) (h1 : (n : Int) ≤ 17592186043904) : ∃ p : Nat, p < n ∧ wrap64 ((IntKind.u64.wrap t).tmod (n : Int)) = (p : Int) := by
  have hu : 0 ≤ IntKind.u64.wrap t := by rw [IntKind.wrap_u64]; omega
  rw [Int.tmod_eq_emod_of_nonneg hu]
  have r0 := Int.emod_nonneg (IntKind.u64.wrap t) (show (n : Int) ≠ 0 by omega)
  have r1 := Int.emod_lt_of_pos (IntKind.u64.wrap t) (show (0 : Int) < n by omega)
  generalize IntKind.u64.wrap t % (n : Int) = r at *
  refine ⟨r.toNat, by omega, ?_⟩
  unfold wrap64; omega
theorem sum_rot (xs : List Int) (p : Nat) : (xs.drop p ++ xs.take p).sum = xs.sum := by
  rw [List.sum_append, Int.add_comm, ← List.sum_append, List.take_append_drop]
end Go.Proofs.Ytelfbjldfdlpnaa.TickW

