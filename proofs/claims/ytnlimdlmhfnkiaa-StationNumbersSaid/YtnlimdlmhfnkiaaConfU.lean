/- Rows of the call's own; Clone. -/
import Derived.Test.YtnlimdlmhfnkiaaCrewAJa
import Derived.Laws.AppendOwn
import Derived.Laws.AppendOwnNone
import Derived.Lib.SliceRun
namespace Go.Proofs.Ytnlimdlmhfnkiaa.ConfW
open Go.RowKit Shell
/-- An entry's, or a link's, cell. -/
def fld (e : R4) : Nat → Value
  | 0 => .int .i64 e.a
  | 1 => .int .u32 (e.b : Int)
  | 2 => .int .i64 e.c
  | _ => .int .i64 e.d
def ents : List R4 → List Value
  | [] => []
  | e :: l => .int .i64 e.a :: .int .u32 (e.b : Int) :: .int .i64 e.c :: .int .i64 e.d :: ents l
theorem ents_len : ∀ l : List R4, (ents l).length = l.length * 4
  | [] => rfl
  | e :: l => by simp only [ents, List.length_cons, ents_len l]; omega
theorem ents_at : ∀ (l : List R4) (k i : Nat), i < 4 → (ents l)[k * 4 + i]? = (l[k]?).map (fun e => fld e i)
  | [], k, i, _ => by simp [ents]
  | e :: l, 0, i, hi => by
    rcases (show i = 0 ∨ i = 1 ∨ i = 2 ∨ i = 3 by omega) with rfl | rfl | rfl | rfl <;> rfl
  | e :: l, k + 1, i, hi => by
    rw [List.getElem?_cons_succ, ← ents_at l k i hi, show (k + 1) * 4 + i = (k * 4 + i) + 1 + 1 + 1 + 1 by omega]
    rfl
theorem ents_get {l : List R4} {j : Nat} {u : Value} (h : (ents l)[j]? = some u) : ∃ k i e, i < 4 ∧ j = k * 4 + i ∧ l[k]? = some e ∧ u = fld e i := by
  have hj : j = j / 4 * 4 + j % 4 := by omega
  have hi : j % 4 < 4 := Nat.mod_lt _ (by decide)
  rw [hj, ents_at l _ _ hi] at h
  cases he : l[j / 4]? with
  | none => rw [he] at h; cases h
  | some e => rw [he] at h; cases h; exact ⟨j / 4, j % 4, e, hi, hj, he, rfl⟩
theorem ents_app : ∀ l m : List R4, ents (l ++ m) = ents l ++ ents m
  | [], m => rfl
  | e :: l, m => by simp only [List.cons_append, ents, ents_app l m]
theorem ents_one {l : List R4} : ∀ u ∈ ents l, u.oneCell' = true := by
  intro u hu
  obtain ⟨j, hj⟩ := List.getElem?_of_mem hu
  obtain ⟨k, i, e, hi, -, -, rfl⟩ := ents_get hj
  rcases (show i = 0 ∨ i = 1 ∨ i = 2 ∨ i = 3 by omega) with rfl | rfl | rfl | rfl <;> rfl
theorem ML.cellAt {w : World} {b off : Nat} {l : List R4} (h : ML w (some ⟨b, off, none⟩) l) {j : Nat} {u : Value} (hu : (ents l)[j]? = some u) : w.cell? ((⟨b, off, none⟩ : Addr).add j) = some u := by
  obtain ⟨k, i, e, hi, rfl, he, rfl⟩ := ents_get hu
  obtain ⟨g, o, hA, ⟨h0, h1, h2, h3⟩, -⟩ := h k e he
  cases hA
  have ha : ∀ n, (⟨b, off, none⟩ : Addr).add n = ⟨b, off + n, none⟩ := fun n => by unfold Addr.add; split <;> simp_all
  rw [ha]
  rcases (show i = 0 ∨ i = 1 ∨ i = 2 ∨ i = 3 by omega) with rfl | rfl | rfl | rfl
  · exact h0
  · exact h1
  · exact h2
  · exact h3
/-- From a block on all is as it was. -/
structure Up (lo : Nat) (w w' : World) : Prop where
  size : w.heap.size ≤ w'.heap.size
  block : ∀ j, lo ≤ j → j < w.heap.size → w'.heap[j]? = w.heap[j]?
theorem Up.refl (lo : Nat) (w : World) : Up lo w w := ⟨Nat.le_refl _, fun _ _ _ => rfl⟩
theorem Up.trans {lo : Nat} {a b c : World} (h : Up lo a b) (k : Up lo b c) : Up lo a c := ⟨Nat.le_trans h.size k.size, fun j hj hs => (k.block j hj (Nat.lt_of_lt_of_le hs h.size)).trans (h.block j hj hs)⟩
theorem Up.of {w w' : World} (lo : Nat) (b : Below w.heap.size w w') : Up lo w w' := ⟨b.size, fun j _ hs => b.block j hs⟩
theorem Up.set {lo : Nat} {w w' : World} (h : Up lo w w') (a : Addr) (v : Value) (ha : a.block < lo) : Up lo w (w'.setCell a v) := by
  refine ⟨Nat.le_trans h.size (by simp), fun j hj hs => ?_⟩
  rw [heap_setCell_other _ _ _ _ (by omega)]
  exact h.block j hj hs
theorem Up.mono {lo hi : Nat} {w w' : World} (h : Up lo w w') (hl : lo ≤ hi) : Up hi w w' := ⟨h.size, fun j hj hs => h.block j (Nat.le_trans hl hj) hs⟩
theorem own_up {lo base size n : Nat} {e : TypeId} {v : Value} {xs : List Value} {w w' : World} (h : w.ownsRow base e size v n xs) (hb : lo ≤ base) (u : Up lo w w') : w'.ownsRow base e size v n xs := by
  refine ⟨h.1, ?_⟩
  rcases h.2 with h1 | ⟨g, cap, cur, h1, h2, h3, h4⟩
  · exact Or.inl h1
  · exact Or.inr ⟨g, cap, cur, h1, h2, (u.block g (by omega) (row_lt h3)).trans h3, h4⟩
theorem own_base {b b2 size n : Nat} {e : TypeId} {v : Value} {xs : List Value} {w : World} (h : w.ownsRow b e size v n xs) (hb : b2 ≤ b) : w.ownsRow b2 e size v n xs := by
  refine ⟨h.1, ?_⟩
  rcases h.2 with h1 | ⟨g, cap, cur, h1, h2, h3, h4⟩
  · exact Or.inl h1
  · exact Or.inr ⟨g, cap, cur, h1, Nat.le_trans hb h2, h3, h4⟩
theorem own_cell {b size n : Nat} {e : TypeId} {v : Value} {xs : List Value} {w : World} (h : w.ownsRow b e size v n xs) {j : Nat} {u : Value} (hu : xs[j]? = some u) : ∃ g cap, v = .slice (some ⟨g, 0, none⟩) n cap ∧ b ≤ g ∧ w.cell? ⟨g, j, none⟩ = some u ∧ w.frozen? ⟨g, j, none⟩ = false := by
  have hj := lt_of_get hu
  rcases h.2 with ⟨h1, h2⟩ | ⟨g, cap, cur, h1, h2, h3, h4, h5, h6, h7⟩
  · have h3 := h.1
    rw [h2] at h3
    omega
  · refine ⟨g, cap, h1, h2, ?_, frozen_of_row w g j cur e h3⟩
    rw [cell_of_row w g j cur e _ h3]
    rw [← h7, List.getElem?_take_of_lt (by rw [← h.1]; exact hj), Array.getElem?_toList] at hu
    exact hu
/-- What such a row's value looks like. -/
theorem own_form {b size n : Nat} {e : TypeId} {v : Value} {xs : List Value} {w : World} (h : w.ownsRow b e size v n xs) : ∃ A c, v = .slice A n c ∧ n ≤ c ∧ n ≤ maxLen ∧ (A = none → c = 0) ∧ (∀ a, A = some a → a.off = 0 ∧ a.spot = none ∧ b ≤ a.block) := by
  rcases h.2 with ⟨h1, h2⟩ | ⟨g, cap, cur, h1, h2, h3, h4, h5, h6, h7⟩
  · subst h2
    exact ⟨none, 0, h1, Nat.le_refl _, Nat.zero_le _, fun _ => rfl, fun a ha => by cases ha⟩
  · exact ⟨_, cap, h1, h4, Nat.le_trans h4 h5, (fun h => by cases h), fun a ha => by cases ha; exact ⟨rfl, rfl, h2⟩⟩
theorem own_cl {b n : Nat} {A : Option Addr} {c : Nat} {xs : List Int} {w : World} (h : w.ownsRow b 2 1 (.slice A n c) n (nums .i64 xs)) (hw : Wf .i64 xs) : CL w .i64 A xs := by
  intro k x hx
  obtain ⟨g, cap, hv, hb, hc, -⟩ := own_cell h (j := k) (u := .int .i64 x) (by unfold nums; rw [List.getElem?_map, hx]; rfl)
  cases hv
  refine ⟨_, rfl, ?_, hw x (List.mem_of_getElem? hx)⟩
  have ha : (⟨g, 0, none⟩ : Addr).add k = ⟨g, k, none⟩ := by unfold Addr.add; split <;> simp_all
  rw [ha]
  exact hc
theorem own_ml {b n : Nat} {e : TypeId} {A : Option Addr} {c : Nat} {l : List R4} {w : World} (h : w.ownsRow b e 4 (.slice A n c) n (ents l)) (hw : ∀ x ∈ l, x.b < 4294967296) : ML w A l := by
  intro k x hx
  have at_ : ∀ i, i < 4 → (ents l)[k * 4 + i]? = some (fld x i) := fun i hi => by rw [ents_at l k i hi, hx]; rfl
  obtain ⟨g, cap, hv, hb, h0, -⟩ := own_cell h (at_ 0 (by decide))
  obtain ⟨g1, c1, hv1, -, h1, -⟩ := own_cell h (at_ 1 (by decide))
  obtain ⟨g2, c2, hv2, -, h2, -⟩ := own_cell h (at_ 2 (by decide))
  obtain ⟨g3, c3, hv3, -, h3, -⟩ := own_cell h (at_ 3 (by decide))
  cases hv
  cases hv1
  cases hv2
  cases hv3
  have q : ∀ i, (0 : Nat) + k * 4 + i = k * 4 + i := by intro i; omega
  refine ⟨g, 0, rfl, ⟨?_, ?_, ?_, ?_⟩, hw x (List.mem_of_getElem? hx)⟩
  · rw [show (0 : Nat) + k * 4 = k * 4 + 0 by omega]; exact h0
  · rw [q]; exact h1
  · rw [q]; exact h2
  · rw [q]; exact h3
theorem info_i64 : (Try.prog.info? 2).map (fun i => (i.zero.map (fun z => z.cells.size), i.size, i.bytes)) = some (some 1, 1, 8) := by kernel_rfl
theorem parts_i64 : ∃ (i : TypeInfo) (z : Value), Try.prog.info? 2 = some i ∧ i.zero = some z ∧ i.size = 1 ∧ i.bytes = 8 ∧ z.cells.size = 1 := by
  have h := info_i64
  cases hi : Try.prog.info? 2 with
  | none => rw [hi] at h; cases h
  | some i =>
    rw [hi] at h
    simp only [Option.map_some, Option.some.injEq, Prod.mk.injEq] at h
    obtain ⟨h1, h2, h3⟩ := h
    cases hz : i.zero with
    | none => rw [hz] at h1; cases h1
    | some z =>
      rw [hz] at h1
      simp only [Option.map_some, Option.some.injEq] at h1
      exact ⟨i, z, rfl, hz, h2, h3, h1⟩
set_option maxHeartbeats 2000000 in
set_option maxRecDepth 100000 in
theorem clone_i64 (A : Option Addr) (n c : Nat) (xs : List Int) (w : World) (h : CL w .i64 A xs) (hn : n = xs.length) (hl : n * 8 ≤ 140737488355328) (hz : A = none → c = 0) :
    Calls Try.prog 48 #[.slice A n c] w fun r w' => ∃ v, r = .returned v ∧ w'.ownsRow w.heap.size 2 1 v n (nums .i64 xs) ∧ Below w.heap.size w w' := by
  have q22 : ∀ (w : World) (a : Option Addr) (n c n' c' : Nat), (binOp .eql 88 (.slice a n c) (.slice none n' c')).run Try.prog w = .ok (.bool a.isNone) w := fun w a n c n' c' => Lib.run_eql_slice_nil w _ _ a n c n' c' Try.underlying88
  have HL := Lib.hid hl
  have HN := Lib.hid hn
  have H := Lib.hid h
  cases A with
  | none =>
    have hx0 : xs = [] := by have := h; exact CL.nil this
    subst hx0
    obtain rfl : n = 0 := hn
    obtain rfl : c = 0 := hz rfl
    clear hl hz h
    go_enter Try.func48, Try.ntmps48
    go_wp2
    go_ret
    exact ⟨_, rfl, World.ownsRow_nil _ _ _ _, Below.refl _ _⟩
  | some ad =>
    obtain ⟨i0, z0, hi, hz0, hz1, hz2, hz3⟩ := parts_i64
    clear hn hl hz h
    go_enter Try.func48, Try.ntmps48
    go_wp2_with (at_builtin; refine wpList_append_own _ rfl _ _ 88 rfl w.heap.size 2 i0 z0 1 8 Try.underlying88 hi hz0 hz1 hz2 hz3 (by decide) _ _ _ rfl (World.ownsRow_made w #[] 0 (Nat.le_refl _) (Nat.zero_le _) rfl) ad n c (nums .i64 xs) rfl ?qc1 ?qc2 ?qc3 ?qc4 ?qc5 ?qc6 ?_)
    case qc1 => rw [nums_len, ← HN.out, Nat.mul_one]
    case qc2 =>
      intro j u hj
      refine Lib.cell?_alloc_some _ ?_
      obtain ⟨x, hx, rfl⟩ := nums_get hj
      obtain ⟨b, hb, hc, -⟩ := H.out j x hx
      cases hb
      exact hc
    case qc3 => exact nums_one
    case qc4 => have := HL.out; simp only [maxLen]; omega
    case qc5 => have := HL.out; omega
    case qc6 => simp
    intro v' w1 hown hgrow hnil
    have HO := Lib.hid hown
    have HB := Lib.hid (((Below.refl _ w).alloc (Nat.le_refl _) (.cells #[] 2)).grown hgrow (by simp) (by intro k hk; simp [Value.ownBlock] at hk; omega))
    clear hown hgrow hnil
    go_wp2
    go_ret
    exact ⟨v', rfl, by have := HO.out; simpa using this, HB.out⟩
theorem info_Entry : (Try.prog.info? 56).map (fun i => (i.zero.map (fun z => z.cells.size), i.size, i.bytes)) = some (some 4, 4, 32) := by kernel_rfl
theorem parts_Entry : ∃ (i : TypeInfo) (z : Value), Try.prog.info? 56 = some i ∧ i.zero = some z ∧ i.size = 4 ∧ i.bytes = 32 ∧ z.cells.size = 4 := by
  have h := info_Entry
  cases hi : Try.prog.info? 56 with
  | none => rw [hi] at h; cases h
  | some i =>
    rw [hi] at h
    simp only [Option.map_some, Option.some.injEq, Prod.mk.injEq] at h
    obtain ⟨h1, h2, h3⟩ := h
    cases hz : i.zero with
    | none => rw [hz] at h1; cases h1
    | some z =>
      rw [hz] at h1
      simp only [Option.map_some, Option.some.injEq] at h1
      exact ⟨i, z, rfl, hz, h2, h3, h1⟩
set_option maxHeartbeats 2000000 in
set_option maxRecDepth 100000 in
theorem clone_Entry (A : Option Addr) (n c : Nat) (xs : List R4) (w : World) (h : ML w A xs) (hn : n = xs.length) (hl : n * 32 ≤ 140737488355328) (hz : A = none → c = 0) :
    Calls Try.prog 49 #[.slice A n c] w fun r w' => ∃ v, r = .returned v ∧ w'.ownsRow w.heap.size 56 4 v n (ents xs) ∧ Below w.heap.size w w' := by
  have q22 : ∀ (w : World) (a : Option Addr) (n c n' c' : Nat), (binOp .eql 23 (.slice a n c) (.slice none n' c')).run Try.prog w = .ok (.bool a.isNone) w := fun w a n c n' c' => Lib.run_eql_slice_nil w _ _ a n c n' c' Try.underlying23
  have HL := Lib.hid hl
  have HN := Lib.hid hn
  have H := Lib.hid h
  cases A with
  | none =>
    have hx0 : xs = [] := by
      rcases xs with _ | ⟨x, xs⟩
      · rfl
      · obtain ⟨b, off, hb, -⟩ := h 0 x rfl
        cases hb
    subst hx0
    obtain rfl : n = 0 := hn
    obtain rfl : c = 0 := hz rfl
    clear hl hz h
    go_enter Try.func49, Try.ntmps49
    go_wp2
    go_ret
    exact ⟨_, rfl, World.ownsRow_nil _ _ _ _, Below.refl _ _⟩
  | some ad =>
    obtain ⟨i0, z0, hi, hz0, hz1, hz2, hz3⟩ := parts_Entry
    clear hn hl hz h
    go_enter Try.func49, Try.ntmps49
    go_wp2_with (at_builtin; refine wpList_append_own _ rfl _ _ 23 rfl w.heap.size 56 i0 z0 4 32 Try.underlying23 hi hz0 hz1 hz2 hz3 (by decide) _ _ _ rfl (World.ownsRow_made w #[] 0 (Nat.le_refl _) (Nat.zero_le _) rfl) ad n c (ents xs) rfl ?qc1 ?qc2 ?qc3 ?qc4 ?qc5 ?qc6 ?_)
    case qc1 => rw [ents_len, ← HN.out]
    case qc2 =>
      intro j u hj
      refine Lib.cell?_alloc_some _ ?_
      obtain ⟨k, i, e, -, -, he, -⟩ := ents_get hj
      obtain ⟨b, off, hb, -⟩ := H.out k e he
      cases hb
      exact H.out.cellAt hj
    case qc3 => exact ents_one
    case qc4 => have := HL.out; simp only [maxLen]; omega
    case qc5 => have := HL.out; omega
    case qc6 => simp
    intro v' w1 hown hgrow hnil
    have HO := Lib.hid hown
    have HB := Lib.hid (((Below.refl _ w).alloc (Nat.le_refl _) (.cells #[] 56)).grown hgrow (by simp) (by intro k hk; simp [Value.ownBlock] at hk; omega))
    clear hown hgrow hnil
    go_wp2
    go_ret
    exact ⟨v', rfl, by have := HO.out; simpa using this, HB.out⟩
theorem info_Link : (Try.prog.info? 64).map (fun i => (i.zero.map (fun z => z.cells.size), i.size, i.bytes)) = some (some 4, 4, 32) := by kernel_rfl
theorem parts_Link : ∃ (i : TypeInfo) (z : Value), Try.prog.info? 64 = some i ∧ i.zero = some z ∧ i.size = 4 ∧ i.bytes = 32 ∧ z.cells.size = 4 := by
  have h := info_Link
  cases hi : Try.prog.info? 64 with
  | none => rw [hi] at h; cases h
  | some i =>
    rw [hi] at h
    simp only [Option.map_some, Option.some.injEq, Prod.mk.injEq] at h
    obtain ⟨h1, h2, h3⟩ := h
    cases hz : i.zero with
    | none => rw [hz] at h1; cases h1
    | some z =>
      rw [hz] at h1
      simp only [Option.map_some, Option.some.injEq] at h1
      exact ⟨i, z, rfl, hz, h2, h3, h1⟩
set_option maxHeartbeats 2000000 in
set_option maxRecDepth 100000 in
theorem clone_Link (A : Option Addr) (n c : Nat) (xs : List R4) (w : World) (h : ML w A xs) (hn : n = xs.length) (hl : n * 32 ≤ 140737488355328) (hz : A = none → c = 0) :
    Calls Try.prog 50 #[.slice A n c] w fun r w' => ∃ v, r = .returned v ∧ w'.ownsRow w.heap.size 64 4 v n (ents xs) ∧ Below w.heap.size w w' := by
  have q22 : ∀ (w : World) (a : Option Addr) (n c n' c' : Nat), (binOp .eql 24 (.slice a n c) (.slice none n' c')).run Try.prog w = .ok (.bool a.isNone) w := fun w a n c n' c' => Lib.run_eql_slice_nil w _ _ a n c n' c' Try.underlying24
  have HL := Lib.hid hl
  have HN := Lib.hid hn
  have H := Lib.hid h
  cases A with
  | none =>
    have hx0 : xs = [] := by
      rcases xs with _ | ⟨x, xs⟩
      · rfl
      · obtain ⟨b, off, hb, -⟩ := h 0 x rfl
        cases hb
    subst hx0
    obtain rfl : n = 0 := hn
    obtain rfl : c = 0 := hz rfl
    clear hl hz h
    go_enter Try.func50, Try.ntmps50
    go_wp2
    go_ret
    exact ⟨_, rfl, World.ownsRow_nil _ _ _ _, Below.refl _ _⟩
  | some ad =>
    obtain ⟨i0, z0, hi, hz0, hz1, hz2, hz3⟩ := parts_Link
    clear hn hl hz h
    go_enter Try.func50, Try.ntmps50
    go_wp2_with (at_builtin; refine wpList_append_own _ rfl _ _ 24 rfl w.heap.size 64 i0 z0 4 32 Try.underlying24 hi hz0 hz1 hz2 hz3 (by decide) _ _ _ rfl (World.ownsRow_made w #[] 0 (Nat.le_refl _) (Nat.zero_le _) rfl) ad n c (ents xs) rfl ?qc1 ?qc2 ?qc3 ?qc4 ?qc5 ?qc6 ?_)
    case qc1 => rw [ents_len, ← HN.out]
    case qc2 =>
      intro j u hj
      refine Lib.cell?_alloc_some _ ?_
      obtain ⟨k, i, e, -, -, he, -⟩ := ents_get hj
      obtain ⟨b, off, hb, -⟩ := H.out k e he
      cases hb
      exact H.out.cellAt hj
    case qc3 => exact ents_one
    case qc4 => have := HL.out; simp only [maxLen]; omega
    case qc5 => have := HL.out; omega
    case qc6 => simp
    intro v' w1 hown hgrow hnil
    have HO := Lib.hid hown
    have HB := Lib.hid (((Below.refl _ w).alloc (Nat.le_refl _) (.cells #[] 64)).grown hgrow (by simp) (by intro k hk; simp [Value.ownBlock] at hk; omega))
    clear hown hgrow hnil
    go_wp2
    go_ret
    exact ⟨v', rfl, by have := HO.out; simpa using this, HB.out⟩
end Go.Proofs.Ytnlimdlmhfnkiaa.ConfW

