/- The document's own bucket: Right, Far, Next, Take. -/
import Derived.Test.YtokddpialnkckaaBucketA
import Derived.Test.YtokddpialnkckaaStep1
namespace Go.Proofs.Ytokddpialnkckaa.BucketW
open Go.RowKit Shell
theorem i64_one : One Try.prog 22 2 .i64 8 := ⟨Try.underlying22, by
  have h : (Try.prog.info? 2).map (fun i => (i.zero, i.size, i.bytes)) = some (some (.int .i64 0), 1, 8) := by kernel_rfl
  cases hi : Try.prog.info? 2 with
  | none => rw [hi] at h; cases h
  | some i0 =>
    rw [hi] at h
    simp only [Option.map_some, Option.some.injEq, Prod.mk.injEq] at h
    exact ⟨i0, rfl, h.1, h.2.1, h.2.2⟩⟩
theorem i64_in {x : Int} (h0 : -4611686018427387904 ≤ x) (h1 : x < 4611686018427387904) : (Lit.int .i64 x).wf = true := by
  simp [Lit.wf]
  show -9223372036854775808 ≤ x ∧ x ≤ 9223372036854775807
  omega
theorem cl_one (w : World) (x : Int) (h0 : -4611686018427387904 ≤ x) (h1 : x < 4611686018427387904) (t : TypeId) : CL (w.alloc (.cells #[.int .i64 x] t)) .i64 (some ⟨w.heap.size, 0, none⟩) [x] :=
  new_cl w .i64 [x] t (Wf.one (i64_in h0 h1))
theorem refRight_any (g j : Int) (w : World) : Calls Try.prog 11 #[.int .i64 g, .int .i64 j] w fun e w' => e = .returned (.bool (rgt g j)) ∧ w = w' := by
  by_cases h1 : 0 < g
  · by_cases h2 : g ≤ 1073741824
    · by_cases h3 : 0 ≤ j
      · by_cases h4 : j ≤ 1073741824
        · rw [rgt_iff.2 ⟨⟨by omega, h2⟩, h3, h4⟩]
          go_enter Try.func11, Try.ntmps11
          go_wp2
          go_ret
          exact ⟨rfl, rfl⟩
        · rw [rgt_no (by omega)]
          go_enter Try.func11, Try.ntmps11
          go_wp2
          go_ret
          exact ⟨rfl, rfl⟩
      · rw [rgt_no (by omega)]
        go_enter Try.func11, Try.ntmps11
        go_wp2
        go_ret
        exact ⟨rfl, rfl⟩
    · rw [rgt_no (by omega)]
      go_enter Try.func11, Try.ntmps11
      go_wp2
      go_ret
      exact ⟨rfl, rfl⟩
  · rw [rgt_no (by omega)]
    go_enter Try.func11, Try.ntmps11
    go_wp2
    go_ret
    exact ⟨rfl, rfl⟩
theorem refFar_any (t : Int) (w : World) : Calls Try.prog 19 #[.int .i64 t] w fun e w' => e = .returned (.bool (far t)) ∧ w = w' := by
  by_cases h : 1125899906842624 < t
  · rw [show far t = true by rw [← Bool.not_eq_false, far_iff]; omega]
    go_enter Try.func19, Try.ntmps19
    go_wp2
    go_ret
    exact ⟨rfl, rfl⟩
  · by_cases h2 : t < -1125899906842624
    · rw [show far t = true by rw [← Bool.not_eq_false, far_iff]; omega]
      go_enter Try.func19, Try.ntmps19
      go_wp2
      go_ret
      exact ⟨rfl, rfl⟩
    · rw [show far t = false from far_iff.2 ⟨by omega, by omega⟩]
      go_enter Try.func19, Try.ntmps19
      go_wp2
      go_ret
      exact ⟨rfl, rfl⟩
/-- The document's own bucket, as a value; its box. -/
abbrev RV (g j : Int) (v : Value) (m : Int) : Value := .agg #[.int .i64 g, .int .i64 j, v, .int .i64 m]
abbrev rb (g j : Int) (v : Value) (m : Int) : Obj := .cells #[.int .i64 g, .int .i64 j, v, .int .i64 m] 30 (0, 0)
theorem last_get {xs : List Int} {i : Nat} {l : Int} (hl : xs.length = i + 1) (h : xs.getLast? = some l) : xs[i]? = some l := by
  rw [List.getLast?_eq_getElem?, hl] at h
  exact h
/-- The last time of a row of our own lies where it should. -/
theorem last_cell {w : World} {base : Nat} {v : Value} {xs : List Int} {l : Int} (h : OR w base 2 .i64 v xs) {i n : Nat} (hl : xs.length = n) (hi : n = i + 1) (hx : xs.getLast? = some l) : ∃ b c, v = .slice (some ⟨b, 0, none⟩) n c ∧ w.cell? ⟨b, i, none⟩ = some (.int .i64 l) ∧ b < w.heap.size := by
  obtain ⟨A, c, rfl, cl, -, -, ha⟩ := h.form
  obtain ⟨a, rfl, hc, -⟩ := cl i l (last_get (hl.trans hi) hx)
  obtain ⟨b, o, s⟩ := a
  obtain ⟨h1, h2, h3⟩ := ha _ rfl
  dsimp only at h1 h2 h3
  subst h1; subst h2
  refine ⟨b, c, by rw [hl], ?_, h3⟩
  have e : (⟨b, 0, none⟩ : Addr).add i = ⟨b, i, none⟩ := by unfold Addr.add; split <;> simp_all
  rw [← e]; exact hc
theorem nil_row {w : World} {base : Nat} {v : Value} {xs : List Int} (h : OR w base 2 .i64 v xs) (hl : xs.length = 0) : ∃ A c, v = .slice A 0 c := by
  obtain ⟨A, c, rfl, -⟩ := h.form
  exact ⟨A, c, by rw [hl]⟩
set_option maxHeartbeats 2000000 in
theorem refNext_any (g j : Int) (base : Nat) (v : Value) (xs : List Int) (n : Nat) (l m t : Int) (w : World) (hr : rgt g j = true) (F : Fit g j n l m) (h : OR w base 2 .i64 v xs) (hn : xs.length = n) (hl : 0 < n → xs.getLast? = some l) (hN : n < 4611686018427387904) :
    Calls Try.prog 13 #[RV g j v m, .int .i64 t] w fun e w' => e = .returned (.int .i64 (nx j n l m t)) ∧ Below w.heap.size w w' := by
  unfold nx
  cases ht : far t with
  | true =>
    rw [if_pos rfl]
    go_enter Try.func13, Try.ntmps13
    go_wp2_with (go_at_call 19; refine (refFar_any _ _).mono ?_; rintro e w' ⟨rfl, rfl⟩; rw [ht])
    go_ret
    exact ⟨rfl, al (Below.refl _ _) _⟩
  | false =>
    rw [if_neg (by decide)]
    rcases Nat.eq_zero_or_pos n with rfl | hp
    · rw [if_pos rfl]
      obtain ⟨A, c, rfl⟩ := nil_row h hn
      go_enter Try.func13, Try.ntmps13
      go_wp2_with (go_at_call 19; refine (refFar_any _ _).mono ?_; rintro e w' ⟨rfl, rfl⟩; rw [ht])
      go_ret
      exact ⟨rfl, al (Below.refl _ _) _⟩
    · obtain ⟨i, hi⟩ : ∃ i, n = i + 1 := ⟨n - 1, by omega⟩
      rw [if_neg (by omega)]
      obtain ⟨b, c, rfl, hc, hb⟩ := last_cell h hn hi (hl hp)
      have f := F.resolve_left (by omega)
      have gb := rgt_iff.1 hr
      have e1 : wrap64 (m - j) = m - j := by unfold wrap64; omega
      obtain rfl : i = n - 1 := by omega
      have c1 : (w.alloc (rb g j (.slice (some ⟨b, 0, none⟩) n c) m)).cell? ⟨b, n - 1, none⟩ = some (.int .i64 l) := cell_keep hc ((Below.refl _ _).alloc (Nat.le_refl _) _)
      have p1 : (0 : Int) < (n : Int) := by omega
      have p2 : (n : Int) - 1 < (n : Int) := by omega
      have p3 : n - 1 < n := by omega
      have p4 : (0 : Int) ≤ (n : Int) - 1 := by omega
      have e2 : wrap64 ((n : Int) - 1) = (n : Int) - 1 := by unfold wrap64; omega
      have E1 := Lib.hid e1
      have e3 : max (max t l) (m - j) = (if (if t < l then l else t) < m - j then m - j else (if t < l then l else t)) := by split <;> split <;> omega
      rw [e3]
      clear e3 h hn hl hp F f gb hr hc hi
      by_cases hA : t < l
      · rw [if_pos hA]
        by_cases hB : l < m - j
        · rw [if_pos hB]
          go_enter Try.func13, Try.ntmps13
          go_wp2_with (go_at_call 19; refine (refFar_any _ _).mono ?_; rintro e w' ⟨rfl, rfl⟩; rw [ht])
          go_ret
          exact ⟨by show Ending.returned (.int .i64 (wrap64 (m - j))) = _; rw [E1.out], al (Below.refl _ _) _⟩
        · rw [if_neg hB]
          go_enter Try.func13, Try.ntmps13
          go_wp2_with (go_at_call 19; refine (refFar_any _ _).mono ?_; rintro e w' ⟨rfl, rfl⟩; rw [ht])
          go_ret
          exact ⟨rfl, al (Below.refl _ _) _⟩
      · rw [if_neg hA]
        by_cases hB : t < m - j
        · rw [if_pos hB]
          go_enter Try.func13, Try.ntmps13
          go_wp2_with (go_at_call 19; refine (refFar_any _ _).mono ?_; rintro e w' ⟨rfl, rfl⟩; rw [ht])
          go_ret
          exact ⟨by show Ending.returned (.int .i64 (wrap64 (m - j))) = _; rw [E1.out], al (Below.refl _ _) _⟩
        · rw [if_neg hB]
          go_enter Try.func13, Try.ntmps13
          go_wp2_with (go_at_call 19; refine (refFar_any _ _).mono ?_; rintro e w' ⟨rfl, rfl⟩; rw [ht])
          go_ret
          exact ⟨rfl, al (Below.refl _ _) _⟩
theorem put4 {w : World} {k : Nat} {m b r q : Value} {t : TypeId} (h : w.heap[k]? = some (.cells #[m, b, r, q] t (0, 0))) (x y z u : Value) : ((((w.setCell ⟨k, 0, none⟩ x).setCell ⟨k, 1, none⟩ y).setCell ⟨k, 2, none⟩ z).setCell ⟨k, 3, none⟩ u).heap[k]? = some (.cells #[x, y, z, u] t (0, 0)) := by
  replace h : (w.setCell ⟨k, 0, none⟩ x).heap[k]? = some (.cells #[x, b, r, q] t (0, 0)) := heap_setCell_same w k 0 _ _ _ h
  replace h : ((w.setCell ⟨k, 0, none⟩ x).setCell ⟨k, 1, none⟩ y).heap[k]? = some (.cells #[x, y, r, q] t (0, 0)) := heap_setCell_same _ k 1 _ _ _ h
  replace h : (((w.setCell ⟨k, 0, none⟩ x).setCell ⟨k, 1, none⟩ y).setCell ⟨k, 2, none⟩ z).heap[k]? = some (.cells #[x, y, z, q] t (0, 0)) := heap_setCell_same _ k 2 _ _ _ h
  exact heap_setCell_same _ k 3 _ _ _ h
theorem below4 {w0 w : World} {k : Nat} (h : Below w0.heap.size w0 w) (hk : w0.heap.size ≤ k) (x y z u : Value) : Below w0.heap.size w0 ((((w.setCell ⟨k, 0, none⟩ x).setCell ⟨k, 1, none⟩ y).setCell ⟨k, 2, none⟩ z).setCell ⟨k, 3, none⟩ u) :=
  (((h.setCell hk _).setCell hk _).setCell hk _).setCell hk _
theorem kept4 (w : World) (k : Nat) (x y z u : Value) : Kept k w ((((w.setCell ⟨k, 0, none⟩ x).setCell ⟨k, 1, none⟩ y).setCell ⟨k, 2, none⟩ z).setCell ⟨k, 3, none⟩ u) := (kept3 w k x y z).trans (kept1 _ k 3 u)
theorem cells4 {w : World} {j : Nat} {x y z u : Value} {t : TypeId} (h : w.heap[j]? = some (.cells #[x, y, z, u] t (0, 0))) : w.cell? ⟨j, 0, none⟩ = some x ∧ w.cell? ⟨j, 1, none⟩ = some y ∧ w.cell? ⟨j, 2, none⟩ = some z ∧ w.cell? ⟨j, 3, none⟩ = some u :=
  ⟨cell_of_row w j 0 _ _ _ h, cell_of_row w j 1 _ _ _ h, cell_of_row w j 2 _ _ _ h, cell_of_row w j 3 _ _ _ h⟩
theorem frozen4 {w : World} {j : Nat} {x y z u : Value} {t : TypeId} (h : w.heap[j]? = some (.cells #[x, y, z, u] t (0, 0))) : w.frozen? ⟨j, 0, none⟩ = false ∧ w.frozen? ⟨j, 1, none⟩ = false ∧ w.frozen? ⟨j, 2, none⟩ = false ∧ w.frozen? ⟨j, 3, none⟩ = false :=
  ⟨frozen_of_row w j 0 _ _ h, frozen_of_row w j 1 _ _ h, frozen_of_row w j 2 _ _ h, frozen_of_row w j 3 _ _ h⟩
theorem results_b {fn : Func} {p u : Tmp} (h : fn.results = #[.cell p 30, .tmp u]) (tmps : Array Value) (w : World) (g : Nat) (t : TypeId) (x1 x2 x3 x4 : Value) (fr : Nat × Nat)
    (hp : tmps.getD p undef = .pointer (some ⟨g, 0, none⟩)) (hg : w.heap[g]? = some (.cells #[x1, x2, x3, x4] t fr)) :
    (results fn tmps).run Try.prog w = .ok (.tuple #[.agg #[x1, x2, x3, x4], tmps.getD u undef]) w := by
  have hp' : tmps[p]?.getD undef = .pointer (some ⟨g, 0, none⟩) := by simpa using hp
  simp [results, h, hp', asAddr, run_loadVar_row w g t 30 #[x1, x2, x3, x4] fr _ hg Try.underlying30 rfl (by kernel_rfl)]
theorem ret_b {fn : Func} {R : Ending → World → Prop} {p u : Tmp} (h : fn.results = #[.cell p 30, .tmp u]) {tmps : Array Value} {w : World} {g : Nat} {x1 x2 x3 x4 : Value} {t : TypeId} {fr : Nat × Nat}
    (hp : tmps.getD p undef = .pointer (some ⟨g, 0, none⟩)) (hg : w.heap[g]? = some (.cells #[x1, x2, x3, x4] t fr)) (hR : R (.returned (.tuple #[.agg #[x1, x2, x3, x4], tmps.getD u undef])) w) :
    bodyPost Try.prog fn R .ret { tmps := tmps, defers := [] } w :=
  bodyPost_ret (results_b h tmps w g t x1 x2 x3 x4 fr hp hg) rfl hR
/-- A stretch of code whose ways out meet, but for one value and the world, of which S is known. -/
theorem wp_row {P : Program} {c : Code} {Q : Exit → Act → World → Prop} {a : Act} {w : World} (A2 : Value → Act) (S : Value → World → Prop) (h : c.wp P (fun e a' w' => ∃ v, e = Exit.normal ∧ a' = A2 v ∧ S v w') a w) (hm : ∀ v W, S v W → Q .normal (A2 v) W) : c.wp P Q a w :=
  Code.wp_mono (fun _ _ _ ⟨v, h1, h2, h3⟩ => by subst h1; subst h2; exact hm v _ h3) h
theorem or_kept {w w1 : World} {k base : Nat} {v : Value} {xs : List Int} (h : OR w base 2 .i64 v xs) (kp : Kept k w w1) (hk : v.ownBlock ≠ some k) : OR w1 base 2 .i64 v xs :=
  ⟨h.1.kept (row := some k) ⟨kp.os, kp.tape, kp.output, kp.size, fun j hj hne => kp.block j (fun e => hne (by rw [e])) hj⟩ (by
    cases hv : v.ownBlock with
    | none => exact Or.inl rfl
    | some i => exact Or.inr (by rw [← hv]; exact hk)), h.2⟩
theorem step_kept {w w1 w2 : World} {k : Nat} {v v' : Value} (h : Step w v w1 v') (kp : Kept k w1 w2) (hk : w.heap.size ≤ k) : Step w v w2 v' :=
  ⟨⟨kp.os.trans h.g.os, kp.tape.trans h.g.tape, kp.output.trans h.g.output, Nat.le_trans h.g.size kp.size, fun j hj hne => (kp.block j (by omega) (Nat.lt_of_lt_of_le hj h.g.size)).trans (h.g.block j hj hne)⟩, h.m⟩
abbrev nil : Value := .slice none 0 0
set_option maxHeartbeats 2000000 in
theorem refTake_no (g j : Int) (base : Nat) (v : Value) (xs : List Int) (n : Nat) (l m t : Int) (w : World) (hr : rgt g j = true) (F : Fit g j n l m) (h : OR w base 2 .i64 v xs) (hn : xs.length = n) (hl : 0 < n → xs.getLast? = some l) (hN : n < 4611686018427387904) (hk : okB j n l m t = false) :
    Calls Try.prog 14 #[RV g j v m, .int .i64 t] w fun e w' => e = .returned (.tuple #[RV g j v m, .bool false]) ∧ Below w.heap.size w w' := by
  have X0 := ((Stay.start w).alloc (rb g j v m)).alloc (rb 0 0 nil 0)
  rw [World.size_alloc] at X0
  have X := Lib.hid X0
  clear X0
  cases ht : far t with
  | true =>
    obtain ⟨A, c, rfl, -⟩ := h.form
    clear h hr F hn hl hN hk
    go_enter Try.func14, Try.ntmps14
    go_wp2_with (go_at_call 19; refine (refFar_any _ _).mono ?_; rintro e w' ⟨rfl, rfl⟩; rw [ht])
    exact ret_b rfl rfl (heap_at (by simp) _) ⟨rfl, al (al (Below.refl _ _) _) _⟩
  | false =>
    have tb := far_iff.1 ht
    have hp : 0 < n := by
      rcases Nat.eq_zero_or_pos n with rfl | hp
      · rw [okB_iff.2 ⟨tb, Or.inl rfl⟩] at hk; cases hk
      · exact hp
    obtain ⟨i, hi⟩ : ∃ i, n = i + 1 := ⟨n - 1, by omega⟩
    obtain ⟨b, c, rfl, hc, hb⟩ := last_cell h hn hi (hl hp)
    have f := F.resolve_left (by omega)
    have gb := rgt_iff.1 hr
    obtain rfl : i = n - 1 := by omega
    have c1 : ((w.alloc (rb g j (.slice (some ⟨b, 0, none⟩) n c) m)).alloc (rb 0 0 nil 0)).cell? ⟨b, n - 1, none⟩ = some (.int .i64 l) := cell_keep hc (al (al (Below.refl _ _) _) _)
    have p1 : (0 : Int) < (n : Int) := by omega
    have p2 : (n : Int) - 1 < (n : Int) := by omega
    have p3 : n - 1 < n := by omega
    have p4 : (0 : Int) ≤ (n : Int) - 1 := by omega
    have e2 : wrap64 ((n : Int) - 1) = (n : Int) - 1 := by unfold wrap64; omega
    have e1 : wrap64 (t + j) = t + j := by unfold wrap64; omega
    have hno : ¬ (l ≤ t ∧ m - j ≤ t) := fun h => by rw [okB_iff.2 ⟨tb, Or.inr h⟩] at hk; cases hk
    by_cases hA : t < l
    · clear h hn hl hp F f gb hr hc hi hno tb hk hN
      go_enter Try.func14, Try.ntmps14
      go_wp2_with (go_at_call 19; refine (refFar_any _ _).mono ?_; rintro e w' ⟨rfl, rfl⟩; rw [ht])
      exact ret_b rfl rfl (heap_at (by simp) _) ⟨rfl, al (al (Below.refl _ _) _) _⟩
    · have hB : t + j < m := by omega
      clear h hn hl hp F f gb hr hc hi hno tb hk hN
      go_enter Try.func14, Try.ntmps14
      go_wp2_with (go_at_call 19; refine (refFar_any _ _).mono ?_; rintro e w' ⟨rfl, rfl⟩; rw [ht])
      exact ret_b rfl rfl (heap_at (by simp) _) ⟨rfl, al (al (Below.refl _ _) _) _⟩
end Go.Proofs.Ytokddpialnkckaa.BucketW
