/- The document's own bucket: Right, Far, Next, Take. -/
import Derived.Test.YtecgpibidcifpaaBucketAJa
import Derived.Test.YtecgpibidcifpaaStep1
import Derived.Test.YtecgpibidcifpaaTake
namespace Go.Proofs.Ytecgpibidcifpaa.BucketW
open Go.RowKit Shell
theorem i64_one : One Try.prog 53 2 .i64 8 := ⟨Try.underlying53, by
  have h : (Try.prog.info? 2).map (fun i => (i.zero, i.size, i.bytes)) = some (some (.int .i64 0), 1, 8) := by kernel_rfl
  cases hi : Try.prog.info? 2 with
  | none => rw [hi] at h; cases h
  | some i0 =>
    rw [hi] at h
    simp only [Option.map_some, Option.some.injEq, Prod.mk.injEq] at h
    exact ⟨i0, rfl, h.1, h.2.1, h.2.2⟩⟩
theorem i64_in {x : Int} (h0 : -4611686018427387904 ≤ x) (h1 : x < 4611686018427387904) : (Lit.int .i64 x).wf = true := by
  simp [Lit.wf]
  show -9223372036854775808 ≤ x ∧ x ≤ 9223372036854775807
  omega
theorem cl_one (w : World) (x : Int) (h0 : -4611686018427387904 ≤ x) (h1 : x < 4611686018427387904) (t : TypeId) : CL (w.alloc (.cells #[.int .i64 x] t)) .i64 (some ⟨w.heap.size, 0, none⟩) [x] :=
  new_cl w .i64 [x] t (Wf.one (i64_in h0 h1))
theorem refFar_any (t : Int) (w : World) : Calls Try.prog 63 #[.int .i64 t] w fun e w' => e = .returned (.bool (far t)) ∧ w = w' := by
  by_cases h : 1125899906842624 < t
  · rw [show far t = true by rw [← Bool.not_eq_false, far_iff]; omega]
    go_enter Try.func63, Try.ntmps63
    go_wp2
    go_ret
    exact ⟨rfl, rfl⟩
  · by_cases h2 : t < -1125899906842624
    · rw [show far t = true by rw [← Bool.not_eq_false, far_iff]; omega]
      go_enter Try.func63, Try.ntmps63
      go_wp2
      go_ret
      exact ⟨rfl, rfl⟩
    · rw [show far t = false from far_iff.2 ⟨by omega, by omega⟩]
      go_enter Try.func63, Try.ntmps63
      go_wp2
      go_ret
      exact ⟨rfl, rfl⟩
/-- The document's own bucket, as a value; its box. -/
abbrev RV (g j : Int) (v : Value) (m : Int) : Value := .agg #[.int .i64 g, .int .i64 j, v, .int .i64 m]
abbrev rb (g j : Int) (v : Value) (m : Int) : Obj := .cells #[.int .i64 g, .int .i64 j, v, .int .i64 m] 76 (0, 0)
theorem last_get {xs : List Int} {i : Nat} {l : Int} (hl : xs.length = i + 1) (h : xs.getLast? = some l) : xs[i]? = some l := by
  rw [List.getLast?_eq_getElem?, hl] at h
  exact h
/-- The last time of a row of our own lies where it should. -/
theorem last_cell {w : World} {base : Nat} {v : Value} {xs : List Int} {l : Int} (h : OR w base 2 .i64 v xs) {i n : Nat} (hl : xs.length = n) (hi : n = i + 1) (hx : xs.getLast? = some l) : ∃ b c, v = .slice (some ⟨b, 0, none⟩) n c ∧ w.cell? ⟨b, i, none⟩ = some (.int .i64 l) ∧ b < w.heap.size := by
  obtain ⟨A, c, rfl, cl, -, -, ha⟩ := h.form
  obtain ⟨a, rfl, hc, -⟩ := cl i l (last_get (hl.trans hi) hx)
  obtain ⟨b, o, s⟩ := a
  obtain ⟨h1, h2, h3⟩ := ha _ rfl
  dsimp only at h1 h2 h3
  subst h1; subst h2
  refine ⟨b, c, by rw [hl], ?_, h3⟩
  have e : (⟨b, 0, none⟩ : Addr).add i = ⟨b, i, none⟩ := by unfold Addr.add; split <;> simp_all
  rw [← e]; exact hc
theorem nil_row {w : World} {base : Nat} {v : Value} {xs : List Int} (h : OR w base 2 .i64 v xs) (hl : xs.length = 0) : ∃ A c, v = .slice A 0 c := by
  obtain ⟨A, c, rfl, -⟩ := h.form
  exact ⟨A, c, by rw [hl]⟩
theorem put4 {w : World} {k : Nat} {m b r q : Value} {t : TypeId} (h : w.heap[k]? = some (.cells #[m, b, r, q] t (0, 0))) (x y z u : Value) : ((((w.setCell ⟨k, 0, none⟩ x).setCell ⟨k, 1, none⟩ y).setCell ⟨k, 2, none⟩ z).setCell ⟨k, 3, none⟩ u).heap[k]? = some (.cells #[x, y, z, u] t (0, 0)) := by
  replace h : (w.setCell ⟨k, 0, none⟩ x).heap[k]? = some (.cells #[x, b, r, q] t (0, 0)) := heap_setCell_same w k 0 _ _ _ h
  replace h : ((w.setCell ⟨k, 0, none⟩ x).setCell ⟨k, 1, none⟩ y).heap[k]? = some (.cells #[x, y, r, q] t (0, 0)) := heap_setCell_same _ k 1 _ _ _ h
  replace h : (((w.setCell ⟨k, 0, none⟩ x).setCell ⟨k, 1, none⟩ y).setCell ⟨k, 2, none⟩ z).heap[k]? = some (.cells #[x, y, z, q] t (0, 0)) := heap_setCell_same _ k 2 _ _ _ h
  exact heap_setCell_same _ k 3 _ _ _ h
theorem below4 {w0 w : World} {k : Nat} (h : Below w0.heap.size w0 w) (hk : w0.heap.size ≤ k) (x y z u : Value) : Below w0.heap.size w0 ((((w.setCell ⟨k, 0, none⟩ x).setCell ⟨k, 1, none⟩ y).setCell ⟨k, 2, none⟩ z).setCell ⟨k, 3, none⟩ u) :=
  (((h.setCell hk _).setCell hk _).setCell hk _).setCell hk _
theorem kept4 (w : World) (k : Nat) (x y z u : Value) : Kept k w ((((w.setCell ⟨k, 0, none⟩ x).setCell ⟨k, 1, none⟩ y).setCell ⟨k, 2, none⟩ z).setCell ⟨k, 3, none⟩ u) := (kept3 w k x y z).trans (kept1 _ k 3 u)
theorem cells4 {w : World} {j : Nat} {x y z u : Value} {t : TypeId} (h : w.heap[j]? = some (.cells #[x, y, z, u] t (0, 0))) : w.cell? ⟨j, 0, none⟩ = some x ∧ w.cell? ⟨j, 1, none⟩ = some y ∧ w.cell? ⟨j, 2, none⟩ = some z ∧ w.cell? ⟨j, 3, none⟩ = some u :=
  ⟨cell_of_row w j 0 _ _ _ h, cell_of_row w j 1 _ _ _ h, cell_of_row w j 2 _ _ _ h, cell_of_row w j 3 _ _ _ h⟩
theorem frozen4 {w : World} {j : Nat} {x y z u : Value} {t : TypeId} (h : w.heap[j]? = some (.cells #[x, y, z, u] t (0, 0))) : w.frozen? ⟨j, 0, none⟩ = false ∧ w.frozen? ⟨j, 1, none⟩ = false ∧ w.frozen? ⟨j, 2, none⟩ = false ∧ w.frozen? ⟨j, 3, none⟩ = false :=
  ⟨frozen_of_row w j 0 _ _ h, frozen_of_row w j 1 _ _ h, frozen_of_row w j 2 _ _ h, frozen_of_row w j 3 _ _ h⟩
theorem results_b {fn : Func} {p u : Tmp} (h : fn.results = #[.cell p 76, .tmp u]) (tmps : Array Value) (w : World) (g : Nat) (t : TypeId) (x1 x2 x3 x4 : Value) (fr : Nat × Nat)
    (hp : tmps.getD p undef = .pointer (some ⟨g, 0, none⟩)) (hg : w.heap[g]? = some (.cells #[x1, x2, x3, x4] t fr)) :
    (results fn tmps).run Try.prog w = .ok (.tuple #[.agg #[x1, x2, x3, x4], tmps.getD u undef]) w := by
  have hp' : tmps[p]?.getD undef = .pointer (some ⟨g, 0, none⟩) := by simpa using hp
  simp [results, h, hp', asAddr, run_loadVar_row w g t 76 #[x1, x2, x3, x4] fr _ hg Try.underlying76 rfl (by kernel_rfl)]
theorem ret_b {fn : Func} {R : Ending → World → Prop} {p u : Tmp} (h : fn.results = #[.cell p 76, .tmp u]) {tmps : Array Value} {w : World} {g : Nat} {x1 x2 x3 x4 : Value} {t : TypeId} {fr : Nat × Nat}
    (hp : tmps.getD p undef = .pointer (some ⟨g, 0, none⟩)) (hg : w.heap[g]? = some (.cells #[x1, x2, x3, x4] t fr)) (hR : R (.returned (.tuple #[.agg #[x1, x2, x3, x4], tmps.getD u undef])) w) :
    bodyPost Try.prog fn R .ret { tmps := tmps, defers := [] } w :=
  bodyPost_ret (results_b h tmps w g t x1 x2 x3 x4 fr hp hg) rfl hR
theorem or_kept {w w1 : World} {k base : Nat} {v : Value} {xs : List Int} (h : OR w base 2 .i64 v xs) (kp : Kept k w w1) (hk : v.ownBlock ≠ some k) : OR w1 base 2 .i64 v xs :=
  ⟨h.1.kept (row := some k) ⟨kp.os, kp.tape, kp.output, kp.size, fun j hj hne => kp.block j (fun e => hne (by rw [e])) hj⟩ (by
    cases hv : v.ownBlock with
    | none => exact Or.inl rfl
    | some i => exact Or.inr (by rw [← hv]; exact hk)), h.2⟩
theorem step_kept {w w1 w2 : World} {k : Nat} {v v' : Value} (h : Step w v w1 v') (kp : Kept k w1 w2) (hk : w.heap.size ≤ k) : Step w v w2 v' :=
  ⟨⟨kp.os.trans h.g.os, kp.tape.trans h.g.tape, kp.output.trans h.g.output, Nat.le_trans h.g.size kp.size, fun j hj hne => (kp.block j (by omega) (Nat.lt_of_lt_of_le hj h.g.size)).trans (h.g.block j hj hne)⟩, h.m⟩
abbrev nil : Value := .slice none 0 0
set_option maxHeartbeats 2000000 in
theorem refTake_no (g j : Int) (base : Nat) (v : Value) (xs : List Int) (n : Nat) (l m t : Int) (w : World) (hr : rgt g j = true) (F : Fit g j n l m) (h : OR w base 2 .i64 v xs) (hn : xs.length = n) (hl : 0 < n → xs.getLast? = some l) (hN : n < 4611686018427387904) (hk : okB j n l m t = false) :
    Calls Try.prog 30 #[RV g j v m, .int .i64 t] w fun e w' => e = .returned (.tuple #[RV g j v m, .bool false]) ∧ Below w.heap.size w w' := by
  have X0 := ((Stay.start w).alloc (rb g j v m)).alloc (rb 0 0 nil 0)
  rw [World.size_alloc] at X0
  have X := Lib.hid X0
  clear X0
  cases ht : far t with
  | true =>
    obtain ⟨A, c, rfl, -⟩ := h.form
    clear h hr F hn hl hN hk
    go_enter Try.func30, Try.ntmps30
    go_wp2_with (go_at_call 63; refine (refFar_any _ _).mono ?_; rintro e w' ⟨rfl, rfl⟩; rw [ht])
    exact ret_b rfl rfl (heap_at (by simp) _) ⟨rfl, al (al (Below.refl _ _) _) _⟩
  | false =>
    have tb := far_iff.1 ht
    have hp : 0 < n := by
      rcases Nat.eq_zero_or_pos n with rfl | hp
      · rw [okB_iff.2 ⟨tb, Or.inl rfl⟩] at hk; cases hk
      · exact hp
    obtain ⟨i, hi⟩ : ∃ i, n = i + 1 := ⟨n - 1, by omega⟩
    obtain ⟨b, c, rfl, hc, hb⟩ := last_cell h hn hi (hl hp)
    have f := F.resolve_left (by omega)
    have gb := rgt_iff.1 hr
    obtain rfl : i = n - 1 := by omega
    have c1 : ((w.alloc (rb g j (.slice (some ⟨b, 0, none⟩) n c) m)).alloc (rb 0 0 nil 0)).cell? ⟨b, n - 1, none⟩ = some (.int .i64 l) := cell_keep hc (al (al (Below.refl _ _) _) _)
    have p1 : (0 : Int) < (n : Int) := by omega
    have p2 : (n : Int) - 1 < (n : Int) := by omega
    have p3 : n - 1 < n := by omega
    have p4 : (0 : Int) ≤ (n : Int) - 1 := by omega
    have e2 : wrap64 ((n : Int) - 1) = (n : Int) - 1 := by unfold wrap64; omega
    have e1 : wrap64 (t + j) = t + j := by unfold wrap64; omega
    have hno : ¬ (l ≤ t ∧ m - j ≤ t) := fun h => by rw [okB_iff.2 ⟨tb, Or.inr h⟩] at hk; cases hk
    by_cases hA : t < l
    · clear h hn hl hp F f gb hr hc hi hno tb hk hN
      go_enter Try.func30, Try.ntmps30
      go_wp2_with (go_at_call 63; refine (refFar_any _ _).mono ?_; rintro e w' ⟨rfl, rfl⟩; rw [ht])
      exact ret_b rfl rfl (heap_at (by simp) _) ⟨rfl, al (al (Below.refl _ _) _) _⟩
    · have hB : t + j < m := by omega
      clear h hn hl hp F f gb hr hc hi hno tb hk hN
      go_enter Try.func30, Try.ntmps30
      go_wp2_with (go_at_call 63; refine (refFar_any _ _).mono ?_; rintro e w' ⟨rfl, rfl⟩; rw [ht])
      exact ret_b rfl rfl (heap_at (by simp) _) ⟨rfl, al (al (Below.refl _ _) _) _⟩
end Go.Proofs.Ytecgpibidcifpaa.BucketW


/- The document's own Take where a frame passes. -/
namespace Go.Proofs.Ytecgpibidcifpaa.BucketW
open Shell (takeR skipR aput lset)
open Go.RowKit Shell
/-- A stretch of code whose ways out meet, but for a slice's place and room and the world, of which S is known. -/
theorem wp_slice {P : Program} {c : Code} {Q : Exit → Act → World → Prop} {a : Act} {w : World} (A2 : Option Addr → Nat → Act) (S : Option Addr → Nat → World → Prop) (h : c.wp P (fun e a' w' => ∃ A r, e = Exit.normal ∧ a' = A2 A r ∧ S A r w') a w) (hm : ∀ A r W, S A r W → Q .normal (A2 A r) W) : c.wp P Q a w :=
  Code.wp_mono (fun _ _ _ ⟨A, r, h1, h2, h3⟩ => by subst h1; subst h2; exact hm A r _ h3) h
theorem new_far {w w3 : World} {p : Nat} {v v3 : Value} {base : Nat} (s : Step w v w3 v3) (hl : ∀ k, v.ownBlock = some k → base ≤ k ∧ k < p) (hN : p + 1 < w.heap.size) : v3.ownBlock ≠ some (p + 1) := by
  intro e
  rcases s.m with h | ⟨k, h, hk⟩
  · have := hl (p + 1) (h ▸ e); omega
  · rw [e] at h; cases h; omega
set_option maxHeartbeats 4000000 in
set_option maxRecDepth 100000 in
theorem refTake_ok (g j : Int) (base : Nat) (v : Value) (xs : List Int) (n : Nat) (l m t : Int) (w : World) (hr : rgt g j = true) (h : OR w base 2 .i64 v xs) (hn : xs.length = n) (hl : 0 < n → xs.getLast? = some l) (hN : (n + 1) * 8 ≤ 140737488355328) (hb : base ≤ w.heap.size) (hk : okB j n l m t = true) :
    Calls Try.prog 30 #[RV g j v m, .int .i64 t] w fun e w' => ∃ v', e = .returned (.tuple #[RV g j v' (mk g n m t), .bool true]) ∧ OR w' base 2 .i64 v' (xs ++ [t]) ∧ Step w v w' v' := by
  obtain ⟨tb, ho⟩ := okB_iff.1 hk
  have ht := far_iff.2 tb
  have gb := rgt_iff.1 hr
  have X0 := ((Stay.start w).alloc (rb g j v m)).alloc (rb 0 0 nil 0)
  rw [World.size_alloc] at X0
  have X := Lib.hid X0
  have HO := Lib.hid ((h.alloc (rb g j v m)).alloc (rb 0 0 nil 0))
  have LT := Lib.hid h.lt
  have HB := Lib.hid hb
  have HL := Lib.hid hn
  have HN := Lib.hid hN
  have TT := Lib.hid (show -4611686018427387904 ≤ t ∧ t < 4611686018427387904 by omega)
  have hmk : (if n = 0 ∨ m < t then t else m) + g = mk g n m t := rfl
  have ft := (fit_take (g := g) (n := n) (l := l) (m := m) gb.2.1 hk).resolve_left (by omega)
  have e3 : IntKind.i64.wrap (mk g n m t) = mk g n m t := by rw [IntKind.wrap_i64]; omega
  have E3 := Lib.hid e3
  have S0 := Lib.hid (Step.trans (Step.alloc w v (rb g j v m)) (Step.alloc _ v (rb 0 0 nil 0)))
  clear X0
  rcases Nat.eq_zero_or_pos n with h0 | hp
  · subst h0
    rw [if_pos (Or.inl rfl)] at hmk
    obtain ⟨A, c, rfl⟩ := nil_row h hn
    clear h hr hn hl hN hk tb ho gb ft e3 hb
    generalize mk g 0 m t = q at *
    go_enter Try.func30, Try.ntmps30
    go_upto_region 1 with (go_at_call 63; refine (refFar_any _ _).mono ?_; rintro e w' ⟨rfl, rfl⟩; rw [ht])
    generalize (w.alloc (rb g j (.slice A 0 c) m)).alloc (rb 0 0 nil 0) = W at *
    generalize hp : w.heap.size = p at *
    have HP := Lib.hid hp
    clear hp
    obtain ⟨c0, c1, c2, c3⟩ := cells4 (X.out.at 1 rfl)
    go_upto_region 7 with (go_at_call 63; refine (refFar_any _ _).mono ?_; rintro e w' ⟨rfl, rfl⟩; rw [ht])
    have CX : Hid (CL ((W.alloc (.cells #[.int .i64 t] 2)).drew) .i64 (some ⟨W.heap.size, 0, none⟩) [t]) := Lib.hid (cl_one W t TT.out.1 TT.out.2 2)
    have OX : Hid (OR (W.alloc (.cells #[.int .i64 t] 2)).drew base 2 .i64 (.slice A 0 c) xs) := Lib.hid (HO.out.alloc _).drew
    have SX : Hid (Step w (.slice A 0 c) (W.alloc (.cells #[.int .i64 t] 2)).drew (.slice A 0 c)) := Lib.hid ((S0.out.trans (Step.alloc _ _ _)).trans (Step.drew _ _))
    have XX : Hid (Stay w [(p + 1, rb 0 0 nil 0), (p, rb g j (.slice A 0 c) m)] (W.alloc (.cells #[.int .i64 t] 2)).drew) := Lib.hid (X.out.next ((Below.refl _ _).alloc (Nat.le_refl _) _)).drew
    have BX : Hid (base ≤ (W.alloc (.cells #[.int .i64 t] 2)).drew.heap.size) := Lib.hid (by have := HB.out; have := X.out.b.size; have := HP.out; show base ≤ (W.alloc _).heap.size; rw [World.size_alloc]; omega)
    have ZX : Hid (p + 1 < (W.alloc (.cells #[.int .i64 t] 2)).drew.heap.size) := Lib.hid (lt_of_heap (XX.out.at 0 rfl))
    have LX : Hid ((xs.length + 1) * 8 ≤ 140737488355328) := Lib.hid (by rw [HL.out]; exact HN.out)
    obtain ⟨N, hN⟩ : ∃ N, (xs ++ [t]).length = N := ⟨_, rfl⟩
    have LN := Lib.hid hN
    have e3 : IntKind.i64.wrap q = q := E3.out
    clear hN S0 HO HN HL TT
    apply wp_slice (S := fun A' c' w' => OR w' base 2 .i64 (.slice A' N c') (xs ++ [t]) ∧ Step w (.slice A 0 c) w' (.slice A' N c') ∧ w'.heap[p + 1]? = some (rb g j (.slice A' N c') q))
    case h =>
      refine wp_region_noPanic ?_
      refine wp_region_held_drew (S := fun Z : World => Z.heap[p]? = some (rb g j (.slice A 0 c) m)) (by kernel_rfl) (X.out.drew.at 1 rfl) (fun hHeld => ?_)
      refine takeR 0 (some 47) ?_ ?_ ?_; rotate_left; (focus (intros; go_simp; (try with_reducible rfl)))
      simp only [aput, lset]
      refine takeR 1 (some 48) ?_ ?_ ?_; rotate_left; (focus (intro w hSw; (try dsimp only at hSw); obtain ⟨y0, y1, y2, y3⟩ := cells4 hSw; go_simp; (try with_reducible rfl)))
      simp only [aput, lset]
      refine takeR 2 (some 49) ?_ ?_ ?_; rotate_left; (focus (intros; go_simp; (try with_reducible rfl)))
      simp only [aput, lset]
      refine takeR 3 (some 50) ?_ ?_ ?_; rotate_left; (focus (intro w hSw; (try dsimp only at hSw); obtain ⟨y0, y1, y2, y3⟩ := cells4 hSw; go_simp; (try with_reducible rfl)))
      simp only [aput, lset]
      refine takeR 4 (some 51) ?_ ?_ ?_; rotate_left; (focus (intros; go_simp; (try with_reducible rfl)))
      simp only [aput, lset]
      refine takeR 5 (some 52) ?_ ?_ ?_; rotate_left; (focus (intro w hSw; (try dsimp only at hSw); obtain ⟨y0, y1, y2, y3⟩ := cells4 hSw; go_simp; (try with_reducible rfl)))
      simp only [aput, lset]
      refine takeR 6 (some 53) ?_ ?_ ?_; rotate_left; (focus (intros; go_simp; (try with_reducible rfl)))
      simp only [aput, lset]
      refine takeR 9 (some 56) ?_ ?_ ?_; rotate_left; (focus (intros; go_simp; (try with_reducible rfl)))
      simp only [aput, lset]
      refine takeR 10 (some 57) ?_ ?_ ?_; rotate_left; (focus (intros; go_simp; (try with_reducible rfl)))
      simp only [aput, lset]
      refine takeR 11 (some 58) ?_ ?_ ?_; rotate_left; (focus (intro w hSw; (try dsimp only at hSw); obtain ⟨y0, y1, y2, y3⟩ := cells4 hSw; go_simp; (try with_reducible rfl)))
      simp only [aput, lset]
      refine takeR 12 (some 59) ?_ ?_ ?_; rotate_left; (focus (intros; go_simp; (try with_reducible rfl)))
      simp only [aput, lset]
      refine wpAnyH_ready (rs := [7]) (by kernel_rfl) (by simp) ?_
      refine AllReadyH.cons (o := ⟨some 54, _, _, _, _, _⟩) rfl (fun K hK => ?_) AllReadyH.nil
      rw [if_pos (by kernel_rfl)]
      go_simp
      refine hK.out _ _ (XX.out.at 1 rfl) (fun hHeld => ?_)
      clear hK K
      refine wpAnyH_ready (rs := [8]) (by kernel_rfl) (by simp) ?_
      refine AllReadyH.cons (o := ⟨some 55, _, _, _, _, _⟩) rfl (fun K hK => ?_) AllReadyH.nil
      refine step_append_or i64_one rfl _ _ rfl base (.slice A 0 c) xs rfl OX.out ⟨W.heap.size, 0, none⟩ 1 1 [t] rfl rfl CX.out LX.out (by decide) BX.out ?_
      intro v3 w3 o3 s3
      have NE : v3.ownBlock ≠ some (p + 1) := new_far s3 LT.out ZX.out
      have hx3 : w3.heap[p]? = some (rb g j (.slice A 0 c) m) := (s3.g.block _ (lt_of_heap (XX.out.at 1 rfl)) (fun e => by have := (LT.out _ e.symm).2; omega)).trans (XX.out.at 1 rfl)
      have hy3 : w3.heap[p + 1]? = some (rb 0 0 nil 0) := (s3.g.block _ (lt_of_heap (XX.out.at 0 rfl)) (fun e => by have := (LT.out _ e.symm).2; omega)).trans (XX.out.at 0 rfl)
      obtain ⟨A3, c3, rfl, -⟩ := o3.form
      rw [LN.out] at o3 NE s3 ⊢
      have NE := Lib.hid NE
      have O3 := Lib.hid o3
      have S3 := Lib.hid (SX.out.trans s3)
      have X3 := Lib.hid hx3
      have Y3 := Lib.hid hy3
      clear hx3 hy3 o3 s3
      refine hK.out _ _ X3.out (fun hHeld => ?_)
      clear hK K
      refine takeR 13 (some 60) ?_ ?_ ?_; rotate_left; (focus (intros; go_simp; (try with_reducible rfl)))
      simp only [aput, lset]
      obtain ⟨k0, k1, k2, k3⟩ := cells4 Y3.out
      obtain ⟨f0, f1, f2, f3⟩ := frozen4 Y3.out
      have Z1 := Lib.hid (or_kept O3.out (kept4 w3 (p + 1) (.int .i64 g) (.int .i64 j) (.slice A3 N c3) (.int .i64 q)) NE.out)
      have Z2 := Lib.hid (step_kept S3.out (kept4 w3 (p + 1) (.int .i64 g) (.int .i64 j) (.slice A3 N c3) (.int .i64 q)) (by have := HP.out; omega))
      have Z3 := Lib.hid (put4 Y3.out (.int .i64 g) (.int .i64 j) (.slice A3 N c3) (.int .i64 q))
      refine wpAnyH_ready (rs := [14]) (by kernel_rfl) (by simp) ?_
      refine AllReadyH.cons (o := ⟨none, _, _, _, _, _⟩) rfl (fun K hK => ?_) AllReadyH.nil
      rw [if_pos (by kernel_rfl)]
      go_simp
      refine hK.out _ _ (((kept4 w3 (p + 1) (.int .i64 g) (.int .i64 j) (.slice A3 N c3) (.int .i64 q)).block p (by omega) (lt_of_heap X3.out)).trans X3.out) (fun hHeld => ?_)
      clear hK K
      refine takeR 15 (some 5) ?_ ?_ ?_; rotate_left; (focus (intros; go_simp; (try with_reducible rfl)))
      simp only [aput, lset]
      refine wpAnyH_done (by kernel_rfl) ?_ _
      exact NoPanic.normal ⟨A3, c3, rfl, rfl, Z1.out, Z2.out, Z3.out⟩
    case hm =>
    rintro A3 c3 w3 ⟨o3, s3, y3⟩
    have O3 := Lib.hid o3
    have S3 := Lib.hid s3
    have Y3 := Lib.hid y3
    clear o3 s3 y3
    go_wp2
    exact ret_b rfl rfl Y3.out ⟨.slice A3 N c3, rfl, O3.out, S3.out⟩
  · obtain ⟨i, hi⟩ : ∃ i, n = i + 1 := ⟨n - 1, by omega⟩
    obtain ⟨b, c, rfl, hc, hb⟩ := last_cell h hn hi (hl hp)
    obtain rfl : i = n - 1 := by omega
    have k1 : ((w.alloc (rb g j (.slice (some ⟨b, 0, none⟩) n c) m)).alloc (rb 0 0 nil 0)).cell? ⟨b, n - 1, none⟩ = some (.int .i64 l) := cell_keep hc (al (al (Below.refl _ _) _) _)
    have p1 : (0 : Int) < (n : Int) := by omega
    have p2 : (n : Int) - 1 < (n : Int) := by omega
    have p3 : n - 1 < n := by omega
    have p4 : (0 : Int) ≤ (n : Int) - 1 := by omega
    have p5 : ¬ n = 0 := by omega
    have p6 : ((n : Int) == 0) = false := by rw [beq_eq_false_iff_ne]; omega
    have e2 : wrap64 ((n : Int) - 1) = (n : Int) - 1 := by unfold wrap64; omega
    have e1 : wrap64 (t + j) = t + j := by unfold wrap64; omega
    have hA : ¬ t < l := by omega
    have hB : ¬ t + j < m := by omega
    by_cases hm : m < t
    · rw [if_pos (Or.inr hm)] at hmk
      clear h hr hn hl hN hk tb ho gb ft e3 hb hp hi hc
      generalize mk g n m t = q at *
      go_enter Try.func30, Try.ntmps30
      go_upto_region 1 with (go_at_call 63; refine (refFar_any _ _).mono ?_; rintro e w' ⟨rfl, rfl⟩; rw [ht])
      generalize (w.alloc (rb g j (.slice (some ⟨b, 0, none⟩) n c) m)).alloc (rb 0 0 nil 0) = W at *
      generalize hp : w.heap.size = p at *
      have HP := Lib.hid hp
      clear hp
      obtain ⟨c0, c1, c2, c3⟩ := cells4 (X.out.at 1 rfl)
      go_upto_region 7 with (go_at_call 63; refine (refFar_any _ _).mono ?_; rintro e w' ⟨rfl, rfl⟩; rw [ht])
      have CX : Hid (CL ((W.alloc (.cells #[.int .i64 t] 2)).drew) .i64 (some ⟨W.heap.size, 0, none⟩) [t]) := Lib.hid (cl_one W t TT.out.1 TT.out.2 2)
      have OX : Hid (OR (W.alloc (.cells #[.int .i64 t] 2)).drew base 2 .i64 (.slice (some ⟨b, 0, none⟩) n c) xs) := Lib.hid (HO.out.alloc _).drew
      have SX : Hid (Step w (.slice (some ⟨b, 0, none⟩) n c) (W.alloc (.cells #[.int .i64 t] 2)).drew (.slice (some ⟨b, 0, none⟩) n c)) := Lib.hid ((S0.out.trans (Step.alloc _ _ _)).trans (Step.drew _ _))
      have XX : Hid (Stay w [(p + 1, rb 0 0 nil 0), (p, rb g j (.slice (some ⟨b, 0, none⟩) n c) m)] (W.alloc (.cells #[.int .i64 t] 2)).drew) := Lib.hid (X.out.next ((Below.refl _ _).alloc (Nat.le_refl _) _)).drew
      have BX : Hid (base ≤ (W.alloc (.cells #[.int .i64 t] 2)).drew.heap.size) := Lib.hid (by have := HB.out; have := X.out.b.size; have := HP.out; show base ≤ (W.alloc _).heap.size; rw [World.size_alloc]; omega)
      have ZX : Hid (p + 1 < (W.alloc (.cells #[.int .i64 t] 2)).drew.heap.size) := Lib.hid (lt_of_heap (XX.out.at 0 rfl))
      have LX : Hid ((xs.length + 1) * 8 ≤ 140737488355328) := Lib.hid (by rw [HL.out]; exact HN.out)
      obtain ⟨N, hN⟩ : ∃ N, (xs ++ [t]).length = N := ⟨_, rfl⟩
      have LN := Lib.hid hN
      have e3 : IntKind.i64.wrap q = q := E3.out
      clear hN S0 HO HN HL TT
      apply wp_slice (S := fun A' c' w' => OR w' base 2 .i64 (.slice A' N c') (xs ++ [t]) ∧ Step w (.slice (some ⟨b, 0, none⟩) n c) w' (.slice A' N c') ∧ w'.heap[p + 1]? = some (rb g j (.slice A' N c') q))
      case h =>
        refine wp_region_noPanic ?_
        refine wp_region_held_drew (S := fun Z : World => Z.heap[p]? = some (rb g j (.slice (some ⟨b, 0, none⟩) n c) m)) (by kernel_rfl) (X.out.drew.at 1 rfl) (fun hHeld => ?_)
        refine takeR 0 (some 47) ?_ ?_ ?_; rotate_left; (focus (intros; go_simp; (try with_reducible rfl)))
        simp only [aput, lset]
        refine takeR 1 (some 48) ?_ ?_ ?_; rotate_left; (focus (intro w hSw; (try dsimp only at hSw); obtain ⟨y0, y1, y2, y3⟩ := cells4 hSw; go_simp; (try with_reducible rfl)))
        simp only [aput, lset]
        refine takeR 2 (some 49) ?_ ?_ ?_; rotate_left; (focus (intros; go_simp; (try with_reducible rfl)))
        simp only [aput, lset]
        refine takeR 3 (some 50) ?_ ?_ ?_; rotate_left; (focus (intro w hSw; (try dsimp only at hSw); obtain ⟨y0, y1, y2, y3⟩ := cells4 hSw; go_simp; (try with_reducible rfl)))
        simp only [aput, lset]
        refine takeR 4 (some 51) ?_ ?_ ?_; rotate_left; (focus (intros; go_simp; (try with_reducible rfl)))
        simp only [aput, lset]
        refine takeR 5 (some 52) ?_ ?_ ?_; rotate_left; (focus (intro w hSw; (try dsimp only at hSw); obtain ⟨y0, y1, y2, y3⟩ := cells4 hSw; go_simp; (try with_reducible rfl)))
        simp only [aput, lset]
        refine takeR 6 (some 53) ?_ ?_ ?_; rotate_left; (focus (intros; go_simp; (try with_reducible rfl)))
        simp only [aput, lset]
        refine takeR 9 (some 56) ?_ ?_ ?_; rotate_left; (focus (intros; go_simp; (try with_reducible rfl)))
        simp only [aput, lset]
        refine takeR 10 (some 57) ?_ ?_ ?_; rotate_left; (focus (intros; go_simp; (try with_reducible rfl)))
        simp only [aput, lset]
        refine takeR 11 (some 58) ?_ ?_ ?_; rotate_left; (focus (intro w hSw; (try dsimp only at hSw); obtain ⟨y0, y1, y2, y3⟩ := cells4 hSw; go_simp; (try with_reducible rfl)))
        simp only [aput, lset]
        refine takeR 12 (some 59) ?_ ?_ ?_; rotate_left; (focus (intros; go_simp; (try with_reducible rfl)))
        simp only [aput, lset]
        refine wpAnyH_ready (rs := [7]) (by kernel_rfl) (by simp) ?_
        refine AllReadyH.cons (o := ⟨some 54, _, _, _, _, _⟩) rfl (fun K hK => ?_) AllReadyH.nil
        rw [if_pos (by kernel_rfl)]
        go_simp
        refine hK.out _ _ (XX.out.at 1 rfl) (fun hHeld => ?_)
        clear hK K
        refine wpAnyH_ready (rs := [8]) (by kernel_rfl) (by simp) ?_
        refine AllReadyH.cons (o := ⟨some 55, _, _, _, _, _⟩) rfl (fun K hK => ?_) AllReadyH.nil
        refine step_append_or i64_one rfl _ _ rfl base (.slice (some ⟨b, 0, none⟩) n c) xs rfl OX.out ⟨W.heap.size, 0, none⟩ 1 1 [t] rfl rfl CX.out LX.out (by decide) BX.out ?_
        intro v3 w3 o3 s3
        have NE : v3.ownBlock ≠ some (p + 1) := new_far s3 LT.out ZX.out
        have hx3 : w3.heap[p]? = some (rb g j (.slice (some ⟨b, 0, none⟩) n c) m) := (s3.g.block _ (lt_of_heap (XX.out.at 1 rfl)) (fun e => by have := (LT.out _ e.symm).2; omega)).trans (XX.out.at 1 rfl)
        have hy3 : w3.heap[p + 1]? = some (rb 0 0 nil 0) := (s3.g.block _ (lt_of_heap (XX.out.at 0 rfl)) (fun e => by have := (LT.out _ e.symm).2; omega)).trans (XX.out.at 0 rfl)
        obtain ⟨A3, c3, rfl, -⟩ := o3.form
        rw [LN.out] at o3 NE s3 ⊢
        have NE := Lib.hid NE
        have O3 := Lib.hid o3
        have S3 := Lib.hid (SX.out.trans s3)
        have X3 := Lib.hid hx3
        have Y3 := Lib.hid hy3
        clear hx3 hy3 o3 s3
        refine hK.out _ _ X3.out (fun hHeld => ?_)
        clear hK K
        refine takeR 13 (some 60) ?_ ?_ ?_; rotate_left; (focus (intros; go_simp; (try with_reducible rfl)))
        simp only [aput, lset]
        obtain ⟨k0, k1, k2, k3⟩ := cells4 Y3.out
        obtain ⟨f0, f1, f2, f3⟩ := frozen4 Y3.out
        have Z1 := Lib.hid (or_kept O3.out (kept4 w3 (p + 1) (.int .i64 g) (.int .i64 j) (.slice A3 N c3) (.int .i64 q)) NE.out)
        have Z2 := Lib.hid (step_kept S3.out (kept4 w3 (p + 1) (.int .i64 g) (.int .i64 j) (.slice A3 N c3) (.int .i64 q)) (by have := HP.out; omega))
        have Z3 := Lib.hid (put4 Y3.out (.int .i64 g) (.int .i64 j) (.slice A3 N c3) (.int .i64 q))
        refine wpAnyH_ready (rs := [14]) (by kernel_rfl) (by simp) ?_
        refine AllReadyH.cons (o := ⟨none, _, _, _, _, _⟩) rfl (fun K hK => ?_) AllReadyH.nil
        rw [if_pos (by kernel_rfl)]
        go_simp
        refine hK.out _ _ (((kept4 w3 (p + 1) (.int .i64 g) (.int .i64 j) (.slice A3 N c3) (.int .i64 q)).block p (by omega) (lt_of_heap X3.out)).trans X3.out) (fun hHeld => ?_)
        clear hK K
        refine takeR 15 (some 5) ?_ ?_ ?_; rotate_left; (focus (intros; go_simp; (try with_reducible rfl)))
        simp only [aput, lset]
        refine wpAnyH_done (by kernel_rfl) ?_ _
        exact NoPanic.normal ⟨A3, c3, rfl, rfl, Z1.out, Z2.out, Z3.out⟩
      case hm =>
      rintro A3 c3 w3 ⟨o3, s3, y3⟩
      have O3 := Lib.hid o3
      have S3 := Lib.hid s3
      have Y3 := Lib.hid y3
      clear o3 s3 y3
      go_wp2
      exact ret_b rfl rfl Y3.out ⟨.slice A3 N c3, rfl, O3.out, S3.out⟩
    · rw [if_neg (by omega)] at hmk
      clear h hr hn hl hN hk tb ho gb ft e3 hb hp hi hc
      generalize mk g n m t = q at *
      go_enter Try.func30, Try.ntmps30
      go_upto_region 1 with (go_at_call 63; refine (refFar_any _ _).mono ?_; rintro e w' ⟨rfl, rfl⟩; rw [ht])
      generalize (w.alloc (rb g j (.slice (some ⟨b, 0, none⟩) n c) m)).alloc (rb 0 0 nil 0) = W at *
      generalize hp : w.heap.size = p at *
      have HP := Lib.hid hp
      clear hp
      obtain ⟨c0, c1, c2, c3⟩ := cells4 (X.out.at 1 rfl)
      go_upto_region 7 with (go_at_call 63; refine (refFar_any _ _).mono ?_; rintro e w' ⟨rfl, rfl⟩; rw [ht])
      have CX : Hid (CL ((W.alloc (.cells #[.int .i64 t] 2)).drew) .i64 (some ⟨W.heap.size, 0, none⟩) [t]) := Lib.hid (cl_one W t TT.out.1 TT.out.2 2)
      have OX : Hid (OR (W.alloc (.cells #[.int .i64 t] 2)).drew base 2 .i64 (.slice (some ⟨b, 0, none⟩) n c) xs) := Lib.hid (HO.out.alloc _).drew
      have SX : Hid (Step w (.slice (some ⟨b, 0, none⟩) n c) (W.alloc (.cells #[.int .i64 t] 2)).drew (.slice (some ⟨b, 0, none⟩) n c)) := Lib.hid ((S0.out.trans (Step.alloc _ _ _)).trans (Step.drew _ _))
      have XX : Hid (Stay w [(p + 1, rb 0 0 nil 0), (p, rb g j (.slice (some ⟨b, 0, none⟩) n c) m)] (W.alloc (.cells #[.int .i64 t] 2)).drew) := Lib.hid (X.out.next ((Below.refl _ _).alloc (Nat.le_refl _) _)).drew
      have BX : Hid (base ≤ (W.alloc (.cells #[.int .i64 t] 2)).drew.heap.size) := Lib.hid (by have := HB.out; have := X.out.b.size; have := HP.out; show base ≤ (W.alloc _).heap.size; rw [World.size_alloc]; omega)
      have ZX : Hid (p + 1 < (W.alloc (.cells #[.int .i64 t] 2)).drew.heap.size) := Lib.hid (lt_of_heap (XX.out.at 0 rfl))
      have LX : Hid ((xs.length + 1) * 8 ≤ 140737488355328) := Lib.hid (by rw [HL.out]; exact HN.out)
      obtain ⟨N, hN⟩ : ∃ N, (xs ++ [t]).length = N := ⟨_, rfl⟩
      have LN := Lib.hid hN
      have e3 : IntKind.i64.wrap q = q := E3.out
      clear hN S0 HO HN HL TT
      apply wp_slice (S := fun A' c' w' => OR w' base 2 .i64 (.slice A' N c') (xs ++ [t]) ∧ Step w (.slice (some ⟨b, 0, none⟩) n c) w' (.slice A' N c') ∧ w'.heap[p + 1]? = some (rb g j (.slice A' N c') q))
      case h =>
        refine wp_region_noPanic ?_
        refine wp_region_held_drew (S := fun Z : World => Z.heap[p]? = some (rb g j (.slice (some ⟨b, 0, none⟩) n c) m)) (by kernel_rfl) (X.out.drew.at 1 rfl) (fun hHeld => ?_)
        refine takeR 0 (some 47) ?_ ?_ ?_; rotate_left; (focus (intros; go_simp; (try with_reducible rfl)))
        simp only [aput, lset]
        refine takeR 1 (some 48) ?_ ?_ ?_; rotate_left; (focus (intro w hSw; (try dsimp only at hSw); obtain ⟨y0, y1, y2, y3⟩ := cells4 hSw; go_simp; (try with_reducible rfl)))
        simp only [aput, lset]
        refine takeR 2 (some 49) ?_ ?_ ?_; rotate_left; (focus (intros; go_simp; (try with_reducible rfl)))
        simp only [aput, lset]
        refine takeR 3 (some 50) ?_ ?_ ?_; rotate_left; (focus (intro w hSw; (try dsimp only at hSw); obtain ⟨y0, y1, y2, y3⟩ := cells4 hSw; go_simp; (try with_reducible rfl)))
        simp only [aput, lset]
        refine takeR 4 (some 51) ?_ ?_ ?_; rotate_left; (focus (intros; go_simp; (try with_reducible rfl)))
        simp only [aput, lset]
        refine takeR 5 (some 52) ?_ ?_ ?_; rotate_left; (focus (intro w hSw; (try dsimp only at hSw); obtain ⟨y0, y1, y2, y3⟩ := cells4 hSw; go_simp; (try with_reducible rfl)))
        simp only [aput, lset]
        refine takeR 6 (some 53) ?_ ?_ ?_; rotate_left; (focus (intros; go_simp; (try with_reducible rfl)))
        simp only [aput, lset]
        refine takeR 9 (some 56) ?_ ?_ ?_; rotate_left; (focus (intros; go_simp; (try with_reducible rfl)))
        simp only [aput, lset]
        refine takeR 10 (some 57) ?_ ?_ ?_; rotate_left; (focus (intros; go_simp; (try with_reducible rfl)))
        simp only [aput, lset]
        refine takeR 11 (some 58) ?_ ?_ ?_; rotate_left; (focus (intro w hSw; (try dsimp only at hSw); obtain ⟨y0, y1, y2, y3⟩ := cells4 hSw; go_simp; (try with_reducible rfl)))
        simp only [aput, lset]
        refine takeR 12 (some 59) ?_ ?_ ?_; rotate_left; (focus (intros; go_simp; (try with_reducible rfl)))
        simp only [aput, lset]
        refine wpAnyH_ready (rs := [7]) (by kernel_rfl) (by simp) ?_
        refine AllReadyH.cons (o := ⟨some 54, _, _, _, _, _⟩) rfl (fun K hK => ?_) AllReadyH.nil
        rw [if_pos (by kernel_rfl)]
        go_simp
        refine hK.out _ _ (XX.out.at 1 rfl) (fun hHeld => ?_)
        clear hK K
        refine wpAnyH_ready (rs := [8]) (by kernel_rfl) (by simp) ?_
        refine AllReadyH.cons (o := ⟨some 55, _, _, _, _, _⟩) rfl (fun K hK => ?_) AllReadyH.nil
        refine step_append_or i64_one rfl _ _ rfl base (.slice (some ⟨b, 0, none⟩) n c) xs rfl OX.out ⟨W.heap.size, 0, none⟩ 1 1 [t] rfl rfl CX.out LX.out (by decide) BX.out ?_
        intro v3 w3 o3 s3
        have NE : v3.ownBlock ≠ some (p + 1) := new_far s3 LT.out ZX.out
        have hx3 : w3.heap[p]? = some (rb g j (.slice (some ⟨b, 0, none⟩) n c) m) := (s3.g.block _ (lt_of_heap (XX.out.at 1 rfl)) (fun e => by have := (LT.out _ e.symm).2; omega)).trans (XX.out.at 1 rfl)
        have hy3 : w3.heap[p + 1]? = some (rb 0 0 nil 0) := (s3.g.block _ (lt_of_heap (XX.out.at 0 rfl)) (fun e => by have := (LT.out _ e.symm).2; omega)).trans (XX.out.at 0 rfl)
        obtain ⟨A3, c3, rfl, -⟩ := o3.form
        rw [LN.out] at o3 NE s3 ⊢
        have NE := Lib.hid NE
        have O3 := Lib.hid o3
        have S3 := Lib.hid (SX.out.trans s3)
        have X3 := Lib.hid hx3
        have Y3 := Lib.hid hy3
        clear hx3 hy3 o3 s3
        refine hK.out _ _ X3.out (fun hHeld => ?_)
        clear hK K
        refine takeR 13 (some 60) ?_ ?_ ?_; rotate_left; (focus (intros; go_simp; (try with_reducible rfl)))
        simp only [aput, lset]
        obtain ⟨k0, k1, k2, k3⟩ := cells4 Y3.out
        obtain ⟨f0, f1, f2, f3⟩ := frozen4 Y3.out
        have Z1 := Lib.hid (or_kept O3.out (kept4 w3 (p + 1) (.int .i64 g) (.int .i64 j) (.slice A3 N c3) (.int .i64 q)) NE.out)
        have Z2 := Lib.hid (step_kept S3.out (kept4 w3 (p + 1) (.int .i64 g) (.int .i64 j) (.slice A3 N c3) (.int .i64 q)) (by have := HP.out; omega))
        have Z3 := Lib.hid (put4 Y3.out (.int .i64 g) (.int .i64 j) (.slice A3 N c3) (.int .i64 q))
        refine wpAnyH_ready (rs := [14]) (by kernel_rfl) (by simp) ?_
        refine AllReadyH.cons (o := ⟨none, _, _, _, _, _⟩) rfl (fun K hK => ?_) AllReadyH.nil
        rw [if_pos (by kernel_rfl)]
        go_simp
        refine hK.out _ _ (((kept4 w3 (p + 1) (.int .i64 g) (.int .i64 j) (.slice A3 N c3) (.int .i64 q)).block p (by omega) (lt_of_heap X3.out)).trans X3.out) (fun hHeld => ?_)
        clear hK K
        refine takeR 15 (some 5) ?_ ?_ ?_; rotate_left; (focus (intros; go_simp; (try with_reducible rfl)))
        simp only [aput, lset]
        refine wpAnyH_done (by kernel_rfl) ?_ _
        exact NoPanic.normal ⟨A3, c3, rfl, rfl, Z1.out, Z2.out, Z3.out⟩
      case hm =>
      rintro A3 c3 w3 ⟨o3, s3, y3⟩
      have O3 := Lib.hid o3
      have S3 := Lib.hid s3
      have Y3 := Lib.hid y3
      clear o3 s3 y3
      go_wp2
      exact ret_b rfl rfl Y3.out ⟨.slice A3 N c3, rfl, O3.out, S3.out⟩
end Go.Proofs.Ytecgpibidcifpaa.BucketW

