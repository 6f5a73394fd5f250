/- The document's own Take where a frame passes. -/
import Derived.Test.YtokddpialnkckaaBucketB
namespace Go.Proofs.Ytokddpialnkckaa.BucketW
open Go.RowKit Shell
/-- A stretch of code whose ways out meet, but for a slice's place and room and the world, of which S is known. -/
theorem wp_slice {P : Program} {c : Code} {Q : Exit → Act → World → Prop} {a : Act} {w : World} (A2 : Option Addr → Nat → Act) (S : Option Addr → Nat → World → Prop) (h : c.wp P (fun e a' w' => ∃ A r, e = Exit.normal ∧ a' = A2 A r ∧ S A r w') a w) (hm : ∀ A r W, S A r W → Q .normal (A2 A r) W) : c.wp P Q a w :=
  Code.wp_mono (fun _ _ _ ⟨A, r, h1, h2, h3⟩ => by subst h1; subst h2; exact hm A r _ h3) h
theorem new_far {w w3 : World} {p : Nat} {v v3 : Value} {base : Nat} (s : Step w v w3 v3) (hl : ∀ k, v.ownBlock = some k → base ≤ k ∧ k < p) (hN : p + 1 < w.heap.size) : v3.ownBlock ≠ some (p + 1) := by
  intro e
  rcases s.m with h | ⟨k, h, hk⟩
  · have := hl (p + 1) (h ▸ e); omega
  · rw [e] at h; cases h; omega
set_option maxHeartbeats 4000000 in
set_option maxRecDepth 100000 in
theorem refTake_ok (g j : Int) (base : Nat) (v : Value) (xs : List Int) (n : Nat) (l m t : Int) (w : World) (hr : rgt g j = true) (h : OR w base 2 .i64 v xs) (hn : xs.length = n) (hl : 0 < n → xs.getLast? = some l) (hN : (n + 1) * 8 ≤ 140737488355328) (hb : base ≤ w.heap.size) (hk : okB j n l m t = true) :
    Calls Try.prog 14 #[RV g j v m, .int .i64 t] w fun e w' => ∃ v', e = .returned (.tuple #[RV g j v' (mk g n m t), .bool true]) ∧ OR w' base 2 .i64 v' (xs ++ [t]) ∧ Step w v w' v' := by
  obtain ⟨tb, ho⟩ := okB_iff.1 hk
  have ht := far_iff.2 tb
  have gb := rgt_iff.1 hr
  have X0 := ((Stay.start w).alloc (rb g j v m)).alloc (rb 0 0 nil 0)
  rw [World.size_alloc] at X0
  have X := Lib.hid X0
  have HO := Lib.hid ((h.alloc (rb g j v m)).alloc (rb 0 0 nil 0))
  have LT := Lib.hid h.lt
  have HB := Lib.hid hb
  have HL := Lib.hid hn
  have HN := Lib.hid hN
  have TT := Lib.hid (show -4611686018427387904 ≤ t ∧ t < 4611686018427387904 by omega)
  have hmk : (if n = 0 ∨ m < t then t else m) + g = mk g n m t := rfl
  have ft := (fit_take (g := g) (n := n) (l := l) (m := m) gb.2.1 hk).resolve_left (by omega)
  have e3 : IntKind.i64.wrap (mk g n m t) = mk g n m t := by rw [IntKind.wrap_i64]; omega
  have E3 := Lib.hid e3
  have S0 := Lib.hid (Step.trans (Step.alloc w v (rb g j v m)) (Step.alloc _ v (rb 0 0 nil 0)))
  clear X0
  rcases Nat.eq_zero_or_pos n with h0 | hp
  · subst h0
    rw [if_pos (Or.inl rfl)] at hmk
    obtain ⟨A, c, rfl⟩ := nil_row h hn
    clear h hr hn hl hN hk tb ho gb ft e3 hb
    generalize mk g 0 m t = q at *
    go_enter Try.func14, Try.ntmps14
    go_upto_region 1 with (go_at_call 19; refine (refFar_any _ _).mono ?_; rintro e w' ⟨rfl, rfl⟩; rw [ht])
    generalize (w.alloc (rb g j (.slice A 0 c) m)).alloc (rb 0 0 nil 0) = W at *
    generalize hp : w.heap.size = p at *
    have HP := Lib.hid hp
    clear hp
    obtain ⟨c0, c1, c2, c3⟩ := cells4 (X.out.at 1 rfl)
    go_upto_region 7 with (go_at_call 19; refine (refFar_any _ _).mono ?_; rintro e w' ⟨rfl, rfl⟩; rw [ht])
    have CX : Hid (CL ((W.alloc (.cells #[.int .i64 t] 2)).drew) .i64 (some ⟨W.heap.size, 0, none⟩) [t]) := Lib.hid (cl_one W t TT.out.1 TT.out.2 2)
    have OX : Hid (OR (W.alloc (.cells #[.int .i64 t] 2)).drew base 2 .i64 (.slice A 0 c) xs) := Lib.hid (HO.out.alloc _).drew
    have SX : Hid (Step w (.slice A 0 c) (W.alloc (.cells #[.int .i64 t] 2)).drew (.slice A 0 c)) := Lib.hid ((S0.out.trans (Step.alloc _ _ _)).trans (Step.drew _ _))
    have XX : Hid (Stay w [(p + 1, rb 0 0 nil 0), (p, rb g j (.slice A 0 c) m)] (W.alloc (.cells #[.int .i64 t] 2)).drew) := Lib.hid (X.out.next ((Below.refl _ _).alloc (Nat.le_refl _) _)).drew
    have BX : Hid (base ≤ (W.alloc (.cells #[.int .i64 t] 2)).drew.heap.size) := Lib.hid (by have := HB.out; have := X.out.b.size; have := HP.out; show base ≤ (W.alloc _).heap.size; rw [World.size_alloc]; omega)
    have ZX : Hid (p + 1 < (W.alloc (.cells #[.int .i64 t] 2)).drew.heap.size) := Lib.hid (lt_of_heap (XX.out.at 0 rfl))
    have LX : Hid ((xs.length + 1) * 8 ≤ 140737488355328) := Lib.hid (by rw [HL.out]; exact HN.out)
    obtain ⟨N, hN⟩ : ∃ N, (xs ++ [t]).length = N := ⟨_, rfl⟩
    have LN := Lib.hid hN
    have e3 : IntKind.i64.wrap q = q := E3.out
    clear hN S0 HO HN HL TT
    apply wp_slice (S := fun A' c' w' => OR w' base 2 .i64 (.slice A' N c') (xs ++ [t]) ∧ Step w (.slice A 0 c) w' (.slice A' N c') ∧ w'.heap[p + 1]? = some (rb g j (.slice A' N c') q))
    case h =>
      refine wp_region_noPanic ?_
      refine wp_region_held_drew (S := fun Z : World => Z.heap[p]? = some (rb g j (.slice A 0 c) m)) (by kernel_rfl) (X.out.drew.at 1 rfl) (fun hHeld => ?_)
      refine wpAnyH_take (i := 0) (oi := ⟨some 47, _, _, _, _, _⟩) (v := ?_) rfl (by kernel_rfl) (by kernel_rfl) (by kernel_rfl) (fun _ _ _ h => h) (Or.inl ⟨by kernel_rfl, ?_⟩) (by assumption) ?_; rotate_left; (focus (intro w hSw; (try dsimp only at hSw); go_simp; (try with_reducible rfl)))
      simp only [Act.put, List.setIfInBounds_toArray, List.set_cons_zero, List.set_cons_succ]
      refine wpAnyH_take (i := 1) (oi := ⟨some 48, _, _, _, _, _⟩) (v := ?_) rfl (by kernel_rfl) (by kernel_rfl) (by kernel_rfl) (fun _ _ _ h => h) (Or.inl ⟨by kernel_rfl, ?_⟩) (by assumption) ?_; rotate_left; (focus (intro w hSw; (try dsimp only at hSw); obtain ⟨y0, y1, y2, y3⟩ := cells4 hSw; go_simp; (try with_reducible rfl)))
      simp only [Act.put, List.setIfInBounds_toArray, List.set_cons_zero, List.set_cons_succ]
      refine wpAnyH_take (i := 2) (oi := ⟨some 49, _, _, _, _, _⟩) (v := ?_) rfl (by kernel_rfl) (by kernel_rfl) (by kernel_rfl) (fun _ _ _ h => h) (Or.inl ⟨by kernel_rfl, ?_⟩) (by assumption) ?_; rotate_left; (focus (intro w hSw; (try dsimp only at hSw); go_simp; (try with_reducible rfl)))
      simp only [Act.put, List.setIfInBounds_toArray, List.set_cons_zero, List.set_cons_succ]
      refine wpAnyH_take (i := 3) (oi := ⟨some 50, _, _, _, _, _⟩) (v := ?_) rfl (by kernel_rfl) (by kernel_rfl) (by kernel_rfl) (fun _ _ _ h => h) (Or.inl ⟨by kernel_rfl, ?_⟩) (by assumption) ?_; rotate_left; (focus (intro w hSw; (try dsimp only at hSw); obtain ⟨y0, y1, y2, y3⟩ := cells4 hSw; go_simp; (try with_reducible rfl)))
      simp only [Act.put, List.setIfInBounds_toArray, List.set_cons_zero, List.set_cons_succ]
      refine wpAnyH_take (i := 4) (oi := ⟨some 51, _, _, _, _, _⟩) (v := ?_) rfl (by kernel_rfl) (by kernel_rfl) (by kernel_rfl) (fun _ _ _ h => h) (Or.inl ⟨by kernel_rfl, ?_⟩) (by assumption) ?_; rotate_left; (focus (intro w hSw; (try dsimp only at hSw); go_simp; (try with_reducible rfl)))
      simp only [Act.put, List.setIfInBounds_toArray, List.set_cons_zero, List.set_cons_succ]
      refine wpAnyH_take (i := 5) (oi := ⟨some 52, _, _, _, _, _⟩) (v := ?_) rfl (by kernel_rfl) (by kernel_rfl) (by kernel_rfl) (fun _ _ _ h => h) (Or.inl ⟨by kernel_rfl, ?_⟩) (by assumption) ?_; rotate_left; (focus (intro w hSw; (try dsimp only at hSw); obtain ⟨y0, y1, y2, y3⟩ := cells4 hSw; go_simp; (try with_reducible rfl)))
      simp only [Act.put, List.setIfInBounds_toArray, List.set_cons_zero, List.set_cons_succ]
      refine wpAnyH_take (i := 6) (oi := ⟨some 53, _, _, _, _, _⟩) (v := ?_) rfl (by kernel_rfl) (by kernel_rfl) (by kernel_rfl) (fun _ _ _ h => h) (Or.inl ⟨by kernel_rfl, ?_⟩) (by assumption) ?_; rotate_left; (focus (intro w hSw; (try dsimp only at hSw); go_simp; (try with_reducible rfl)))
      simp only [Act.put, List.setIfInBounds_toArray, List.set_cons_zero, List.set_cons_succ]
      refine wpAnyH_take (i := 9) (oi := ⟨some 56, _, _, _, _, _⟩) (v := ?_) rfl (by kernel_rfl) (by kernel_rfl) (by kernel_rfl) (fun _ _ _ h => h) (Or.inl ⟨by kernel_rfl, ?_⟩) (by assumption) ?_; rotate_left; (focus (intro w hSw; (try dsimp only at hSw); go_simp; (try with_reducible rfl)))
      simp only [Act.put, List.setIfInBounds_toArray, List.set_cons_zero, List.set_cons_succ]
      refine wpAnyH_take (i := 10) (oi := ⟨some 57, _, _, _, _, _⟩) (v := ?_) rfl (by kernel_rfl) (by kernel_rfl) (by kernel_rfl) (fun _ _ _ h => h) (Or.inl ⟨by kernel_rfl, ?_⟩) (by assumption) ?_; rotate_left; (focus (intro w hSw; (try dsimp only at hSw); go_simp; (try with_reducible rfl)))
      simp only [Act.put, List.setIfInBounds_toArray, List.set_cons_zero, List.set_cons_succ]
      refine wpAnyH_take (i := 11) (oi := ⟨some 58, _, _, _, _, _⟩) (v := ?_) rfl (by kernel_rfl) (by kernel_rfl) (by kernel_rfl) (fun _ _ _ h => h) (Or.inl ⟨by kernel_rfl, ?_⟩) (by assumption) ?_; rotate_left; (focus (intro w hSw; (try dsimp only at hSw); obtain ⟨y0, y1, y2, y3⟩ := cells4 hSw; go_simp; (try with_reducible rfl)))
      simp only [Act.put, List.setIfInBounds_toArray, List.set_cons_zero, List.set_cons_succ]
      refine wpAnyH_take (i := 12) (oi := ⟨some 59, _, _, _, _, _⟩) (v := ?_) rfl (by kernel_rfl) (by kernel_rfl) (by kernel_rfl) (fun _ _ _ h => h) (Or.inl ⟨by kernel_rfl, ?_⟩) (by assumption) ?_; rotate_left; (focus (intro w hSw; (try dsimp only at hSw); go_simp; (try with_reducible rfl)))
      simp only [Act.put, List.setIfInBounds_toArray, List.set_cons_zero, List.set_cons_succ]
      refine wpAnyH_ready (rs := [7]) (by kernel_rfl) (by simp) ?_
      refine AllReadyH.cons (o := ⟨some 54, _, _, _, _, _⟩) rfl (fun K hK => ?_) AllReadyH.nil
      rw [if_pos (by kernel_rfl)]
      go_simp
      refine hK.out _ _ (XX.out.at 1 rfl) (fun hHeld => ?_)
      clear hK K
      refine wpAnyH_ready (rs := [8]) (by kernel_rfl) (by simp) ?_
      refine AllReadyH.cons (o := ⟨some 55, _, _, _, _, _⟩) rfl (fun K hK => ?_) AllReadyH.nil
      refine step_append_or i64_one rfl _ _ rfl base (.slice A 0 c) xs rfl OX.out ⟨W.heap.size, 0, none⟩ 1 1 [t] rfl rfl CX.out LX.out (by decide) BX.out ?_
      intro v3 w3 o3 s3
      have NE : v3.ownBlock ≠ some (p + 1) := new_far s3 LT.out ZX.out
      have hx3 : w3.heap[p]? = some (rb g j (.slice A 0 c) m) := (s3.g.block _ (lt_of_heap (XX.out.at 1 rfl)) (fun e => by have := (LT.out _ e.symm).2; omega)).trans (XX.out.at 1 rfl)
      have hy3 : w3.heap[p + 1]? = some (rb 0 0 nil 0) := (s3.g.block _ (lt_of_heap (XX.out.at 0 rfl)) (fun e => by have := (LT.out _ e.symm).2; omega)).trans (XX.out.at 0 rfl)
      obtain ⟨A3, c3, rfl, -⟩ := o3.form
      rw [LN.out] at o3 NE s3 ⊢
      have NE := Lib.hid NE
      have O3 := Lib.hid o3
      have S3 := Lib.hid (SX.out.trans s3)
      have X3 := Lib.hid hx3
      have Y3 := Lib.hid hy3
      clear hx3 hy3 o3 s3
      refine hK.out _ _ X3.out (fun hHeld => ?_)
      clear hK K
      refine wpAnyH_take (i := 13) (oi := ⟨some 60, _, _, _, _, _⟩) (v := ?_) rfl (by kernel_rfl) (by kernel_rfl) (by kernel_rfl) (fun _ _ _ h => h) (Or.inl ⟨by kernel_rfl, ?_⟩) (by assumption) ?_; rotate_left; (focus (intro w hSw; (try dsimp only at hSw); go_simp; (try with_reducible rfl)))
      simp only [Act.put, List.setIfInBounds_toArray, List.set_cons_zero, List.set_cons_succ]
      obtain ⟨k0, k1, k2, k3⟩ := cells4 Y3.out
      obtain ⟨f0, f1, f2, f3⟩ := frozen4 Y3.out
      have Z1 := Lib.hid (or_kept O3.out (kept4 w3 (p + 1) (.int .i64 g) (.int .i64 j) (.slice A3 N c3) (.int .i64 q)) NE.out)
      have Z2 := Lib.hid (step_kept S3.out (kept4 w3 (p + 1) (.int .i64 g) (.int .i64 j) (.slice A3 N c3) (.int .i64 q)) (by have := HP.out; omega))
      have Z3 := Lib.hid (put4 Y3.out (.int .i64 g) (.int .i64 j) (.slice A3 N c3) (.int .i64 q))
      refine wpAnyH_ready (rs := [14]) (by kernel_rfl) (by simp) ?_
      refine AllReadyH.cons (o := ⟨none, _, _, _, _, _⟩) rfl (fun K hK => ?_) AllReadyH.nil
      rw [if_pos (by kernel_rfl)]
      go_simp
      refine hK.out _ _ (((kept4 w3 (p + 1) (.int .i64 g) (.int .i64 j) (.slice A3 N c3) (.int .i64 q)).block p (by omega) (lt_of_heap X3.out)).trans X3.out) (fun hHeld => ?_)
      clear hK K
      refine wpAnyH_take (i := 15) (oi := ⟨some 5, _, _, _, _, _⟩) (v := ?_) rfl (by kernel_rfl) (by kernel_rfl) (by kernel_rfl) (fun _ _ _ h => h) (Or.inl ⟨by kernel_rfl, ?_⟩) (by assumption) ?_; rotate_left; (focus (intro w hSw; (try dsimp only at hSw); go_simp; (try with_reducible rfl)))
      simp only [Act.put, List.setIfInBounds_toArray, List.set_cons_zero, List.set_cons_succ]
      refine wpAnyH_done (by kernel_rfl) ?_ _
      exact NoPanic.normal ⟨A3, c3, rfl, rfl, Z1.out, Z2.out, Z3.out⟩
    case hm =>
    rintro A3 c3 w3 ⟨o3, s3, y3⟩
    have O3 := Lib.hid o3
    have S3 := Lib.hid s3
    have Y3 := Lib.hid y3
    clear o3 s3 y3
    go_wp2
    exact ret_b rfl rfl Y3.out ⟨.slice A3 N c3, rfl, O3.out, S3.out⟩
  · obtain ⟨i, hi⟩ : ∃ i, n = i + 1 := ⟨n - 1, by omega⟩
    obtain ⟨b, c, rfl, hc, hb⟩ := last_cell h hn hi (hl hp)
    obtain rfl : i = n - 1 := by omega
    have k1 : ((w.alloc (rb g j (.slice (some ⟨b, 0, none⟩) n c) m)).alloc (rb 0 0 nil 0)).cell? ⟨b, n - 1, none⟩ = some (.int .i64 l) := cell_keep hc (al (al (Below.refl _ _) _) _)
    have p1 : (0 : Int) < (n : Int) := by omega
    have p2 : (n : Int) - 1 < (n : Int) := by omega
    have p3 : n - 1 < n := by omega
    have p4 : (0 : Int) ≤ (n : Int) - 1 := by omega
    have p5 : ¬ n = 0 := by omega
    have p6 : ((n : Int) == 0) = false := by rw [beq_eq_false_iff_ne]; omega
    have e2 : wrap64 ((n : Int) - 1) = (n : Int) - 1 := by unfold wrap64; omega
    have e1 : wrap64 (t + j) = t + j := by unfold wrap64; omega
    have hA : ¬ t < l := by omega
    have hB : ¬ t + j < m := by omega
    by_cases hm : m < t
    · rw [if_pos (Or.inr hm)] at hmk
      clear h hr hn hl hN hk tb ho gb ft e3 hb hp hi hc
      generalize mk g n m t = q at *
      go_enter Try.func14, Try.ntmps14
      go_upto_region 1 with (go_at_call 19; refine (refFar_any _ _).mono ?_; rintro e w' ⟨rfl, rfl⟩; rw [ht])
      generalize (w.alloc (rb g j (.slice (some ⟨b, 0, none⟩) n c) m)).alloc (rb 0 0 nil 0) = W at *
      generalize hp : w.heap.size = p at *
      have HP := Lib.hid hp
      clear hp
      obtain ⟨c0, c1, c2, c3⟩ := cells4 (X.out.at 1 rfl)
      go_upto_region 7 with (go_at_call 19; refine (refFar_any _ _).mono ?_; rintro e w' ⟨rfl, rfl⟩; rw [ht])
      have CX : Hid (CL ((W.alloc (.cells #[.int .i64 t] 2)).drew) .i64 (some ⟨W.heap.size, 0, none⟩) [t]) := Lib.hid (cl_one W t TT.out.1 TT.out.2 2)
      have OX : Hid (OR (W.alloc (.cells #[.int .i64 t] 2)).drew base 2 .i64 (.slice (some ⟨b, 0, none⟩) n c) xs) := Lib.hid (HO.out.alloc _).drew
      have SX : Hid (Step w (.slice (some ⟨b, 0, none⟩) n c) (W.alloc (.cells #[.int .i64 t] 2)).drew (.slice (some ⟨b, 0, none⟩) n c)) := Lib.hid ((S0.out.trans (Step.alloc _ _ _)).trans (Step.drew _ _))
      have XX : Hid (Stay w [(p + 1, rb 0 0 nil 0), (p, rb g j (.slice (some ⟨b, 0, none⟩) n c) m)] (W.alloc (.cells #[.int .i64 t] 2)).drew) := Lib.hid (X.out.next ((Below.refl _ _).alloc (Nat.le_refl _) _)).drew
      have BX : Hid (base ≤ (W.alloc (.cells #[.int .i64 t] 2)).drew.heap.size) := Lib.hid (by have := HB.out; have := X.out.b.size; have := HP.out; show base ≤ (W.alloc _).heap.size; rw [World.size_alloc]; omega)
      have ZX : Hid (p + 1 < (W.alloc (.cells #[.int .i64 t] 2)).drew.heap.size) := Lib.hid (lt_of_heap (XX.out.at 0 rfl))
      have LX : Hid ((xs.length + 1) * 8 ≤ 140737488355328) := Lib.hid (by rw [HL.out]; exact HN.out)
      obtain ⟨N, hN⟩ : ∃ N, (xs ++ [t]).length = N := ⟨_, rfl⟩
      have LN := Lib.hid hN
      have e3 : IntKind.i64.wrap q = q := E3.out
      clear hN S0 HO HN HL TT
      apply wp_slice (S := fun A' c' w' => OR w' base 2 .i64 (.slice A' N c') (xs ++ [t]) ∧ Step w (.slice (some ⟨b, 0, none⟩) n c) w' (.slice A' N c') ∧ w'.heap[p + 1]? = some (rb g j (.slice A' N c') q))
      case h =>
        refine wp_region_noPanic ?_
        refine wp_region_held_drew (S := fun Z : World => Z.heap[p]? = some (rb g j (.slice (some ⟨b, 0, none⟩) n c) m)) (by kernel_rfl) (X.out.drew.at 1 rfl) (fun hHeld => ?_)
        refine wpAnyH_take (i := 0) (oi := ⟨some 47, _, _, _, _, _⟩) (v := ?_) rfl (by kernel_rfl) (by kernel_rfl) (by kernel_rfl) (fun _ _ _ h => h) (Or.inl ⟨by kernel_rfl, ?_⟩) (by assumption) ?_; rotate_left; (focus (intro w hSw; (try dsimp only at hSw); go_simp; (try with_reducible rfl)))
        simp only [Act.put, List.setIfInBounds_toArray, List.set_cons_zero, List.set_cons_succ]
        refine wpAnyH_take (i := 1) (oi := ⟨some 48, _, _, _, _, _⟩) (v := ?_) rfl (by kernel_rfl) (by kernel_rfl) (by kernel_rfl) (fun _ _ _ h => h) (Or.inl ⟨by kernel_rfl, ?_⟩) (by assumption) ?_; rotate_left; (focus (intro w hSw; (try dsimp only at hSw); obtain ⟨y0, y1, y2, y3⟩ := cells4 hSw; go_simp; (try with_reducible rfl)))
        simp only [Act.put, List.setIfInBounds_toArray, List.set_cons_zero, List.set_cons_succ]
        refine wpAnyH_take (i := 2) (oi := ⟨some 49, _, _, _, _, _⟩) (v := ?_) rfl (by kernel_rfl) (by kernel_rfl) (by kernel_rfl) (fun _ _ _ h => h) (Or.inl ⟨by kernel_rfl, ?_⟩) (by assumption) ?_; rotate_left; (focus (intro w hSw; (try dsimp only at hSw); go_simp; (try with_reducible rfl)))
        simp only [Act.put, List.setIfInBounds_toArray, List.set_cons_zero, List.set_cons_succ]
        refine wpAnyH_take (i := 3) (oi := ⟨some 50, _, _, _, _, _⟩) (v := ?_) rfl (by kernel_rfl) (by kernel_rfl) (by kernel_rfl) (fun _ _ _ h => h) (Or.inl ⟨by kernel_rfl, ?_⟩) (by assumption) ?_; rotate_left; (focus (intro w hSw; (try dsimp only at hSw); obtain ⟨y0, y1, y2, y3⟩ := cells4 hSw; go_simp; (try with_reducible rfl)))
        simp only [Act.put, List.setIfInBounds_toArray, List.set_cons_zero, List.set_cons_succ]
        refine wpAnyH_take (i := 4) (oi := ⟨some 51, _, _, _, _, _⟩) (v := ?_) rfl (by kernel_rfl) (by kernel_rfl) (by kernel_rfl) (fun _ _ _ h => h) (Or.inl ⟨by kernel_rfl, ?_⟩) (by assumption) ?_; rotate_left; (focus (intro w hSw; (try dsimp only at hSw); go_simp; (try with_reducible rfl)))
        simp only [Act.put, List.setIfInBounds_toArray, List.set_cons_zero, List.set_cons_succ]
        refine wpAnyH_take (i := 5) (oi := ⟨some 52, _, _, _, _, _⟩) (v := ?_) rfl (by kernel_rfl) (by kernel_rfl) (by kernel_rfl) (fun _ _ _ h => h) (Or.inl ⟨by kernel_rfl, ?_⟩) (by assumption) ?_; rotate_left; (focus (intro w hSw; (try dsimp only at hSw); obtain ⟨y0, y1, y2, y3⟩ := cells4 hSw; go_simp; (try with_reducible rfl)))
        simp only [Act.put, List.setIfInBounds_toArray, List.set_cons_zero, List.set_cons_succ]
        refine wpAnyH_take (i := 6) (oi := ⟨some 53, _, _, _, _, _⟩) (v := ?_) rfl (by kernel_rfl) (by kernel_rfl) (by kernel_rfl) (fun _ _ _ h => h) (Or.inl ⟨by kernel_rfl, ?_⟩) (by assumption) ?_; rotate_left; (focus (intro w hSw; (try dsimp only at hSw); go_simp; (try with_reducible rfl)))
        simp only [Act.put, List.setIfInBounds_toArray, List.set_cons_zero, List.set_cons_succ]
        refine wpAnyH_take (i := 9) (oi := ⟨some 56, _, _, _, _, _⟩) (v := ?_) rfl (by kernel_rfl) (by kernel_rfl) (by kernel_rfl) (fun _ _ _ h => h) (Or.inl ⟨by kernel_rfl, ?_⟩) (by assumption) ?_; rotate_left; (focus (intro w hSw; (try dsimp only at hSw); go_simp; (try with_reducible rfl)))
        simp only [Act.put, List.setIfInBounds_toArray, List.set_cons_zero, List.set_cons_succ]
        refine wpAnyH_take (i := 10) (oi := ⟨some 57, _, _, _, _, _⟩) (v := ?_) rfl (by kernel_rfl) (by kernel_rfl) (by kernel_rfl) (fun _ _ _ h => h) (Or.inl ⟨by kernel_rfl, ?_⟩) (by assumption) ?_; rotate_left; (focus (intro w hSw; (try dsimp only at hSw); go_simp; (try with_reducible rfl)))
        simp only [Act.put, List.setIfInBounds_toArray, List.set_cons_zero, List.set_cons_succ]
        refine wpAnyH_take (i := 11) (oi := ⟨some 58, _, _, _, _, _⟩) (v := ?_) rfl (by kernel_rfl) (by kernel_rfl) (by kernel_rfl) (fun _ _ _ h => h) (Or.inl ⟨by kernel_rfl, ?_⟩) (by assumption) ?_; rotate_left; (focus (intro w hSw; (try dsimp only at hSw); obtain ⟨y0, y1, y2, y3⟩ := cells4 hSw; go_simp; (try with_reducible rfl)))
        simp only [Act.put, List.setIfInBounds_toArray, List.set_cons_zero, List.set_cons_succ]
        refine wpAnyH_take (i := 12) (oi := ⟨some 59, _, _, _, _, _⟩) (v := ?_) rfl (by kernel_rfl) (by kernel_rfl) (by kernel_rfl) (fun _ _ _ h => h) (Or.inl ⟨by kernel_rfl, ?_⟩) (by assumption) ?_; rotate_left; (focus (intro w hSw; (try dsimp only at hSw); go_simp; (try with_reducible rfl)))
        simp only [Act.put, List.setIfInBounds_toArray, List.set_cons_zero, List.set_cons_succ]
        refine wpAnyH_ready (rs := [7]) (by kernel_rfl) (by simp) ?_
        refine AllReadyH.cons (o := ⟨some 54, _, _, _, _, _⟩) rfl (fun K hK => ?_) AllReadyH.nil
        rw [if_pos (by kernel_rfl)]
        go_simp
        refine hK.out _ _ (XX.out.at 1 rfl) (fun hHeld => ?_)
        clear hK K
        refine wpAnyH_ready (rs := [8]) (by kernel_rfl) (by simp) ?_
        refine AllReadyH.cons (o := ⟨some 55, _, _, _, _, _⟩) rfl (fun K hK => ?_) AllReadyH.nil
        refine step_append_or i64_one rfl _ _ rfl base (.slice (some ⟨b, 0, none⟩) n c) xs rfl OX.out ⟨W.heap.size, 0, none⟩ 1 1 [t] rfl rfl CX.out LX.out (by decide) BX.out ?_
        intro v3 w3 o3 s3
        have NE : v3.ownBlock ≠ some (p + 1) := new_far s3 LT.out ZX.out
        have hx3 : w3.heap[p]? = some (rb g j (.slice (some ⟨b, 0, none⟩) n c) m) := (s3.g.block _ (lt_of_heap (XX.out.at 1 rfl)) (fun e => by have := (LT.out _ e.symm).2; omega)).trans (XX.out.at 1 rfl)
        have hy3 : w3.heap[p + 1]? = some (rb 0 0 nil 0) := (s3.g.block _ (lt_of_heap (XX.out.at 0 rfl)) (fun e => by have := (LT.out _ e.symm).2; omega)).trans (XX.out.at 0 rfl)
        obtain ⟨A3, c3, rfl, -⟩ := o3.form
        rw [LN.out] at o3 NE s3 ⊢
        have NE := Lib.hid NE
        have O3 := Lib.hid o3
        have S3 := Lib.hid (SX.out.trans s3)
        have X3 := Lib.hid hx3
        have Y3 := Lib.hid hy3
        clear hx3 hy3 o3 s3
        refine hK.out _ _ X3.out (fun hHeld => ?_)
        clear hK K
        refine wpAnyH_take (i := 13) (oi := ⟨some 60, _, _, _, _, _⟩) (v := ?_) rfl (by kernel_rfl) (by kernel_rfl) (by kernel_rfl) (fun _ _ _ h => h) (Or.inl ⟨by kernel_rfl, ?_⟩) (by assumption) ?_; rotate_left; (focus (intro w hSw; (try dsimp only at hSw); go_simp; (try with_reducible rfl)))
        simp only [Act.put, List.setIfInBounds_toArray, List.set_cons_zero, List.set_cons_succ]
        obtain ⟨k0, k1, k2, k3⟩ := cells4 Y3.out
        obtain ⟨f0, f1, f2, f3⟩ := frozen4 Y3.out
        have Z1 := Lib.hid (or_kept O3.out (kept4 w3 (p + 1) (.int .i64 g) (.int .i64 j) (.slice A3 N c3) (.int .i64 q)) NE.out)
        have Z2 := Lib.hid (step_kept S3.out (kept4 w3 (p + 1) (.int .i64 g) (.int .i64 j) (.slice A3 N c3) (.int .i64 q)) (by have := HP.out; omega))
        have Z3 := Lib.hid (put4 Y3.out (.int .i64 g) (.int .i64 j) (.slice A3 N c3) (.int .i64 q))
        refine wpAnyH_ready (rs := [14]) (by kernel_rfl) (by simp) ?_
        refine AllReadyH.cons (o := ⟨none, _, _, _, _, _⟩) rfl (fun K hK => ?_) AllReadyH.nil
        rw [if_pos (by kernel_rfl)]
        go_simp
        refine hK.out _ _ (((kept4 w3 (p + 1) (.int .i64 g) (.int .i64 j) (.slice A3 N c3) (.int .i64 q)).block p (by omega) (lt_of_heap X3.out)).trans X3.out) (fun hHeld => ?_)
        clear hK K
        refine wpAnyH_take (i := 15) (oi := ⟨some 5, _, _, _, _, _⟩) (v := ?_) rfl (by kernel_rfl) (by kernel_rfl) (by kernel_rfl) (fun _ _ _ h => h) (Or.inl ⟨by kernel_rfl, ?_⟩) (by assumption) ?_; rotate_left; (focus (intro w hSw; (try dsimp only at hSw); go_simp; (try with_reducible rfl)))
        simp only [Act.put, List.setIfInBounds_toArray, List.set_cons_zero, List.set_cons_succ]
        refine wpAnyH_done (by kernel_rfl) ?_ _
        exact NoPanic.normal ⟨A3, c3, rfl, rfl, Z1.out, Z2.out, Z3.out⟩
      case hm =>
      rintro A3 c3 w3 ⟨o3, s3, y3⟩
      have O3 := Lib.hid o3
      have S3 := Lib.hid s3
      have Y3 := Lib.hid y3
      clear o3 s3 y3
      go_wp2
      exact ret_b rfl rfl Y3.out ⟨.slice A3 N c3, rfl, O3.out, S3.out⟩
    · rw [if_neg (by omega)] at hmk
      clear h hr hn hl hN hk tb ho gb ft e3 hb hp hi hc
      generalize mk g n m t = q at *
      go_enter Try.func14, Try.ntmps14
      go_upto_region 1 with (go_at_call 19; refine (refFar_any _ _).mono ?_; rintro e w' ⟨rfl, rfl⟩; rw [ht])
      generalize (w.alloc (rb g j (.slice (some ⟨b, 0, none⟩) n c) m)).alloc (rb 0 0 nil 0) = W at *
      generalize hp : w.heap.size = p at *
      have HP := Lib.hid hp
      clear hp
      obtain ⟨c0, c1, c2, c3⟩ := cells4 (X.out.at 1 rfl)
      go_upto_region 7 with (go_at_call 19; refine (refFar_any _ _).mono ?_; rintro e w' ⟨rfl, rfl⟩; rw [ht])
      have CX : Hid (CL ((W.alloc (.cells #[.int .i64 t] 2)).drew) .i64 (some ⟨W.heap.size, 0, none⟩) [t]) := Lib.hid (cl_one W t TT.out.1 TT.out.2 2)
      have OX : Hid (OR (W.alloc (.cells #[.int .i64 t] 2)).drew base 2 .i64 (.slice (some ⟨b, 0, none⟩) n c) xs) := Lib.hid (HO.out.alloc _).drew
      have SX : Hid (Step w (.slice (some ⟨b, 0, none⟩) n c) (W.alloc (.cells #[.int .i64 t] 2)).drew (.slice (some ⟨b, 0, none⟩) n c)) := Lib.hid ((S0.out.trans (Step.alloc _ _ _)).trans (Step.drew _ _))
      have XX : Hid (Stay w [(p + 1, rb 0 0 nil 0), (p, rb g j (.slice (some ⟨b, 0, none⟩) n c) m)] (W.alloc (.cells #[.int .i64 t] 2)).drew) := Lib.hid (X.out.next ((Below.refl _ _).alloc (Nat.le_refl _) _)).drew
      have BX : Hid (base ≤ (W.alloc (.cells #[.int .i64 t] 2)).drew.heap.size) := Lib.hid (by have := HB.out; have := X.out.b.size; have := HP.out; show base ≤ (W.alloc _).heap.size; rw [World.size_alloc]; omega)
      have ZX : Hid (p + 1 < (W.alloc (.cells #[.int .i64 t] 2)).drew.heap.size) := Lib.hid (lt_of_heap (XX.out.at 0 rfl))
      have LX : Hid ((xs.length + 1) * 8 ≤ 140737488355328) := Lib.hid (by rw [HL.out]; exact HN.out)
      obtain ⟨N, hN⟩ : ∃ N, (xs ++ [t]).length = N := ⟨_, rfl⟩
      have LN := Lib.hid hN
      have e3 : IntKind.i64.wrap q = q := E3.out
      clear hN S0 HO HN HL TT
      apply wp_slice (S := fun A' c' w' => OR w' base 2 .i64 (.slice A' N c') (xs ++ [t]) ∧ Step w (.slice (some ⟨b, 0, none⟩) n c) w' (.slice A' N c') ∧ w'.heap[p + 1]? = some (rb g j (.slice A' N c') q))
      case h =>
        refine wp_region_noPanic ?_
        refine wp_region_held_drew (S := fun Z : World => Z.heap[p]? = some (rb g j (.slice (some ⟨b, 0, none⟩) n c) m)) (by kernel_rfl) (X.out.drew.at 1 rfl) (fun hHeld => ?_)
        refine wpAnyH_take (i := 0) (oi := ⟨some 47, _, _, _, _, _⟩) (v := ?_) rfl (by kernel_rfl) (by kernel_rfl) (by kernel_rfl) (fun _ _ _ h => h) (Or.inl ⟨by kernel_rfl, ?_⟩) (by assumption) ?_; rotate_left; (focus (intro w hSw; (try dsimp only at hSw); go_simp; (try with_reducible rfl)))
        simp only [Act.put, List.setIfInBounds_toArray, List.set_cons_zero, List.set_cons_succ]
        refine wpAnyH_take (i := 1) (oi := ⟨some 48, _, _, _, _, _⟩) (v := ?_) rfl (by kernel_rfl) (by kernel_rfl) (by kernel_rfl) (fun _ _ _ h => h) (Or.inl ⟨by kernel_rfl, ?_⟩) (by assumption) ?_; rotate_left; (focus (intro w hSw; (try dsimp only at hSw); obtain ⟨y0, y1, y2, y3⟩ := cells4 hSw; go_simp; (try with_reducible rfl)))
        simp only [Act.put, List.setIfInBounds_toArray, List.set_cons_zero, List.set_cons_succ]
        refine wpAnyH_take (i := 2) (oi := ⟨some 49, _, _, _, _, _⟩) (v := ?_) rfl (by kernel_rfl) (by kernel_rfl) (by kernel_rfl) (fun _ _ _ h => h) (Or.inl ⟨by kernel_rfl, ?_⟩) (by assumption) ?_; rotate_left; (focus (intro w hSw; (try dsimp only at hSw); go_simp; (try with_reducible rfl)))
        simp only [Act.put, List.setIfInBounds_toArray, List.set_cons_zero, List.set_cons_succ]
        refine wpAnyH_take (i := 3) (oi := ⟨some 50, _, _, _, _, _⟩) (v := ?_) rfl (by kernel_rfl) (by kernel_rfl) (by kernel_rfl) (fun _ _ _ h => h) (Or.inl ⟨by kernel_rfl, ?_⟩) (by assumption) ?_; rotate_left; (focus (intro w hSw; (try dsimp only at hSw); obtain ⟨y0, y1, y2, y3⟩ := cells4 hSw; go_simp; (try with_reducible rfl)))
        simp only [Act.put, List.setIfInBounds_toArray, List.set_cons_zero, List.set_cons_succ]
        refine wpAnyH_take (i := 4) (oi := ⟨some 51, _, _, _, _, _⟩) (v := ?_) rfl (by kernel_rfl) (by kernel_rfl) (by kernel_rfl) (fun _ _ _ h => h) (Or.inl ⟨by kernel_rfl, ?_⟩) (by assumption) ?_; rotate_left; (focus (intro w hSw; (try dsimp only at hSw); go_simp; (try with_reducible rfl)))
        simp only [Act.put, List.setIfInBounds_toArray, List.set_cons_zero, List.set_cons_succ]
        refine wpAnyH_take (i := 5) (oi := ⟨some 52, _, _, _, _, _⟩) (v := ?_) rfl (by kernel_rfl) (by kernel_rfl) (by kernel_rfl) (fun _ _ _ h => h) (Or.inl ⟨by kernel_rfl, ?_⟩) (by assumption) ?_; rotate_left; (focus (intro w hSw; (try dsimp only at hSw); obtain ⟨y0, y1, y2, y3⟩ := cells4 hSw; go_simp; (try with_reducible rfl)))
        simp only [Act.put, List.setIfInBounds_toArray, List.set_cons_zero, List.set_cons_succ]
        refine wpAnyH_take (i := 6) (oi := ⟨some 53, _, _, _, _, _⟩) (v := ?_) rfl (by kernel_rfl) (by kernel_rfl) (by kernel_rfl) (fun _ _ _ h => h) (Or.inl ⟨by kernel_rfl, ?_⟩) (by assumption) ?_; rotate_left; (focus (intro w hSw; (try dsimp only at hSw); go_simp; (try with_reducible rfl)))
        simp only [Act.put, List.setIfInBounds_toArray, List.set_cons_zero, List.set_cons_succ]
        refine wpAnyH_take (i := 9) (oi := ⟨some 56, _, _, _, _, _⟩) (v := ?_) rfl (by kernel_rfl) (by kernel_rfl) (by kernel_rfl) (fun _ _ _ h => h) (Or.inl ⟨by kernel_rfl, ?_⟩) (by assumption) ?_; rotate_left; (focus (intro w hSw; (try dsimp only at hSw); go_simp; (try with_reducible rfl)))
        simp only [Act.put, List.setIfInBounds_toArray, List.set_cons_zero, List.set_cons_succ]
        refine wpAnyH_take (i := 10) (oi := ⟨some 57, _, _, _, _, _⟩) (v := ?_) rfl (by kernel_rfl) (by kernel_rfl) (by kernel_rfl) (fun _ _ _ h => h) (Or.inl ⟨by kernel_rfl, ?_⟩) (by assumption) ?_; rotate_left; (focus (intro w hSw; (try dsimp only at hSw); go_simp; (try with_reducible rfl)))
        simp only [Act.put, List.setIfInBounds_toArray, List.set_cons_zero, List.set_cons_succ]
        refine wpAnyH_take (i := 11) (oi := ⟨some 58, _, _, _, _, _⟩) (v := ?_) rfl (by kernel_rfl) (by kernel_rfl) (by kernel_rfl) (fun _ _ _ h => h) (Or.inl ⟨by kernel_rfl, ?_⟩) (by assumption) ?_; rotate_left; (focus (intro w hSw; (try dsimp only at hSw); obtain ⟨y0, y1, y2, y3⟩ := cells4 hSw; go_simp; (try with_reducible rfl)))
        simp only [Act.put, List.setIfInBounds_toArray, List.set_cons_zero, List.set_cons_succ]
        refine wpAnyH_take (i := 12) (oi := ⟨some 59, _, _, _, _, _⟩) (v := ?_) rfl (by kernel_rfl) (by kernel_rfl) (by kernel_rfl) (fun _ _ _ h => h) (Or.inl ⟨by kernel_rfl, ?_⟩) (by assumption) ?_; rotate_left; (focus (intro w hSw; (try dsimp only at hSw); go_simp; (try with_reducible rfl)))
        simp only [Act.put, List.setIfInBounds_toArray, List.set_cons_zero, List.set_cons_succ]
        refine wpAnyH_ready (rs := [7]) (by kernel_rfl) (by simp) ?_
        refine AllReadyH.cons (o := ⟨some 54, _, _, _, _, _⟩) rfl (fun K hK => ?_) AllReadyH.nil
        rw [if_pos (by kernel_rfl)]
        go_simp
        refine hK.out _ _ (XX.out.at 1 rfl) (fun hHeld => ?_)
        clear hK K
        refine wpAnyH_ready (rs := [8]) (by kernel_rfl) (by simp) ?_
        refine AllReadyH.cons (o := ⟨some 55, _, _, _, _, _⟩) rfl (fun K hK => ?_) AllReadyH.nil
        refine step_append_or i64_one rfl _ _ rfl base (.slice (some ⟨b, 0, none⟩) n c) xs rfl OX.out ⟨W.heap.size, 0, none⟩ 1 1 [t] rfl rfl CX.out LX.out (by decide) BX.out ?_
        intro v3 w3 o3 s3
        have NE : v3.ownBlock ≠ some (p + 1) := new_far s3 LT.out ZX.out
        have hx3 : w3.heap[p]? = some (rb g j (.slice (some ⟨b, 0, none⟩) n c) m) := (s3.g.block _ (lt_of_heap (XX.out.at 1 rfl)) (fun e => by have := (LT.out _ e.symm).2; omega)).trans (XX.out.at 1 rfl)
        have hy3 : w3.heap[p + 1]? = some (rb 0 0 nil 0) := (s3.g.block _ (lt_of_heap (XX.out.at 0 rfl)) (fun e => by have := (LT.out _ e.symm).2; omega)).trans (XX.out.at 0 rfl)
        obtain ⟨A3, c3, rfl, -⟩ := o3.form
        rw [LN.out] at o3 NE s3 ⊢
        have NE := Lib.hid NE
        have O3 := Lib.hid o3
        have S3 := Lib.hid (SX.out.trans s3)
        have X3 := Lib.hid hx3
        have Y3 := Lib.hid hy3
        clear hx3 hy3 o3 s3
        refine hK.out _ _ X3.out (fun hHeld => ?_)
        clear hK K
        refine wpAnyH_take (i := 13) (oi := ⟨some 60, _, _, _, _, _⟩) (v := ?_) rfl (by kernel_rfl) (by kernel_rfl) (by kernel_rfl) (fun _ _ _ h => h) (Or.inl ⟨by kernel_rfl, ?_⟩) (by assumption) ?_; rotate_left; (focus (intro w hSw; (try dsimp only at hSw); go_simp; (try with_reducible rfl)))
        simp only [Act.put, List.setIfInBounds_toArray, List.set_cons_zero, List.set_cons_succ]
        obtain ⟨k0, k1, k2, k3⟩ := cells4 Y3.out
        obtain ⟨f0, f1, f2, f3⟩ := frozen4 Y3.out
        have Z1 := Lib.hid (or_kept O3.out (kept4 w3 (p + 1) (.int .i64 g) (.int .i64 j) (.slice A3 N c3) (.int .i64 q)) NE.out)
        have Z2 := Lib.hid (step_kept S3.out (kept4 w3 (p + 1) (.int .i64 g) (.int .i64 j) (.slice A3 N c3) (.int .i64 q)) (by have := HP.out; omega))
        have Z3 := Lib.hid (put4 Y3.out (.int .i64 g) (.int .i64 j) (.slice A3 N c3) (.int .i64 q))
        refine wpAnyH_ready (rs := [14]) (by kernel_rfl) (by simp) ?_
        refine AllReadyH.cons (o := ⟨none, _, _, _, _, _⟩) rfl (fun K hK => ?_) AllReadyH.nil
        rw [if_pos (by kernel_rfl)]
        go_simp
        refine hK.out _ _ (((kept4 w3 (p + 1) (.int .i64 g) (.int .i64 j) (.slice A3 N c3) (.int .i64 q)).block p (by omega) (lt_of_heap X3.out)).trans X3.out) (fun hHeld => ?_)
        clear hK K
        refine wpAnyH_take (i := 15) (oi := ⟨some 5, _, _, _, _, _⟩) (v := ?_) rfl (by kernel_rfl) (by kernel_rfl) (by kernel_rfl) (fun _ _ _ h => h) (Or.inl ⟨by kernel_rfl, ?_⟩) (by assumption) ?_; rotate_left; (focus (intro w hSw; (try dsimp only at hSw); go_simp; (try with_reducible rfl)))
        simp only [Act.put, List.setIfInBounds_toArray, List.set_cons_zero, List.set_cons_succ]
        refine wpAnyH_done (by kernel_rfl) ?_ _
        exact NoPanic.normal ⟨A3, c3, rfl, rfl, Z1.out, Z2.out, Z3.out⟩
      case hm =>
      rintro A3 c3 w3 ⟨o3, s3, y3⟩
      have O3 := Lib.hid o3
      have S3 := Lib.hid s3
      have Y3 := Lib.hid y3
      clear o3 s3 y3
      go_wp2
      exact ret_b rfl rfl Y3.out ⟨.slice A3 N c3, rfl, O3.out, S3.out⟩
end Go.Proofs.Ytokddpialnkckaa.BucketW
