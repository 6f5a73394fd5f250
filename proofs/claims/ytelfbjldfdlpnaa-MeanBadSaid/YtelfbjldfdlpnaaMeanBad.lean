/- The law MeanBad: one reading, however bad, doesn't bring the tolerant mean out of the others' range: for every list of readings, every reading and every place. No condition. -/
import Derived.Test.YtelfbjldfdlpnaaMeanLay
import Derived.Test.YtelfbjldfdlpnaaMeanPure
namespace Go.Proofs.Ytelfbjldfdlpnaa.MeanW.MeanBad
open Go.ChangeShapes Go.WideShapes Go.ChangeAt Go.RowKit TickW MeanW
theorem own_empty (w : World) (base : Nat) (hb : base ≤ w.heap.size) : (w.alloc (Obj.cells #[] 2)).ownsRow base 2 1 (.slice (some ⟨w.heap.size, 0, none⟩) 0 0) 0 [] :=
  ⟨rfl, Or.inr ⟨w.heap.size, 0, #[], rfl, hb, heap_alloc_new w _, Nat.le_refl _, by decide, rfl, rfl⟩⟩
theorem cell_new (w : World) (b : Int) : (w.alloc (Obj.cells #[.int .i64 b] 2)).cell? ⟨w.heap.size, 0, none⟩ = some (.int .i64 b) := by rw [World.cell?_alloc_new]; rfl
theorem cell_new2 (w : World) (b : Int) : ((w.alloc (Obj.cells #[] 2)).drew.alloc (Obj.cells #[.int .i64 b] 2)).cell? ⟨w.heap.size + 1, 0, none⟩ = some (.int .i64 b) := by
  have h := cell_new (w.alloc (Obj.cells #[] 2)).drew b
  rw [show (w.alloc (Obj.cells #[] 2)).drew.heap.size = w.heap.size + 1 from World.size_alloc w _] at h
  exact h
theorem own_empty2 (w : World) (b : Int) : ((w.alloc (Obj.cells #[.int .i64 b] 2)).alloc (Obj.cells #[] 2)).drew.ownsRow w.heap.size 2 1 (.slice (some ⟨w.heap.size + 1, 0, none⟩) 0 0) 0 [] := by
  have h := own_empty (w.alloc (Obj.cells #[.int .i64 b] 2)) w.heap.size (by rw [World.size_alloc]; exact Nat.le_succ _)
  rw [World.size_alloc] at h
  exact h
theorem cell_new3 (w : World) (b : Int) : ((w.alloc (Obj.cells #[.int .i64 b] 2)).alloc (Obj.cells #[] 2)).drew.cell? ⟨w.heap.size, 0, none⟩ = some (.int .i64 b) := by
  have h := cell_new w b
  exact (World.cell?_alloc_lt _ _ _ (by rw [World.size_alloc]; exact Nat.lt_succ_self _)).trans h
theorem one_news {w : World} {g : Nat} {v : Value} (h : w.cell? ⟨g, 0, none⟩ = some v) : ∀ j u, [v][j]? = some u → w.cell? ((⟨g, 0, none⟩ : Addr).add j) = some u := by
  intro j u hj
  cases j with
  | zero => cases hj; exact h
  | succ j => simp at hj
theorem one_cell (b : Int) : ∀ u ∈ [Value.int .i64 b], u.oneCell' = true := by
  intro u hu
  simp at hu
  subst hu
  rfl
theorem turn_at2 (t : Int) (n : Nat) (h0 : 0 < n) (h1 : (n : Int) ≤ 17592186044416) : ∃ p : Nat, p < n ∧ wrap64 ((IntKind.u64.wrap t).tmod (n : Int)) = (p : Int) := by
  have hu : 0 ≤ IntKind.u64.wrap t := by rw [IntKind.wrap_u64]; omega
  rw [Int.tmod_eq_emod_of_nonneg hu]
  have r0 := Int.emod_nonneg (IntKind.u64.wrap t) (show (n : Int) ≠ 0 by omega)
  have r1 := Int.emod_lt_of_pos (IntKind.u64.wrap t) (show (0 : Int) < n by omega)
  generalize IntKind.u64.wrap t % (n : Int) = r at *
  refine ⟨r.toNat, by omega, ?_⟩
  unfold wrap64; omega
set_option maxHeartbeats 4000000 in
set_option maxRecDepth 100000 in
theorem walk (A : Option Addr) (xs : List Int) (c : Nat) (b t : Int) (w : World) (hf : IL w A xs) (hl : xs.length * 8 ≤ 140737488351232) (hc : xs.length ≤ c) (hb : B64 b) :
    Calls Try.prog 5 #[.slice A xs.length c, .int .i64 b, .int .i64 t] w fun e w' => e = .returned (.bool true) ∧ RowKit.Below w.heap.size w w' := by
  have HF := Lib.hid hf
  have HL := Lib.hid hl
  have HC := Lib.hid hc
  have HBB := Lib.hid hb
  have HL2 := Lib.hid (show xs.length * 8 ≤ 140737488355328 by omega)
  have hl2 : (xs.length : Int) ≤ 17592186043904 := by omega
  clear hf hl hc hb
  obtain ⟨i0, hi, hz0, hz1, hz2⟩ := i64_info
  have HI := Lib.hid hi
  have HZ0 := Lib.hid hz0
  have HZ1 := Lib.hid hz1
  have HZ2 := Lib.hid hz2
  clear hi hz0 hz1 hz2
  go_enter Try.func5, Try.ntmps5
  go_wp2_with fail
  refine (fixed_any _).mono ?_
  rintro e w3 ⟨rfl, hb1⟩
  have B3 := Lib.hid hb1
  have F3 := Lib.hid (HF.out.below hb1)
  clear hb1
  by_cases h2 : xs.length < 2
  · clear hl2
    go_wp2_with fail
    go_ret
    exact ⟨rfl, B3.out⟩
  · have hp2 : ¬ (xs.length : Int) < 2 := by omega
    have HP := Lib.hid (show 2 ≤ xs.length by omega)
    have HP0 := Lib.hid (show 0 < xs.length by omega)
    obtain ⟨a, rfl⟩ : ∃ a, A = some a := by
      obtain ⟨x, hx⟩ : ∃ x, xs[0]? = some x := ⟨_, List.getElem?_eq_getElem HP0.out⟩
      exact ⟨_, (HF.out 0 x hx).choose_spec.1⟩
    clear h2
    have hnz : ¬ ((xs.length : Int) + 1 = 0) := by omega
    go_wp2_with fail
    obtain ⟨p, hpn, hpe⟩ : ∃ p : Nat, p ≤ xs.length ∧ wrap64 ((IntKind.u64.wrap t).tmod ((xs.length : Int) + 1)) = (p : Int) := by
      obtain ⟨p, h1, h2⟩ := turn_at2 t (xs.length + 1) (Nat.succ_pos _) (by omega)
      exact ⟨p, by omega, h2⟩
    rw [hpe]
    generalize (IntKind.u64.wrap t).tmod ((xs.length : Int) + 1) = tm at *
    have HPN := Lib.hid hpn
    have q0 : (0 : Int) ≤ (p : Int) := by omega
    have q1 : (p : Int) ≤ (xs.length : Int) := by omega
    have q2 : (p : Int) ≤ (c : Int) := by have := HC.out; omega
    by_cases hcp : c = p
    · obtain rfl : p = xs.length := by have := HC.out; omega
      subst hcp
      clear q0 q1 q2 hpn hpe
      have O0A := Lib.hid (show (w3.alloc (Obj.cells #[] 2)).drew.ownsRow w3.heap.size 2 1 (.slice (some ⟨w3.heap.size, 0, none⟩) 0 0) 0 [] from own_empty w3 _ (Nat.le_refl _))
      have B0A := Lib.hid (show RowKit.Below w3.heap.size w3 (w3.alloc (Obj.cells #[] 2)).drew from ((Below.refl w3.heap.size w3).alloc (Nat.le_refl _) _).drew)
      have F0A := Lib.hid (F3.out.below B0A.out)
      have O0B := Lib.hid (show ((w3.alloc (Obj.cells #[] 2)).drew.alloc (Obj.cells #[.int .i64 b] 2)).ownsRow w3.heap.size 2 1 (.slice (some ⟨w3.heap.size, 0, none⟩) 0 0) 0 [] from O0A.out.alloc _)
      have B0B := Lib.hid (show RowKit.Below w3.heap.size w3 ((w3.alloc (Obj.cells #[] 2)).drew.alloc (Obj.cells #[.int .i64 b] 2)) from B0A.out.alloc B0A.out.size _)
      have F0B := Lib.hid (F3.out.below B0B.out)
      have C0B := Lib.hid (show ((w3.alloc (Obj.cells #[] 2)).drew.alloc (Obj.cells #[.int .i64 b] 2)).cell? ⟨w3.heap.size + 1, 0, none⟩ = some (.int .i64 b) from cell_new2 w3 b)
      have O0C := Lib.hid (show ((w3.alloc (Obj.cells #[.int .i64 b] 2)).alloc (Obj.cells #[] 2)).drew.ownsRow w3.heap.size 2 1 (.slice (some ⟨w3.heap.size + 1, 0, none⟩) 0 0) 0 [] from own_empty2 w3 b)
      have B0C := Lib.hid (show RowKit.Below w3.heap.size w3 ((w3.alloc (Obj.cells #[.int .i64 b] 2)).alloc (Obj.cells #[] 2)).drew from (((Below.refl w3.heap.size w3).alloc (Nat.le_refl _) _).alloc (by rw [World.size_alloc]; exact Nat.le_succ _) _).drew)
      have F0C := Lib.hid (F3.out.below B0C.out)
      have C0C := Lib.hid (show ((w3.alloc (Obj.cells #[.int .i64 b] 2)).alloc (Obj.cells #[] 2)).drew.cell? ⟨w3.heap.size, 0, none⟩ = some (.int .i64 b) from cell_new3 w3 b)
      have HM1 := Lib.hid (show 0 + xs.length ≤ maxLen by have := HL.out; have := HPN.out; unfold maxLen; omega)
      have HY1 := Lib.hid (show (0 + xs.length) * 8 ≤ 140737488355328 by have := HL.out; have := HPN.out; omega)
      have HE1 := Lib.hid (show (i64s (xs.take xs.length)).length = xs.length * 1 by have := HPN.out; rw [Nat.mul_one]; unfold i64s; rw [List.length_map, List.length_take]; omega)
      have HM2 := Lib.hid (show 0 + xs.length + 1 ≤ maxLen by have := HL.out; have := HPN.out; unfold maxLen; omega)
      have HY2 := Lib.hid (show (0 + xs.length + 1) * 8 ≤ 140737488355328 by have := HL.out; have := HPN.out; omega)
      have HM3 := Lib.hid (show 0 + xs.length + 1 + 0 ≤ maxLen by have := HL.out; have := HPN.out; unfold maxLen; omega)
      have HY3 := Lib.hid (show (0 + xs.length + 1 + 0) * 8 ≤ 140737488355328 by have := HL.out; have := HPN.out; omega)
      have HE3 := Lib.hid (show (i64s (xs.drop xs.length)).length = 0 * 1 by rw [List.drop_length]; rfl)
      obtain ⟨ms, hms⟩ : ∃ ms, ms = xs.take xs.length ++ [b] ++ xs.drop xs.length := ⟨_, rfl⟩
      have HMS := Lib.hid (show ms.Perm (b :: xs) by rw [hms]; exact ins_perm xs xs.length b)
      have HML := Lib.hid (show ms.length = 0 + xs.length + 1 + 0 by rw [HMS.out.length_eq]; have := HPN.out; show xs.length + 1 = _; omega)
      have HMX := Lib.hid (show [] ++ i64s (xs.take xs.length) ++ [Value.int .i64 b] ++ i64s (xs.drop xs.length) = i64s ms by rw [hms]; unfold i64s; rw [List.map_append, List.map_append]; rfl)
      have HMB := Lib.hid (show ∀ x ∈ ms, -9223372036854775808 ≤ x ∧ x ≤ 9223372036854775807 from fun x hx => by
        rcases List.mem_cons.1 (HMS.out.mem_iff.1 hx) with rfl | h
        · exact HBB.out
        · exact MeanW.IL.bounds HF.out x h)
      clear hms
      go_region_held3 (fun _ => True) (trivial) (first
        | (refine step_append_own rfl _ _ 22 rfl w3.heap.size 2 i0 (.int .i64 0) 1 8 Try.underlying22 HI.out HZ0.out HZ1.out HZ2.out rfl (by decide) (.slice (some ⟨w3.heap.size, 0, none⟩) 0 0) 0 [] (by simp [Act.eval]) O0A.out a xs.length xs.length (i64s (xs.take xs.length)) (by simp [Act.eval]) HE1.out (fun j u h => iltake_cells F0A.out xs.length j u h) i64s_one HM1.out HY1.out B0A.out.size ?_; (intro v1 w5 o1 g1 _; have G1 := Lib.hid (show RowKit.Below w3.heap.size w3 w5 from B0A.out.grown g1 B0A.out.size (fun k hk => by cases hk; exact Nat.le_refl _)); have O5 := Lib.hid (show (w5.alloc (Obj.cells #[.int .i64 b] 2)).ownsRow w3.heap.size 2 1 v1 (0 + xs.length) ([] ++ i64s (xs.take xs.length)) from o1.alloc _); have G5 := Lib.hid (show RowKit.Below w3.heap.size w3 (w5.alloc (Obj.cells #[.int .i64 b] 2)) from G1.out.alloc G1.out.size _); have C5A := Lib.hid (show (w5.alloc (Obj.cells #[.int .i64 b] 2)).cell? ⟨w5.heap.size, 0, none⟩ = some (.int .i64 b) from cell_new w5 b); clear o1 g1))
        | (refine step_append_own rfl _ _ 22 rfl w3.heap.size 2 i0 (.int .i64 0) 1 8 Try.underlying22 HI.out HZ0.out HZ1.out HZ2.out rfl (by decide) (.slice (some ⟨w3.heap.size, 0, none⟩) 0 0) 0 [] (by simp [Act.eval]) O0B.out a xs.length xs.length (i64s (xs.take xs.length)) (by simp [Act.eval]) HE1.out (fun j u h => iltake_cells F0B.out xs.length j u h) i64s_one HM1.out HY1.out B0B.out.size ?_; (intro v1 w5 o1 g1 _; have G1 := Lib.hid (show RowKit.Below w3.heap.size w3 w5 from B0B.out.grown g1 B0B.out.size (fun k hk => by cases hk; exact Nat.le_refl _)); have O5 := Lib.hid o1; have G5 := G1; have C5B := Lib.hid (g1.cell C0B.out (by simp [Value.ownBlock])); clear o1 g1))
        | (refine step_append_own rfl _ _ 22 rfl w3.heap.size 2 i0 (.int .i64 0) 1 8 Try.underlying22 HI.out HZ0.out HZ1.out HZ2.out rfl (by decide) (.slice (some ⟨w3.heap.size + 1, 0, none⟩) 0 0) 0 [] (by simp [Act.eval]) O0C.out a xs.length xs.length (i64s (xs.take xs.length)) (by simp [Act.eval]) HE1.out (fun j u h => iltake_cells F0C.out xs.length j u h) i64s_one HM1.out HY1.out B0C.out.size ?_; (intro v1 w5 o1 g1 _; have G1 := Lib.hid (show RowKit.Below w3.heap.size w3 w5 from B0C.out.grown g1 B0C.out.size (fun k hk => by cases hk; exact Nat.le_succ _)); have O5 := Lib.hid o1; have G5 := G1; have C5C := Lib.hid (g1.cell C0C.out (by simp [Value.ownBlock])); clear o1 g1))
        | (refine step_append_own rfl _ _ 22 rfl w3.heap.size 2 i0 (.int .i64 0) 1 8 Try.underlying22 HI.out HZ0.out HZ1.out HZ2.out rfl (by decide) v1 _ _ (by simp [Act.eval]) O5.out ⟨w5.heap.size, 0, none⟩ 1 1 [.int .i64 b] (by simp [Act.eval]) rfl (one_news C5A.out) (one_cell b) HM2.out HY2.out G5.out.size ?_; (intro v2 w6 o2 g2 _; have O2 := Lib.hid o2; have G2 := Lib.hid (show RowKit.Below w3.heap.size w3 w6 from G5.out.grown g2 G5.out.size (fun k hk => (O5.out.lt k hk).1)); have F6 := Lib.hid (F3.out.below G2.out); clear o2 g2))
        | (refine step_append_own rfl _ _ 22 rfl w3.heap.size 2 i0 (.int .i64 0) 1 8 Try.underlying22 HI.out HZ0.out HZ1.out HZ2.out rfl (by decide) v1 _ _ (by simp [Act.eval]) O5.out ⟨w3.heap.size + 1, 0, none⟩ 1 1 [.int .i64 b] (by simp [Act.eval]) rfl (one_news C5B.out) (one_cell b) HM2.out HY2.out G5.out.size ?_; (intro v2 w6 o2 g2 _; have O2 := Lib.hid o2; have G2 := Lib.hid (show RowKit.Below w3.heap.size w3 w6 from G5.out.grown g2 G5.out.size (fun k hk => (O5.out.lt k hk).1)); have F6 := Lib.hid (F3.out.below G2.out); clear o2 g2))
        | (refine step_append_own rfl _ _ 22 rfl w3.heap.size 2 i0 (.int .i64 0) 1 8 Try.underlying22 HI.out HZ0.out HZ1.out HZ2.out rfl (by decide) v1 _ _ (by simp [Act.eval]) O5.out ⟨w3.heap.size, 0, none⟩ 1 1 [.int .i64 b] (by simp [Act.eval]) rfl (one_news C5C.out) (one_cell b) HM2.out HY2.out G5.out.size ?_; (intro v2 w6 o2 g2 _; have O2 := Lib.hid o2; have G2 := Lib.hid (show RowKit.Below w3.heap.size w3 w6 from G5.out.grown g2 G5.out.size (fun k hk => (O5.out.lt k hk).1)); have F6 := Lib.hid (F3.out.below G2.out); clear o2 g2))
        | (refine step_append_own rfl _ _ 22 rfl w3.heap.size 2 i0 (.int .i64 0) 1 8 Try.underlying22 HI.out HZ0.out HZ1.out HZ2.out rfl (by decide) v2 _ _ (by simp [Act.eval]) O2.out a 0 0 (i64s (xs.drop xs.length)) (by simp [Act.eval]) HE3.out (fun j u h => by rw [List.drop_length] at h; simp [i64s] at h) i64s_one HM3.out HY3.out G2.out.size ?_; (intro v3 w7 o3 g3 _; rw [HMX.out, ← HML.out] at o3; obtain ⟨M, cM, rfl, hil, _⟩ := own_il o3 rfl HMB.out; have HIL := Lib.hid hil; have G3 := Lib.hid (show RowKit.Below w3.heap.size w3 w7 from G2.out.grown g3 G2.out.size (fun k hk => (O2.out.lt k hk).1)); clear o3 g3 hil)))
      all_goals
        have I6 := HIL
        have F7 := Lib.hid (F3.out.below G3.out)
        have B7 := Lib.hid (B3.out.trans (G3.out.mono B3.out.size))
        have HMN := Lib.hid (show ms.length = xs.length + 1 by rw [HMS.out.length_eq]; rfl)
        have HLM := Lib.hid (show ms.length * 8 ≤ 140737488355328 by rw [HMN.out]; have := HL.out; omega)
        have HT := Lib.hid (ansM_some (xs := ms) (by rw [HMN.out]; exact Nat.succ_pos _) (tolK ms))
        obtain ⟨E1a, E1b⟩ := bad_between HMS.out HP.out
        have HG0 := Lib.hid (getD_at (l := srt xs) (i := 0) (by rw [srt_len]; exact HP0.out))
        have HG1 := Lib.hid (getD_at (l := srt xs) (i := xs.length - 1) (by rw [srt_len]; have := HP0.out; omega))
        generalize halfAt ms (tolK ms) = r1 at *
        generalize (srt xs).getD 0 0 = s0 at *
        generalize (srt xs).getD (xs.length - 1) 0 = s1 at *
        have e1 : IntKind.i64.wrap ((xs.length : Int) - 1) = ((xs.length - 1 : Nat) : Int) := by rw [IntWalk.i64_in _ (by omega)]; have := HP0.out; omega
        have q5 : xs.length - 1 < xs.length := by have := HP0.out; omega
        have q6 : 0 < xs.length := HP0.out
        clear HIL G1 G2 G3 G5 O2 O5 F6 HM1 HY1 HE1 HM2 HY2 HM3 HY3 HE3 HML HMX HMB O0A B0A F0A O0B B0B F0B C0B O0C B0C F0C C0C
        go_wp2_with fail
        refine (tolerant_any M cM ms _ I6.out HLM.out).mono ?_
        rintro e w8 ⟨rfl, b8⟩
        rw [HT.out]
        have F8 := Lib.hid (F7.out.below b8)
        have B8 := Lib.hid (B7.out.trans (b8.mono B7.out.size))
        clear b8
        go_wp2_with fail
        refine (refSorted_any (some a) xs.length xs _ F8.out HL2.out HC.out).mono ?_
        rintro e w9 ⟨v, rfl, ho, b9⟩
        have B9 := Lib.hid (B8.out.trans (b9.mono B8.out.size))
        obtain ⟨g, cap, rfl, -, hu, -⟩ := own_i64c ho HP0.out
        have hg0 := hu 0 _ HG0.out
        have hg1 := hu (xs.length - 1) _ HG1.out
        clear b9 ho hu
        go_wp2
        go_ret
        exact ⟨rfl, B9.out⟩
    · skip
      have O0A := Lib.hid (show (w3.alloc (Obj.cells #[] 2)).drew.ownsRow w3.heap.size 2 1 (.slice (some ⟨w3.heap.size, 0, none⟩) 0 0) 0 [] from own_empty w3 _ (Nat.le_refl _))
      have B0A := Lib.hid (show RowKit.Below w3.heap.size w3 (w3.alloc (Obj.cells #[] 2)).drew from ((Below.refl w3.heap.size w3).alloc (Nat.le_refl _) _).drew)
      have F0A := Lib.hid (F3.out.below B0A.out)
      have O0B := Lib.hid (show ((w3.alloc (Obj.cells #[] 2)).drew.alloc (Obj.cells #[.int .i64 b] 2)).ownsRow w3.heap.size 2 1 (.slice (some ⟨w3.heap.size, 0, none⟩) 0 0) 0 [] from O0A.out.alloc _)
      have B0B := Lib.hid (show RowKit.Below w3.heap.size w3 ((w3.alloc (Obj.cells #[] 2)).drew.alloc (Obj.cells #[.int .i64 b] 2)) from B0A.out.alloc B0A.out.size _)
      have F0B := Lib.hid (F3.out.below B0B.out)
      have C0B := Lib.hid (show ((w3.alloc (Obj.cells #[] 2)).drew.alloc (Obj.cells #[.int .i64 b] 2)).cell? ⟨w3.heap.size + 1, 0, none⟩ = some (.int .i64 b) from cell_new2 w3 b)
      have O0C := Lib.hid (show ((w3.alloc (Obj.cells #[.int .i64 b] 2)).alloc (Obj.cells #[] 2)).drew.ownsRow w3.heap.size 2 1 (.slice (some ⟨w3.heap.size + 1, 0, none⟩) 0 0) 0 [] from own_empty2 w3 b)
      have B0C := Lib.hid (show RowKit.Below w3.heap.size w3 ((w3.alloc (Obj.cells #[.int .i64 b] 2)).alloc (Obj.cells #[] 2)).drew from (((Below.refl w3.heap.size w3).alloc (Nat.le_refl _) _).alloc (by rw [World.size_alloc]; exact Nat.le_succ _) _).drew)
      have F0C := Lib.hid (F3.out.below B0C.out)
      have C0C := Lib.hid (show ((w3.alloc (Obj.cells #[.int .i64 b] 2)).alloc (Obj.cells #[] 2)).drew.cell? ⟨w3.heap.size, 0, none⟩ = some (.int .i64 b) from cell_new3 w3 b)
      have HM1 := Lib.hid (show 0 + p ≤ maxLen by have := HL.out; have := HPN.out; unfold maxLen; omega)
      have HY1 := Lib.hid (show (0 + p) * 8 ≤ 140737488355328 by have := HL.out; have := HPN.out; omega)
      have HE1 := Lib.hid (show (i64s (xs.take p)).length = p * 1 by have := HPN.out; rw [Nat.mul_one]; unfold i64s; rw [List.length_map, List.length_take]; omega)
      have HM2 := Lib.hid (show 0 + p + 1 ≤ maxLen by have := HL.out; have := HPN.out; unfold maxLen; omega)
      have HY2 := Lib.hid (show (0 + p + 1) * 8 ≤ 140737488355328 by have := HL.out; have := HPN.out; omega)
      have HM3 := Lib.hid (show 0 + p + 1 + (xs.length - p) ≤ maxLen by have := HL.out; have := HPN.out; unfold maxLen; omega)
      have HY3 := Lib.hid (show (0 + p + 1 + (xs.length - p)) * 8 ≤ 140737488355328 by have := HL.out; have := HPN.out; omega)
      have HE3 := Lib.hid (show (i64s (xs.drop p)).length = (xs.length - p) * 1 by rw [Nat.mul_one]; unfold i64s; rw [List.length_map, List.length_drop])
      obtain ⟨ms, hms⟩ : ∃ ms, ms = xs.take p ++ [b] ++ xs.drop p := ⟨_, rfl⟩
      have HMS := Lib.hid (show ms.Perm (b :: xs) by rw [hms]; exact ins_perm xs p b)
      have HML := Lib.hid (show ms.length = 0 + p + 1 + (xs.length - p) by rw [HMS.out.length_eq]; have := HPN.out; show xs.length + 1 = _; omega)
      have HMX := Lib.hid (show [] ++ i64s (xs.take p) ++ [Value.int .i64 b] ++ i64s (xs.drop p) = i64s ms by rw [hms]; unfold i64s; rw [List.map_append, List.map_append]; rfl)
      have HMB := Lib.hid (show ∀ x ∈ ms, -9223372036854775808 ≤ x ∧ x ≤ 9223372036854775807 from fun x hx => by
        rcases List.mem_cons.1 (HMS.out.mem_iff.1 hx) with rfl | h
        · exact HBB.out
        · exact MeanW.IL.bounds HF.out x h)
      clear hms
      go_region_held3 (fun _ => True) (trivial) (first
        | (refine step_append_own rfl _ _ 22 rfl w3.heap.size 2 i0 (.int .i64 0) 1 8 Try.underlying22 HI.out HZ0.out HZ1.out HZ2.out rfl (by decide) (.slice (some ⟨w3.heap.size, 0, none⟩) 0 0) 0 [] (by simp [Act.eval]) O0A.out a p c (i64s (xs.take p)) (by simp [Act.eval]) HE1.out (fun j u h => iltake_cells F0A.out p j u h) i64s_one HM1.out HY1.out B0A.out.size ?_; (intro v1 w5 o1 g1 _; have G1 := Lib.hid (show RowKit.Below w3.heap.size w3 w5 from B0A.out.grown g1 B0A.out.size (fun k hk => by cases hk; exact Nat.le_refl _)); have O5 := Lib.hid (show (w5.alloc (Obj.cells #[.int .i64 b] 2)).ownsRow w3.heap.size 2 1 v1 (0 + p) ([] ++ i64s (xs.take p)) from o1.alloc _); have G5 := Lib.hid (show RowKit.Below w3.heap.size w3 (w5.alloc (Obj.cells #[.int .i64 b] 2)) from G1.out.alloc G1.out.size _); have C5A := Lib.hid (show (w5.alloc (Obj.cells #[.int .i64 b] 2)).cell? ⟨w5.heap.size, 0, none⟩ = some (.int .i64 b) from cell_new w5 b); clear o1 g1))
        | (refine step_append_own rfl _ _ 22 rfl w3.heap.size 2 i0 (.int .i64 0) 1 8 Try.underlying22 HI.out HZ0.out HZ1.out HZ2.out rfl (by decide) (.slice (some ⟨w3.heap.size, 0, none⟩) 0 0) 0 [] (by simp [Act.eval]) O0B.out a p c (i64s (xs.take p)) (by simp [Act.eval]) HE1.out (fun j u h => iltake_cells F0B.out p j u h) i64s_one HM1.out HY1.out B0B.out.size ?_; (intro v1 w5 o1 g1 _; have G1 := Lib.hid (show RowKit.Below w3.heap.size w3 w5 from B0B.out.grown g1 B0B.out.size (fun k hk => by cases hk; exact Nat.le_refl _)); have O5 := Lib.hid o1; have G5 := G1; have C5B := Lib.hid (g1.cell C0B.out (by simp [Value.ownBlock])); clear o1 g1))
        | (refine step_append_own rfl _ _ 22 rfl w3.heap.size 2 i0 (.int .i64 0) 1 8 Try.underlying22 HI.out HZ0.out HZ1.out HZ2.out rfl (by decide) (.slice (some ⟨w3.heap.size + 1, 0, none⟩) 0 0) 0 [] (by simp [Act.eval]) O0C.out a p c (i64s (xs.take p)) (by simp [Act.eval]) HE1.out (fun j u h => iltake_cells F0C.out p j u h) i64s_one HM1.out HY1.out B0C.out.size ?_; (intro v1 w5 o1 g1 _; have G1 := Lib.hid (show RowKit.Below w3.heap.size w3 w5 from B0C.out.grown g1 B0C.out.size (fun k hk => by cases hk; exact Nat.le_succ _)); have O5 := Lib.hid o1; have G5 := G1; have C5C := Lib.hid (g1.cell C0C.out (by simp [Value.ownBlock])); clear o1 g1))
        | (refine step_append_own rfl _ _ 22 rfl w3.heap.size 2 i0 (.int .i64 0) 1 8 Try.underlying22 HI.out HZ0.out HZ1.out HZ2.out rfl (by decide) v1 _ _ (by simp [Act.eval]) O5.out ⟨w5.heap.size, 0, none⟩ 1 1 [.int .i64 b] (by simp [Act.eval]) rfl (one_news C5A.out) (one_cell b) HM2.out HY2.out G5.out.size ?_; (intro v2 w6 o2 g2 _; have O2 := Lib.hid o2; have G2 := Lib.hid (show RowKit.Below w3.heap.size w3 w6 from G5.out.grown g2 G5.out.size (fun k hk => (O5.out.lt k hk).1)); have F6 := Lib.hid (F3.out.below G2.out); clear o2 g2))
        | (refine step_append_own rfl _ _ 22 rfl w3.heap.size 2 i0 (.int .i64 0) 1 8 Try.underlying22 HI.out HZ0.out HZ1.out HZ2.out rfl (by decide) v1 _ _ (by simp [Act.eval]) O5.out ⟨w3.heap.size + 1, 0, none⟩ 1 1 [.int .i64 b] (by simp [Act.eval]) rfl (one_news C5B.out) (one_cell b) HM2.out HY2.out G5.out.size ?_; (intro v2 w6 o2 g2 _; have O2 := Lib.hid o2; have G2 := Lib.hid (show RowKit.Below w3.heap.size w3 w6 from G5.out.grown g2 G5.out.size (fun k hk => (O5.out.lt k hk).1)); have F6 := Lib.hid (F3.out.below G2.out); clear o2 g2))
        | (refine step_append_own rfl _ _ 22 rfl w3.heap.size 2 i0 (.int .i64 0) 1 8 Try.underlying22 HI.out HZ0.out HZ1.out HZ2.out rfl (by decide) v1 _ _ (by simp [Act.eval]) O5.out ⟨w3.heap.size, 0, none⟩ 1 1 [.int .i64 b] (by simp [Act.eval]) rfl (one_news C5C.out) (one_cell b) HM2.out HY2.out G5.out.size ?_; (intro v2 w6 o2 g2 _; have O2 := Lib.hid o2; have G2 := Lib.hid (show RowKit.Below w3.heap.size w3 w6 from G5.out.grown g2 G5.out.size (fun k hk => (O5.out.lt k hk).1)); have F6 := Lib.hid (F3.out.below G2.out); clear o2 g2))
        | (refine step_append_own rfl _ _ 22 rfl w3.heap.size 2 i0 (.int .i64 0) 1 8 Try.underlying22 HI.out HZ0.out HZ1.out HZ2.out rfl (by decide) v2 _ _ (by simp [Act.eval]) O2.out (a.add p) (xs.length - p) (c - p) (i64s (xs.drop p)) (by simp [Act.eval]) HE3.out (fun j u h => ildrop_cells F6.out p j u h) i64s_one HM3.out HY3.out G2.out.size ?_; (intro v3 w7 o3 g3 _; rw [HMX.out, ← HML.out] at o3; obtain ⟨M, cM, rfl, hil, _⟩ := own_il o3 rfl HMB.out; have HIL := Lib.hid hil; have G3 := Lib.hid (show RowKit.Below w3.heap.size w3 w7 from G2.out.grown g3 G2.out.size (fun k hk => (O2.out.lt k hk).1)); clear o3 g3 hil)))
      all_goals
        have I6 := HIL
        have F7 := Lib.hid (F3.out.below G3.out)
        have B7 := Lib.hid (B3.out.trans (G3.out.mono B3.out.size))
        have HMN := Lib.hid (show ms.length = xs.length + 1 by rw [HMS.out.length_eq]; rfl)
        have HLM := Lib.hid (show ms.length * 8 ≤ 140737488355328 by rw [HMN.out]; have := HL.out; omega)
        have HT := Lib.hid (ansM_some (xs := ms) (by rw [HMN.out]; exact Nat.succ_pos _) (tolK ms))
        obtain ⟨E1a, E1b⟩ := bad_between HMS.out HP.out
        have HG0 := Lib.hid (getD_at (l := srt xs) (i := 0) (by rw [srt_len]; exact HP0.out))
        have HG1 := Lib.hid (getD_at (l := srt xs) (i := xs.length - 1) (by rw [srt_len]; have := HP0.out; omega))
        generalize halfAt ms (tolK ms) = r1 at *
        generalize (srt xs).getD 0 0 = s0 at *
        generalize (srt xs).getD (xs.length - 1) 0 = s1 at *
        have e1 : IntKind.i64.wrap ((xs.length : Int) - 1) = ((xs.length - 1 : Nat) : Int) := by rw [IntWalk.i64_in _ (by omega)]; have := HP0.out; omega
        have q5 : xs.length - 1 < xs.length := by have := HP0.out; omega
        have q6 : 0 < xs.length := HP0.out
        clear HIL G1 G2 G3 G5 O2 O5 F6 HM1 HY1 HE1 HM2 HY2 HM3 HY3 HE3 HML HMX HMB O0A B0A F0A O0B B0B F0B C0B O0C B0C F0C C0C
        go_wp2_with fail
        refine (tolerant_any M cM ms _ I6.out HLM.out).mono ?_
        rintro e w8 ⟨rfl, b8⟩
        rw [HT.out]
        have F8 := Lib.hid (F7.out.below b8)
        have B8 := Lib.hid (B7.out.trans (b8.mono B7.out.size))
        clear b8
        go_wp2_with fail
        refine (refSorted_any (some a) c xs _ F8.out HL2.out HC.out).mono ?_
        rintro e w9 ⟨v, rfl, ho, b9⟩
        have B9 := Lib.hid (B8.out.trans (b9.mono B8.out.size))
        obtain ⟨g, cap, rfl, -, hu, -⟩ := own_i64c ho HP0.out
        have hg0 := hu 0 _ HG0.out
        have hg1 := hu (xs.length - 1) _ HG1.out
        clear b9 ho hu
        go_wp2
        go_ret
        exact ⟨rfl, B9.out⟩
set_option maxRecDepth 100000 in
/-- What the walk gives, for every argument and every world. -/
theorem contract (H : Type) (enc : TypeId × Value → H) (W : World) (base : Nat) (args : Array Value) (ds gs : List (DataW H)) (before : List MemPlace)
    (hval : ∀ (j : Nat) t v, Try.f5.params[j]? = some t → args[j]? = some v → Value.okWide Try.prog W .any base t v)
    (hW : DataW.Whole enc Try.prog Try.f5.params.toList Rows.meanBadSpec.vars false W args.toList ds gs before) (hz : (DataW.weightsEach Try.prog (Try.f5.params.toList ++ (OpenSpec.ofChange Rows.meanBadSpec).bare.plain.varTypes Try.prog) (ds ++ gs)).all (· ≤ reachBytes) = true) : 
    Calls Try.prog 5 args W fun e W' => ∃ v, e = .returned v ∧ Rows.meanBadSpec.post enc Try.prog Try.f5 false true false false W args v W' := by
  have hW' := hW
  obtain ⟨p, q, hA0, hV, rfl, hfz, hnd⟩ := hW
  have hA : DataW.TrodAll enc Try.prog W 0 (fun _ => true) true Try.f5.params.toList args.toList ds p := hA0
  rw [Try.params5] at hA hval
  obtain ⟨v0, vs0, d0, ds0, p0, q0, hargs, rfl, rfl, h0, r0⟩ := trodAll_cons hA
  obtain ⟨v1, vs1, d1, ds1, p1, q1, rfl, rfl, rfl, h1, r1⟩ := trodAll_cons r0
  obtain ⟨v2, vs2, d2, ds2, p2, q2, rfl, rfl, rfl, h2, r2⟩ := trodAll_cons r1
  obtain ⟨rfl, rfl, rfl⟩ := trodAll_nil r2
  obtain rfl : args = #[v0, v1, v2] := by cases args; simp_all
  obtain ⟨rfl, rfl⟩ := trodVars_none hV
  obtain ⟨A0, xs, c0, rfl, f0, l0, lc0, sz0, nl0⟩ := open_int64s Try.underlying22 Try.underlying2 (by kernel_rfl) (hval 0 22 v0 rfl rfl) h0
  have z0 : xs.length * 8 ≤ 140737488351232 := by
    rcases sz0 with h | ⟨es, sp, hd, hl⟩
    · rw [h]; decide
    · have := sized_slice hz (j := 0) (t := 22) (e := 2) (elems := es) (spare := sp) (by rw [Try.params5]; rfl) (by rw [hd]; rfl) Try.underlying22
      rw [show Try.prog.bytesOf 2 = 8 by kernel_rfl, show reachBytes = 140737488351232 from rfl] at this
      omega
  obtain ⟨b, rfl, rfl, rfl, w1⟩ := open_int Try.underlying2 (hval 1 2 v1 rfl rfl) h1
  obtain ⟨t, rfl, rfl, rfl, w2⟩ := open_int Try.underlying3 (hval 2 3 v2 rfl rfl) h2
  refine (walk A0 xs c0 b t W f0 z0 lc0 (i64_wf w1)).mono fun e W' ⟨he, hb⟩ => ?_
  exact ⟨_, he, Shell.post_law laidOut (by kernel_rfl) rfl Try.underlying4 rfl hW' rfl hb⟩
theorem reads (os : Os) {H : Type} (enc : TypeId × Value → H) : ∃ places, DataW.whole enc Try.prog ((World.holding Try.prog os ⟨#[], #[], []⟩).forCall (fun _ _ => 0) ⟨#[], #[.slice none 0 0, .int .i64 0, .int .i64 0], []⟩).memory Try.f5.params.toList Rows.meanBadSpec.vars false (#[Value.slice none 0 0, Value.int .i64 0, Value.int .i64 0]).toList 8 = some ([.nil, .lit (.int .i64 0), .lit (.int .i64 0)], [], places) :=
  ⟨[], by kernel_rfl⟩
set_option maxRecDepth 100000 in
theorem lifted (os : Os) (started : os.Started) (H : Type) (enc : TypeId × Value → H) (F : Stop.Interp) :
    ReturnsInHanded {} Try.checked os 5 .any ((OpenSpec.ofChange Rows.meanBadSpec).preRow enc Try.prog Try.f5 Rows.meanBadRow.domain false Rows.meanBadRow.laid) (((OpenSpec.ofChange Rows.meanBadSpec).at F).post enc Try.prog Try.f5 false true false false) := by
  obtain ⟨places, hx⟩ := reads os enc
  refine returnsInHanded_of_row (C := Try.checked) (s := OpenSpec.ofChange Rows.meanBadSpec) own started (by kernel_rfl) Try.func5
    (witness_row_atRef (enc := enc) (C := Try.checked) false (World.holding Try.prog os ⟨#[], #[], []⟩) #[.slice none 0 0, .int .i64 0, .int .i64 0] rfl (by kernel_rfl) (by kernel_rfl) (by kernel_rfl)
      (OpenSpec.preRow_of_cond 8 hx (by kernel_rfl) (fun k hk => by cases hk) (by kernel_rfl) (laid_met os _))) ?_
  intro W base args ds gs before hval hW _ _ hz hL _ _
  exact contract H enc W base args ds gs before hval hW hz
theorem said : Rows.MeanBadSaid :=
  OpenClaim.holds_of_cond 5 Try.f5 rfl rfl rfl rfl rfl rfl rfl ⟨rfl, rfl, rfl, rfl, rfl⟩ rfl rfl rfl rfl rfl (by kernel_rfl) Try.func5 (by kernel_rfl)
    (of_decide_eq_true (by kernel_rfl)) (by unfold Func.isWrapper; first | (rw [if_pos (by decide +kernel)]; kernel_rfl) | (rw [if_neg (by decide +kernel)]; exact ⟨rfl, rfl⟩))
    (fun os started H enc _ F => by rw [OpenClaim.pre_eq_preRow]; exact lifted os started H enc F)
end Go.Proofs.Ytelfbjldfdlpnaa.MeanW.MeanBad
