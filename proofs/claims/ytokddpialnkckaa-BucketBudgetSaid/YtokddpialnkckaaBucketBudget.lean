/- The law BucketBudget: in no stretch of time pass more frames than the budget says: for all gaps, jitters and times. No condition. -/
import Derived.Test.YtokddpialnkckaaBucketLay
import Derived.Test.YtokddpialnkckaaBucketB
namespace Go.Proofs.Ytokddpialnkckaa.BucketW.BucketBudget
open Go.ChangeShapes Go.WideShapes Go.ChangeAt Go.RowKit BucketW Shell
/-- The frames that passed, behind i frames. -/
structure J (g j : Int) (s : Bk) (ps : List Int) (i : Nat) : Prop where
  sum : s.n + s.r = i
  len : ps.length = s.n
  last : ∀ p, ps.getLast? = some p → p = s.l
  lim : Lim g j ps s.m
  near : ∀ p ∈ ps, far p = false
theorem J.start (g j : Int) : J g j b0 [] 0 := ⟨rfl, rfl, fun p h => by simp at h, lim_nil g j 0, fun p h => by cases h⟩
theorem J.yes {g j t : Int} {s : Bk} {ps : List Int} {i : Nat} (h : J g j s ps i) (hj : 0 ≤ j) (hp : pas j s t = true) : J g j (tk g j s t) (ps ++ [t]) (i + 1) := by
  have hf := far_iff.2 (okB_iff.1 hp).1
  have hk : okB j ps.length s.l s.m t = true := by rw [h.len]; exact hp
  have L := lim_take hj h.lim h.last hk
  rw [h.len] at L
  rw [tk_yes hp]
  refine ⟨by have := h.sum; dsimp only; omega, by rw [List.length_append, h.len]; rfl, fun p hp => ?_, L, fun p hp => ?_⟩
  · rw [List.getLast?_concat] at hp; cases hp; rfl
  · rcases List.mem_append.1 hp with hp | hp
    · exact h.near p hp
    · rw [List.mem_singleton] at hp; rw [hp]; exact hf
theorem J.no {g j t : Int} {s : Bk} {ps : List Int} {i : Nat} (h : J g j s ps i) (hp : pas j s t = false) : J g j (tk g j s t) ps (i + 1) := by
  rw [tk_no hp]
  exact ⟨by have := h.sum; dsimp only; omega, h.len, h.last, h.lim, h.near⟩
/-- What the law asks of two that passed. -/
theorem J.ask {g j : Int} {s : Bk} {ps : List Int} {n : Nat} (h : J g j s ps n) (hr : rgt g j = true) {i k : Nat} {p q : Int} (hik : i ≤ k) (hp : ps[i]? = some p) (hq : ps[k]? = some q) :
    (k : Int) - i + 1 ≤ bud g j (q - p) ∧ (-1125899906842624 ≤ p ∧ p ≤ 1125899906842624) ∧ -1125899906842624 ≤ q ∧ q ≤ 1125899906842624 :=
  ⟨lim_bud hr h.lim h.near hik hp hq, far_iff.1 (h.near p (List.mem_of_getElem? hp)), far_iff.1 (h.near q (List.mem_of_getElem? hq))⟩
/-- The row beside it has grown. -/
theorem PB.up {w0 w w1 : World} {k base : Nat} {g j : Int} {s : Bk} {v v' : Value} {ps : List Int} (h : PB w0 [] k g j s w) (o : OR w base 2 .i64 v ps) (S : Step w v w1 v') (hb : k < base ∧ base ≤ w.heap.size) : PB w0 [] k g j s w1 := by
  have b := S.below o hb.2
  refine ⟨⟨h.st.b.trans (b.mono (by have := h.ge; omega)), fun x hx => ?_⟩, h.ge, h.ne, h.rg, h.ft⟩
  rw [List.mem_singleton] at hx
  subst hx
  exact (b.block _ (by have := hb.1; omega)).trans h.box
theorem pass_one {w : World} {t : Int} {j : Int} {s : Bk} (hp : pas j s t = true) : CL (w.alloc (.cells #[.int .i64 t] 2)) .i64 (some ⟨w.heap.size, 0, none⟩) [t] := by
  have tb := (okB_iff.1 hp).1
  exact cl_one w t (by omega) (by omega) _
set_option maxHeartbeats 16000000 in
set_option maxRecDepth 100000 in
theorem walk (g j : Int) (A : Option Addr) (xs : List Int) (c : Nat) (w : World) (hA : CL w .i64 A xs) (hc : xs.length ≤ c) (_hn : A = none → c = 0) :
    Calls Try.prog 4 #[.int .i64 g, .int .i64 j, .slice A xs.length c] w fun e w' => e = .returned (.bool true) ∧ Below w.heap.size w w' := by
  obtain ⟨N, hN⟩ : ∃ N, min xs.length 500 = N := ⟨_, rfl⟩
  have e1 : min (xs.length : Int) 500 = (N : Int) := by omega
  have e2 : (if (500 : Int) < (xs.length : Int) then (500 : Int) else (xs.length : Int)) = (N : Int) := by split <;> omega
  have e3 : N ≤ c := by omega
  have e4 : (N : Int) ≤ (c : Int) := by omega
  obtain ⟨ys, hy⟩ : ∃ ys, xs.take N = ys := ⟨_, rfl⟩
  have hA := hA.take N
  rw [hy] at hA
  have HA := Lib.hid hA
  have HL := Lib.hid (show ys.length = N by rw [← hy, List.length_take]; omega)
  have HN := Lib.hid (show N ≤ 500 by omega)
  clear hA hN hy
  generalize xs.length = n at *
  clear hc
  go_enter Try.func4, Try.ntmps4
  go_wp2_with fail
  refine (fixed_any _).mono ?_
  rintro e w1 ⟨rfl, b1⟩
  have S1 := Lib.hid ((Stay.start w).next b1)
  clear b1
  cases hr : rgt g j with
  | false =>
    go_wp2_with fail
    refine (new_bad g j hr _).mono ?_
    rintro e w' ⟨rfl, rfl⟩
    go_wp2
    go_ret
    exact ⟨rfl, S1.out.b⟩
  | true =>
    go_wp2_with fail
    refine (pb_new S1.out g j hr).mono ?_
    rintro e w2 ⟨rfl, p2, -⟩
    have P2 := Lib.hid p2
    have HR := Lib.hid hr
    generalize hk : w1.heap.size = k at *
    clear S1 p2 hk hr
    go_upto_region 7 with (fail)
    clear e1 e2 e3 e4
    go_upto_region 9 with (fail)
    go_loopw [9, 33] (fun pv iv wr => ∃ (i : Nat) (s : Bk) (ps : List Int), iv = .int .i64 i ∧ i ≤ N ∧ Hid (J g j s ps i) ∧ Hid (OR wr (k + 1) 2 .i64 pv ps) ∧ Hid (PB w [] k g j s wr)) (fun _ iv _ => N - (intOf iv).toNat)
    case atStart => exact ⟨0, b0, [], rfl, Nat.zero_le _, Lib.hid (J.start g j), Lib.hid (OR.nil _ _ _ _), P2⟩
    case round =>
      clear P2
      obtain ⟨i, s, ps, rfl, hi, HJ, HO, HP⟩ := hrel
      obtain ⟨W, hW⟩ : ∃ W, W = wr := ⟨_, rfl⟩
      subst hW
      by_cases hil : i < N
      · obtain ⟨t, hx⟩ : ∃ t, ys[i]? = some t := ⟨_, List.getElem?_eq_getElem (by have := HL.out; omega)⟩
        obtain ⟨a, rfl, hc, -⟩ := HA.out.below HP.out.st.b i t hx
        have iw : IntKind.i64.wrap ((i : Int) + 1) = (i : Int) + 1 := by have := HN.out; rw [IntKind.wrap_i64]; omega
        have HI := Lib.hid hil
        have SB := Lib.hid (show s.n + s.r < 1000 by have := HJ.out.sum; have := HN.out; omega)
        have HT := Lib.hid (HP.out.take t (by have := SB.out; omega))
        clear hx
        cases hp : pas j s t with
        | true =>
          rw [hp] at HT
          have J1 := Lib.hid (HJ.out.yes (rgt_iff.1 HR.out).2.1 hp)
          have L1 := Lib.hid (show ps.length < 1000 by have := HJ.out.len; have := SB.out; omega)
          go_wp2_with (fail)
          refine HT.out.mono ?_
          rintro e w3 ⟨rfl, p3, kp⟩
          have O3 := Lib.hid (or_kept HO.out kp (fun e => by have := (HO.out.lt _ e).1; omega))
          have P3 := Lib.hid p3
          clear p3 kp HT hc HO HP
          go_wp2_with (at_builtin; refine wpList_append_or i64_one _ rfl _ _ rfl (k + 1) _ ps rfl (O3.out.alloc _) (some ⟨w3.heap.size, 0, none⟩) 1 1 [t] rfl rfl ?c1 (fun h => by cases h) ?c2 (by decide) ?c3 ?_)
          case c1 => exact pass_one hp
          case c2 => have := L1.out; omega
          case c3 => have := P3.out.lt; rw [World.size_alloc]; omega
          intro v4 w4 o4 s4
          have P4 := Lib.hid (PB.up (P3.out.next (al (Below.refl _ _) _)) (O3.out.alloc _) s4 ⟨by omega, by have := P3.out.lt; rw [World.size_alloc]; omega⟩)
          have O4 := Lib.hid o4
          clear o4 s4 hp O3 P3
          go_wp2
          go_roundw
          case rel => exact ⟨i + 1, _, _, by simp, by have := HI.out; omega, J1, O4, P4⟩
          case measure => have := HI.out; simp only [intOf]; clear iw; omega
        | false =>
          rw [hp] at HT
          have J1 := Lib.hid (HJ.out.no hp)
          go_wp2_with (fail)
          refine HT.out.mono ?_
          rintro e w3 ⟨rfl, p3, kp⟩
          have O3 := Lib.hid (or_kept HO.out kp (fun e => by have := (HO.out.lt _ e).1; omega))
          have P3 := Lib.hid p3
          clear p3 kp HT hc HO HP hp
          go_wp2
          go_roundw
          case rel => exact ⟨i + 1, _, _, by simp, by have := HI.out; omega, J1, O3, P3⟩
          case measure => have := HI.out; simp only [intOf]; clear iw; omega
      · obtain ⟨A', c', rfl, cl, -⟩ := HO.out.form
        have CC := Lib.hid (cl.below (Below.refl _ _))
        obtain ⟨n1, hn1⟩ : ∃ n1, ps.length = n1 := ⟨_, rfl⟩
        rw [hn1]
        have HQ := Lib.hid (fun i k p q a b c => HJ.out.ask HR.out (i := i) (k := k) (p := p) (q := q) a b c)
        have NB := Lib.hid (show n1 ≤ 500 by have := HJ.out.len; have := HJ.out.sum; have := HN.out; omega)
        have LN := Lib.hid hn1
        have BW := Lib.hid HP.out.st.b
        clear cl HO HJ HP hn1
        go_upto_region 15 with (fail)
        clear hil hi
        go_loopw [47] (fun iv wr => ∃ (i : Nat), iv = .int .i64 i ∧ i ≤ n1 ∧ Hid (Below W.heap.size W wr)) (fun iv _ => n1 - (intOf iv).toNat)
        case atStart => exact ⟨0, rfl, Nat.zero_le _, Lib.hid (Below.refl _ _)⟩
        case round =>
          obtain ⟨i1, rfl, hi, HB⟩ := hrel
          obtain ⟨V, hV⟩ : ∃ V, V = wr := ⟨_, rfl⟩
          subst hV
          by_cases hil : i1 < n1
          · have HI := Lib.hid hil
            have iw : IntKind.i64.wrap ((i1 : Int) + 1) = (i1 : Int) + 1 := by have := NB.out; rw [IntKind.wrap_i64]; omega
            have IW := Lib.hid iw
            clear iw
            go_upto_region 18 with (fail)
            go_loopw [13] (fun kv wr => ∃ (m : Nat), kv = .int .i64 m ∧ i1 ≤ m ∧ m ≤ n1 ∧ Hid (Below W.heap.size W wr)) (fun kv _ => n1 - (intOf kv).toNat)
            case atStart => exact ⟨i1, rfl, Nat.le_refl _, hi, HB⟩
            case round =>
              clear HB
              obtain ⟨m, rfl, him, hm, HB⟩ := hrel
              by_cases hml : m < n1
              · obtain ⟨q, hq⟩ : ∃ q, ps[m]? = some q := ⟨_, List.getElem?_eq_getElem (by have := LN.out; omega)⟩
                obtain ⟨p, hp⟩ : ∃ p, ps[i1]? = some p := ⟨_, List.getElem?_eq_getElem (by have := LN.out; have := HI.out; omega)⟩
                obtain ⟨h1, h2, h3⟩ := HQ.out i1 m p q him hp hq
                have HMI := Lib.hid him
                have HML := Lib.hid hml
                obtain ⟨a, rfl, -⟩ := CC.out m q hq
                have YQ := Lib.hid hq
                have YP := Lib.hid hp
                obtain ⟨d, hd⟩ : ∃ d, q - p = d := ⟨_, rfl⟩
                obtain ⟨E1, hE⟩ : ∃ E1, (m : Int) - (i1 : Int) + 1 = E1 := ⟨_, rfl⟩
                rw [hd, hE] at h1
                have nb := NB.out
                have z1 : IntKind.i64.wrap ((m : Int) - (i1 : Int)) = (m : Int) - (i1 : Int) := by rw [IntKind.wrap_i64]; omega
                have z2 : IntKind.i64.wrap ((m : Int) - (i1 : Int) + 1) = E1 := by rw [hE, IntKind.wrap_i64]; omega
                have z3 : IntKind.i64.wrap (q - p) = d := by rw [hd, IntKind.wrap_i64]; omega
                have z4 : (i1 : Int) < (n1 : Int) := by have := HI.out; omega
                have z5 : (m : Int) < (n1 : Int) := by omega
                have z6 : i1 < n1 := HI.out
                have z7 : IntKind.i64.wrap ((m : Int) + 1) = (m : Int) + 1 := by rw [IntKind.wrap_i64]; omega
                have HD := Lib.hid (fun W => budget_any g j d W)
                generalize bud g j d = Q at *
                have z8 : ¬ Q < E1 := by omega
                clear hd hE h1 h2 h3 hq hp him nb
                go_upto_region 20 with (fail)
                apply wp_some (S := fun V' => Below W.heap.size W V')
                case h =>
                  refine wp_region_noPanic ?_
                  refine wp_region_held_drew (S := fun V' : World => Below W.heap.size W V') (by kernel_rfl) (HB.out.drew) (fun hHeld => ?_)
                  refine wpAnyH_take (i := 0) (oi := ⟨some 57, _, _, _, _, _⟩) (v := ?_) rfl (by kernel_rfl) (by kernel_rfl) (by kernel_rfl) (fun _ _ _ h => h) (Or.inl ⟨by kernel_rfl, ?_⟩) (by assumption) ?_; rotate_left; (focus (intro w hSw; (try dsimp only at hSw); go_simp; (try with_reducible rfl)))
                  simp only [Act.put, List.setIfInBounds_toArray, List.set_cons_zero, List.set_cons_succ]
                  refine wpAnyH_take (i := 1) (oi := ⟨some 58, _, _, _, _, _⟩) (v := ?_) rfl (by kernel_rfl) (by kernel_rfl) (by kernel_rfl) (fun _ _ _ h => h) (Or.inl ⟨by kernel_rfl, ?_⟩) (by assumption) ?_; rotate_left; (focus (intro w hSw; (try dsimp only at hSw); go_simp; (try with_reducible rfl)))
                  simp only [Act.put, List.setIfInBounds_toArray, List.set_cons_zero, List.set_cons_succ]
                  refine wpAnyH_take (i := 2) (oi := ⟨some 59, _, _, _, _, _⟩) (v := ?_) rfl (by kernel_rfl) (by kernel_rfl) (by kernel_rfl) (fun _ _ _ h => h) (Or.inl ⟨by kernel_rfl, ?_⟩) (by assumption) ?_; rotate_left; (focus (intro w hSw; (try dsimp only at hSw); go_simp; (try with_reducible rfl)))
                  simp only [Act.put, List.setIfInBounds_toArray, List.set_cons_zero, List.set_cons_succ]
                  refine wpAnyH_take (i := 3) (oi := ⟨some 60, _, _, _, _, _⟩) (v := ?_) rfl (by kernel_rfl) (by kernel_rfl) (by kernel_rfl) (fun _ _ _ h => h) (Or.inl ⟨by kernel_rfl, ?_⟩) (by assumption) ?_; rotate_left; (focus (intro w hSw; (try dsimp only at hSw); go_simp; (try with_reducible rfl)))
                  simp only [Act.put, List.setIfInBounds_toArray, List.set_cons_zero, List.set_cons_succ]
                  refine wpAnyH_take (i := 4) (oi := ⟨some 61, _, _, _, _, _⟩) (v := ?_) rfl (by kernel_rfl) (by kernel_rfl) (by kernel_rfl) (fun _ _ _ h => h) (Or.inl ⟨by kernel_rfl, ?_⟩) (by assumption) ?_; rotate_left; (focus (intro w hSw; (try dsimp only at hSw); go_simp; (try with_reducible rfl)))
                  simp only [Act.put, List.setIfInBounds_toArray, List.set_cons_zero, List.set_cons_succ]
                  refine wpAnyH_take (i := 5) (oi := ⟨some 62, _, _, _, _, _⟩) (v := ?_) rfl (by kernel_rfl) (by kernel_rfl) (by kernel_rfl) (fun _ _ _ h => h) (Or.inl ⟨by kernel_rfl, ?_⟩) (by assumption) ?_; rotate_left; (focus (intro w hSw; (try dsimp only at hSw); go_simp; (try with_reducible rfl)))
                  simp only [Act.put, List.setIfInBounds_toArray, List.set_cons_zero, List.set_cons_succ]
                  refine wpAnyH_take (i := 6) (oi := ⟨some 63, _, _, _, _, _⟩) (v := ?_) rfl (by kernel_rfl) (by kernel_rfl) (by kernel_rfl) (fun _ _ _ h => h) (Or.inl ⟨by kernel_rfl, ?_⟩) (by assumption) ?_; rotate_left; (focus (intro w hSw; (try dsimp only at hSw); go_simp; (try with_reducible rfl)))
                  simp only [Act.put, List.setIfInBounds_toArray, List.set_cons_zero, List.set_cons_succ]
                  refine wpAnyH_take (i := 7) (oi := ⟨some 64, _, _, _, _, _⟩) (v := ?_) rfl (by kernel_rfl) (by kernel_rfl) (by kernel_rfl) (fun _ _ _ h => h) (Or.inl ⟨by kernel_rfl, ?_⟩) (by assumption) ?_; rotate_left; (focus (intro w hSw; (try dsimp only at hSw); go_simp; (try with_reducible rfl)))
                  simp only [Act.put, List.setIfInBounds_toArray, List.set_cons_zero, List.set_cons_succ]
                  refine wpAnyH_take (i := 8) (oi := ⟨some 65, _, _, _, _, _⟩) (v := ?_) rfl (by kernel_rfl) (by kernel_rfl) (by kernel_rfl) (fun _ _ _ h => h) (Or.inl ⟨by kernel_rfl, ?_⟩) (by assumption) ?_; rotate_left; (focus (intro w hSw; (try dsimp only at hSw); go_simp; (try with_reducible rfl)))
                  simp only [Act.put, List.setIfInBounds_toArray, List.set_cons_zero, List.set_cons_succ]
                  refine wpAnyH_take (i := 9) (oi := ⟨some 66, _, _, _, _, _⟩) (v := ?_) rfl (by kernel_rfl) (by kernel_rfl) (by kernel_rfl) (fun _ _ _ h => h) (Or.inl ⟨by kernel_rfl, ?_⟩) (by assumption) ?_; rotate_left; (focus (intro w hSw; (try dsimp only at hSw); obtain ⟨a1, ha1, y1, -⟩ := CC.out.below hSw m q YQ.out; obtain ⟨a2, ha2, y2, -⟩ := CC.out.below hSw i1 p YP.out; cases ha1; cases ha2; go_simp; (try with_reducible rfl)))
                  simp only [Act.put, List.setIfInBounds_toArray, List.set_cons_zero, List.set_cons_succ]
                  refine wpAnyH_take (i := 10) (oi := ⟨some 67, _, _, _, _, _⟩) (v := ?_) rfl (by kernel_rfl) (by kernel_rfl) (by kernel_rfl) (fun _ _ _ h => h) (Or.inl ⟨by kernel_rfl, ?_⟩) (by assumption) ?_; rotate_left; (focus (intro w hSw; (try dsimp only at hSw); go_simp; (try with_reducible rfl)))
                  simp only [Act.put, List.setIfInBounds_toArray, List.set_cons_zero, List.set_cons_succ]
                  refine wpAnyH_take (i := 11) (oi := ⟨some 68, _, _, _, _, _⟩) (v := ?_) rfl (by kernel_rfl) (by kernel_rfl) (by kernel_rfl) (fun _ _ _ h => h) (Or.inl ⟨by kernel_rfl, ?_⟩) (by assumption) ?_; rotate_left; (focus (intro w hSw; (try dsimp only at hSw); go_simp; (try with_reducible rfl)))
                  simp only [Act.put, List.setIfInBounds_toArray, List.set_cons_zero, List.set_cons_succ]
                  refine wpAnyH_take (i := 12) (oi := ⟨some 69, _, _, _, _, _⟩) (v := ?_) rfl (by kernel_rfl) (by kernel_rfl) (by kernel_rfl) (fun _ _ _ h => h) (Or.inl ⟨by kernel_rfl, ?_⟩) (by assumption) ?_; rotate_left; (focus (intro w hSw; (try dsimp only at hSw); go_simp; (try with_reducible rfl)))
                  simp only [Act.put, List.setIfInBounds_toArray, List.set_cons_zero, List.set_cons_succ]
                  refine wpAnyH_take (i := 13) (oi := ⟨some 70, _, _, _, _, _⟩) (v := ?_) rfl (by kernel_rfl) (by kernel_rfl) (by kernel_rfl) (fun _ _ _ h => h) (Or.inl ⟨by kernel_rfl, ?_⟩) (by assumption) ?_; rotate_left; (focus (intro w hSw; (try dsimp only at hSw); obtain ⟨a1, ha1, y1, -⟩ := CC.out.below hSw m q YQ.out; obtain ⟨a2, ha2, y2, -⟩ := CC.out.below hSw i1 p YP.out; cases ha1; cases ha2; go_simp; (try with_reducible rfl)))
                  simp only [Act.put, List.setIfInBounds_toArray, List.set_cons_zero, List.set_cons_succ]
                  refine wpAnyH_take (i := 14) (oi := ⟨some 71, _, _, _, _, _⟩) (v := ?_) rfl (by kernel_rfl) (by kernel_rfl) (by kernel_rfl) (fun _ _ _ h => h) (Or.inl ⟨by kernel_rfl, ?_⟩) (by assumption) ?_; rotate_left; (focus (intro w hSw; (try dsimp only at hSw); go_simp; (try with_reducible rfl)))
                  simp only [Act.put, List.setIfInBounds_toArray, List.set_cons_zero, List.set_cons_succ]
                  refine wpAnyH_ready (rs := [15]) (by kernel_rfl) (by simp) ?_
                  refine AllReadyH.cons (o := ⟨some 72, _, _, _, _, _⟩) rfl (fun K hK => ?_) AllReadyH.nil
                  rw [if_pos (by kernel_rfl)]
                  go_simp
                  refine (HD.out _).mono ?_
                  rintro e w' ⟨rfl, rfl⟩
                  go_simp
                  refine hK.out _ _ (by assumption) (fun hHeld => ?_)
                  clear hK K
                  refine wpAnyH_take (i := 16) (oi := ⟨some 73, _, _, _, _, _⟩) (v := ?_) rfl (by kernel_rfl) (by kernel_rfl) (by kernel_rfl) (fun _ _ _ h => h) (Or.inl ⟨by kernel_rfl, ?_⟩) (by assumption) ?_; rotate_left; (focus (intro w hSw; (try dsimp only at hSw); go_simp; (try with_reducible rfl)))
                  simp only [Act.put, List.setIfInBounds_toArray, List.set_cons_zero, List.set_cons_succ]
                  refine wpAnyH_done (by kernel_rfl) ?_ _
                  exact NoPanic.normal ⟨rfl, rfl, by assumption⟩
                case hm =>
                intro w9 b9
                have B9 := Lib.hid b9
                clear b9 HB z1 z2 z3 z4 z5 z6 z8
                go_wp2
                go_roundw
                case rel => exact ⟨m + 1, by simp, by have := HMI.out; omega, by have := HML.out; omega, B9⟩
                case measure => have := HML.out; simp only [intOf]; clear z7; omega
              · have iw := IW.out
                go_wp2
                go_roundw
                case rel => exact ⟨i1 + 1, by simp, by have := HI.out; omega, HB⟩
                case measure => have := HI.out; simp only [intOf]; clear iw; omega
          · go_wp2
            go_ret
            exact ⟨rfl, BW.out.trans (HB.out.mono BW.out.size)⟩
set_option maxRecDepth 100000 in
/-- What the walk gives, for every argument and every world. -/
theorem contract (H : Type) (enc : TypeId × Value → H) (W : World) (base : Nat) (args : Array Value) (ds gs : List (DataW H)) (before : List MemPlace)
    (hval : ∀ (j : Nat) t v, Try.f4.params[j]? = some t → args[j]? = some v → Value.okWide Try.prog W .any base t v)
    (hW : DataW.Whole enc Try.prog Try.f4.params.toList Rows.bucketBudgetSpec.vars false W args.toList ds gs before) : 
    Calls Try.prog 4 args W fun e W' => ∃ v, e = .returned v ∧ Rows.bucketBudgetSpec.post enc Try.prog Try.f4 false true false false W args v W' := by
  have hW' := hW
  obtain ⟨p, q, hA0, hV, rfl, hfz, hnd⟩ := hW
  have hA : DataW.TrodAll enc Try.prog W 0 (fun _ => true) true Try.f4.params.toList args.toList ds p := hA0
  rw [Try.params4] at hA hval
  obtain ⟨v0, vs0, d0, ds0, p0, q0, hargs, rfl, rfl, h0, r0⟩ := trodAll_cons hA
  obtain ⟨v1, vs1, d1, ds1, p1, q1, rfl, rfl, rfl, h1, r1⟩ := trodAll_cons r0
  obtain ⟨v2, vs2, d2, ds2, p2, q2, rfl, rfl, rfl, h2, r2⟩ := trodAll_cons r1
  obtain ⟨rfl, rfl, rfl⟩ := trodAll_nil r2
  obtain rfl : args = #[v0, v1, v2] := by cases args; simp_all
  obtain ⟨rfl, rfl⟩ := trodVars_none hV
  obtain ⟨g, rfl, rfl, rfl, w0⟩ := open_int Try.underlying2 (hval 0 2 v0 rfl rfl) h0
  obtain ⟨j, rfl, rfl, rfl, w1⟩ := open_int Try.underlying2 (hval 1 2 v1 rfl rfl) h1
  obtain ⟨A2, xs, c2, rfl, f2, l2, lc2, sz2, nl2⟩ := open_nums Try.underlying22 Try.underlying2 (by kernel_rfl) (hval 2 22 v2 rfl rfl) h2
  refine (walk g j A2 xs c2 W f2 lc2 nl2).mono fun e W' ⟨he, hb⟩ => ?_
  exact ⟨_, he, Shell.post_law laidOut (by kernel_rfl) rfl Try.underlying4 rfl hW' rfl hb⟩
theorem reads (os : Os) {H : Type} (enc : TypeId × Value → H) : ∃ places, DataW.whole enc Try.prog ((World.holding Try.prog os ⟨#[], #[], []⟩).forCall (fun _ _ => 0) ⟨#[], #[.int .i64 0, .int .i64 0, .slice none 0 0], []⟩).memory Try.f4.params.toList Rows.bucketBudgetSpec.vars false (#[Value.int .i64 0, Value.int .i64 0, Value.slice none 0 0]).toList 8 = some ([.lit (.int .i64 0), .lit (.int .i64 0), .nil], [], places) :=
  ⟨[], by kernel_rfl⟩
set_option maxRecDepth 100000 in
theorem lifted (os : Os) (started : os.Started) (H : Type) (enc : TypeId × Value → H) (F : Stop.Interp) :
    ReturnsInHanded {} Try.checked os 4 .any ((OpenSpec.ofChange Rows.bucketBudgetSpec).preRow enc Try.prog Try.f4 Rows.bucketBudgetRow.domain false Rows.bucketBudgetRow.laid) (((OpenSpec.ofChange Rows.bucketBudgetSpec).at F).post enc Try.prog Try.f4 false true false false) := by
  obtain ⟨places, hx⟩ := reads os enc
  refine returnsInHanded_of_row (C := Try.checked) (s := OpenSpec.ofChange Rows.bucketBudgetSpec) own started (by kernel_rfl) Try.func4
    (witness_row_atRef (enc := enc) (C := Try.checked) false (World.holding Try.prog os ⟨#[], #[], []⟩) #[.int .i64 0, .int .i64 0, .slice none 0 0] rfl (by kernel_rfl) (by kernel_rfl) (by kernel_rfl)
      (OpenSpec.preRow_of_cond 8 hx (by kernel_rfl) (fun k hk => by cases hk) (by kernel_rfl) (laid_met os _))) ?_
  intro W base args ds gs before hval hW _ _ _ hL _ _
  exact contract H enc W base args ds gs before hval hW
theorem said : Rows.BucketBudgetSaid :=
  OpenClaim.holds_of_cond 4 Try.f4 rfl rfl rfl rfl rfl rfl rfl ⟨rfl, rfl, rfl, rfl, rfl⟩ rfl rfl rfl rfl rfl (by kernel_rfl) Try.func4 (by kernel_rfl)
    (of_decide_eq_true (by kernel_rfl)) (by unfold Func.isWrapper; first | (rw [if_pos (by decide +kernel)]; kernel_rfl) | (rw [if_neg (by decide +kernel)]; exact ⟨rfl, rfl⟩))
    (fun os started H enc _ F => by rw [OpenClaim.pre_eq_preRow]; exact lifted os started H enc F)
end Go.Proofs.Ytokddpialnkckaa.BucketW.BucketBudget
