/- The document's own Compress. -/
import Derived.Test.YtpjaijibkjmgiaaCompI
import Derived.Test.YtpjaijibkjmgiaaCompE
import Derived.Test.YtpjaijibkjmgiaaMeanRef
import Derived.Test.YtpjaijibkjmgiaaStep1
import Derived.Deep.RegionHeld3
namespace Go.Proofs.Ytpjaijibkjmgiaa.CompW
open Go.RowKit Shell
open CrewW (only has of mem mem_len refOf_any int_one)
open MeanW (halfAt tolK ansM ansM_some refTolerant_any)
theorem ret_s {fn : Func} {R : Ending → World → Prop} {p : Tmp} (h : fn.results = #[.cell p 44]) {tmps : Array Value} {w : World} {g : Nat} {x1 x2 x3 : Value} {t : TypeId} {fr : Nat × Nat}
    (hp : tmps.getD p undef = .pointer (some ⟨g, 0, none⟩)) (hg : w.heap[g]? = some (.cells #[x1, x2, x3] t fr)) (hR : R (.returned (.agg #[x1, x2, x3])) w) :
    bodyPost Try.prog fn R .ret { tmps := tmps, defers := [] } w :=
  bodyPost_ret (results_cell_row h tmps w g t _ fr _ hp hg Try.underlying44 rfl (by kernel_rfl)) rfl hR
abbrev sbx (p s y : Int) : Obj := .cells #[.int .i64 p, .int .u32 s, .int .i64 y] 44 (0, 0)
theorem rd_get {S : List Fr} {i : Nat} {z : Fr} (h : S[i]? = some z) : (rd S)[i]? = some (z.t - sB S) ∧ (hosts S)[i]? = some (z.f : Int) ∧ (ys S)[i]? = some z.y := by
  unfold rd hosts ys
  rw [List.getElem?_map, List.getElem?_map, List.getElem?_map, h]
  exact ⟨rfl, rfl, rfl⟩
theorem rd_len (S : List Fr) : (rd S).length = S.length := List.length_map ..
theorem hosts_len (S : List Fr) : (hosts S).length = S.length := List.length_map ..
theorem ys_len (S : List Fr) : (ys S).length = S.length := List.length_map ..
theorem i64_small {k : Nat} (h : k < 6) : (Lit.int .i64 (k : Int)).wf = true := i64_in (by omega) (by omega)
/-- Two rows that lie apart. -/
def Far (u v : Value) : Prop := ∀ j, u.ownBlock = some j → v.ownBlock ≠ some j
theorem Far.left {w w' : World} {u u' v : Value} (h : Far u v) (s : Step w u w' u') (lt : ∀ k, v.ownBlock = some k → k < w.heap.size) : Far u' v := by
  intro j hj e
  rcases s.m with h1 | ⟨k, h1, h2⟩
  · exact h j (h1 ▸ hj) e
  · rw [h1] at hj
    cases hj
    have := lt _ e
    omega
theorem Far.symm {u v : Value} (h : Far u v) : Far v u := fun j hj e => h j e hj
/-- A row that lies apart stays as one beside it grows. -/
theorem far_or {w w' : World} {base : Nat} {e : TypeId} {q : IntKind} {u u' v : Value} {xs : List Int} (h : OR w base e q v xs) (s : Step w u w' u') (f : Far u v) : OR w' base e q v xs :=
  ⟨h.1.kept (row := u.ownBlock) s.g (by
    cases hv : v.ownBlock with
    | none => exact Or.inl rfl
    | some k => exact Or.inr (fun e => f k e.symm hv)), h.2⟩
/-- A stretch of code whose ways out meet, but for one value and the world, of which S is known. -/
theorem wp_row {P : Program} {c : Code} {Q : Exit → Act → World → Prop} {a : Act} {w : World} (A2 : Value → Act) (S : Value → World → Prop) (h : c.wp P (fun e a' w' => ∃ v, e = Exit.normal ∧ a' = A2 v ∧ S v w') a w) (hm : ∀ v W, S v W → Q .normal (A2 v) W) : c.wp P Q a w :=
  Code.wp_mono (fun _ _ _ ⟨v, h1, h2, h3⟩ => by subst h1; subst h2; exact hm v _ h3) h
theorem take_more {l : List Int} {i : Nat} {x : Int} (h : l[i]? = some x) : l.take (i + 1) = l.take i ++ [x] := by rw [List.take_add_one, h]; rfl
theorem take_len {l : List Int} {i n : Nat} (h : l.length = n) (hi : i ≤ n) : (l.take i).length = i := by rw [List.length_take]; omega
set_option maxHeartbeats 8000000 in
set_option maxRecDepth 100000 in
theorem refCompress_any (A : Option Addr) (x : Fr) (S : List Fr) (n cp : Nat) (hn : n = (x :: S).length) (d : Int) (hok : Ok d (x :: S)) (hd : 0 ≤ d ∧ d ≤ 1048576) (w : World) (hA : HL w A (x :: S)) :
    Calls Try.prog 14 #[.slice A n cp] w fun e w' => e = .returned (.agg #[.int .i64 (pt (x :: S)), .int .u32 ((sS (x :: S) : Nat) : Int), .int .i64 (cy (x :: S))]) ∧ Below w.heap.size w w' := by
  obtain ⟨g, off, rfl, hq⟩ := hA.six
  have Q := Lib.hid hq
  have HN := Lib.hid hn
  have HOK := Lib.hid hok
  have HD := Lib.hid hd
  have h6 := hok.len
  rw [← hn] at h6
  have nb : (n : Int) ≤ 6 := by omega
  have NB := Lib.hid nb
  have hn0 : (0 : Int) < (n : Int) := by rw [hn]; simp only [List.length_cons]; omega
  have HN0 := Lib.hid hn0
  have LR := Lib.hid (show (rd (x :: S)).length = n by rw [rd_len, hn])
  have LH := Lib.hid (show (hosts (x :: S)).length = n by rw [hosts_len, hn])
  have LY := Lib.hid (show (ys (x :: S)).length = n by rw [ys_len, hn])
  have HG := Lib.hid (fun i z (h : (x :: S)[i]? = some z) => rd_get h)
  have X := Lib.hid ((Stay.start w).alloc (sbx 0 0 0))
  have hT := rd_half (S := x :: S) (by simp)
  have hW : IntKind.i64.wrap (x.t + halfAt (rd (x :: S)) (tolK (rd (x :: S)))) = x.t + halfAt (rd (x :: S)) (tolK (rd (x :: S))) := by
    have h1 := rd_half (S := x :: S) (by simp)
    have h2 : sB (x :: S) = x.t := rfl
    rw [h2] at h1
    rw [h1]
    exact pt_wrap hok hd (by simp)
  have HT := Lib.hid hT
  have HW := Lib.hid hW
  have HC := Lib.hid (show (best (ys (x :: S)) (ys (x :: S))).1 = cy (x :: S) from rfl)
  have HS := Lib.hid (show of (hosts (x :: S)) = sS (x :: S) from rfl)
  clear hA hq hn hok hd h6 hT hW
  have HB0 := Lib.hid (show sB (x :: S) = x.t from rfl)
  generalize rd (x :: S) = rs at *
  generalize hosts (x :: S) = hs at *
  generalize ys (x :: S) = cs at *
  generalize pt (x :: S) = pz at *
  generalize cy (x :: S) = cz at *
  generalize sS (x :: S) = sz at *
  go_enter Try.func14, Try.ntmps14
  go_upto_region 4 with (fail)
  generalize w.alloc (sbx 0 0 0) = W at *
  go_wp2
  go_loopw [3, 4, 5, 6, 7] (fun rv hv bv mv iv wr => ∃ (i : Nat), i ≤ n ∧ iv = .int .i64 i ∧ bv = .int .i64 (best cs (cs.take i)).1 ∧ mv = .int .i64 (best cs (cs.take i)).2 ∧
    Hid (OR wr W.heap.size 2 .i64 rv (rs.take i)) ∧ Hid (OR wr W.heap.size 3 .i64 hv (hs.take i)) ∧ Hid (Far rv hv) ∧ Hid (Below W.heap.size W wr)) (fun _ _ _ _ iv _ => n - (intOf iv).toNat)
  case atStart => exact ⟨0, Nat.zero_le _, rfl, rfl, rfl, Lib.hid (OR.nil _ _ _ _), Lib.hid (OR.nil _ _ _ _), Lib.hid (fun j h => by cases h), Lib.hid (Below.refl _ _)⟩
  case round =>
    obtain ⟨i, hi, rfl, rfl, rfl, HR, HH, HF, HB⟩ := hrel
    obtain ⟨w2, hw2⟩ : ∃ w2, w2 = wr := ⟨_, rfl⟩
    subst hw2
    have nb := NB.out
    have ib : (i : Int) ≤ 6 := by omega
    have hn1 : 0 < n := by have := HN0.out; omega
    by_cases hlt : (i : Int) < (n : Int)
    · obtain ⟨z, hz⟩ : ∃ z, (x :: S)[i]? = some z := ⟨_, List.getElem?_eq_getElem (by have := LR.out; have := HN.out; omega)⟩
      have P := Lib.hid (Q.out.below (X.out.b.trans (HB.out.mono X.out.b.size)))
      have Z := Lib.hid (P.out.at6 i z hz)
      obtain ⟨r1, r2, r3⟩ := HG.out i z hz
      rw [HB0.out] at r1
      have T1 := Lib.hid (take_more r1)
      have T2 := Lib.hid (take_more r2)
      have T3 := r3
      have zt := HOK.out.t z (List.mem_of_getElem? hz)
      have xt := HOK.out.t x List.mem_cons_self
      have xd := HD.out
      have zf := HOK.out.f z (List.mem_of_getElem? hz)
      rw [HB0.out] at zt xt
      have e1 : IntKind.i64.wrap (z.t - x.t) = z.t - x.t := by rw [IntKind.wrap_i64]; omega
      have HZ := Lib.hid (show 0 ≤ z.t - x.t ∧ z.t - x.t ≤ 1048576 by omega)
      have HZF := Lib.hid zf
      have T3 := Lib.hid T3
      have Z0 := Lib.hid hz
      clear hz r1 r2 r3 zt xt xd zf
      have c0 := Z.out.1
      have f0 := P.out.first.1
      have hl1 : (rs.take i).length = i := take_len LR.out hi
      have hl2 : (hs.take i).length = i := take_len LH.out hi
      obtain ⟨A3, d3, rfl, -⟩ := HR.out.form
      obtain ⟨A4, d4, rfl, -⟩ := HH.out.form
      generalize rs.take i = R1 at *
      generalize hs.take i = H1 at *
      rw [hl1] at HR HF ⊢
      rw [hl2] at HH HF ⊢
      have L1 := Lib.hid hl1
      have L2 := Lib.hid hl2
      clear hl1 hl2
      go_upto_region 7 with (fail)
      have U := Lib.hid (cl_one w2 (z.t - x.t) (by have := HZ.out; omega) (by have := HZ.out; omega) 2)
      apply wp_row (S := fun v w' => OR w' W.heap.size 2 .i64 v (R1 ++ [z.t - x.t]) ∧ Step w2 (.slice A3 i d3) w' v)
      case h =>
        refine wp_region_noPanic ?_
        go_region_law ((refine step_append_or i64_one rfl _ _ rfl W.heap.size (.slice A3 i d3) R1 rfl (HR.out.alloc _).drew ⟨w2.heap.size, 0, none⟩ 1 1 [z.t - x.t] rfl rfl U.out (by have := L1.out; omega) (by decide) (Nat.le_trans HB.out.size (by simp)) ?_; intro v3 w3 o3 s3; have O3 := Lib.hid o3; have S3 := Lib.hid s3; clear o3 s3))
        all_goals exact NoPanic.normal ⟨_, rfl, rfl, O3.out, ((Step.alloc _ _ _).trans (Step.drew _ _)).trans S3.out⟩
      case hm =>
      rintro v3 w3 ⟨o3, s3⟩
      have HR3 := Lib.hid (show OR w3 W.heap.size 2 .i64 v3 (rs.take (i + 1)) by rw [T1.out]; exact o3)
      have HH3 := Lib.hid (far_or HH.out s3 HF.out)
      have HF3 := Lib.hid (HF.out.left s3 (fun k hk => (HH.out.lt k hk).2))
      have HB3 := Lib.hid (HB.out.trans (s3.below HR.out HB.out.size))
      have P3 := Lib.hid (Q.out.below (X.out.b.trans (HB3.out.mono X.out.b.size)))
      clear o3 s3 c0 f0 Z P U HR HH HF T1 L1 HZ
      generalize hl1 : rs.take (i + 1) = R2 at *
      have K1 := Lib.hid hl1
      clear hl1
      have Z3 := Lib.hid (P3.out.at6 i z Z0.out)
      obtain ⟨-, -, c2, c3, -⟩ := Z3.out
      obtain ⟨A5, d5, rfl, -⟩ := HR3.out.form
      generalize R2.length = m5 at *
      go_wp2_with (at_builtin; refine wpList_append_or CrewW.int_one _ rfl _ _ rfl W.heap.size (.slice A4 i d4) H1 rfl (HH3.out.alloc _) (some ⟨w3.heap.size, 0, none⟩) 1 1 [(z.f : Int)] rfl rfl ?c1 (fun h => by cases h) ?c2 (by decide) ?c3 ?_)
      case c1 => exact cl_one _ _ (by omega) (by have := HZF.out; omega) _
      case c2 => have := L2.out; omega
      case c3 => rw [World.size_alloc]; have := HB3.out.size; omega
      intro v4 w4 o4 s4
      have s4 := (Step.alloc w3 (.slice A4 i d4) (.cells #[.int .i64 (z.f : Int)] 3)).trans s4
      have HH4 := Lib.hid (show OR w4 W.heap.size 3 .i64 v4 (hs.take (i + 1)) by rw [T2.out]; exact o4)
      have HR4 := Lib.hid (far_or HR3.out s4 HF3.out.symm)
      have HF4 := Lib.hid ((HF3.out.symm.left s4 (fun k hk => (HR3.out.lt k hk).2)).symm)
      have HB4 := Lib.hid (HB3.out.trans (s4.below HH3.out HB3.out.size))
      have P4 := Lib.hid (Q.out.below (X.out.b.trans (HB4.out.mono X.out.b.size)))
      clear o4 s4 c2 c3 Z3 P3 HR3 HH3 HF3 T2 L2 HB3
      have HT3 := best_take T3.out
      have ml := best_le cs (cs.take i)
      have cl := List.count_le_length (a := z.y) (l := cs)
      have hl := LY.out
      unfold stp at HT3
      obtain ⟨c, hcc⟩ : ∃ c, cs.count z.y = c := ⟨_, rfl⟩
      rw [hcc] at HT3 cl
      have HCC := Lib.hid hcc
      have cb : (c : Int) ≤ 6 := by omega
      clear hcc cl hl
      have HT3 := Lib.hid HT3
      obtain ⟨p, hp⟩ : ∃ p, best cs (cs.take i) = p := ⟨_, rfl⟩
      rw [hp] at HT3 ml ⊢
      clear hp
      obtain ⟨pb, pm⟩ := p
      dsimp only at HT3 ml ⊢
      generalize hw4 : (Value.slice A5 m5 d5) = v5 at *
      clear hw4
      go_wp2
      go_loopw [8, 9] (fun kv jv wr => ∃ (j : Nat), j ≤ n ∧ jv = .int .i64 j ∧ kv = .int .i64 (((cs.take j).count z.y : Nat) : Int) ∧ Hid (Below w4.heap.size w4 wr)) (fun _ jv _ => n - (intOf jv).toNat)
      case atStart => exact ⟨0, Nat.zero_le _, rfl, rfl, Lib.hid (Below.refl _ _)⟩
      case round =>
        obtain ⟨j, hj, rfl, rfl, HB5⟩ := hrel
        have jb : (j : Int) ≤ 6 := by omega
        have P5 := Lib.hid (P4.out.below HB5.out)
        have Z5 := Lib.hid (P5.out.at6 i z Z0.out)
        by_cases hlt2 : (j : Int) < (n : Int)
        · obtain ⟨u, hu⟩ : ∃ u, (x :: S)[j]? = some u := ⟨_, List.getElem?_eq_getElem (by have := LR.out; have := HN.out; omega)⟩
          have U5 := Lib.hid (P5.out.at6 j u hu)
          have HT4 := Lib.hid (count_take (HG.out j u hu).2.2 z.y)
          have cl := Nat.le_trans (List.count_le_length (a := z.y) (l := cs.take j)) (by rw [List.length_take]; exact Nat.min_le_left _ _)
          have ab : (((cs.take j).count z.y : Nat) : Int) ≤ 6 := by omega
          obtain ⟨-, -, -, b3, -⟩ := U5.out
          obtain ⟨-, -, -, c3, -⟩ := Z5.out
          clear hu
          generalize (cs.take j).count z.y = a at *
          generalize z.y = zy at *
          generalize u.y = uy at *
          by_cases hzu : uy = zy
          · have e4 : (uy == zy) = true := by rw [beq_iff_eq]; exact hzu
            have HT5 := Lib.hid (HT4.out.trans (by rw [if_pos hzu]))
            clear hzu
            go_wp2
            go_region
            go_wp2
            go_roundw
            case rel => exact ⟨j + 1, by omega, by go_num, by rw [HT5.out]; go_num, Lib.hid HB5.out.drew⟩
            case measure => simp only [intOf]; omega
          · have e4 : (uy == zy) = false := by rw [beq_eq_false_iff_ne]; exact hzu
            have HT5 := Lib.hid (HT4.out.trans (by rw [if_neg hzu, Nat.add_zero]))
            clear hzu
            go_wp2
            go_region
            go_wp2
            go_roundw
            case rel => exact ⟨j + 1, by omega, by go_num, by rw [HT5.out], Lib.hid HB5.out.drew⟩
            case measure => simp only [intOf]; omega
        · obtain rfl : j = n := by omega
          have e := LY.out
          rw [List.take_of_length_le (by omega), HCC.out]
          clear e
          obtain ⟨-, -, -, c3, -⟩ := Z5.out
          have R6 := Lib.hid (show OR wr W.heap.size 2 .i64 v5 (rs.take (i + 1)) by rw [K1.out]; exact HR4.out.below HB5.out)
          have H6 := Lib.hid (HH4.out.below HB5.out)
          have B6 := Lib.hid (HB4.out.trans (HB5.out.mono HB4.out.size))
          generalize z.y = zy at *
          have yes : (pm < (c : Int) ∨ ((c : Int) = pm ∧ pb < zy)) → Hid (best cs (cs.take (i + 1)) = (zy, (c : Int))) := fun h => Lib.hid (by rw [HT3.out, if_pos h])
          have no : ¬ (pm < (c : Int) ∨ ((c : Int) = pm ∧ pb < zy)) → Hid (best cs (cs.take (i + 1)) = (pb, pm)) := fun h => Lib.hid (by rw [HT3.out, if_neg h])
          by_cases h1 : pm < (c : Int)
          · have HT2 := yes (Or.inl h1)
            clear yes no
            go_wp2
            exact ⟨⟨i + 1, by omega, by go_num, by rw [HT2.out], by rw [HT2.out], R6, H6, HF4, B6⟩, by simp only [intOf]; omega⟩
          · by_cases h2 : (c : Int) = pm
            · by_cases h3 : pb < zy
              · have HT2 := yes (Or.inr ⟨h2, h3⟩)
                have e2 : ((c : Int) == pm) = true := by rw [beq_iff_eq]; exact h2
                clear yes no h2
                go_wp2
                exact ⟨⟨i + 1, by omega, by go_num, by rw [HT2.out], by rw [HT2.out], R6, H6, HF4, B6⟩, by simp only [intOf]; omega⟩
              · have HT2 := no (by omega)
                have e2 : ((c : Int) == pm) = true := by rw [beq_iff_eq]; exact h2
                clear yes no h2
                go_wp2
                exact ⟨⟨i + 1, by omega, by go_num, by rw [HT2.out], by rw [HT2.out], R6, H6, HF4, B6⟩, by simp only [intOf]; omega⟩
            · have HT2 := no (by omega)
              have e2 : ((c : Int) == pm) = false := by rw [beq_eq_false_iff_ne]; exact h2
              clear yes no h2
              go_wp2
              exact ⟨⟨i + 1, by omega, by go_num, by rw [HT2.out], by rw [HT2.out], R6, H6, HF4, B6⟩, by simp only [intOf]; omega⟩
    · obtain rfl : i = n := by omega
      have eR := LR.out
      have eH := LH.out
      have eY := LY.out
      rw [List.take_of_length_le (by omega)] at HR HH ⊢
      obtain ⟨A3, d3, rfl, hcl, hlc, -⟩ := HR.out.form
      obtain ⟨A4, d4, rfl, hcl4, -⟩ := HH.out.form
      have T := refTolerant_any A3 d3 rs w2 (cl_il hcl) (by omega) hlc
      rw [ansM_some (by omega)] at T
      have T := Lib.hid T
      have B := Lib.hid (X.out.b.trans (HB.out.mono X.out.b.size))
      have O := Lib.hid (fun w3 (hb : Below w2.heap.size w2 w3) => refOf_any A4 hs.length d4 hs w3 (hcl4.below hb) rfl (by omega))
      rw [HS.out] at O
      have X2 := Lib.hid (X.out.next HB.out)
      have e5 := HW.out
      have h5 := HT.out
      rw [HB0.out] at h5
      rw [h5] at e5
      rw [eR] at T ⊢
      rw [eH] at O ⊢
      generalize halfAt rs (tolK rs) = hz at *
      have H5 := Lib.hid h5
      clear h5 hcl hlc hcl4 eR eH eY HR HH
      go_upto_region 18 with (go_at_call 28; refine T.out.mono ?_; rintro e w3 ⟨rfl, b3⟩; have X3 := Lib.hid (X2.out.next b3); have B3 := Lib.hid b3; clear b3)
      have f0 := (Q.out.below (B.out.trans (B3.out.mono B.out.size))).first.1
      obtain ⟨s0, s1, s2⟩ := cells3 (X3.out.at 0 rfl)
      obtain ⟨t0, t1, t2⟩ := frozen3 (X3.out.at 0 rfl)
      have e6 := HW.out
      apply wp_one
      case h =>
        refine wp_region_noPanic ?_
        go_region_law (first | (go_at_call 29; refine (O.out _ ?_).mono ?_; exact B3.out.drew; rintro e w' ⟨rfl, hw⟩; obtain rfl := hw.symm) | (go_simp; go_at_call 29; refine (O.out _ ?_).mono ?_; exact B3.out.drew; rintro e w' ⟨rfl, hw⟩; obtain rfl := hw.symm))
        all_goals exact NoPanic.normal ⟨rfl, rfl, rfl⟩
      case hm =>
      go_wp2
      refine ret_s rfl rfl (put3 (X3.out.at 0 rfl) _ _ _) ?_
      exact ⟨by rw [H5.out, HC.out], (X3.out.b.trans ((kept3 w3 w.heap.size _ _ _).below (Nat.le_refl _) X3.out.b.size)).drew⟩
end Go.Proofs.Ytpjaijibkjmgiaa.CompW
