/- The cycle of a collection, and its point. -/
import Derived.Test.YtpjaijibkjmgiaaCompC
namespace Go.Proofs.Ytpjaijibkjmgiaa.CompW
open Go.RowKit Shell
open CrewW (only has of has_any of_any mem mem_len memTo_range members_any)
open MeanW (halfAt tolK ansM ansM_some)
theorem best_take {cs : List Int} {i : Nat} {x : Int} (h : cs[i]? = some x) : best cs (cs.take (i + 1)) = stp cs (best cs (cs.take i)) x := by
  rw [List.take_add_one, h]
  exact best_snoc _ _ _
theorem best_le (cs : List Int) : ∀ l, 0 ≤ (best cs l).2 ∧ (best cs l).2 ≤ cs.length := by
  intro l
  generalize hn : l.length = n
  induction n generalizing l with
  | zero =>
    obtain rfl := List.eq_nil_of_length_eq_zero hn
    exact ⟨Int.le_refl _, by show (0 : Int) ≤ _; omega⟩
  | succ n ih =>
    have hne : l ≠ [] := fun e => by rw [e] at hn; cases hn
    obtain ⟨m, y, rfl⟩ : ∃ m y, l = m ++ [y] := ⟨l.dropLast, l.getLast hne, (List.dropLast_concat_getLast hne).symm⟩
    have B := ih m (by simpa using hn)
    rw [best_snoc]
    unfold stp
    split
    · have := List.count_le_length (a := y) (l := cs)
      exact ⟨by dsimp only; omega, by dsimp only; omega⟩
    · exact B
set_option maxHeartbeats 2000000 in
theorem cycle_any (b : Int) (s : Nat) (R C : Nat → Int) (hs : s < 64) (w : World) :
    Calls Try.prog 27 #[GV b s R C] w fun e w' => e = .returned (.int .i64 (best (row s C) (row s C)).1) ∧ Below w.heap.size w w' := by
  have HM := Lib.hid (fun W => members_any s W (by omega))
  have HV := Lib.hid (fun y W => having_any b y s R C hs W)
  have HG := Lib.hid (fun i x (h : (mem s)[i]? = some x) => row_get (R := C) h)
  have HL := Lib.hid (row_len s C)
  have h6 := mem_len s
  have X := (Stay.start w).alloc (gbx b s R C)
  have X := Lib.hid X
  go_enter Try.func27, Try.ntmps27
  go_upto_region 2 with (fail)
  generalize w.alloc (gbx b s R C) = W at *
  generalize w.heap.size = g0 at *
  obtain ⟨a0, a1, a2, a3, a4, a5, a6, a7, a8, a9, a10, a11, a12, a13⟩ := cells14 (X.out.at 0 rfl)
  go_wp2_with (go_at_call 33; refine (HM.out _).mono ?_; rintro e w1 ⟨v, rfl, o1, b1⟩; obtain ⟨A, d, rfl, hcl, -⟩ := o1.form; have X1 := Lib.hid (X.out.next b1); have H := Lib.hid hcl; clear o1 b1 hcl)
  clear a0 a1 a2 a3 a4 a5 a6 a7 a8 a9 a10 a11 a12 a13 HM X
  generalize hcs : row s C = cs at *
  have HCS := Lib.hid hcs
  clear hcs
  generalize mem s = ms at *
  obtain ⟨n, hn⟩ : ∃ n, ms.length = n := ⟨_, rfl⟩
  rw [hn] at HL h6 ⊢
  have HN := Lib.hid hn
  have H6 := Lib.hid h6
  clear hn h6
  go_loopw [3, 4, 13] (fun bv mv iv wr => ∃ (i : Nat), i ≤ n ∧ iv = .int .i64 i ∧ bv = .int .i64 (best cs (cs.take i)).1 ∧ mv = .int .i64 (best cs (cs.take i)).2 ∧ Hid (Below w1.heap.size w1 wr)) (fun _ _ iv _ => n - (intOf iv).toNat)
  case atStart => exact ⟨0, Nat.zero_le _, rfl, rfl, rfl, Lib.hid (Below.refl _ _)⟩
  case round =>
    obtain ⟨i, hi, rfl, rfl, rfl, HB⟩ := hrel
    have n6 := H6.out
    have ib : (i : Int) ≤ 6 := by omega
    by_cases hlt : (i : Int) < (n : Int)
    · obtain ⟨x, hx⟩ : ∃ x, ms[i]? = some x := ⟨_, List.getElem?_eq_getElem (by have := HN.out; omega)⟩
      obtain ⟨ad, rfl, hcell, _⟩ := (H.out.below HB.out) i x hx
      obtain ⟨k, rfl, hk, hr⟩ := HG.out i x hx
      have X2 := Lib.hid (X1.out.next HB.out)
      have HT := best_take hr
      have hc := (at_host (X2.out.at 0 rfl) k hk).2
      have k1 : (k : Int) < 6 := by omega
      have ml := best_le cs (cs.take i)
      have cl := List.count_le_length (a := C k) (l := cs)
      have hl := HL.out
      unfold stp at HT
      clear hx hr
      obtain ⟨c, hcc⟩ : ∃ c, cs.count (C k) = c := ⟨_, rfl⟩
      have V := fun W => HV.out (C k) W
      rw [hcc] at V
      rw [hcc] at HT cl
      have V := Lib.hid V
      clear hcc
      have HT := Lib.hid HT
      obtain ⟨p, hp⟩ : ∃ p, best cs (cs.take i) = p := ⟨_, rfl⟩
      rw [hp] at HT ml ⊢
      clear hp
      obtain ⟨pb, pm⟩ := p
      dsimp only at HT ml ⊢
      go_upto_region 6 with (fail)
      clear hcell hc
      obtain ⟨a0, a1, a2, a3, a4, a5, a6, a7, a8, a9, a10, a11, a12, a13⟩ := cells14 (X2.out.at 0 rfl)
      go_upto_region 7 with (go_at_call 35; refine (V.out _).mono ?_; rintro e w2 ⟨rfl, b2⟩; have HB2 := Lib.hid (HB.out.trans (b2.mono HB.out.size)); clear b2)
      clear a0 a1 a2 a3 a4 a5 a6 a7 a8 a9 a10 a11 a12 a13
      generalize C k = z at *
      have cb : (c : Int) ≤ 6 := by omega
      have yes : (pm < (c : Int) ∨ ((c : Int) = pm ∧ pb < z)) → Hid (best cs (cs.take (i + 1)) = (z, (c : Int))) := fun h => Lib.hid (by rw [HT.out, if_pos h])
      have no : ¬ (pm < (c : Int) ∨ ((c : Int) = pm ∧ pb < z)) → Hid (best cs (cs.take (i + 1)) = (pb, pm)) := fun h => Lib.hid (by rw [HT.out, if_neg h])
      by_cases h1 : pm < (c : Int)
      · have HT2 := yes (Or.inl h1)
        clear yes no HT
        go_wp2
        go_roundw
        case rel => exact ⟨i + 1, by omega, by go_num, by rw [HT2.out], by rw [HT2.out], HB2⟩
        case measure => simp only [intOf]; omega
      · by_cases h2 : (c : Int) = pm
        · by_cases h3 : pb < z
          · have HT2 := yes (Or.inr ⟨h2, h3⟩)
            have e2 : ((c : Int) == pm) = true := by rw [beq_iff_eq]; exact h2
            clear yes no HT h2
            go_wp2
            go_roundw
            case rel => exact ⟨i + 1, by omega, by go_num, by rw [HT2.out], by rw [HT2.out], HB2⟩
            case measure => simp only [intOf]; omega
          · have HT2 := no (by omega)
            have e2 : ((c : Int) == pm) = true := by rw [beq_iff_eq]; exact h2
            clear yes no HT h2
            go_wp2
            go_roundw
            case rel => exact ⟨i + 1, by omega, by go_num, by rw [HT2.out], by rw [HT2.out], HB2⟩
            case measure => simp only [intOf]; omega
        · have HT2 := no (by omega)
          have e2 : ((c : Int) == pm) = false := by rw [beq_eq_false_iff_ne]; exact h2
          clear yes no HT h2
          go_wp2
          go_roundw
          case rel => exact ⟨i + 1, by omega, by go_num, by rw [HT2.out], by rw [HT2.out], HB2⟩
          case measure => simp only [intOf]; omega
    · obtain rfl : i = n := by omega
      have e := HL.out
      rw [List.take_of_length_le (by omega)]
      clear e
      go_wp2
      go_ret
      exact ⟨by rw [HCS.out]; rfl, X1.out.b.trans (HB.out.mono X1.out.b.size)⟩
end Go.Proofs.Ytpjaijibkjmgiaa.CompW
