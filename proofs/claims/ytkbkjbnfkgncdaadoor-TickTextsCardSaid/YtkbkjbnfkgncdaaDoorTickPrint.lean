/- The document's own Print, walked. -/
import Derived.Test.YtkbkjbnfkgncdaaDoorTickText
import Derived.Laws.AppendOwn
import Derived.Laws.BytesArg
import Derived.OwnWalk
import Derived.Laws.OwnMore
import Derived.Deep.DeepCutAuto
import Derived.Deep.CutBlock
namespace Go.Proofs.YtkbkjbnfkgncdaaDoor.TickW
open Go.RowKit
theorem nd_iff : ∀ (k u : Nat), k < Lib.nDigits u ↔ k = 0 ∨ 0 < u / 10 ^ k := by
  intro k
  induction k with
  | zero => intro u; have := Lib.nDigits_pos u; constructor <;> intro _ <;> omega
  | succ k ih =>
    intro u
    have e : u / 10 ^ (k + 1) = u / 10 / 10 ^ k := by rw [Nat.pow_succ, Nat.mul_comm, ← Nat.div_div_eq_div_mul]
    rw [e]
    by_cases h : u < 10
    · rw [Lib.nDigits_small h, show u / 10 = 0 by omega, Nat.zero_div]
      omega
    · rw [Lib.nDigits_big h]
      have := ih (u / 10)
      rcases Nat.eq_zero_or_pos k with rfl | hk
      · rw [Nat.pow_zero, Nat.div_one] at *; omega
      · omega
theorem nd_le (u : Nat) (h : u < 18446744073709551616) : Lib.nDigits u ≤ 20 := by
  rcases Nat.lt_or_ge 20 (Lib.nDigits u) with h1 | h1
  · rcases (nd_iff 20 u).1 h1 with h2 | h2
    · omega
    · rw [Nat.div_eq_of_lt (by omega)] at h2; omega
  · exact h1
def dI (u i : Nat) : Int := 48 + ((u / 10 ^ i % 10 : Nat) : Int)
def lenOf : Value → Nat
  | .slice _ n _ => n
  | _ => 0
theorem u8w (q : Nat) : IntKind.u64.wrap (48 + ((q % 10 : Nat) : Int)) = 48 + ((q % 10 : Nat) : Int) ∧ IntKind.u8.wrap (48 + ((q % 10 : Nat) : Int)) = 48 + ((q % 10 : Nat) : Int) := by
  constructor
  · rw [IntKind.wrap_u64]; omega
  · simp [IntKind.wrap, IntKind.bits, IntKind.signed]; omega
def sgI (n : Int) : List Int := if n < 0 then [45] else []
theorem text_eq (n : Int) (M : Nat) (hn : n.natAbs = M) : strOfNums (sgI n ++ (List.range (Lib.nDigits M)).map fun t => dI M (Lib.nDigits M - 1 - t)) = itoaS n := by
  have hd : ((List.range (Lib.nDigits M)).map fun t => dI M (Lib.nDigits M - 1 - t)).map (fun n => UInt8.ofNat n.toNat) = Lib.decDigits M := by
    rw [Lib.decDigits_eq, List.map_map]
    refine List.map_congr_left fun t _ => ?_
    show UInt8.ofNat (dI M (Lib.nDigits M - 1 - t)).toNat = Lib.dg M (Lib.nDigits M - 1 - t)
    unfold dI Lib.dg
    congr 1
  unfold strOfNums itoaS
  rw [List.map_append, hd]
  unfold sgI Lib.itoa
  by_cases h : n < 0
  · rw [if_pos h, if_pos h, hn]; rfl
  · rw [if_neg h, if_neg h, show n.toNat = M by omega]; rfl
def outL (n : Int) (M j : Nat) : List Value := (sgI n ++ (List.range j).map fun t => dI M (Lib.nDigits M - 1 - t)).map (Value.int .u8)
theorem outL_succ (n : Int) (M j : Nat) : outL n M (j + 1) = outL n M j ++ [.int .u8 (dI M (Lib.nDigits M - 1 - j))] := by simp [outL, List.range_succ]
theorem outL_zero (n : Int) (M : Nat) : outL n M 0 = (sgI n).map (Value.int .u8) := by simp [outL]
set_option maxHeartbeats 4000000 in
set_option maxRecDepth 100000 in
/-- The document's own numeral. -/
theorem refPrint_nat (n : Int) (M : Nat) (hn : n.natAbs = M) (h0 : -9223372036854775808 ≤ n) (h1 : n ≤ 9223372036854775807) (w : World) :
    Calls Tryd.prog 28 #[.int .i64 n] w fun e w' => e = .returned (.string (itoaS n)) ∧ Below w.heap.size w w' := by
  obtain ⟨i0, hi, hz0, hz1, hz2⟩ := info_parts (show (Tryd.prog.info? 5).map (fun i => (i.zero, i.size, i.bytes)) = some (some (.int .u8 0), 1, 1) by kernel_rfl)
  have HI := Lib.hid hi
  have HZ0 := Lib.hid hz0
  have HZ1 := Lib.hid hz1
  have HZ2 := Lib.hid hz2
  have hL := nd_le M (by omega)
  have HL := Lib.hid hL
  have HMB := Lib.hid (show M < 18446744073709551616 by omega)
  have HN := Lib.hid hn
  have HM := Lib.hid (show n < 0 → IntKind.u64.wrap (-(IntKind.u64.wrap n)) = (M : Int) from fun h => by rw [IntKind.wrap_u64, IntKind.wrap_u64]; omega)
  have HM2 := Lib.hid (show ¬ n < 0 → IntKind.u64.wrap n = (M : Int) from fun h => by rw [IntKind.wrap_u64]; omega)
  clear hi hz0 hz1 hz2 hL hn h0 h1
  go_enter Tryd.func28, Tryd.ntmps28
  go_upto_if 10 with (fail)
  go_cut [3] (fun s3 wx => s3 = .int .u64 (M : Int) ∧ wx = w)
  case first =>
    by_cases hneg : n < 0
    · have e := HM.out hneg
      go_wp2
      go_meet
      exact ⟨rfl, rfl⟩
    · have e := HM2.out hneg
      go_wp2
      go_meet
      exact ⟨rfl, rfl⟩
  case rest =>
    obtain ⟨rfl, rfl⟩ := hcut
    clear HM HM2
    go_wp2_with fail
    go_loopw [3, 4] (fun m v wr => ∃ (k : Nat), k ≤ Lib.nDigits M ∧ m = .int .u64 ((M / 10 ^ k : Nat) : Int) ∧ wr.ownsRow wc.heap.size 5 1 v k ((List.range k).map fun i => .int .u8 (dI M i)) ∧ Below wc.heap.size wc wr) (fun m v _ => (intOf m).toNat + (1 - lenOf v))
    case atStart => exact ⟨0, Nat.zero_le _, by simp, ⟨rfl, Or.inl ⟨rfl, rfl⟩⟩, Below.refl _ _⟩
    case round =>
      obtain ⟨k, hk, rfl, hown, hb⟩ := hrel
      obtain ⟨A, cap, rfl⟩ : ∃ A cap, u4 = .slice A k cap := by
        rcases hown.2 with ⟨h, h0⟩ | ⟨g, cap, cur, hv, _⟩
        · subst h0; exact ⟨_, _, h⟩
        · exact ⟨_, cap, hv⟩
      have hiff := nd_iff k M
      by_cases hlt : k < Lib.nDigits M
      · have HQ := Lib.hid (show ∀ q, M / 10 ^ k = q → q / 10 = M / 10 ^ (k + 1) from fun q hq => by rw [← hq, Nat.div_div_eq_div_mul, Nat.pow_succ])
        have HD := Lib.hid (show ∀ q, M / 10 ^ k = q → dI M k = 48 + ((q % 10 : Nat) : Int) from fun q hq => by rw [← hq]; rfl)
        have HK := Lib.hid (And.intro hlt HL.out)
        have hor : k = 0 ∨ 0 < M / 10 ^ k := hiff.1 hlt
        have HBq := Lib.hid (show M / 10 ^ k ≤ M from Nat.div_le_self _ _)
        generalize hqe : M / 10 ^ k = q at *
        have HQE := Lib.hid hqe
        have HB := Lib.hid hb
        have HO := Lib.hid hown
        have ww := u8w q
        obtain ⟨x1, x2⟩ := ww
        generalize hd : ((q % 10 : Nat) : Int) = d at *
        have hd2 : (q : Int) % 10 = d := by omega
        have HDD := Lib.hid hd
        have H10 := Lib.hid (show q / 10 < q ∨ q = 0 by omega)
        clear hiff hlt hk hqe hb hown hd
        rcases Nat.eq_zero_or_pos q with hq0 | hq0
        · have hk0 : k = 0 := by omega
          subst hk0
          subst hq0
          have hd0 : d = 0 := by have := HDD.out; omega
          subst hd0
          have HD0 := Lib.hid (show dI M 0 = 48 from HD.out 0 rfl)
          clear hor x1 x2 hd2
          go_wp2_with (at_builtin; refine wpList_append_own _ rfl _ _ 64 rfl wc.heap.size 5 i0 (.int .u8 0) 1 1 Tryd.underlying64 HI.out HZ0.out HZ1.out HZ2.out rfl (by decide) _ _ _ rfl (HO.out.alloc _) ⟨wr.heap.size, 0, none⟩ 1 1 [.int .u8 48] rfl rfl ?c1 ?c2 ?c3 ?c4 ?c5 ?_)
          case c2 => rfl
          case c3 => have := HK.out; unfold maxLen; omega
          case c5 => have := HB.out.size; omega
          intro v' w2 hown2 hgrow _
          have HN2 : Hid (w2.ownsRow wc.heap.size 5 1 v' (0 + 1) ((List.range (0 + 1)).map fun i => .int .u8 (dI M i))) := Lib.hid (by rw [List.range_succ, List.map_append, List.map_singleton, HD0.out]; exact hown2)
          have HW : Hid (Below wc.heap.size wc w2) := Lib.hid ((HB.out.alloc (by have := HB.out.size; omega) _).grown hgrow (by rw [World.size_alloc]; have := HB.out.size; omega) (fun g hg => (HO.out.lt g hg).1))
          have HLN := Lib.hid (show lenOf v' = 0 + 1 by
            rcases hown2.2 with ⟨_, h0⟩ | ⟨g, cap, cur, hv, _⟩
            · omega
            · rw [hv]; rfl)
          clear hown2 hgrow
          go_wp2
          go_roundw
          case rel => exact ⟨0 + 1, HK.out.1, by rw [← HQ.out 0 rfl]; rfl, HN2.out, HW.out⟩
          case measure => have hl : lenOf (.slice A 0 cap) = 0 := rfl; simp [intOf, HLN.out, hl]
        · have kq : (0 : Int) < (q : Int) := by omega
          have x3 : IntKind.u64.wrap ((q : Int) / 10) = ((q / 10 : Nat) : Int) := by have := HBq.out; have := HMB.out; rw [IntKind.wrap_u64]; omega
          clear hor hq0
          go_wp2_with (at_builtin; refine wpList_append_own _ rfl _ _ 64 rfl wc.heap.size 5 i0 (.int .u8 0) 1 1 Tryd.underlying64 HI.out HZ0.out HZ1.out HZ2.out rfl (by decide) _ _ _ rfl (HO.out.alloc _) ⟨wr.heap.size, 0, none⟩ 1 1 [.int .u8 (48 + d)] rfl rfl ?d1 ?d2 ?d3 ?d4 ?d5 ?_)
          case d1 => exact (cell_one_new _ _ _)
          case d2 => intro u hu; simp at hu; subst hu; rfl
          case d3 => have := HK.out; unfold maxLen; omega
          case d4 => have := HK.out; omega
          case d5 => rw [World.size_alloc]; have := HB.out.size; omega
          intro v' w2 hown2 hgrow _
          have HN2 : Hid (w2.ownsRow wc.heap.size 5 1 v' (k + 1) ((List.range (k + 1)).map fun i => .int .u8 (dI M i))) := Lib.hid (by rw [List.range_succ, List.map_append, List.map_singleton, HD.out q rfl, HDD.out]; exact hown2)
          have HW : Hid (Below wc.heap.size wc w2) := Lib.hid ((HB.out.alloc (by have := HB.out.size; omega) _).grown hgrow (by rw [World.size_alloc]; have := HB.out.size; omega) (fun g hg => (HO.out.lt g hg).1))
          have HLN := Lib.hid (show lenOf v' = k + 1 by
            rcases hown2.2 with ⟨_, h0⟩ | ⟨g, cap, cur, hv, _⟩
            · omega
            · rw [hv]; rfl)
          clear hown2 hgrow
          go_wp2
          go_roundw
          case rel => exact ⟨k + 1, HK.out.1, by rw [← HQ.out q rfl, Int.natCast_ediv]; rfl, HN2.out, HW.out⟩
          case measure => have h3 := H10.out; have hl : lenOf (.slice A k cap) = k := rfl; simp [intOf, HLN.out, hl]; omega
      · obtain rfl : k = Lib.nDigits M := by omega
        have hp := Lib.nDigits_pos M
        have h0 : M / 10 ^ Lib.nDigits M = 0 := Nat.div_eq_of_lt (Lib.lt_pow_nDigits M)
        rw [h0, show ((0 : Nat) : Int) = 0 from rfl]
        obtain ⟨gB, capB, he⟩ : ∃ gB capB, Value.slice A (Lib.nDigits M) cap = .slice (some ⟨gB, 0, none⟩) (Lib.nDigits M) capB := by
          rcases hown.2 with ⟨_, hz⟩ | ⟨g, cap, cur, hv, _⟩
          · omega
          · exact ⟨g, cap, hv⟩
        rw [he] at hown ⊢
        have BL := Lib.hid (show ∀ i, i < Lib.nDigits M → wr.cell? ⟨gB, i, none⟩ = some (.int .u8 (dI M i)) from fun i hi => by
          rw [hown.cellAt i (by omega), List.getElem?_map, List.getElem?_range hi]; rfl)
        have HB := Lib.hid hb
        have HP := Lib.hid hp
        have kl : ¬ ((Lib.nDigits M : Int) = 0) := by omega
        have kl2 : ¬ (Lib.nDigits M = 0) := by omega
        clear he hown hb hp h0 hiff hlt hk
        go_upto_if 30 with (fail)
        go_cut [5] (fun s5 wx => wx.ownsRow wr.heap.size 5 1 s5 (sgI n).length ((sgI n).map (Value.int .u8)) ∧ Below wr.heap.size wr wx)
        case first =>
          by_cases hneg : n < 0
          · have hs : sgI n = [45] := if_pos hneg
            have HO : Hid (wr.ownsRow wr.heap.size 5 1 (.slice none 0 0) 0 []) := Lib.hid ⟨rfl, Or.inl ⟨rfl, rfl⟩⟩
            go_wp2_with (at_builtin; refine wpList_append_own _ rfl _ _ 64 rfl wr.heap.size 5 i0 (.int .u8 0) 1 1 Tryd.underlying64 HI.out HZ0.out HZ1.out HZ2.out rfl (by decide) _ _ _ rfl (HO.out.alloc _) ⟨wr.heap.size, 0, none⟩ 1 1 [.int .u8 45] rfl rfl ?e1 ?e2 ?e3 ?e4 ?e5 ?_)
            case e1 => exact (cell_one_new _ _ _)
            case e2 => intro u hu; simp at hu; subst hu; rfl
            case e3 => unfold maxLen; omega
            case e4 => omega
            case e5 => rw [World.size_alloc]; omega
            intro v' w2 hown2 hgrow _
            have HN2 := Lib.hid hown2
            have HW : Hid (Below wr.heap.size wr w2) := Lib.hid (((Below.refl wr.heap.size wr).alloc (Nat.le_refl _) _).grown hgrow (by rw [World.size_alloc]; omega) (fun g hg => (HO.out.lt g hg).1))
            clear hown2 hgrow
            go_wp2
            go_meet
            rw [hs]
            exact ⟨HN2.out, HW.out⟩
          · have hs : sgI n = [] := if_neg hneg
            go_wp2
            go_meet
            rw [hs]
            exact ⟨⟨rfl, Or.inl ⟨rfl, rfl⟩⟩, Below.refl _ _⟩
        case rest =>
          obtain ⟨ho, hb⟩ := hcut
          have HO5 := Lib.hid ho
          have HB5 := Lib.hid hb
          have HSL := Lib.hid (show (sgI n).length ≤ 1 by unfold sgI; split <;> simp)
          clear ho hb kl kl2
          obtain ⟨w0, hw0⟩ : ∃ w0, w0 = wr := ⟨_, rfl⟩
          subst hw0
          have e6 : wrap64 ((Lib.nDigits M : Int) - 1) = (Lib.nDigits M : Int) - 1 := by have := HL.out; unfold wrap64; omega
          go_wp2_with fail
          go_loopw [5, 6] (fun v i wr => ∃ (j : Nat) (z : Int), j ≤ Lib.nDigits M ∧ i = .int .i64 z ∧ Hid (z = (Lib.nDigits M : Int) - 1 - (j : Int)) ∧ wr.ownsRow w0.heap.size 5 1 v ((sgI n).length + j) (outL n M j) ∧ Below w0.heap.size w0 wr) (fun _ i _ => (intOf i + 1).toNat)
          case atStart => exact ⟨0, _, Nat.zero_le _, rfl, Lib.hid (by rw [e6]; simp), by rw [outL_zero]; exact HO5.out, HB5.out⟩
          case round =>
            clear HO5 HB5 e6
            obtain ⟨j, z, hj, rfl, HZ, hO, hW⟩ := hrel
            by_cases hlt : j < Lib.nDigits M
            · obtain ⟨q, hq⟩ : ∃ q, q = Lib.nDigits M - 1 - j := ⟨_, rfl⟩
              have hz : z = (q : Int) := by have := HZ.out; omega
              subst hz
              have hcell : _ := (hW.cell (p := ⟨gB, q, none⟩) (block_lt_of_cell (BL.out q (by omega)))).trans (BL.out q (by omega))
              have HD := Lib.hid (show outL n M (j + 1) = outL n M j ++ [.int .u8 (dI M q)] by rw [outL_succ, hq])
              generalize dI M q = d at *
              have HK := Lib.hid (And.intro hlt (And.intro hq HL.out))
              have HO := Lib.hid hO
              have HW := Lib.hid hW
              have q1 : (q : Int) < (Lib.nDigits M : Int) := by omega
              have q2 : q < Lib.nDigits M := by omega
              have q3 : (0 : Int) ≤ (q : Int) := by omega
              have q4 : wrap64 ((q : Int) - 1) = (q : Int) - 1 := by have := HL.out; unfold wrap64; omega
              clear hO hW hj hlt hq HZ
              go_wp2_with (at_builtin; refine wpList_append_own _ rfl _ _ 64 rfl w0.heap.size 5 i0 (.int .u8 0) 1 1 Tryd.underlying64 HI.out HZ0.out HZ1.out HZ2.out rfl (by decide) _ _ _ rfl (HO.out.alloc _) ⟨wr.heap.size, 0, none⟩ 1 1 [.int .u8 d] rfl rfl ?f1 ?f2 ?f3 ?f4 ?f5 ?_)
              case f1 => exact (cell_one_new _ _ _)
              case f2 => intro u hu; simp at hu; subst hu; rfl
              case f3 => have := HK.out; have := HSL.out; unfold maxLen; omega
              case f4 => have := HK.out; have := HSL.out; omega
              case f5 => rw [World.size_alloc]; have := HW.out.size; omega
              intro v' w2 hown2 hgrow _
              have HN2 := Lib.hid (show w2.ownsRow w0.heap.size 5 1 v' ((sgI n).length + (j + 1)) (outL n M (j + 1)) by rw [HD.out]; exact hown2)
              have HW2 : Hid (Below w0.heap.size w0 w2) := Lib.hid ((HW.out.alloc (by have := HW.out.size; omega) _).grown hgrow (by rw [World.size_alloc]; have := HW.out.size; omega) (fun g hg => (HO.out.lt g hg).1))
              clear hown2 hgrow
              go_wp2
              go_roundw
              case rel => exact ⟨j + 1, (q : Int) - 1, by have := HK.out; omega, by first | rfl | rw [q4], Lib.hid (by have := HK.out; omega), HN2.out, HW2.out⟩
              case measure => simp only [intOf]; first | omega | (rw [q4]; omega) | (simp [q4])
            · obtain rfl : j = Lib.nDigits M := by omega
              have hz : z = -1 := by have := HZ.out; omega
              subst hz
              obtain ⟨g, cap2, rfl⟩ : ∃ g cap2, u5 = .slice (some ⟨g, 0, none⟩) ((sgI n).length + Lib.nDigits M) cap2 := by
                rcases hO.2 with ⟨_, h0⟩ | ⟨g, cap, cur, hv, _⟩
                · have := HP.out; omega
                · exact ⟨g, cap, hv⟩
              have hle : (sgI n ++ (List.range (Lib.nDigits M)).map fun t => dI M (Lib.nDigits M - 1 - t)).length = (sgI n).length + Lib.nDigits M := by simp
              have cv : (convert 64 9 (.slice (some ⟨g, 0, none⟩) ((sgI n).length + Lib.nDigits M) cap2)).run Tryd.prog wr = .ok (.string (itoaS n)) wr := by
                rw [← text_eq n M HN.out]
                exact run_convert_bytes_arg _ _ _ Tryd.underlying64 Tryd.underlying5 _ _ _ _ _ hle (fun j hj => by
                  rw [Nat.zero_add, hO.cellAt j (by omega), outL, List.getElem?_map, List.getElem?_eq_getElem (by rw [hle]; exact hj), Option.map_some, List.getD_eq_getElem?_getD, List.getElem?_eq_getElem (by rw [hle]; exact hj)]
                  rfl) _ Tryd.underlying9
              have HW := Lib.hid hW
              clear hO hW hj hlt HZ hle
              go_wp2
              go_ret
              exact ⟨rfl, HB.out.trans (HW.out.mono HB.out.size)⟩
end Go.Proofs.YtkbkjbnfkgncdaaDoor.TickW
