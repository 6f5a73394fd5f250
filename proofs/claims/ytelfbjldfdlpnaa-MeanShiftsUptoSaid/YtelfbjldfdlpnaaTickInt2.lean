/- The document's numbers: Int. -/
import Derived.Test.YtelfbjldfdlpnaaTickInt
namespace Go.Proofs.Ytelfbjldfdlpnaa.TickW
open Go.RowKit
theorem ansIn {z : Int} (h : -9223372036854775808 ≤ z ∧ z ≤ 9223372036854775807) : ansV z = .tuple #[.int .i64 z, .int .i64 0] := if_pos h
theorem ansOut {z : Int} (h : ¬ (-9223372036854775808 ≤ z ∧ z ≤ 9223372036854775807)) : ansV z = .tuple #[.int .i64 0, .int .i64 4] := if_neg h
theorem len4 (m : Nat) : 4 < (dl m).length ↔ 18446744073709551616 ≤ m := by
  rw [dl_lt_length]
  show 0 < m / 18446744073709551616 ↔ _
  omega
set_option maxHeartbeats 4000000 in
set_option maxRecDepth 100000 in
theorem refInt_raw (A : Option Addr) (c m : Nat) (p : Bool) (z : Int) (hm : m = z.natAbs) (hp : p = decide (z < 0)) (w : World) (ha : DL w A (dl m)) :
    Calls Try.prog 39 #[.agg #[.slice A (dl m).length c, .bool p]] w fun e w' => e = .returned (ansV z) ∧ Below w.heap.size w w' := by
  have HA := Lib.hid ha
  have HP := Lib.hid hp
  have HM := Lib.hid hm
  clear ha hp hm
  by_cases h4 : 4 < (dl m).length
  · have hm := (len4 m).1 h4
    have HZ := Lib.hid (ansOut (z := z) (by have := HM.out; omega))
    have k4 : ((dl m).length : Int) > 4 := by omega
    rw [HZ.out]
    clear h4 hm
    go_enter Try.func39, Try.ntmps39
    go_wp2
    go_ret2
    exact ⟨rfl, al (Below.refl _ _) _⟩
  · have hm : m < 18446744073709551616 := by have := mt (len4 m).2 h4; omega
    have HMB := Lib.hid hm
    have k4 : ¬ ((dl m).length : Int) > 4 := by omega
    have h40 : (dl m).length ≤ 4 := by omega
    have HL := Lib.hid h40
    have e6 : wrap64 (((dl m).length : Int) - 1) = ((dl m).length : Int) - 1 := by unfold wrap64; omega
    have HE6 := Lib.hid e6
    clear h4 hm e6
    go_enter Try.func39, Try.ntmps39
    go_upto_block 0 with (fail)
    have hb0 := al (Below.refl w.heap.size w) (Obj.cells #[.slice A (dl m).length c, .bool p] 62)
    have h1 := heap_alloc_new w (Obj.cells #[.slice A (dl m).length c, .bool p] 62)
    generalize w.alloc (Obj.cells #[.slice A (dl m).length c, .bool p] 62) = W0 at *
    have HB := Lib.hid hb0
    have HA0 := Lib.hid (HA.out.below hb0)
    have g0 := Lib.hid (show W0.cell? ⟨w.heap.size, 0, none⟩ = some (.slice A (dl m).length c) from cell_of_row W0 _ 0 _ _ _ h1)
    have g1 := Lib.hid (show W0.cell? ⟨w.heap.size, 1, none⟩ = some (.bool p) from cell_of_row W0 _ 1 _ _ _ h1)
    clear h1 hb0 k4 h40
    go_wp2_with fail
    go_loopw [4, 5] (fun s i wr => ∃ (k q : Nat) (y : Int), k ≤ (dl m).length ∧ i = .int .i64 y ∧ s = .int .u64 (q : Int) ∧ Hid (y = (k : Int) - 1) ∧ Hid (q = m / 65536 ^ k) ∧ wr = W0) (fun _ i _ => (intOf i + 1).toNat)
    case atStart =>
      refine ⟨(dl m).length, 0, _, Nat.le_refl _, rfl, rfl, ?_, Lib.hid ?_, rfl⟩
      · first | exact HE6 | exact Lib.hid rfl
      · exact (Nat.eq_zero_of_not_pos (fun h => Nat.lt_irrefl _ ((dl_lt_length m _).2 h))).symm
    case round =>
      obtain ⟨k, q, y, hk, rfl, rfl, HY, HQ, rfl⟩ := hrel
      clear HE6
      rcases Nat.eq_zero_or_pos k with rfl | hpos
      · have hy : y = -1 := by have := HY.out; omega
        subst hy
        have hq : q = m := by have := HQ.out; simpa using this
        subst hq
        have hqb : q < 18446744073709551616 := HMB.out
        cases hpp : p with
        | true =>
          have hz : z < 0 := by have := HP.out; rw [hpp] at this; exact of_decide_eq_true this.symm
          by_cases hle : q ≤ 9223372036854775808
          · have HZ := Lib.hid (ansIn (z := z) (by have := HM.out; omega))
            have ke : (q : Int) ≤ 9223372036854775808 := by omega
            have e1 : wrap64 (IntKind.u64.wrap (-(q : Int))) = z := by have := HM.out; rw [IntKind.wrap_u64]; unfold wrap64; omega
            have h0 := g0.out
            have h1 := g1.out
            rw [hpp] at h1
            have HE1 := Lib.hid e1
            clear hz e1 hle hpp hk
            go_wp2
            go_ret2
            exact ⟨by rw [HZ.out, ← HE1.out]; rfl, HB.out⟩
          · have HZ := Lib.hid (ansOut (z := z) (by have := HM.out; omega))
            have ke : ¬ (q : Int) ≤ 9223372036854775808 := by omega
            have h0 := g0.out
            have h1 := g1.out
            rw [hpp] at h1
            clear hz hle hpp hk
            go_wp2
            go_ret2
            exact ⟨by rw [HZ.out]; rfl, HB.out⟩
        | false =>
          have hz : ¬ z < 0 := by have := HP.out; rw [hpp] at this; exact of_decide_eq_false this.symm
          by_cases hle : q < 9223372036854775808
          · have HZ := Lib.hid (ansIn (z := z) (by have := HM.out; omega))
            have ke : (q : Int) < 9223372036854775808 := by omega
            have e1 : (q : Int) = z := by have := HM.out; omega
            have h0 := g0.out
            have h1 := g1.out
            rw [hpp] at h1
            have HE1 := Lib.hid e1
            clear hz e1 hle hpp hk
            go_wp2
            go_ret2
            exact ⟨by rw [HZ.out, ← HE1.out]; rfl, HB.out⟩
          · have HZ := Lib.hid (ansOut (z := z) (by have := HM.out; omega))
            have ke : ¬ (q : Int) < 9223372036854775808 := by omega
            have h0 := g0.out
            have h1 := g1.out
            rw [hpp] at h1
            clear hz hle hpp hk
            go_wp2
            go_ret2
            exact ⟨by rw [HZ.out]; rfl, HB.out⟩
      · obtain ⟨j, hj⟩ : ∃ j, k = j + 1 := ⟨k - 1, by omega⟩
        subst hj
        have hy : y = (j : Int) := by have := HY.out; omega
        subst hy
        have hlt := (dl_lt_length m j).1 hk
        have gx := dl_get m j
        rw [if_pos hlt] at gx
        obtain ⟨a, hae, hca⟩ := HA0.out j _ gx
        have px := pow_split m j
        rw [← HQ.out] at px
        have hle : m / 65536 ^ j ≤ m := Nat.div_le_self _ _
        have hmb := HMB.out
        generalize hX : m / 65536 ^ j = X at *
        have HX := Lib.hid hX
        have hd : X % 65536 < 65536 := Nat.mod_lt _ (by decide)
        have hx4 : q * 65536 + X % 65536 < 18446744073709551616 := by omega
        have q1 : (j : Int) < ((dl m).length : Int) := by omega
        have q2 : j < (dl m).length := by omega
        have HPX := Lib.hid px
        have HKJ := Lib.hid hk
        have h40 := HL.out
        subst hae
        clear hX hlt gx hle hmb hk px
        generalize X % 65536 = d at *
        have h0 := g0.out
        have r1 : q * 65536 < 18446744073709551616 := Nat.lt_of_le_of_lt (Nat.le_add_right _ _) hx4
        go_wp2
        go_roundw
        case rel => exact ⟨j, X, (j : Int) - 1, by have := HKJ.out; omega, by first | rfl | go_num, by first | rfl | (rw [HPX.out]; go_num), Lib.hid rfl, Lib.hid HX.out.symm, trivial⟩
        case measure => simp only [intOf]; omega
theorem refInt_any (z : Int) (v : Value) (w : World) (hv : WV w v z) :
    Calls Try.prog 39 #[v] w fun e w' => e = .returned (ansV z) ∧ Below w.heap.size w w' := by
  obtain ⟨A, c, rfl, hA, _⟩ := hv
  exact refInt_raw A c _ _ z rfl rfl w hA
end Go.Proofs.Ytelfbjldfdlpnaa.TickW

