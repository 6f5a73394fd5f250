/- The document's numbers: digit, compare, plus. -/
import Derived.Test.YtelfbjldfdlpnaaTickTrim
namespace Go.Proofs.Ytelfbjldfdlpnaa.TickW
open Go.RowKit
theorem digit_any (A : Option Addr) (c i : Nat) (ds : List Nat) (w : World) (hd : DL w A ds) : 
    Calls Try.prog 64 #[.slice A ds.length c, .int .i64 (i : Int)] w fun e w' => e = .returned (.int .u32 ((ds.getD i 0 : Nat) : Int)) ∧ w' = w := by
  by_cases h : i < ds.length
  · obtain ⟨a, rfl, hc⟩ := hd i (ds[i]) (List.getElem?_eq_getElem h)
    have e : ds.getD i 0 = ds[i] := by simp [List.getD, h]
    rw [e]
    generalize ds[i] = d at *
    have h1 : (i : Int) < (ds.length : Int) := by omega
    clear hd e
    go_enter Try.func64, Try.ntmps64
    go_wp2
    go_ret
    exact ⟨rfl, rfl⟩
  · have e : ds.getD i 0 = 0 := by simp [List.getD, Nat.le_of_not_lt h]
    rw [e]
    have h1 : ¬ (i : Int) < (ds.length : Int) := by omega
    clear hd e
    go_enter Try.func64, Try.ntmps64
    go_wp2
    go_ret
    exact ⟨rfl, rfl⟩
theorem dl_len_lt {x y : Nat} (h : (dl x).length < (dl y).length) : x < y := by
  have h1 := (dl_lt_length y (dl x).length).1 h
  have h2 : ¬ 0 < x / 65536 ^ (dl x).length := fun h3 => Nat.lt_irrefl _ ((dl_lt_length x _).2 h3)
  rcases Nat.lt_or_ge x y with h4 | h4
  · exact h4
  · exact absurd (Nat.lt_of_lt_of_le h1 (Nat.div_le_div_right h4)) h2
def cmpI (x y : Nat) : Int := if x < y then -1 else if y < x then 1 else 0
theorem pow_split (x k : Nat) : x / 65536 ^ k = x / 65536 ^ (k + 1) * 65536 + x / 65536 ^ k % 65536 := by
  rw [Nat.pow_succ, ← Nat.div_div_eq_div_mul]
  omega
theorem lt_of_div {x y p : Nat} (h : x / p < y / p) : x < y := by
  rcases Nat.lt_or_ge x y with h1 | h1
  · exact h1
  · exact absurd h (Nat.not_lt.2 (Nat.div_le_div_right h1))
set_option maxHeartbeats 2000000 in
set_option maxRecDepth 100000 in
theorem compare_any (A B : Option Addr) (c c2 x y : Nat) (w : World) (ha : DL w A (dl x)) (hb : DL w B (dl y)) (hl : (dl x).length ≤ 1000) :
    Calls Try.prog 49 #[.slice A (dl x).length c, .slice B (dl y).length c2] w fun e w' => e = .returned (.int .i64 (cmpI x y)) ∧ Below w.heap.size w w' := by
  have HA := Lib.hid ha
  have HB := Lib.hid hb
  clear ha hb
  rcases Nat.lt_trichotomy (dl x).length (dl y).length with h | h | h
  · have hxy := dl_len_lt h
    have e : cmpI x y = -1 := if_pos hxy
    have k1 : (((dl x).length : Int) != ((dl y).length : Int)) = true := by rw [bne_iff_ne]; omega
    have k2 : ((dl x).length : Int) < ((dl y).length : Int) := by omega
    rw [e]
    clear h hxy e hl
    go_enter Try.func49, Try.ntmps49
    go_wp2
    go_ret
    exact ⟨rfl, Below.refl _ _⟩
  · have HX : Hid ((dl y).length = (dl x).length) := Lib.hid h.symm
    rw [← h]
    have k1 : (((dl x).length : Int) != ((dl x).length : Int)) = false := by simp
    have e6 : wrap64 (((dl x).length : Int) - 1) = ((dl x).length : Int) - 1 := by unfold wrap64; omega
    have HL := Lib.hid hl
    clear h hl
    go_enter Try.func49, Try.ntmps49
    go_wp2_with fail
    go_loopw [5] (fun i wr => ∃ (k : Nat) (z : Int), k ≤ (dl x).length ∧ i = .int .i64 z ∧ Hid (z = (k : Int) - 1) ∧ Hid (x / 65536 ^ k = y / 65536 ^ k) ∧ Hid (Below w.heap.size w wr)) (fun i _ => (intOf i + 1).toNat)
    case atStart => 
      refine ⟨(dl x).length, _, Nat.le_refl _, rfl, Lib.hid e6, Lib.hid ?_, Lib.hid (Below.refl _ _)⟩
      have h1 : x / 65536 ^ (dl x).length = 0 := Nat.eq_zero_of_not_pos (fun h => Nat.lt_irrefl _ ((dl_lt_length x _).2 h))
      have h2 : y / 65536 ^ (dl y).length = 0 := Nat.eq_zero_of_not_pos (fun h => Nat.lt_irrefl _ ((dl_lt_length y _).2 h))
      rw [HX.out] at h2
      rw [h1, h2]
    case round =>
      clear e6
      obtain ⟨k, z, hk, rfl, HZ, HE, HW⟩ := hrel
      rcases Nat.eq_zero_or_pos k with rfl | hp
      · have hz : z = -1 := by have := HZ.out; omega
        subst hz
        have hxy : x = y := by have := HE.out; simpa using this
        have e : cmpI x y = 0 := by unfold cmpI; rw [if_neg (by omega), if_neg (by omega)]
        have HC := Lib.hid e
        clear hxy e
        go_wp2
        go_ret
        exact ⟨by rw [HC.out]; rfl, HW.out⟩
      · obtain ⟨q, hq⟩ : ∃ q, k = q + 1 := ⟨k - 1, by omega⟩
        subst hq
        have hz : z = (q : Int) := by have := HZ.out; omega
        subst hz
        have gx := dl_get x q
        rw [if_pos ((dl_lt_length x q).1 hk)] at gx
        have gy := dl_get y q
        rw [if_pos ((dl_lt_length y q).1 (by rw [HX.out]; exact hk))] at gy
        obtain ⟨a, rfl, hca⟩ := (HA.out.below HW.out) q _ gx
        obtain ⟨b, rfl, hcb⟩ := (HB.out.below HW.out) q _ gy
        have px := pow_split x q
        have py := pow_split y q
        rw [HE.out] at px
        generalize hdx : x / 65536 ^ q % 65536 = dx at *
        generalize hdy : y / 65536 ^ q % 65536 = dy at *
        have k2 : (q : Int) < ((dl x).length : Int) := by omega
        have k3 : q < (dl x).length := by omega
        have k4 : (0 : Int) ≤ (q : Int) := by omega
        have HKQ := Lib.hid hk
        rcases Nat.lt_trichotomy dx dy with hc | hc | hc
        · have hxy : x < y := lt_of_div (p := 65536 ^ q) (by omega)
          have HC := Lib.hid (show cmpI x y = -1 from if_pos hxy)
          have kc : (dx : Int) < (dy : Int) := by omega
          clear gx gy px py hdx hdy hp hk hxy hc
          go_wp2_with fail
          go_region
          go_wp2
          go_ret
          exact ⟨by rw [HC.out]; rfl, HW.out.drew⟩
        · have hqq : x / 65536 ^ q = y / 65536 ^ q := by omega
          have HQQ := Lib.hid hqq
          subst hc
          have kc : ¬ ((dx : Int) < (dx : Int)) := by omega
          have e7 : wrap64 ((q : Int) - 1) = (q : Int) - 1 := by have := HL.out; unfold wrap64; omega
          clear gx gy px py hdx hdy hp hk hqq
          go_wp2_with fail
          go_region
          go_wp2_with fail
          go_region
          go_wp2
          go_roundw
          case rel => exact ⟨q, (q : Int) - 1, by have := HKQ.out; omega, by first | rfl | rw [e7], Lib.hid rfl, HQQ, Lib.hid HW.out.drew.drew⟩
          case measure => simp only [intOf]; first | omega | (rw [e7]; omega)
        · have hxy : y < x := lt_of_div (p := 65536 ^ q) (by omega)
          have HC := Lib.hid (show cmpI x y = 1 by unfold cmpI; rw [if_neg (by omega), if_pos hxy])
          have kc : ¬ (dx : Int) < (dy : Int) := by omega
          have kc2 : (dy : Int) < (dx : Int) := by omega
          clear gx gy px py hdx hdy hp hk hxy hc
          go_wp2_with fail
          go_region
          go_wp2_with fail
          go_region
          go_wp2
          go_ret
          exact ⟨by rw [HC.out]; rfl, HW.out.drew.drew⟩
  · have hxy := dl_len_lt h
    have e : cmpI x y = 1 := by unfold cmpI; rw [if_neg (by omega), if_pos hxy]
    have k1 : (((dl x).length : Int) != ((dl y).length : Int)) = true := by rw [bne_iff_ne]; omega
    have k2 : ¬ ((dl x).length : Int) < ((dl y).length : Int) := by omega
    rw [e]
    clear h hxy e hl
    go_enter Try.func49, Try.ntmps49
    go_wp2
    go_ret
    exact ⟨rfl, Below.refl _ _⟩
end Go.Proofs.Ytelfbjldfdlpnaa.TickW

