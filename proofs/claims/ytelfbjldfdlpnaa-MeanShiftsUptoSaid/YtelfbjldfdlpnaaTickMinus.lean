/- The document's numbers: minus. -/
import Derived.Test.YtelfbjldfdlpnaaTickPlus
import Derived.Deep.RegionHeld3
namespace Go.Proofs.Ytelfbjldfdlpnaa.TickW
open Go.RowKit
/-- The lowest digits. -/
def dg (m : Nat) : Nat → List Nat
  | 0 => []
  | k + 1 => dg m k ++ [m / 65536 ^ k % 65536]
theorem dg_length (m k : Nat) : (dg m k).length = k := by
  induction k with
  | zero => rfl
  | succ k ih => rw [dg, List.length_append, ih]; rfl
theorem dg_lt (m k : Nat) : ∀ d ∈ dg m k, d < 65536 := by
  induction k with
  | zero => intro d h; simp [dg] at h
  | succ k ih =>
    intro d h
    rw [dg, List.mem_append] at h
    rcases h with h | h
    · exact ih d h
    · simp only [List.mem_singleton] at h; subst h; exact Nat.mod_lt _ (by decide)
theorem val_dg (m k : Nat) : val (dg m k) = m % 65536 ^ k := by
  induction k with
  | zero => simp [dg, val, Nat.mod_one]
  | succ k ih =>
    rw [dg, val_append, dg_length, ih, Nat.pow_succ, Nat.mod_mul, Nat.mul_comm]
theorem val_dg_all {m k : Nat} (h : m < 65536 ^ k) : val (dg m k) = m := by rw [val_dg, Nat.mod_eq_of_lt h]
theorem lt_pow_len (x : Nat) : x < 65536 ^ (dl x).length := by
  have h : ¬ 0 < x / 65536 ^ (dl x).length := fun h => Nat.lt_irrefl _ ((dl_lt_length x _).2 h)
  rcases Nat.lt_or_ge x (65536 ^ (dl x).length) with h1 | h1
  · exact h1
  · exact absurd (Nat.div_pos h1 (Nat.pow_pos (by decide))) h
set_option maxHeartbeats 4000000 in
set_option maxRecDepth 100000 in
theorem refminus_any (A B : Option Addr) (c c2 x y : Nat) (w : World) (ha : DL w A (dl x)) (hb : DL w B (dl y)) (hxy : y ≤ x) (hl : (dl x).length ≤ 1000) :
    Calls Try.prog 50 #[.slice A (dl x).length c, .slice B (dl y).length c2] w fun e w' => (∃ A' c' ds, e = .returned (.slice A' ds.length c') ∧ DL w' A' ds ∧ ds.length ≤ c' ∧ ds.length ≤ 1000 ∧ (∀ d ∈ ds, d < 65536) ∧ val ds = x - y) ∧ Below w.heap.size w w' := by
  obtain ⟨i0, hi, hz0, hz1, hz2⟩ := u32_info
  have HI := Lib.hid hi
  have HZ0 := Lib.hid hz0
  have HZ1 := Lib.hid hz1
  have HZ2 := Lib.hid hz2
  have HA := Lib.hid ha
  have HB := Lib.hid hb
  obtain ⟨z, hz⟩ : ∃ z, x = y + z := ⟨x - y, by omega⟩
  have HXY := Lib.hid hz
  have HL := Lib.hid hl
  clear hi hz0 hz1 hz2 ha hb hl hxy hz
  go_enter Try.func50, Try.ntmps50
  go_wp2_with fail
  go_loopw [5, 6, 7] (fun r cy i wr => ∃ (k b : Nat), k ≤ (dl x).length ∧ i = .int .i64 (k : Int) ∧ cy = .int .u32 (b : Int) ∧ Hid (y / 65536 ^ k + z / 65536 ^ k + b = x / 65536 ^ k ∧ b ≤ 1) ∧ Hid (Below w.heap.size w wr) ∧ Hid (wr.ownsRow w.heap.size 68 1 r k (u32s (dg z k))) ∧ Hid (w.heap.size ≤ wr.heap.size)) (fun _ _ i _ => (dl x).length - (intOf i).toNat)
  case atStart => exact ⟨0, 0, Nat.zero_le _, rfl, rfl, Lib.hid (by have := HXY.out; simp; omega), Lib.hid (Below.refl _ _), Lib.hid ⟨rfl, Or.inl ⟨rfl, rfl⟩⟩, Lib.hid (Nat.le_refl _)⟩
  case round =>
    obtain ⟨k, b, hk, rfl, rfl, HV, HW, HO, HS⟩ := hrel
    obtain ⟨R, cap, rfl⟩ := own_slice HO.out
    have hb1 := HV.out.2
    by_cases hlt : k < (dl x).length
    · have gx := dl_get x k
      rw [if_pos ((dl_lt_length x k).1 hlt)] at gx
      obtain ⟨a, hae, hca⟩ := (HA.out.below HW.out) k _ gx
      have HQX := Lib.hid (div_pow_succ x k)
      have HQY := Lib.hid (div_pow_succ y k)
      have HQZ := Lib.hid (div_pow_succ z k)
      have DY := fun W (h : DL W B (dl y)) => digit_any B c2 k (dl y) W h
      rw [dl_getD] at DY
      obtain ⟨n, hn⟩ : ∃ n, n = (dl x).length := ⟨_, rfl⟩
      rw [← hn] at hlt hk ⊢
      have HDG := Lib.hid (show dg z (k + 1) = dg z k ++ [z / 65536 ^ k % 65536] from rfl)
      generalize hX : x / 65536 ^ k = X at *
      generalize hY : y / 65536 ^ k = Y at *
      generalize hZ : z / 65536 ^ k = Z at *
      have HLN := Lib.hid hn
      have HNL := Lib.hid (show n ≤ 1000 by rw [hn]; exact HL.out)
      have HK := Lib.hid hlt
      have dx1 : X % 65536 < 65536 := Nat.mod_lt _ (by decide)
      have dy1 : Y % 65536 < 65536 := Nat.mod_lt _ (by decide)
      have hs : ((65536 + X % 65536 - Y % 65536 - b) % 65536) = Z % 65536 := by have := HV.out; omega
      have hs2 : Y / 65536 + Z / 65536 + (1 - (65536 + X % 65536 - Y % 65536 - b) / 65536) = X / 65536 := by have := HV.out; omega
      have HV2 := Lib.hid hs2
      have HD := Lib.hid hs
      have q1 : (k : Int) < (n : Int) := by omega
      subst hae
      clear hX hY hZ hs hs2 hn gx hk
      generalize X % 65536 = dx at *
      generalize Y % 65536 = dy at *
      have q0 : (0 : Int) ≤ (k : Int) := by omega
      go_wp2_with fail
      go_region_held3 (fun w' => w'.cell? (a.add k) = some (.int .u32 (dx : Int))) (go_keep) (first | (go_at_call 64; (with_reducible refine (DY _ (HB.out.below HW.out.drew)).mono ?_); rintro e w2 ⟨rfl, hw2⟩; cases hw2))
      have e9 : IntKind.u32.wrap (IntKind.u32.wrap (IntKind.u32.wrap (65536 + (dx : Int)) - (dy : Int)) - (b : Int)) = 65536 + (dx : Int) - (dy : Int) - (b : Int) := by simp [IntKind.wrap, IntKind.bits, IntKind.signed]; omega
      rw [e9]
      have HWd := Lib.hid (show Below w.heap.size w wr.drew from HW.out.drew)
      have HOd := Lib.hid (show wr.drew.ownsRow w.heap.size 68 1 (Value.slice R k cap) k (u32s (dg z k)) from HO.out)
      have HSd := Lib.hid (show w.heap.size ≤ wr.drew.heap.size from HS.out)
      clear DY hca HW HO HS e9
      rename_i hHd
      clear hHd
      generalize wr.drew = w2 at *
      go_wp2_with (at_builtin; refine wpList_append_own _ rfl _ _ 60 rfl w.heap.size 68 i0 (.int .u32 0) 1 4 Try.underlying60 HI.out HZ0.out HZ1.out HZ2.out rfl (by decide) _ _ _ rfl (HOd.out.alloc _) ⟨w2.heap.size, 0, none⟩ 1 1 [.int .u32 ((65536 + (dx : Int) - (dy : Int) - (b : Int)) % 65536)] rfl rfl ?c1 ?c2 ?c3 ?c4 ?c5 ?_)
      case c1 => exact (cell_one_new _ _ _)
      case c2 => intro u hu; simp at hu; subst hu; rfl
      case c3 => have := HK.out; have := HNL.out; unfold maxLen; omega
      case c4 => have := HK.out; have := HNL.out; omega
      case c5 => rw [World.size_alloc]; have := HSd.out; omega
      intro v' w3 hown2 hgrow _
      obtain ⟨A', cap', rfl⟩ := own_slice hown2
      have HO2 := Lib.hid (show w3.ownsRow w.heap.size 68 1 (.slice A' (k + 1) cap') (k + 1) (u32s (dg z (k + 1))) by
        rw [HDG.out, ← HD.out]; unfold u32s; rw [List.map_append]
        have e : ((((65536 + dx - dy - b) % 65536 : Nat) : Int)) = (65536 + (dx : Int) - (dy : Int) - (b : Int)) % 65536 := by omega
        show w3.ownsRow w.heap.size 68 1 (.slice A' (k + 1) cap') (k + 1) (_ ++ [.int .u32 (((65536 + dx - dy - b) % 65536 : Nat) : Int)])
        rw [e]
        exact hown2)
      have HW2 : Hid (Below w.heap.size w2 w3) := Lib.hid (((Below.refl w.heap.size w2).alloc HSd.out _).grown hgrow (by rw [World.size_alloc]; have := HSd.out; omega) (fun g hg => (HOd.out.lt g hg).1))
      have HE2 := Lib.hid (show 1 - ((65536 + (dx : Int) - (dy : Int) - (b : Int)) / 65536) = ((1 - (65536 + dx - dy - b) / 65536 : Nat) : Int) by omega)
      have kk : k ≤ 1000 := by have := HK.out; have := HNL.out; omega
      clear hown2 hgrow
      go_wp2
      go_roundw
      case rel => exact ⟨k + 1, 1 - (65536 + dx - dy - b) / 65536, HK.out, by first | rfl | go_num, by first | rfl | rw [HE2.out], Lib.hid (by rw [HQX.out, HQY.out, HQZ.out]; exact ⟨HV2.out, by omega⟩), Lib.hid (HWd.out.trans HW2.out), HO2, Lib.hid (Nat.le_trans HSd.out (by have := HW2.out.size; omega))⟩
      case measure => have := HK.out; simp only [intOf]; omega
    · obtain rfl : k = (dl x).length := by omega
      have HO2 := Lib.hid HO.out
      have HV2 := Lib.hid (val_dg_all (m := z) (k := (dl x).length) (by have := lt_pow_len x; have := HXY.out; omega))
      clear hlt hk
      go_wp2
      go_ret
      obtain ⟨A2, c3, he, hd, hcc⟩ := own_dl HO2.out (dg_length z _)
      refine ⟨⟨A2, c3, dg z (dl x).length, ?_, hd, ?_, ?_, dg_lt _ _, ?_⟩, HW.out⟩
      · rw [dg_length, ← he]; rfl
      · rw [dg_length]; exact hcc
      · rw [dg_length]; exact HL.out
      · rw [HV2.out]; have := HXY.out; omega
end Go.Proofs.Ytelfbjldfdlpnaa.TickW

