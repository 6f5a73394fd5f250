/- Walk of strconv.ParseUint at base 16 and sixteen bytes. -/
import Derived.Test.YtgcmjmnolkojhaaDoorNumWalk7
import Derived.Test.YtgcmjmnolkojhaaDoorNumParse
import Derived.Lib.Strings
import Derived.Lib.ConvBytes
namespace Go.Proofs.YtgcmjmnolkojhaaDoor.NumW
open Go.RowKit NumP
theorem lower_any (c : Nat) (h : c < 256) (w : World) : Calls Tryd.prog 78 #[.int .u8 c] w fun e w' => e = .returned (.int .u8 (lw c)) ∧ w = w' := by
  have H := Lib.hid (or32 c h)
  clear h
  go_enter Tryd.func78, Tryd.ntmps78
  go_wp2
  go_ret
  exact ⟨ret_int H.out, rfl⟩
theorem lower_95 (w : World) : Calls Tryd.prog 78 #[.int .u8 95] w fun e w' => e = .returned (.int .u8 127) ∧ w = w' := lower_any 95 (by decide) w
/-- What a reading of hexadecimal digits answers. -/
def puVal : Option Nat → Value
  | some n => .tuple #[.int .u64 n, .nilIface]
  | none => .tuple #[.int .u64 0, .iface 102 (.int .i64 2)]
theorem bytes_below (w : World) (e : TypeId) (s : ByteArray) : Below w.heap.size w (Lib.bytesWorld w e s) :=
  ⟨rfl, rfl, rfl, by rw [Lib.bytesWorld_size]; omega, fun k hk => Lib.bytesWorld_at_old w e s k hk⟩
set_option maxHeartbeats 2000000 in
set_option maxRecDepth 100000 in
theorem parseI_16 (t : ByteArray) (ht : t.size = 16) (w : World) : Calls Tryd.prog 57 #[.string t, .int .i64 16, .int .i64 64] w fun e w' => e = .returned (puVal (pv 0 t.data.toList)) ∧ Below w.heap.size w w' := by
  have hemp : t.toList.isEmpty = false := by
    rw [← decide_eq_emptyBytes]
    exact decide_eq_false (fun h => by rw [h] at ht; exact absurd ht (by decide))
  have hcv := Lib.run_convert_string_bytes (P := Tryd.prog) w 9 65 5 t (u := .string) Tryd.underlying9 Tryd.underlying65 Tryd.underlying5
  have hB : ∀ j, j < t.size → (Lib.bytesWorld w 5 t).cell? ⟨w.heap.size, j, none⟩ = some (.int .u8 (t.data.toList.getD j 0).toNat) := fun j hj => Lib.bytesWorld_cell w 5 t j hj
  have HW := Lib.hid (bytes_below w 5 t)
  obtain ⟨W1, hW1⟩ : ∃ W1, W1 = Lib.bytesWorld w 5 t := ⟨_, rfl⟩
  rw [← hW1] at hcv hB HW
  clear hW1
  obtain ⟨bs, hL⟩ : ∃ bs, bs = t.data.toList := ⟨_, rfl⟩
  have hLn : bs.length = t.size := by rw [hL, Lib.size_eq]
  rw [← hL] at hB ⊢
  clear hL
  have hmv : IntKind.u64.wrap (IntKind.u64.wrap 18446744073709551616 - 1) = 18446744073709551615 := by
    rw [IntKind.wrap_u64, IntKind.wrap_u64]
    decide
  have HB := Lib.hid hB
  have HLn := Lib.hid hLn
  have HT := Lib.hid ht
  have hmx : t.size ≤ 9223372036854775806 := by omega
  clear hB hLn ht
  go_enter Tryd.func57, Tryd.ntmps57
  go_wp2
  go_loop [12, 13, 101] (fun vu vn vi => ∃ (k acc : Nat) (a : Int), vu = .bool false ∧ vn = .int .u64 a ∧ vi = .int .i64 k ∧ k ≤ t.size ∧ Hid (a = (acc : Int) ∧ acc < 16 ^ k ∧ pv 0 bs = pv acc (bs.drop k)))
    (fun _ _ vi => t.size - (intOf vi).toNat)
  case atStart => exact ⟨0, 0, 0, rfl, rfl, rfl, by omega, rfl, by decide, rfl⟩
  case round =>
    obtain ⟨k, acc, a, rfl, rfl, rfl, hk, hh⟩ := hrel
    obtain ⟨ha, hacc, hdec⟩ := hh.out
    clear hh
    have a0 : 0 ≤ a := by omega
    by_cases hkn : k < t.size
    · have hc := HB.out k hkn
      have hsz := HT.out
      have hlen := HLn.out
      have hdrop : bs.drop k = bs[k]'(by omega) :: bs.drop (k + 1) := List.drop_eq_getElem_cons (by omega)
      have hget : bs.getD k 0 = bs[k]'(by omega) := by simp [List.getD, List.getElem?_eq_getElem (show k < bs.length by omega)]
      rw [hdrop] at hdec
      rw [hget] at hc
      have hacc15 : acc < 16 ^ 15 := Nat.lt_of_lt_of_le hacc (Nat.pow_le_pow_right (by decide) (by omega))
      have hstep : ∀ d, d < 16 → acc * 16 + d < 16 ^ (k + 1) := fun d hd => by rw [Nat.pow_succ]; omega
      have a1 : a < 1152921504606846976 := by omega
      generalize bs[k]'(by omega) = c at hc hdec
      have hn : c.toNat < 256 := c.toNat_lt
      have h1 := @pv_digit acc c (bs.drop (k + 1))
      have h2 := @pv_letter acc c (bs.drop (k + 1))
      have h3 := @pv_none acc c (bs.drop (k + 1))
      have hl := lw_lt c.toNat hn
      clear hsz hlen hdrop hget hacc15
      generalize c.toNat = n at *
      by_cases hdig : 48 ≤ n ∧ n ≤ 57
      · have HN : Hid (a * 16 + ((n : Int) - 48) = ((acc * 16 + (n - 48) : Nat) : Int) ∧ acc * 16 + (n - 48) < 16 ^ (k + 1) ∧ pv 0 bs = pv (acc * 16 + (n - 48)) (bs.drop (k + 1))) := Lib.hid ⟨by omega, hstep _ (by omega), hdec.trans (h1 hdig)⟩
        obtain ⟨hd0, hd1⟩ := hdig
        clear h1 h2 h3 hdec hstep ha hacc hl
        go_wp2
        exact ⟨⟨k + 1, acc * 16 + (n - 48), a * 16 + ((n : Int) - 48), rfl, (by first | rfl | (congr 1; omega)), (by first | rfl | (congr 1; omega)), by omega, HN⟩, by simp [intOf]; omega⟩
      · by_cases hlet : 97 ≤ lw n ∧ lw n ≤ 102
        · have HN : Hid (a * 16 + ((lw n : Int) - 97 + 10) = ((acc * 16 + (lw n - 87) : Nat) : Int) ∧ acc * 16 + (lw n - 87) < 16 ^ (k + 1) ∧ pv 0 bs = pv (acc * 16 + (lw n - 87)) (bs.drop (k + 1))) := Lib.hid ⟨by omega, hstep _ (by omega), hdec.trans (h2 hdig hlet)⟩
          obtain ⟨hd0, hd1⟩ := hlet
          have n95 : ¬ (n = 95) := fun z => by subst z; revert hd1; decide
          have n57 := letter_above n hd0
          clear hdig
          clear h1 h2 h3 hdec hstep ha hacc
          go_wp2_with (go_at_call 78; refine (lower_any _ hn _).mono ?_; rintro e w' ⟨rfl, rfl⟩)
          all_goals exact ⟨⟨k + 1, acc * 16 + (lw n - 87), a * 16 + ((lw n : Int) - 97 + 10), rfl, (by first | rfl | (congr 1; omega)), (by first | rfl | (congr 1; omega)), by omega, HN⟩, by simp [intOf]; omega⟩
        · have HN := Lib.hid (hdec.trans (h3 hdig hlet))
          have ways := none_ways n hdig hlet
          clear h1 h2 h3 hdec hstep ha hacc hdig hlet
          rcases ways with ⟨u1, u2, u3, u4⟩ | rfl | ⟨u1, u2⟩ | ⟨u1, u2, u3⟩ | ⟨u1, u2, u3⟩
          · go_wp2_with (go_at_call 78; refine (lower_any _ hn _).mono ?_; rintro e w' ⟨rfl, rfl⟩)
            go_ret2
            exact ⟨by rw [HN.out]; rfl, HW.out⟩
          · go_wp2_with (go_at_call 78; refine (lower_95 _).mono ?_; rintro e w' ⟨rfl, rfl⟩)
            go_ret2
            exact ⟨by rw [HN.out]; rfl, HW.out⟩
          · go_wp2_with (go_at_call 78; refine (lower_any _ hn _).mono ?_; rintro e w' ⟨rfl, rfl⟩)
            go_ret2
            exact ⟨by rw [HN.out]; rfl, HW.out⟩
          · go_wp2_with (go_at_call 78; refine (lower_any _ hn _).mono ?_; rintro e w' ⟨rfl, rfl⟩)
            go_ret2
            exact ⟨by rw [HN.out]; rfl, HW.out⟩
          · go_wp2_with (go_at_call 78; refine (lower_any _ hn _).mono ?_; rintro e w' ⟨rfl, rfl⟩)
            go_ret2
            exact ⟨by rw [HN.out]; rfl, HW.out⟩
    · obtain rfl : k = t.size := by omega
      have HN : Hid (pv 0 bs = some acc) := Lib.hid (by rw [hdec, List.drop_eq_nil_of_le (by have := HLn.out; omega)]; rfl)
      have HA := Lib.hid ha
      clear hacc hdec ha
      go_wp2
      go_ret2
      exact ⟨by rw [HN.out, HA.out]; rfl, HW.out⟩
end Go.Proofs.YtgcmjmnolkojhaaDoor.NumW
