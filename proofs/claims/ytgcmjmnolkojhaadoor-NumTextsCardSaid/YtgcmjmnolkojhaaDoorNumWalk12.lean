/- Walk of the document's Parse. -/
import Derived.Test.YtgcmjmnolkojhaaDoorNumWalk11
import Derived.Test.YtgcmjmnolkojhaaDoorNumParse2
namespace Go.Proofs.YtgcmjmnolkojhaaDoor.NumW
open Go.RowKit NumP
/-- What the document's Parse answers. -/
def parseR (s : ByteArray) : Option Nat := if s.size = 16 then (match rp 0 s.data.toList with
  | some n => if 9218868437227405312 < mag n ∧ n ≠ 9221120237041090561 then none else some n
  | none => none) else none
def parseRVal : Option Nat → Value
  | some n => .tuple #[.int .u64 n, .int .i64 0]
  | none => .tuple #[.int .u64 0, .int .i64 2]
theorem text_bytes (u : Nat) : (text u).data.toList = (hexF 16 u).map fun n => UInt8.ofNat n.toNat := strOfNums_data _
theorem rp_text (u : Nat) (h : u < 18446744073709551616) : rp 0 (text u).data.toList = some u := by
  rw [text_bytes, rp_of_hexF, Nat.zero_mul, Nat.zero_add, Nat.mod_eq_of_lt h]
theorem text_of_rp {s : ByteArray} {n : Nat} (hs : s.size = 16) (h : rp 0 s.data.toList = some n) : text n = s := by
  have hl : s.data.toList.length = 16 := by rw [← Lib.size_eq]; exact hs
  have := (rp_hexF _ _ _ h).2
  rw [hl] at this
  apply ByteArray.ext
  apply Array.toList_inj.1
  rw [text_bytes, this, List.map_map]
  conv => rhs; rw [← List.map_id s.data.toList]
  exact List.map_congr_left fun c _ => by simp
theorem one_fix (n : Nat) : oneN n = n ↔ ¬ (9218868437227405312 < mag n ∧ n ≠ 9221120237041090561) := by
  by_cases h : 9218868437227405312 < mag n
  · rw [one_nan n h]
    constructor
    · rintro rfl ⟨_, h2⟩; exact h2 rfl
    · intro h2
      have : ¬ n ≠ 9221120237041090561 := fun z => h2 ⟨h, z⟩
      omega
  · rw [one_num n h]
    exact ⟨fun _ z => h z.1, fun _ => rfl⟩
/-- Both readings are one. -/
theorem parse_same_ref (s : ByteArray) : parseN s = parseR s := by
  unfold parseN parseR
  by_cases hs : s.size = 16
  · rw [if_pos hs, if_pos hs]
    cases hr : rp 0 s.data.toList with
    | some n =>
      have hp := rp_pv _ _ _ hr
      have ht := text_of_rp hs hr
      have hlt := num_lt s hs n hp
      rw [hp]
      simp only
      by_cases h1 : 9218868437227405312 < mag n ∧ n ≠ 9221120237041090561
      · rw [if_pos h1, if_neg]
        intro z
        have := rp_text (oneN n) (one_lt n hlt)
        rw [z, hr] at this
        exact (one_fix n).1 (Option.some.inj this).symm h1
      · rw [if_neg h1, if_pos (by rw [(one_fix n).2 h1]; exact ht)]
    | none =>
      cases hp : pv 0 s.data.toList with
      | none => rfl
      | some n =>
        simp only
        rw [if_neg]
        intro z
        have := rp_text (oneN n) (one_lt n (num_lt s hs n hp))
        rw [z, hr] at this
        cases this
  · rw [if_neg hs, if_neg hs]
theorem byte_at (t : ByteArray) (k : Nat) (h : k < t.size) (n : Nat) (hn : (t.data.toList.getD k 0).toNat = n) (w : World) : (Instr.index 9 (.string t) (.int .i64 (k : Int))).run Tryd.prog w = .ok (.int .u8 (n : Int)) w := by
  rw [run_index_string w _ t .i64 k Tryd.underlying9, dif_pos ⟨by omega, by omega⟩]
  have e : t.data.toList.getD k 0 = t[k] := by
    rw [List.getD_eq_getElem?_getD, Array.getElem?_toList, Array.getElem?_eq_getElem (by exact h)]
    rfl
  rw [← hn, e]
  rfl
set_option maxHeartbeats 1000000 in
set_option maxRecDepth 100000 in
theorem refParse_size (t : ByteArray) (ht : t.size ≠ 16) (w : World) : Calls Tryd.prog 33 #[.string t] w fun e w' => e = .returned (.tuple #[.int .u64 0, .int .i64 2]) ∧ w = w' := by
  have k : ((t.size : Int) != 16) = true := by rw [bne_iff_ne]; omega
  clear ht
  go_enter Tryd.func33, Tryd.ntmps33
  go_wp2
  go_ret2
  exact ⟨rfl, rfl⟩
set_option maxHeartbeats 2000000 in
set_option maxRecDepth 100000 in
theorem refParse_16 (t : ByteArray) (ht : t.size = 16) (w : World) : Calls Tryd.prog 33 #[.string t] w fun e w' => e = .returned (parseRVal (parseR t)) ∧ w = w' := by
  have k16 : ((t.size : Int) != 16) = false := by rw [bne_eq_false_iff_eq]; omega
  have HR : Hid (parseR t = match rp 0 t.data.toList with | some n => if 9218868437227405312 < mag n ∧ n ≠ 9221120237041090561 then none else some n | none => none) := Lib.hid (if_pos ht)
  have hB := byte_at t
  have hLn : t.data.toList.length = 16 := by rw [← Lib.size_eq]; exact ht
  generalize t.data.toList = bs at *
  have HB := Lib.hid hB
  have HL := Lib.hid hLn
  have HT := Lib.hid ht
  clear hB hLn ht
  go_enter Tryd.func33, Tryd.ntmps33
  go_wp2
  go_loop [4, 5] (fun vn vi => ∃ (k acc : Nat) (a : Int), vn = .int .u64 a ∧ vi = .int .i64 k ∧ k ≤ 16 ∧ Hid (a = (acc : Int) ∧ acc < 16 ^ k ∧ rp 0 bs = rp acc (bs.drop k)))
    (fun _ vi => 16 - (intOf vi).toNat)
  case atStart => exact ⟨0, 0, 0, rfl, rfl, by omega, rfl, by decide, rfl⟩
  case round =>
    obtain ⟨k, acc, a, rfl, rfl, hk, hh⟩ := hrel
    obtain ⟨ha, hacc, hdec⟩ := hh.out
    clear hh
    have a0 : 0 ≤ a := by omega
    by_cases hkn : k < 16
    · have hlen := HL.out
      have hdrop : bs.drop k = bs[k]'(by omega) :: bs.drop (k + 1) := List.drop_eq_getElem_cons (by omega)
      have hget : bs.getD k 0 = bs[k]'(by omega) := by simp [List.getD, List.getElem?_eq_getElem (show k < bs.length by omega)]
      rw [hdrop] at hdec
      have hacc15 : acc < 16 ^ 15 := Nat.lt_of_lt_of_le hacc (Nat.pow_le_pow_right (by decide) (by omega))
      have hstep : ∀ d, d < 16 → acc * 16 + d < 16 ^ (k + 1) := fun d hd => by rw [Nat.pow_succ]; omega
      have a1 : a < 1152921504606846976 := by omega
      generalize bs[k]'(by omega) = c at hget hdec
      have hn : c.toNat < 256 := c.toNat_lt
      have ix := HB.out k (by rw [HT.out]; exact hkn) c.toNat (by rw [hget])
      have h1 := @rp_some acc (c.toNat - 48) c (bs.drop (k + 1))
      have h2 := @rp_some acc (c.toNat - 87) c (bs.drop (k + 1))
      have h3 := @rp_none acc c (bs.drop (k + 1))
      clear hlen hdrop hget hacc15
      generalize c.toNat = n at *
      by_cases hdig : 48 ≤ n ∧ n ≤ 57
      · have HN : Hid (a * 16 + ((n : Int) - 48) = ((acc * 16 + (n - 48) : Nat) : Int) ∧ acc * 16 + (n - 48) < 16 ^ (k + 1) ∧ rp 0 bs = rp (acc * 16 + (n - 48)) (bs.drop (k + 1))) := Lib.hid ⟨by omega, hstep _ (by omega), hdec.trans (h1 (by unfold rdig; rw [if_pos hdig]))⟩
        obtain ⟨hd0, hd1⟩ := hdig
        clear h1 h2 h3 hdec hstep ha hacc
        go_wp2
        exact ⟨⟨k + 1, acc * 16 + (n - 48), a * 16 + ((n : Int) - 48), rfl, (by first | rfl | (congr 1; omega)), by omega, HN⟩, by simp [intOf]; omega⟩
      · by_cases hlet : 97 ≤ n ∧ n ≤ 102
        · have HN : Hid (a * 16 + ((n : Int) - 97) + 10 = ((acc * 16 + (n - 87) : Nat) : Int) ∧ acc * 16 + (n - 87) < 16 ^ (k + 1) ∧ rp 0 bs = rp (acc * 16 + (n - 87)) (bs.drop (k + 1))) := Lib.hid ⟨by omega, hstep _ (by omega), hdec.trans (h2 (by unfold rdig; rw [if_neg hdig, if_pos hlet]))⟩
          obtain ⟨hd0, hd1⟩ := hlet
          clear h1 h2 h3 hdec hstep ha hacc hdig
          go_wp2
          exact ⟨⟨k + 1, acc * 16 + (n - 87), a * 16 + ((n : Int) - 97) + 10, rfl, (by first | rfl | (congr 1; omega)), by omega, HN⟩, by simp [intOf]; omega⟩
        · have HN := Lib.hid (hdec.trans (h3 (by unfold rdig; rw [if_neg hdig, if_neg hlet])))
          have ways : n < 48 ∨ (57 < n ∧ n < 97) ∨ 102 < n := by omega
          clear h1 h2 h3 hdec hstep ha hacc hdig hlet
          rcases ways with u1 | ⟨u1, u2⟩ | u1
          · go_wp2
            go_ret2
            exact ⟨by rw [HR.out, HN.out]; rfl, rfl⟩
          · go_wp2
            go_ret2
            exact ⟨by rw [HR.out, HN.out]; rfl, rfl⟩
          · go_wp2
            go_ret2
            exact ⟨by rw [HR.out, HN.out]; rfl, rfl⟩
    · obtain rfl : k = 16 := by omega
      have hr : rp 0 bs = some acc := by rw [hdec, List.drop_eq_nil_of_le (by rw [HL.out]; exact Nat.le_refl _)]; rfl
      have hlt : acc < 18446744073709551616 := hacc
      have hm := and_mag acc hlt
      have HN := Lib.hid (HR.out.trans (by rw [hr]))
      clear hacc hdec hr
      subst ha
      by_cases h1 : 9218868437227405312 < mag acc
      · have b1 : decide ((9218868437227405312 : Int) < (mag acc : Int)) = true := by rw [decide_eq_true_eq]; omega
        by_cases h2 : acc = 9221120237041090561
        · have b2 : ((acc : Int) != 9221120237041090561) = false := by rw [bne_eq_false_iff_eq]; omega
          have HF : Hid (parseR t = some acc) := Lib.hid (by rw [HN.out]; simp only; rw [if_neg (fun z => z.2 h2)])
          clear h1 h2 hlt a0
          go_wp2
          go_ret2
          exact ⟨by rw [HF.out]; rfl, rfl⟩
        · have b2 : ((acc : Int) != 9221120237041090561) = true := by rw [bne_iff_ne]; omega
          have HF : Hid (parseR t = none) := Lib.hid (by rw [HN.out]; simp only; rw [if_pos ⟨h1, h2⟩])
          clear h1 h2 hlt a0
          go_wp2
          go_ret2
          exact ⟨by rw [HF.out]; rfl, rfl⟩
      · have b1 : decide ((9218868437227405312 : Int) < (mag acc : Int)) = false := by rw [decide_eq_false_iff_not]; omega
        have HF : Hid (parseR t = some acc) := Lib.hid (by rw [HN.out]; simp only; rw [if_neg (fun z => h1 z.1)])
        clear h1 hlt a0
        go_wp2
        go_ret2
        exact ⟨by rw [HF.out]; rfl, rfl⟩
theorem refParse_any (t : ByteArray) (w : World) : Calls Tryd.prog 33 #[.string t] w fun e w' => e = .returned (parseRVal (parseR t)) ∧ w = w' := by
  by_cases ht : t.size = 16
  · exact refParse_16 t ht w
  · have e : parseR t = none := by unfold parseR; rw [if_neg ht]
    rw [e]; exact refParse_size t ht w
end Go.Proofs.YtgcmjmnolkojhaaDoor.NumW
