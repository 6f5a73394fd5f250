/- Walks of strconv.FormatUint at base 16. -/
import Derived.Test.YtgcmjmnolkojhaaDoorNumWalk5
import Derived.Test.YtgcmjmnolkojhaaDoorNumHex
namespace Go.Proofs.YtgcmjmnolkojhaaDoor.NumW
open Go.RowKit NumP
/-- The table's entry that a walk at base 16 reads. -/
def Tz (w : World) : Prop := w.cell? ⟨6, 15, none⟩ = some (.int .u8 4) ∧ 6 < w.heap.size
theorem Tz.alloc {w : World} (h : Tz w) (o : Obj) : Tz (w.alloc o) := ⟨by rw [World.cell?_alloc_lt w o _ h.2]; exact h.1, by rw [World.size_alloc]; have := h.2; omega⟩
theorem Tz.below {B : Nat} {w w' : World} (h : Tz w) (hb : Below B w w') (hB : w.heap.size ≤ B) : Tz w' := ⟨by rw [hb.cell (p := ⟨6, 15, none⟩) (by have := h.2; exact Nat.lt_of_lt_of_le this hB)]; exact h.1, by have := h.2; have := hb.size; omega⟩
theorem Tz.drewN {w : World} (h : Tz w) (n : Nat) : Tz (w.drewN n) := h
set_option maxHeartbeats 400000 in
theorem pow2_16 (w : World) : Calls Tryd.prog 91 #[.int .i64 16] w fun e w' => e = .returned (.bool true) ∧ w = w' := by
  go_enter Tryd.func91, Tryd.ntmps91
  go_wp2
  go_ret
  exact ⟨rfl, rfl⟩
set_option maxHeartbeats 400000 in
theorem tz64_16 (w : World) (h : Tz w) : Calls Tryd.prog 100 #[.int .u64 16] w fun e w' => e = .returned (.int .i64 4) ∧ w = w' := by
  have hc : w.cell? ⟨6, 15, none⟩ = some (.int .u8 4) := h.1
  clear h
  have b1 : bits .and .u64 16 (IntKind.u64.wrap (-16)) = 16 := by decide
  have b2 : IntKind.u64.wrap 4573923408821661840 = 4573923408821661840 := IntWalk.u64_in _ (by omega)
  go_enter Tryd.func100, Tryd.ntmps100
  go_wp2
  go_ret
  exact ⟨rfl, rfl⟩
set_option maxHeartbeats 400000 in
theorem tz_16 (w : World) (h : Tz w) : Calls Tryd.prog 92 #[.int .u64 16] w fun e w' => e = .returned (.int .i64 4) ∧ w = w' := by
  have H := Lib.hid h
  clear h
  go_enter Tryd.func92, Tryd.ntmps92
  go_wp2_with (go_at_call 100; refine (tz64_16 _ H.out).mono ?_; rintro e w' ⟨rfl, rfl⟩)
  go_ret
  exact ⟨rfl, rfl⟩
theorem digit_at (m : Nat) (h : m < 16) (w : World) : (Instr.index 9 (.string ⟨#[48, 49, 50, 51, 52, 53, 54, 55, 56, 57, 97, 98, 99, 100, 101, 102, 103, 104, 105, 106, 107, 108, 109, 110, 111, 112, 113, 114, 115, 116, 117, 118, 119, 120, 121, 122]⟩) (.int .u64 m)).run Tryd.prog w = .ok (.int .u8 (dg m)) w := by
  rcases (show m = 0 ∨ m = 1 ∨ m = 2 ∨ m = 3 ∨ m = 4 ∨ m = 5 ∨ m = 6 ∨ m = 7 ∨ m = 8 ∨ m = 9 ∨ m = 10 ∨ m = 11 ∨ m = 12 ∨ m = 13 ∨ m = 14 ∨ m = 15 by omega) with rfl | rfl | rfl | rfl | rfl | rfl | rfl | rfl | rfl | rfl | rfl | rfl | rfl | rfl | rfl | rfl <;> kernel_rfl
theorem slice65 (b i : Nat) (h : i < 65) (w : World) : (Instr.sliceAt 117 (.pointer (some ⟨b, 0, none⟩)) (some (.int .i64 (i : Int))) none none).run Tryd.prog w = .ok (.slice (some ⟨b, i, none⟩) (65 - i) (65 - i)) w := by
  have hl : Tryd.prog.arrayLen 117 = 65 := by kernel_rfl
  rw [run_sliceAt_array_l w 117 _ (by kernel_rfl) _ _ (by omega) (by rw [hl]; omega), hl]
  rw [show (sizeOf (Tryd.prog.elem 117)).run Tryd.prog w = .ok 1 w by kernel_rfl]
  have e : ((⟨b, 0, none⟩ : Addr).add i) = ⟨b, i, none⟩ := by unfold Addr.add; split <;> simp_all
  show Result.ok (slicedAt ⟨b, 0, none⟩ (Int.toNat (i : Int)) 65 65 1) w = _
  unfold slicedAt
  rw [Int.toNat_natCast, if_neg (by omega), Nat.mul_one, e]
set_option maxHeartbeats 1000000 in
set_option maxRecDepth 100000 in
theorem formatBits_16 (u : Nat) (hu : u < 18446744073709551616) (w : World) (h : Tz w) : Calls Tryd.prog 72 #[.slice none 0 0, .int .u64 u, .int .i64 16, .bool false, .bool false] w fun e w' => ∃ k, k < 16 ∧ u < 16 ^ (k + 1) ∧ e = .returned (.tuple #[.slice none 0 0, .string (strOfNums (hexF (k + 1) u))]) ∧ Below w.heap.size w w' := by
  have H := Lib.hid h
  clear h
  go_enter Tryd.func72, Tryd.ntmps72
  go_wp2_with (first | (go_at_call 91; refine (pow2_16 _).mono ?_; rintro e w' ⟨rfl, rfl⟩) | (go_at_call 92; refine (tz_16 _ (by exact H.out.alloc _)).mono ?_; rintro e w' ⟨rfl, rfl⟩))
  go_loopw [1, 13] (fun u' i' wr => ∃ (k i : Nat) (C : Array Value), i + k = 65 ∧ k ≤ 15 ∧ (k = 0 ∨ 16 ^ k ≤ u) ∧ u' = .int .u64 ((u / 16 ^ k : Nat) : Int) ∧ i' = .int .i64 (i : Int) ∧ wr = w.alloc (.cells C 117) ∧ Tail u k C) (fun u' _ _ => (intOf u').toNat)
  case atStart => exact ⟨0, 65, _, rfl, by omega, Or.inl rfl, by simp, rfl, rfl, Tail.start u _ (by kernel_rfl)⟩
  case round =>
    obtain ⟨k, i, C, hik, hk, hp, rfl, rfl, rfl, hT⟩ := hrel
    have HT := Lib.hid hT
    obtain ⟨i, rfl⟩ : ∃ i', i = i' + 1 := ⟨i - 1, by omega⟩
    by_cases hge : 16 ≤ u / 16 ^ k
    · have hlt : k < 15 := by
        rcases Nat.lt_or_ge k 15 with h | h
        · exact h
        · exfalso
          have : k = 15 := by omega
          subst this
          have : u / 16 ^ 15 < 16 := Nat.div_lt_of_lt_mul (by omega)
          omega
      have hp' : Hid (16 ^ (k + 1) ≤ u) := Lib.hid (by rw [Nat.pow_succ]; exact (Nat.le_div_iff_mul_le (Nat.pow_pos (by decide))).1 hge |> fun z => by omega)
      have hq : Hid (u / 16 ^ k / 16 = u / 16 ^ (k + 1)) := Lib.hid (by rw [Nat.div_div_eq_div_mul, Nat.pow_succ])
      have hv : u / 16 ^ k < 18446744073709551616 := Nat.lt_of_le_of_lt (Nat.div_le_self _ _) hu
      have HN : Hid (∀ v, v = u / 16 ^ k → Tail u (k + 1) (C.setIfInBounds i (.int .u8 (dg (v % 16))))) := Lib.hid (by rintro v rfl; have := hT.next hk; rw [show 64 - k = i by omega] at this; exact this)
      obtain ⟨c0, hc0⟩ : ∃ c0, C[i]? = some c0 := ⟨_, Array.getElem?_eq_getElem (by rw [hT.1]; omega)⟩
      clear hp hT HT
      have a1 := and15 _ hv
      have HV : Hid (∀ v, v = u / 16 ^ k → v / 16 = u / 16 ^ (k + 1)) := Lib.hid (by rintro v rfl; exact hq.out)
      generalize hvv : u / 16 ^ k = v at *
      clear hvv hq
      have hm : v % 16 < 16 := Nat.mod_lt _ (by decide)
      have ix := digit_at (v % 16) hm
      generalize hmm : v % 16 = m at *
      have HM := Lib.hid hmm
      clear hmm
      have c1 : (16 : Int) ≤ (v : Int) := by omega
      have c2 : i < 65 := by omega
      have HIK := Lib.hid hik
      clear hik hge
      go_wp2
      exact ⟨⟨k + 1, i, _, by have := HIK.out; omega, by omega, Or.inr hp'.out, by rw [← HV.out v rfl]; simp, rfl, rfl, by rw [← HM.out]; exact HN.out v rfl⟩, by simp [intOf]; omega⟩
    · have hv : u / 16 ^ k < 16 := by omega
      obtain ⟨c0, hc0⟩ : ∃ c0, C[i]? = some c0 := ⟨_, Array.getElem?_eq_getElem (by rw [hT.1]; omega)⟩
      have hlt : Hid (u < 16 ^ (k + 1)) := Lib.hid (by rw [Nat.pow_succ]; exact (Nat.div_lt_iff_lt_mul (Nat.pow_pos (by decide))).1 hv |> fun z => by omega)
      have HN : Hid (Tail u (k + 1) (C.setIfInBounds i (.int .u8 (dg (u / 16 ^ k))))) := Lib.hid (by have := hT.next hk; rw [show 64 - k = i by omega, Nat.mod_eq_of_lt hv] at this; exact this)
      clear hp hT HT
      generalize u / 16 ^ k = v at *
      have ix := digit_at v hv
      have c1 : ¬ (16 : Int) ≤ (v : Int) := by omega
      have c2 : i < 65 := by omega
      have sl := slice65 w.heap.size i c2
      have cv : (convert 65 9 (.slice (some ⟨w.heap.size, i, none⟩) (65 - i) (65 - i))).run Tryd.prog (w.alloc (.cells (C.setIfInBounds i (.int .u8 (dg v))) 117)) = .ok (.string (strOfNums (hexF (k + 1) u))) (w.alloc (.cells (C.setIfInBounds i (.int .u8 (dg v))) 117)) :=
        run_convert_bytes_arg _ _ _ Tryd.underlying65 Tryd.underlying5 _ _ _ _ _ (by rw [hexF_len]; omega) (fun j hj => by
          have := HN.out.2 j (by omega)
          rw [World.cell?_alloc_new, ← this]
          congr 1
          omega) _ Tryd.underlying9
      have HIK := Lib.hid hik
      have HK := Lib.hid hk
      clear hik hge hk
      go_wp2
      go_ret2
      exact ⟨k, by have := HK.out; omega, hlt.out, rfl, (Below.refl _ _).alloc (Nat.le_refl _) _⟩
/-- What a base-16 text of a number is: its digits, with no noughts ahead. -/
def HexEnd (u : Nat) (w : World) (e : Ending) (w' : World) : Prop := ∃ k, k < 16 ∧ u < 16 ^ (k + 1) ∧ e = .returned (.string (strOfNums (hexF (k + 1) u))) ∧ Below w.heap.size w w'
set_option maxHeartbeats 400000 in
set_option maxRecDepth 100000 in
theorem fmtI_16 (u : Nat) (hu : u < 18446744073709551616) (w : World) (h : Tz w) : Calls Tryd.prog 50 #[.int .u64 u, .int .i64 16] w (HexEnd u w) := by
  have H := Lib.hid h
  clear h
  go_enter Tryd.func50, Tryd.ntmps50
  go_wp2_with (go_at_call 72; refine (formatBits_16 _ hu _ H.out).mono ?_; rintro e w1 ⟨k, hk, hu2, rfl, hb⟩)
  go_ret
  exact ⟨k, hk, hu2, rfl, hb⟩
set_option maxHeartbeats 400000 in
set_option maxRecDepth 100000 in
theorem fmt_16 (u : Nat) (hu : u < 18446744073709551616) (w : World) (h : Tz w) : Calls Tryd.prog 44 #[.int .u64 u, .int .i64 16] w (HexEnd u w) := by
  have H := Lib.hid h
  clear h
  go_enter Tryd.func44, Tryd.ntmps44
  go_wp2_with (go_at_call 50; refine (fmtI_16 _ hu _ H.out).mono ?_; rintro e w1 ⟨k, hk, hu2, rfl, hb⟩)
  go_ret
  exact ⟨k, hk, hu2, rfl, hb⟩
end Go.Proofs.YtgcmjmnolkojhaaDoor.NumW
