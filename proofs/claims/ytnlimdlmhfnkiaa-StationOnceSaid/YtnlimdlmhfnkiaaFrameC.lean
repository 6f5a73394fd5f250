/- Which, check. -/
import Derived.Test.YtnlimdlmhfnkiaaFrameAJa
import Derived.WalkSpells
import Derived.Laws.Slices
namespace Go.Proofs.Ytnlimdlmhfnkiaa.FrameW
open Go.RowKit
theorem two {l : List Int} (h : l.length = 2) : ∃ a b, l = [a, b] := by
  match l, h with
  | [a, b], _ => exact ⟨a, b, rfl⟩
theorem wh_val {xs : List Int} (h : By xs) (hl : 2 ≤ xs.length) : (val (sl xs 0 2) = 35101 → wh xs = 1) ∧ (val (sl xs 0 2) ≠ 35101 → val (sl xs 0 2) = 2048 → wh xs = 2) ∧ (val (sl xs 0 2) ≠ 35101 → val (sl xs 0 2) ≠ 2048 → wh xs = 0) := by
  have hs := sl_by h 0 2
  obtain ⟨a, b, e⟩ := two (sl_len (l := xs) (a := 0) (b := 2) (by decide) hl)
  rw [e] at hs
  have ha := hs a (by simp)
  have hb := hs b (by simp)
  have hv : val (sl xs 0 2) = a.toNat * 256 + b.toNat := by rw [e]; simp [val]
  unfold wh
  rw [if_pos hl, hv, e]
  refine ⟨fun h1 => ?_, fun h1 h2 => ?_, fun h1 h2 => ?_⟩
  · rw [if_pos (by rw [show a = 137 by omega, show b = 29 by omega])]
  · rw [if_neg (by intro h3; simp at h3; omega), if_pos (by rw [show a = 8 by omega, show b = 0 by omega])]
  · rw [if_neg (by intro h3; simp at h3; omega), if_neg (by intro h3; simp at h3; omega)]
theorem which_any (A : Option Addr) (c : Nat) (xs : List Int) (w : World) (h : BL w A xs) (hl : xs.length ≤ 9223372036854775807) (hc : xs.length ≤ c) :
    Calls Try.prog 81 #[.slice A xs.length c] w fun e w' => e = .returned (.int .i64 (wh xs)) ∧ w' = w := by
  by_cases h2 : (xs.length : Int) < 2
  · have e : wh xs = 0 := by unfold wh; rw [if_neg (by omega)]
    rw [e]
    go_enter Try.func81, Try.ntmps81
    go_wp2
    go_ret
    exact ⟨rfl, rfl⟩
  · obtain ⟨a, rfl⟩ := h.some (by omega)
    obtain ⟨e1, e2, e3⟩ := wh_val h.by (by omega)
    have hl2 : (sl xs 0 2).length = 2 := sl_len (by decide) (by omega)
    have N := number_any (some a) c (sl xs 0 2) w (h.sl0 2) (by omega)
    rw [hl2] at N
    have hc2 : 2 ≤ c := by omega
    generalize wh xs = v at *
    generalize val (sl xs 0 2) = n at *
    have HN := Lib.hid N
    have HE := Lib.hid (And.intro e1 (And.intro e2 e3))
    clear N e1 e2 e3 h
    by_cases h3 : n = 35101
    · have HV := Lib.hid (HE.out.1 h3)
      subst h3
      go_enter Try.func81, Try.ntmps81
      go_wp2_with (go_at_call 69; refine HN.out.mono ?_; rintro e w' ⟨rfl, rfl⟩)
      go_ret
      exact ⟨by rw [HV.out]; rfl, rfl⟩
    · have h3b : ((n : Int) == 35101) = false := by simp; omega
      by_cases h4 : n = 2048
      · have HV := Lib.hid (HE.out.2.1 h3 h4)
        subst h4
        clear h3b
        go_enter Try.func81, Try.ntmps81
        go_wp2_with (go_at_call 69; refine HN.out.mono ?_; rintro e w' ⟨rfl, rfl⟩)
        go_ret
        exact ⟨by rw [HV.out]; rfl, rfl⟩
      · have HV := Lib.hid (HE.out.2.2 h3 h4)
        have h4b : ((n : Int) == 2048) = false := by simp; omega
        go_enter Try.func81, Try.ntmps81
        go_wp2_with (go_at_call 69; refine HN.out.mono ?_; rintro e w' ⟨rfl, rfl⟩)
        go_ret
        exact ⟨by rw [HV.out]; rfl, rfl⟩
theorem chk_form {l : List Int} {kind least most : Int} (h : (l.length : Int) < least ∨ (l.length : Int) > most ∨ wh l ≠ kind) : chk l kind least most = 2 := by unfold chk; rw [if_pos h]
theorem chk_sum {l : List Int} {kind least most : Int} (h1 : ¬ (l.length : Int) < least) (h2 : ¬ (l.length : Int) > most) (h3 : wh l = kind) (h : val (sl l (l.length - 4) l.length) ≠ crc (sl l 0 (l.length - 4))) : chk l kind least most = 8 := by
  unfold chk; rw [if_neg (by rintro (h | h | h); exact h1 h; exact h2 h; exact h h3), if_pos h]
theorem chk_fine {l : List Int} {kind least most : Int} (h1 : ¬ (l.length : Int) < least) (h2 : ¬ (l.length : Int) > most) (h3 : wh l = kind) (h : val (sl l (l.length - 4) l.length) = crc (sl l 0 (l.length - 4))) : chk l kind least most = 0 := by
  unfold chk; rw [if_neg (by rintro (h | h | h); exact h1 h; exact h2 h; exact h h3), if_neg (fun g => g h)]
set_option maxHeartbeats 2000000 in
theorem check_any (A : Option Addr) (c : Nat) (xs : List Int) (kind least most : Int) (w : World) (h : BL w A xs) (hl : xs.length ≤ 9223372036854775807) (hc : xs.length ≤ c) (h4 : 4 ≤ least) :
    Calls Try.prog 68 #[.slice A xs.length c, .int .i64 kind, .int .i64 least, .int .i64 most] w fun e w' => e = .returned (.int .i64 (chk xs kind least most)) ∧ Below w.heap.size w w' := by
  have W := Lib.hid (which_any A c xs w h hl hc)
  by_cases h1 : (xs.length : Int) < least
  · rw [chk_form (Or.inl h1)]
    go_enter Try.func68, Try.ntmps68
    go_wp2
    go_ret
    exact ⟨rfl, Below.refl _ _⟩
  by_cases h2 : (xs.length : Int) > most
  · rw [chk_form (Or.inr (Or.inl h2))]
    go_enter Try.func68, Try.ntmps68
    go_wp2
    go_ret
    exact ⟨rfl, Below.refl _ _⟩
  by_cases h3 : wh xs = kind
  · obtain ⟨a, rfl⟩ := h.some (by omega)
    have S := fun W (hW : Below w.heap.size w W) => sum_any (some a) c (sl xs 0 (xs.length - 4)) W ((h.below hW).sl0 _) (by rw [sl_len (by omega) (by omega)]; omega)
    have N := fun W (hW : Below w.heap.size w W) => number_any (some (a.add (xs.length - 4))) (c - (xs.length - 4)) (sl xs (xs.length - 4) xs.length) W ((h.below hW).sl _ _) (by rw [sl_len (by omega) (by omega)]; omega)
    rw [sl_len (by omega) (by omega), Nat.sub_zero] at S
    rw [sl_len (by omega) (by omega)] at N
    rw [show xs.length - (xs.length - 4) = 4 by omega] at N
    have eN : xs.length - (xs.length - 4) = 4 := by omega
    have HF := Lib.hid (show val (sl xs (xs.length - 4) xs.length) = crc (sl xs 0 (xs.length - 4)) → chk xs kind least most = 0 from chk_fine h1 h2 h3)
    have HG := Lib.hid (show val (sl xs (xs.length - 4) xs.length) ≠ crc (sl xs 0 (xs.length - 4)) → chk xs kind least most = 8 from chk_sum h1 h2 h3)
    have hb := crc_lt (sl xs 0 (xs.length - 4))
    generalize chk xs kind least most = v at *
    generalize val (sl xs (xs.length - 4) xs.length) = n at *
    generalize crc (sl xs 0 (xs.length - 4)) = s at *
    generalize wh xs = kd at *
    clear h
    generalize xs.length = L at *
    obtain ⟨M, rfl⟩ : ∃ M, L = M + 4 := ⟨L - 4, by omega⟩
    rw [Nat.add_sub_cancel] at S N
    have eW : IntKind.u64.wrap (s : Int) = s := by rw [IntKind.wrap_u64]; omega
    subst h3
    have HS := Lib.hid S
    have HN := Lib.hid N
    clear S N eN hb
    have m0 : (0 : Int) ≤ (M : Int) := by omega
    have m1 : (M : Int) ≤ (c : Int) := by omega
    have m2 : ¬ c = M := by omega
    have e4 : M + 4 - M = 4 := by omega
    have m3 : (M : Int) ≤ ((M + 4 : Nat) : Int) := by omega
    have m4 : (M : Int) ≤ (M : Int) + 4 := by omega
    have eI : IntKind.i64.wrap (((M + 4 : Nat) : Int) - 4) = (M : Int) := by rw [IntKind.wrap_i64]; omega
    by_cases hq : n = s
    · have HV := Lib.hid (HF.out hq)
      subst hq
      go_enter Try.func68, Try.ntmps68
      go_wp2_with (go_at_call 81; refine W.out.mono ?_; rintro e w' ⟨rfl, rfl⟩)
      go_region_held3 (fun _ => True) (trivial) (first
        | (go_at_call 69; (with_reducible refine (HN.out _ (Below.refl _ _).drew).mono ?_); rintro e w1 ⟨rfl, hw⟩; cases hw)
        | (go_at_call 82; (with_reducible refine (HS.out _ (Below.refl _ _).drew).mono ?_); rintro e w2 ⟨rfl, hw2⟩; cases hw2))
      go_wp2
      go_ret
      exact ⟨by rw [HV.out]; rfl, (Below.refl _ _).drew⟩
    · have HV := Lib.hid (HG.out hq)
      have hqb : ((n : Int) != (s : Int)) = true := by simp; omega
      go_enter Try.func68, Try.ntmps68
      go_wp2_with (go_at_call 81; refine W.out.mono ?_; rintro e w' ⟨rfl, rfl⟩)
      go_region_held3 (fun _ => True) (trivial) (first
        | (go_at_call 69; (with_reducible refine (HN.out _ (Below.refl _ _).drew).mono ?_); rintro e w1 ⟨rfl, hw⟩; cases hw)
        | (go_at_call 82; (with_reducible refine (HS.out _ (Below.refl _ _).drew).mono ?_); rintro e w2 ⟨rfl, hw2⟩; cases hw2))
      go_wp2
      go_ret
      exact ⟨by rw [HV.out]; rfl, (Below.refl _ _).drew⟩
  · rw [chk_form (Or.inr (Or.inr h3))]
    have h3b : (wh xs != kind) = true := by simp [h3]
    generalize wh xs = kd at *
    clear h3
    go_enter Try.func68, Try.ntmps68
    go_wp2_with (go_at_call 81; refine W.out.mono ?_; rintro e w' ⟨rfl, rfl⟩)
    go_ret
    exact ⟨rfl, Below.refl _ _⟩
end Go.Proofs.Ytnlimdlmhfnkiaa.FrameW

