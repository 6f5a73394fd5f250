/- The document's own sum, same; its ReadControl. -/
import Derived.Test.YtjejljjahmbhiaaFrameM
import Derived.Test.YtjejljjahmbhiaaFrameJ
namespace Go.Proofs.Ytjejljjahmbhiaa.FrameW
open Go.RowKit
theorem str_ne {a b : ByteArray} (h : a ≠ b) : (a.toList == b.toList) = false := by
  rw [beq_eq_false_iff_ne, ByteArray.toList_eq, ByteArray.toList_eq]
  exact fun z => h (ByteArray.ext (Array.toList_inj.1 z))
theorem str_eq {a b : ByteArray} (h : a = b) : (a.toList == b.toList) = true := by subst h; exact beq_self_eq_true _
theorem same_any (A B : Option Addr) (c d n m : Nat) (xs ys : List Int) (w : World) (ha : BL w A xs) (hb : BL w B ys) (hn : n = xs.length) (hm : m = ys.length) :
    Calls Try.prog 38 #[.slice A n c, .slice B m d] w fun e w' => e = .returned (.bool (decide (xs = ys))) ∧ w' = w := by
  have h1 := conv_str (c := c) ha hn
  have h2 := conv_str (c := d) hb hm
  have e : ((strOfNums xs).toList == (strOfNums ys).toList) = decide (xs = ys) := by
    by_cases h : xs = ys
    · rw [decide_eq_true h]; exact str_eq (by rw [h])
    · rw [decide_eq_false h]; exact str_ne (fun h2 => h (str_inj ha.by hb.by h2))
  have HE := Lib.hid e
  clear e ha hb hn hm
  generalize strOfNums xs = s at *
  generalize strOfNums ys = t at *
  go_enter Try.func38, Try.ntmps38
  go_wp2
  go_ret
  exact ⟨by rw [← HE.out]; rfl, rfl⟩
/-- Does it end with its sum? -/
def okS (l : List Int) : Bool := decide (val (sl l (l.length - 4) l.length) = crc (sl l 0 (l.length - 4)))
theorem value_at {w : World} {a : Addr} {xs : List Int} (h : BL w (some a) xs) (p q c m : Nat) (b : Addr) (hb : b = a.add p) (hm : m = q - p) (h1 : p ≤ q) (h2 : q ≤ xs.length) (h8 : m ≤ 8) :
    Calls Try.prog 37 #[.slice (some b) m c] w fun e w' => e = .returned (.int .u64 (val (sl xs p q))) ∧ w' = w := by
  subst hb
  have := value_any (some (a.add p)) c (sl xs p q) w (h.sl p q) (by rw [sl_len h1 h2]; omega)
  rwa [sl_len h1 h2, ← hm] at this
set_option maxHeartbeats 2000000 in
theorem refsum_any (A : Option Addr) (c n : Nat) (xs : List Int) (w : World) (h : BL w A xs) (hn : n = xs.length) (hl : xs.length ≤ 9223372036854775807) (hc : xs.length ≤ c) (h4 : 4 ≤ xs.length) :
    Calls Try.prog 36 #[.slice A n c] w fun e w' => e = .returned (.bool (okS xs)) ∧ Below w.heap.size w w' := by
  obtain ⟨a, rfl⟩ := h.some (by omega)
  have S := fun W (hW : Below w.heap.size w W) => refSum_any (some a) c (sl xs 0 (xs.length - 4)) W ((h.below hW).sl0 _) (by rw [sl_len (by omega) (by omega)]; omega)
  have N := fun W (hW : Below w.heap.size w W) => value_any (some (a.add (xs.length - 4))) (c - (xs.length - 4)) (sl xs (xs.length - 4) xs.length) W ((h.below hW).sl _ _) (by rw [sl_len (by omega) (by omega)]; omega)
  rw [sl_len (by omega) (by omega), Nat.sub_zero] at S
  rw [sl_len (by omega) (by omega)] at N
  rw [show xs.length - (xs.length - 4) = 4 by omega] at N
  have HF := Lib.hid (show okS xs = decide (val (sl xs (xs.length - 4) xs.length) = crc (sl xs 0 (xs.length - 4))) from rfl)
  have hb := crc_lt (sl xs 0 (xs.length - 4))
  generalize okS xs = v at *
  generalize val (sl xs (xs.length - 4) xs.length) = n at *
  generalize crc (sl xs 0 (xs.length - 4)) = s at *
  clear h
  subst hn
  generalize xs.length = L at *
  obtain ⟨M, rfl⟩ : ∃ M, L = M + 4 := ⟨L - 4, by omega⟩
  rw [Nat.add_sub_cancel] at S N
  have eW : IntKind.u64.wrap (s : Int) = s := by rw [IntKind.wrap_u64]; omega
  have HS := Lib.hid S
  have HN := Lib.hid N
  clear S N hb h4
  have m0 : (0 : Int) ≤ (M : Int) := by omega
  have m1 : (M : Int) ≤ (c : Int) := by omega
  have m2 : ¬ c = M := by omega
  have e4 : M + 4 - M = 4 := by omega
  have eI3 : IntKind.i64.wrap (M : Int) = (M : Int) := by rw [IntKind.wrap_i64]; omega
  have m3 : (M : Int) ≤ ((M + 4 : Nat) : Int) := by omega
  have m4 : (M : Int) ≤ (M : Int) + 4 := by omega
  have eI : IntKind.i64.wrap (((M + 4 : Nat) : Int) - 4) = (M : Int) := by rw [IntKind.wrap_i64]; omega
  have eI2 : IntKind.i64.wrap ((M : Int) + 4 - 4) = (M : Int) := by rw [IntKind.wrap_i64]; omega
  go_enter Try.func36, Try.ntmps36
  go_wp2_with fail
  apply wp_cut
  case h =>
    go_region_held3 (fun _ => True) (trivial) (first
      | (go_at_call 37; (with_reducible refine (HN.out _ (Below.refl _ _).drew).mono ?_); rintro e w1 ⟨rfl, hw⟩; cases hw)
      | (go_at_call 24; (with_reducible refine (HS.out _ (Below.refl _ _).drew).mono ?_); rintro e w2 ⟨rfl, hw2⟩; cases hw2))
    all_goals exact ⟨rfl, rfl, rfl⟩
  case hm =>
    go_wp2
    go_ret
    refine ⟨?_, (Below.refl _ _).drew⟩
    rw [HF.out]
    show Ending.returned (.bool ((n : Int) == (s : Int))) = _
    congr 2
    by_cases h : n = s
    · subst h; simp
    · rw [decide_eq_false h]; simp; omega
end Go.Proofs.Ytjejljjahmbhiaa.FrameW
