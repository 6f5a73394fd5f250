/- Walks of strconv.ParseUint and num.Parse. -/
import Derived.Test.YtgcmjmnolkojhaaDoorNumWalk8
import Derived.Deep.QuietTactic
import Derived.BigQuiet
namespace Go.Proofs.YtgcmjmnolkojhaaDoor.NumW
open Go.RowKit NumP
/-- The variable that a syntax error names. -/
def Es (w : World) : Prop := 2 < w.heap.size ∧ ∃ ev, w.cell? ⟨2, 0, none⟩ = some ev ∧ (ev = .nilIface ∨ ∃ te pe, ev = .iface te pe)
theorem Es.below {B : Nat} {w w' : World} (h : Es w) (hb : Below B w w') (hB : w.heap.size ≤ B) : Es w' := by
  obtain ⟨h1, ev, h2, h3⟩ := h
  exact ⟨by have := hb.size; omega, ev, by rw [hb.cell (p := ⟨2, 0, none⟩) (Nat.lt_of_lt_of_le h1 hB)]; exact h2, h3⟩
set_option maxHeartbeats 400000 in
set_option maxRecDepth 100000 in
theorem parse_some (t : ByteArray) (ht : t.size = 16) (n : Nat) (hn : pv 0 t.data.toList = some n) (w : World) : Calls Tryd.prog 46 #[.string t, .int .i64 16, .int .i64 64] w fun e w' => e = .returned (.tuple #[.int .u64 n, .nilIface]) ∧ Below w.heap.size w w' := by
  have H := (parseI_16 t ht w)
  rw [hn] at H
  have HH := Lib.hid H
  clear hn ht H
  go_enter Tryd.func46, Tryd.ntmps46
  go_wp2_with (go_at_call 57; refine HH.out.mono ?_; rintro e w1 ⟨rfl, hb⟩; unfold puVal)
  go_ret2
  exact ⟨rfl, hb⟩
/-- What a refused text answers: an error. -/
def Refused (w : World) (e : Ending) (w' : World) : Prop := ∃ N, e = .returned (.tuple #[.int .u64 0, .iface 105 (.pointer (some ⟨N, 0, none⟩))]) ∧ Below w.heap.size w w'
set_option maxHeartbeats 400000 in
set_option maxRecDepth 100000 in
theorem parse_none (t : ByteArray) (ht : t.size = 16) (hn : pv 0 t.data.toList = none) (w : World) (hE : Es w) : Calls Tryd.prog 46 #[.string t, .int .i64 16, .int .i64 64] w (Refused w) := by
  have H := (parseI_16 t ht w)
  rw [hn] at H
  have HH := Lib.hid H
  have HE := Lib.hid hE
  have HT := Lib.hid ht
  clear hn ht H hE
  go_enter Tryd.func46, Tryd.ntmps46
  go_wp2_with (go_at_call 57; refine HH.out.mono ?_; rintro e w1 ⟨rfl, hb⟩; unfold puVal)
  obtain ⟨h1, ev, h2, h3⟩ := HE.out.below hb (Nat.le_refl _)
  have HE2 := Lib.hid h3
  have HV := Lib.hid h2
  clear h1 h2 h3
  refine (Go.Proofs.Tryd.strconv_toError_syntax _ _ _ _ ev _ (by have := HT.out; omega) HV.out HE2.out).mono ?_
  rintro e w2 ⟨N, rfl, _, _, hb2⟩
  go_wp2
  go_ret2
  exact ⟨N, rfl, hb.trans (hb2.mono hb.size)⟩
theorem str_ne {a b : ByteArray} (h : a ≠ b) : (a.toList == b.toList) = false := by
  rw [beq_eq_false_iff_ne, Lib.toList_data, Lib.toList_data]
  exact fun z => h (ByteArray.ext (Array.toList_inj.1 z))
theorem str_eq {a b : ByteArray} (h : a = b) : (a.toList == b.toList) = true := by subst h; exact beq_self_eq_true _
/-- What num.Parse answers. -/
def parseN (s : ByteArray) : Option Nat := if s.size = 16 then (match pv 0 s.data.toList with
  | some n => if text (oneN n) = s then some n else none
  | none => none) else none
def parseVal : Option Nat → Value
  | some n => .tuple #[.float .f64 n, .int .i64 0]
  | none => .tuple #[.float .f64 0, .int .i64 2]
set_option maxHeartbeats 400000 in
set_option maxRecDepth 100000 in
theorem parse_size (t : ByteArray) (ht : t.size ≠ 16) (w : World) : Calls Tryd.prog 32 #[.string t] w fun e w' => e = .returned (parseVal none) ∧ Below w.heap.size w w' := by
  have k : ((t.size : Int) != 16) = true := by rw [bne_iff_ne]; omega
  clear ht
  go_enter Tryd.func32, Tryd.ntmps32
  go_wp2
  go_ret2
  exact ⟨rfl, Below.refl _ _⟩
set_option maxHeartbeats 400000 in
set_option maxRecDepth 100000 in
theorem parse_bad (t : ByteArray) (ht : t.size = 16) (hn : pv 0 t.data.toList = none) (w : World) (hE : Es w) : Calls Tryd.prog 32 #[.string t] w fun e w' => e = .returned (parseVal none) ∧ Below w.heap.size w w' := by
  have k : ((t.size : Int) != 16) = false := by rw [bne_eq_false_iff_eq]; omega
  have HH := Lib.hid (parse_none t ht hn w hE)
  clear ht hn hE
  go_enter Tryd.func32, Tryd.ntmps32
  go_wp2_with (go_at_call 46; refine HH.out.mono ?_; rintro e w1 ⟨N, rfl, hb⟩)
  go_ret2
  exact ⟨rfl, hb⟩
theorem num_lt (t : ByteArray) (ht : t.size = 16) (n : Nat) (hn : pv 0 t.data.toList = some n) : n < 18446744073709551616 := by
  have := pv_lt _ 0 0 n (by decide) hn
  rw [← Lib.size_eq, ht] at this
  exact this
set_option maxHeartbeats 400000 in
set_option maxRecDepth 100000 in
theorem parse_other (t : ByteArray) (ht : t.size = 16) (n : Nat) (hn : pv 0 t.data.toList = some n) (hne : text (oneN n) ≠ t) (w : World) (hT : Tz w) : Calls Tryd.prog 32 #[.string t] w fun e w' => e = .returned (parseVal none) ∧ Below w.heap.size w w' := by
  have k : ((t.size : Int) != 16) = false := by rw [bne_eq_false_iff_eq]; omega
  have HH := Lib.hid (parse_some t ht n hn w)
  have HL := Lib.hid (num_lt t ht n hn)
  have HT := Lib.hid hT
  generalize hg : text (oneN n) = T at *
  have HG := Lib.hid hg
  have k2 := str_ne hne
  clear ht hn hT hne hg
  go_enter Tryd.func32, Tryd.ntmps32
  go_wp2_with (go_at_call 46; refine HH.out.mono ?_; rintro e w1 ⟨rfl, hb⟩)
  refine (print_any _ HL.out _ (HT.out.below hb (Nat.le_refl _))).mono ?_
  rintro e w2 ⟨rfl, hb2⟩
  rw [HG.out]
  go_wp2
  go_ret2
  exact ⟨rfl, hb.trans (hb2.mono hb.size)⟩
set_option maxHeartbeats 400000 in
set_option maxRecDepth 100000 in
theorem parse_same (t : ByteArray) (ht : t.size = 16) (n : Nat) (hn : pv 0 t.data.toList = some n) (hne : text (oneN n) = t) (w : World) (hT : Tz w) : Calls Tryd.prog 32 #[.string t] w fun e w' => e = .returned (parseVal (some n)) ∧ Below w.heap.size w w' := by
  have k : ((t.size : Int) != 16) = false := by rw [bne_eq_false_iff_eq]; omega
  have HH := Lib.hid (parse_some t ht n hn w)
  have HL := Lib.hid (num_lt t ht n hn)
  have HT := Lib.hid hT
  generalize hg : text (oneN n) = T at *
  have HG := Lib.hid hg
  have k2 := str_eq hne
  clear ht hn hT hne hg
  go_enter Tryd.func32, Tryd.ntmps32
  go_wp2_with (go_at_call 46; refine HH.out.mono ?_; rintro e w1 ⟨rfl, hb⟩)
  refine (print_any _ HL.out _ (HT.out.below hb (Nat.le_refl _))).mono ?_
  rintro e w2 ⟨rfl, hb2⟩
  rw [HG.out]
  go_wp2
  go_ret2
  exact ⟨rfl, hb.trans (hb2.mono hb.size)⟩
theorem parse_any (t : ByteArray) (w : World) (hT : Tz w) (hE : Es w) : Calls Tryd.prog 32 #[.string t] w fun e w' => e = .returned (parseVal (parseN t)) ∧ Below w.heap.size w w' := by
  unfold parseN
  by_cases ht : t.size = 16
  · rw [if_pos ht]
    cases hn : pv 0 t.data.toList with
    | none => exact parse_bad t ht hn w hE
    | some n =>
      by_cases h : text (oneN n) = t
      · simp only [if_pos h]; exact parse_same t ht n hn h w hT
      · simp only [if_neg h]; exact parse_other t ht n hn h w hT
  · rw [if_neg ht]; exact parse_size t ht w
end Go.Proofs.YtgcmjmnolkojhaaDoor.NumW
