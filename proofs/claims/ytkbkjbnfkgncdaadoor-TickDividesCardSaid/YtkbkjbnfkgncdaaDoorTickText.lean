/- tick.Print, tick.Parse: what they answer. -/
import Derived.Test.YtkbkjbnfkgncdaaDoorTickSum
import Derived.Test.YtkbkjbnfkgncdaaDoorShelf
import Derived.Lib.LaidTab
import Derived.Stop.LaidErr
import Derived.Lib.AppendIntMem
import Derived.Shelf.Strconv.ErrVarParseInt
namespace Go.Proofs.YtkbkjbnfkgncdaaDoor.TickW
open Go.RowKit
/-- What the listed variables give. -/
structure Laid (w : World) : Prop where
  tab : w.var? Tryd.prog "internal/strconv.uint64pow10" = some (Lib.pow10Tab.map fun z => Value.int .u64 z).toArray
  syn : ∃ tp p, w.var? Tryd.prog "strconv.ErrSyntax" = some #[.iface tp p]
  rng : ∃ tp p, w.var? Tryd.prog "strconv.ErrRange" = some #[.iface tp p]
theorem var_keep {w w1 : World} {n : String} {cs : Array Value} (h : w.var? Tryd.prog n = some cs) (b : Below w.heap.size w w1) : w1.var? Tryd.prog n = some cs := by
  unfold World.var? at *
  cases hg : Tryd.prog.globalNamed n with
  | none => rw [hg] at h; cases h
  | some g =>
    rw [hg] at h
    simp only [Option.bind_some] at h ⊢
    cases hw : w.heap[g]? with
    | none => rw [hw] at h; cases h
    | some o => rw [row_below b hw]; rw [hw] at h; exact h
theorem Laid.below {w w1 : World} (h : Laid w) (b : Below w.heap.size w w1) : Laid w1 :=
  ⟨var_keep h.tab b, let ⟨t, p, e⟩ := h.syn; ⟨t, p, var_keep e b⟩, let ⟨t, p, e⟩ := h.rng; ⟨t, p, var_keep e b⟩⟩
def itoaS (n : Int) : ByteArray := ⟨(Lib.itoa n).toArray⟩
theorem print_any (n : Int) (h0 : -9223372036854775808 ≤ n) (h1 : n ≤ 9223372036854775807) (w : World) (hL : Laid w) :
    Calls Tryd.prog 25 #[.int .i64 n] w fun e w' => e = .returned (.string (itoaS n)) ∧ Below w.heap.size w w' := by
  have H := Lib.hid (Tryd.strconv_FormatInt_10 n h0 h1 w hL.tab)
  clear h0 h1 hL
  go_enter Tryd.func25, Tryd.ntmps25
  go_wp2_with fail
  refine H.out.mono ?_
  rintro e w' ⟨rfl, k, os, rfl⟩
  go_wp2
  go_ret
  exact ⟨rfl, Lib.below_grow _ _ (Nat.le_refl _) _ _⟩
theorem str_ne {a b : ByteArray} (h : a ≠ b) : (a.toList == b.toList) = false := by
  rw [beq_eq_false_iff_ne, Lib.toList_data, Lib.toList_data]
  exact fun z => h (ByteArray.ext (Array.toList_inj.1 z))
theorem str_eq {a b : ByteArray} (h : a = b) : (a.toList == b.toList) = true := by subst h; exact beq_self_eq_true _
theorem neq_err (T : TypeId) (v : Value) (w : World) : (binOp .neq 61 (.iface T v) .nilIface).run Tryd.prog w = .ok (.bool true) w := by kernel_rfl
theorem neq_err_nil (w : World) : (binOp .neq 61 .nilIface .nilIface).run Tryd.prog w = .ok (.bool false) w := by kernel_rfl
def parseN (s : ByteArray) : Option Int := match Lib.parseIntB 64 s.data.toList with
  | .ok v => if itoaS v = s then some v else none
  | _ => none
def parseV : Option Int → Value
  | some v => .tuple #[.int .i64 v, .int .i64 0]
  | none => .tuple #[.int .i64 0, .int .i64 2]
set_option maxHeartbeats 1000000 in
theorem parse_any (s : ByteArray) (hs : s.size ≤ 281474976710656) (w : World) (hL : Laid w) :
    Calls Tryd.prog 26 #[.string s] w fun e w' => e = .returned (parseV (parseN s)) ∧ Below w.heap.size w w' := by
  have kE := neq_err
  have kN := neq_err_nil
  unfold parseN
  cases hp : Lib.parseIntB 64 s.data.toList with
  | ok v =>
    have H := Lib.hid (Tryd.strconv_ParseInt_10_at64_ok s (by omega) v hp w)
    obtain ⟨v0, v1⟩ := Lib.parseIntB_bounds hp
    have HV := Lib.hid (show -9223372036854775808 ≤ v ∧ v ≤ 9223372036854775807 from ⟨v0, by have : v < 9223372036854775808 := v1; omega⟩)
    clear hp v0 v1 hs
    have HL := Lib.hid hL
    clear hL
    simp only
    by_cases he : itoaS v = s
    · rw [if_pos he]
      subst he
      go_enter Tryd.func26, Tryd.ntmps26
      go_wp2_with fail
      refine H.out.mono ?_
      rintro e w1 ⟨rfl, hw⟩
      have hb1 := Lib.hid (show Below w.heap.size w w1 by rcases hw with rfl | ⟨t, rfl⟩; exact Below.refl _ _; exact Lib.bytesWorld_below _ _ _)
      clear hw
      go_wp2_with fail
      refine (print_any v HV.out.1 HV.out.2 _ (HL.out.below hb1.out)).mono ?_
      rintro e w2 ⟨rfl, hb2⟩
      go_wp2
      go_ret2
      exact ⟨rfl, hb1.out.trans (hb2.mono hb1.out.size)⟩
    · rw [if_neg he]
      go_enter Tryd.func26, Tryd.ntmps26
      go_wp2_with fail
      refine H.out.mono ?_
      rintro e w1 ⟨rfl, hw⟩
      have hb1 := Lib.hid (show Below w.heap.size w w1 by rcases hw with rfl | ⟨t, rfl⟩; exact Below.refl _ _; exact Lib.bytesWorld_below _ _ _)
      clear hw
      go_wp2_with fail
      refine (print_any v HV.out.1 HV.out.2 _ (HL.out.below hb1.out)).mono ?_
      rintro e w2 ⟨rfl, hb2⟩
      generalize itoaS v = t at *
      have kq := str_ne he
      go_wp2
      go_ret2
      exact ⟨rfl, hb1.out.trans (hb2.mono hb1.out.size)⟩
  | range =>
    obtain ⟨tp, p, hv⟩ := hL.rng
    have H := Lib.hid (Tryd.strconv_ParseInt_10_at64_range_var s hs hp tp p w hv)
    clear hp hv hL hs
    go_enter Tryd.func26, Tryd.ntmps26
    go_wp2_with fail
    refine H.out.mono ?_
    rintro e w1 ⟨N, rfl, _, _, hb⟩
    go_wp2
    go_ret2
    exact ⟨rfl, hb⟩
  | _ =>
    obtain ⟨tp, p, hv⟩ := hL.syn
    have H := Lib.hid (Any.strconv_ParseInt_10_at64_syntax_var Tryd.laysC174 s hs hp tp p w hv)
    clear hp hv hL hs
    go_enter Tryd.func26, Tryd.ntmps26
    go_wp2_with fail
    refine H.out.mono ?_
    rintro e w1 ⟨N, rfl, _, _, hb⟩
    go_wp2
    go_ret2
    exact ⟨rfl, hb⟩
end Go.Proofs.YtkbkjbnfkgncdaaDoor.TickW
