/- Walk of num.Print. -/
import Derived.Test.YtgcmjmnolkojhaaDoorNumWalk6
import Derived.Test.YtgcmjmnolkojhaaDoorShelf
namespace Go.Proofs.YtgcmjmnolkojhaaDoor.NumW
open Go.RowKit NumP
theorem repeat_0 (c : Nat) : Lib.repeatL [48] c = List.replicate c 48 := by
  induction c with
  | zero => rfl
  | succ c ih => rw [List.replicate_succ, ← ih]; rfl
theorem rep_any (n : Int) (h0 : 0 ≤ n) (h1 : n ≤ 16) (w : World) : Calls Tryd.prog 45 #[.string ⟨#[48]⟩, .int .i64 n] w fun e w' => e = .returned (.string ⟨(List.replicate n.toNat 48).toArray⟩) ∧ Below w.heap.size w w' := by
  obtain ⟨c, rfl⟩ := Int.eq_ofNat_of_zero_le h0
  have := Go.Proofs.Tryd.strings_Repeat ⟨#[48]⟩ c w (by omega) (by show 1 * c ≤ _; omega)
  rw [show (⟨#[48]⟩ : ByteArray).data.toList = [48] from rfl, repeat_0] at this
  exact this
/-- The sixteen digits of a number's bits. -/
def text (u : Nat) : ByteArray := strOfNums (hexF 16 u)
theorem text_of (k u : Nat) (hk : k < 16) (hu : u < 16 ^ (k + 1)) : (⟨(List.replicate (15 - k) 48).toArray⟩ : ByteArray) ++ strOfNums (hexF (k + 1) u) = text u := by
  unfold text
  have e := hexF_pad (15 - k) (k + 1) u hu
  rw [show 15 - k + (k + 1) = 16 by omega] at e
  rw [e]
  apply ByteArray.ext
  apply Array.toList_inj.1
  rw [ByteArray.data_append, Array.toList_append, strOfNums_data, strOfNums_data, List.map_append, List.map_replicate]
  rfl
theorem ret_string {a b : ByteArray} (h : a = b) : Ending.returned (.string a) = .returned (.string b) := by rw [h]
set_option maxHeartbeats 400000 in
set_option maxRecDepth 100000 in
theorem print_any (x : Nat) (hx : x < 18446744073709551616) (w : World) (h : Tz w) : Calls Tryd.prog 31 #[.float .f64 x] w fun e w' => e = .returned (.string (text (oneN x))) ∧ Below w.heap.size w w' := by
  have H := Lib.hid h
  have H1 := Lib.hid (one_lt x hx)
  clear h
  go_enter Tryd.func31, Tryd.ntmps31
  go_wp2_with (go_at_call 16; refine (one_any _ hx _).mono ?_; rintro e w' ⟨rfl, rfl⟩)
  refine (fmt_16 _ H1.out _ H.out).mono ?_
  rintro e w1 ⟨k, hk, hu, rfl, hb⟩
  have HU := Lib.hid hu
  have hs : (strOfNums (hexF (k + 1) (oneN x))).size = k + 1 := by rw [strOfNums_size, hexF_len]
  have HT := Lib.hid (text_of k (oneN x) hk hu)
  clear hu
  generalize strOfNums (hexF (k + 1) (oneN x)) = S at *
  have c1 : (S.size : Int) ≤ 16 := by omega
  have c2 : (1 : Int) ≤ (S.size : Int) := by omega
  have HS := Lib.hid hs
  clear hs
  go_wp2_with (go_at_call 45; refine (rep_any _ (by omega) (by omega) _).mono ?_; rintro e w2 ⟨rfl, hb2⟩)
  go_ret
  exact ⟨ret_string (by rw [show 16 - S.size = 15 - k from (by have := HS.out; omega), ← List.toArray_replicate]; exact HT.out), hb.trans (hb2.mono hb.size)⟩
end Go.Proofs.YtgcmjmnolkojhaaDoor.NumW
