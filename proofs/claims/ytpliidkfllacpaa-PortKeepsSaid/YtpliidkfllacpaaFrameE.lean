/- seal; the document's own rows: number, lay. -/
import Derived.Test.YtpliidkfllacpaaFrameD
import Derived.Deep.OwnRows
namespace Go.Proofs.Ytpliidkfllacpaa.FrameW
open Go.RowKit
theorem seal_any (v : Value) (xs : List Int) (base : Nat) (w : World) (h : OB w base v xs) (hx : xs.length ≤ 70368744177664) (hb : base ≤ w.heap.size) :
    Calls Try.prog 27 #[v] w fun e w' => ∃ v', e = .returned v' ∧ OB w' base v' (sealed xs) ∧ Step w v w' v' := by
  obtain ⟨A, c, rfl, hbl, -⟩ := h.form
  have S := Lib.hid (sum_any A c xs w hbl (by omega))
  have P := Lib.hid (put_any (.slice A xs.length c) xs (crc xs) 4 base w h (Nat.lt_of_lt_of_le (crc_lt xs) (by decide)) (by decide) hx hb)
  have hc := crc_lt xs
  have eW : IntKind.u64.wrap ((crc xs : Nat) : Int) = ((crc xs : Nat) : Int) := by rw [IntKind.wrap_u64]; omega
  have HS := Lib.hid (show sealed xs = xs ++ be 4 (crc xs) from rfl)
  generalize crc xs = s at *
  clear h hbl hx hb hc
  go_enter Try.func27, Try.ntmps27
  go_wp2_with (first
    | (go_at_call 28; refine S.out.mono ?_; rintro e w' ⟨rfl, rfl⟩)
    | (go_at_call 26; refine P.out.mono ?_; rintro e w2 ⟨v2, rfl, o2, s2⟩; have O2 := Lib.hid o2; have S2 := Lib.hid s2; clear o2 s2))
  go_ret
  exact ⟨_, rfl, by rw [HS.out]; exact O2.out, S2.out⟩
theorem made_u8 (n : Nat) : madeCells #[.int .u8 0] n = (u8s (List.replicate n 0)).toArray := by
  apply Array.toList_inj.1
  rw [toList_madeCells_one]
  unfold u8s
  simp
end Go.Proofs.Ytpliidkfllacpaa.FrameW

