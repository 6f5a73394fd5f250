/- The document's numbers: MulDiv, Half. -/
import Derived.Test.YtelfbjldfdlpnaaTickRFloor
namespace Go.Proofs.Ytelfbjldfdlpnaa.TickW
open Go.RowKit
theorem half_small {a b : Int} (a0 : -9223372036854775808 ≤ a) (a1 : a ≤ 9223372036854775807) (b0 : -9223372036854775808 ≤ b) (b1 : b ≤ 9223372036854775807) : -9223372036854775808 ≤ (a + b) / 2 ∧ (a + b) / 2 ≤ 9223372036854775807 := by omega
set_option maxHeartbeats 4000000 in
set_option maxRecDepth 100000 in
theorem refHalf_any (a b : Int) (a0 : -9223372036854775808 ≤ a) (a1 : a ≤ 9223372036854775807) (b0 : -9223372036854775808 ≤ b) (b1 : b ≤ 9223372036854775807) (w : World) :
    Calls Try.prog 27 #[.int .i64 a, .int .i64 b] w fun e w' => e = .returned (.int .i64 ((a + b) / 2)) ∧ Below w.heap.size w w' := by
  have OA := fun W => of_agg a a0 a1 W
  have OB := fun W => of_agg b b0 b1 W
  have OC := fun W => of_agg 2 (by decide) (by decide) W
  have da := dn_small a0 a1
  have db := dn_small b0 b1
  have DA := Lib.hid da
  have DB := Lib.hid db
  have DM := Lib.hid (dn_add da db)
  have HK := Lib.hid (ansIn (half_small a0 a1 b0 b1))
  clear a0 a1 b0 b1 da db
  go_enter Try.func27, Try.ntmps27
  go_wp2_with fail
  refine (OA _).mono ?_
  rintro e w1 ⟨⟨A1, c1, rfl, hd⟩, bb⟩
  have D1 := Lib.hid hd
  have B1 := Lib.hid bb
  clear hd bb
  go_wp2_with fail
  refine (OB _).mono ?_
  rintro e w2 ⟨⟨A2, c2, rfl, hd⟩, bb⟩
  have D2 := Lib.hid hd
  have E1 := Lib.hid (D1.out.below bb)
  have B2 := Lib.hid (B1.out.trans (bb.mono B1.out.size))
  clear hd bb
  go_wp2_with fail
  refine (refAdd_agg a b A1 A2 c1 c2 w2 E1.out D2.out (by have := DA.out; omega) (by have := DB.out; omega)).mono ?_
  rintro e w3 ⟨⟨A3, c3, rfl, hd⟩, bb⟩
  have D3 := Lib.hid hd
  have B3 := Lib.hid (B2.out.trans (bb.mono B2.out.size))
  clear hd bb
  go_wp2_with fail
  refine (OC _).mono ?_
  rintro e w4 ⟨⟨A4, c4, rfl, hd⟩, bb⟩
  have D4 := Lib.hid hd
  have E3 := Lib.hid (D3.out.below bb)
  have B4 := Lib.hid (B3.out.trans (bb.mono B3.out.size))
  clear hd bb
  go_wp2_with fail
  refine (refFloor_agg (a + b) 2 A3 A4 c3 c4 w4 E3.out D4.out (by decide) (by have := DM.out; omega) (Nat.le_trans (dn_small (by decide) (by decide)) (by decide))).mono ?_
  rintro e w5 ⟨⟨A5, c5, rfl, hd⟩, bb⟩
  have D5 := Lib.hid hd
  have B5 := Lib.hid (B4.out.trans (bb.mono B4.out.size))
  clear hd bb
  go_wp2_with fail
  refine (refInt_agg ((a + b) / 2) A5 c5 w5 D5.out).mono ?_
  rintro e w6 ⟨rfl, bb⟩
  have B6 := Lib.hid (B5.out.trans (bb.mono B5.out.size))
  clear bb
  rw [HK.out]
  go_wp2
  go_ret
  exact ⟨rfl, B6.out⟩
end Go.Proofs.Ytelfbjldfdlpnaa.TickW

