/- The document's own control frame. -/
import Derived.Test.YtjejljjahmbhiaaFrameG
namespace Go.Proofs.Ytjejljjahmbhiaa.FrameW
open Go.RowKit
theorem heap_at {w : World} {g : Nat} (h : w.heap.size = g) (o : Obj) : (w.alloc o).heap[g]? = some o := by subst h; exact heap_alloc_new w o
theorem Grow.len {w0 w : World} {g : Nat} {box : Obj} {v : Value} {xs : List Int} (h : Grow w0 g box w v xs) : ∃ A m c, v = .slice A m c ∧ m = xs.length := by
  obtain ⟨A, c, hv, -⟩ := h.o.form
  exact ⟨A, _, c, hv, rfl⟩
theorem number_g {w0 w : World} {g : Nat} {box : Obj} {v : Value} {xs : List Int} (h : Grow w0 g box w v xs) (n bytes : Nat) {N S : Int} (hN : N = (n : Int)) (hS : S = (bytes : Int)) (hn : n < 18446744073709551616) (hs : bytes ≤ 8) (h0 : 0 < bytes) :
    Calls Try.prog 34 #[.int .u64 N, .int .i64 S] w fun e w' => ∃ A c, e = .returned (.slice A bytes c) ∧ Grow w0 g box w' v xs ∧ BL w' A (be bytes n) ∧ Far v A := by
  subst hN; subst hS
  refine (refNumber_any n bytes w hn hs h0).mono ?_
  rintro e w' ⟨v', rfl, o, b⟩
  obtain ⟨A, c, hv, hbl, -⟩ := o.form
  exact ⟨A, c, by rw [hv, be_len], h.next b, hbl, far_of (fun k hk => (h.o.lt k hk).2) o hv⟩
set_option maxHeartbeats 2000000 in
theorem refControl_ok (k f cy cr cl : Int) (w : World) (h : rightC k f cy cr cl) :
    Calls Try.prog 15 #[CV k f cy cr cl] w fun e w' => ∃ v, e = .returned v ∧ OB w' w.heap.size v (ctl k f cy cr cl) ∧ Below w.heap.size w w' := by
  obtain ⟨h1, h2, h3, h4, h5, h6, h7, h8, h9⟩ := h
  have eK : k % 256 = k := by omega
  have eF : f % 256 = f := by omega
  have eY := u64_same (x := cy) (by omega) (by omega)
  have eR := u64_same (x := cr) (by omega) (by omega)
  have eL := u64_same (x := cl) (by omega) (by omega)
  have HT := Lib.hid (show cy = (cy.toNat : Int) ∧ cr = (cr.toNat : Int) ∧ cl = (cl.toNat : Int) by omega)
  have HB := Lib.hid (show cy.toNat < 18446744073709551616 ∧ cr.toNat < 18446744073709551616 ∧ cl.toNat < 18446744073709551616 by omega)
  have HC := Lib.hid (show ctl k f cy cr cl = sealed (ctlB k f cy cr cl) from rfl)
  have HD := Lib.hid (show ctlB k f cy cr cl = [137, 29, k, f] ++ be 8 cy.toNat ++ be 4 cr.toNat ++ be 8 cl.toNat ++ be 6 0 by
    have a1 : be 1 k.toNat = [k] := by have : k.toNat < 256 := by omega
                                       simp [be]; omega
    have a2 : be 1 f.toNat = [f] := by simp [be]; omega
    unfold ctlB
    rw [a1, a2]
    rfl)
  have HY := Lib.hid (show By [137, 29, k, f] by intro x hx; simp at hx; omega)
  clear h1 h2 h3 h4 h5 h6 h7 h8 h9
  go_enter Try.func15, Try.ntmps15
  go_wp2_with fail
  have G1 := Lib.hid (show Grow w w.heap.size (cbox k f cy cr cl) ((w.alloc (cbox k f cy cr cl)).alloc (Obj.cells #[.int .u8 137, .int .u8 29, .int .u8 k, .int .u8 f] 5)) (.slice (some ⟨w.heap.size + 1, 0, none⟩) 4 4) [137, 29, k, f] from
    ⟨ob_row (rs := [137, 29, k, f]) (heap_at (by simp) _) (Nat.le_refl _) HY.out (by simp), al (al (Below.refl _ _) _) _, heap_alloc2_old w _ _, Nat.le_refl _⟩)
  generalize (w.alloc (cbox k f cy cr cl)).alloc (Obj.cells #[.int .u8 137, .int .u8 29, .int .u8 k, .int .u8 f] 5) = W1 at *
  refine (number_g G1.out cy.toNat 8 HT.out.1 (by omega) HB.out.1 (by decide) (by decide)).mono ?_
  rintro e w2 ⟨A2, d2, rfl, g2, b2, f2⟩
  have N2 := Lib.hid g2
  have N2b := Lib.hid b2
  have N2f := Lib.hid f2
  clear g2 b2 f2 G1
  go_wp2_with fail
  refine (lay_g N2.out A2 d2 (be 8 (cy.toNat)) 8 (be_len _ _).symm N2b.out N2f.out (by simp) (by rw [be_len]; decide)).mono ?_
  rintro e x2 ⟨v2, rfl, g2⟩
  have G2 := Lib.hid g2
  obtain ⟨B2, m2, k2, rfl, hm2⟩ := G2.out.len
  have M2 := Lib.hid hm2
  obtain ⟨c0, c1, c2, c3, c4⟩ := cells5 G2.out.x
  clear g2 hm2 N2 N2b N2f
  go_wp2_with fail
  clear c0 c1 c2 c3 c4
  refine (number_g G2.out cr.toNat 4 HT.out.2.1 (by omega) HB.out.2.1 (by decide) (by decide)).mono ?_
  rintro e w3 ⟨A3, d3, rfl, g3, b3, f3⟩
  have N3 := Lib.hid g3
  have N3b := Lib.hid b3
  have N3f := Lib.hid f3
  clear g3 b3 f3 G2
  go_wp2_with fail
  refine (lay_g N3.out A3 d3 (be 4 (cr.toNat)) 4 (be_len _ _).symm N3b.out N3f.out (by simp [be_len]) (by rw [be_len]; decide)).mono ?_
  rintro e x3 ⟨v3, rfl, g3⟩
  have G3 := Lib.hid g3
  obtain ⟨B3, m3, k3, rfl, hm3⟩ := G3.out.len
  have M3 := Lib.hid hm3
  obtain ⟨c0, c1, c2, c3, c4⟩ := cells5 G3.out.x
  clear g3 hm3 N3 N3b N3f
  go_wp2_with fail
  clear c0 c1 c2 c3 c4
  refine (number_g G3.out cl.toNat 8 HT.out.2.2 (by omega) HB.out.2.2 (by decide) (by decide)).mono ?_
  rintro e w4 ⟨A4, d4, rfl, g4, b4, f4⟩
  have N4 := Lib.hid g4
  have N4b := Lib.hid b4
  have N4f := Lib.hid f4
  clear g4 b4 f4 G3
  go_wp2_with fail
  refine (lay_g N4.out A4 d4 (be 8 (cl.toNat)) 8 (be_len _ _).symm N4b.out N4f.out (by simp [be_len]) (by rw [be_len]; decide)).mono ?_
  rintro e x4 ⟨v4, rfl, g4⟩
  have G4 := Lib.hid g4
  obtain ⟨B4, m4, k4, rfl, hm4⟩ := G4.out.len
  have M4 := Lib.hid hm4
  obtain ⟨c0, c1, c2, c3, c4⟩ := cells5 G4.out.x
  clear g4 hm4 N4 N4b N4f
  go_wp2_with fail
  clear c0 c1 c2 c3 c4
  refine (number_g G4.out 0 6 (by omega) (by omega) (by decide) (by decide) (by decide)).mono ?_
  rintro e w5 ⟨A5, d5, rfl, g5, b5, f5⟩
  have N5 := Lib.hid g5
  have N5b := Lib.hid b5
  have N5f := Lib.hid f5
  clear g5 b5 f5 G4
  go_wp2_with fail
  refine (lay_g N5.out A5 d5 (be 6 (0)) 6 (be_len _ _).symm N5b.out N5f.out (by simp [be_len]) (by rw [be_len]; decide)).mono ?_
  rintro e x5 ⟨v5, rfl, g5⟩
  have G5 := Lib.hid g5
  obtain ⟨B5, m5, k5, rfl, hm5⟩ := G5.out.len
  have M5 := Lib.hid hm5
  obtain ⟨c0, c1, c2, c3, c4⟩ := cells5 G5.out.x
  clear g5 hm5 N5 N5b N5f
  go_wp2_with fail
  clear c0 c1 c2 c3 c4
  obtain ⟨L, hL⟩ : ∃ L, L = ctlB k f cy cr cl := ⟨_, rfl⟩
  rw [← HD.out, ← hL] at G5 M5
  rw [← hL] at HC
  have hlen : L.length = 30 := by rw [hL]; exact ctlB_len ..
  obtain ⟨B, c, hv, hbl, -⟩ := G5.out.o.form
  injection hv with hv1 hv2 hv3
  subst hv1; subst hv3
  have S := refSum_any B5 k5 L x5 hbl (by omega)
  rw [← M5.out] at S
  refine S.mono ?_
  rintro e w6 ⟨rfl, rfl⟩
  have hcr := crc_lt L
  have eS := u64_same (x := ((crc L : Nat) : Int)) (by omega) (by omega)
  have HS := Lib.hid (show sealed L = L ++ be 4 (crc L) from rfl)
  have HL := Lib.hid hlen
  have HCL := Lib.hid hcr
  clear hv2 hbl hL hlen hcr S
  generalize crc L = s at *
  go_wp2_with fail
  refine (number_g G5.out s 4 rfl (by omega) (by have := HCL.out; omega) (by decide) (by decide)).mono ?_
  rintro e w6 ⟨A6, d6, rfl, g6, b6, f6⟩
  have N6 := Lib.hid g6
  have N6b := Lib.hid b6
  have N6f := Lib.hid f6
  clear g6 b6 f6 G5
  go_wp2_with fail
  refine (lay_g N6.out A6 d6 (be 4 s) 4 (be_len _ _).symm N6b.out N6f.out (by rw [HL.out]; decide) (by rw [be_len]; decide)).mono ?_
  rintro e x6 ⟨v6, rfl, g6⟩
  have G6 := Lib.hid g6
  clear g6 N6 N6b N6f
  go_wp2_with fail
  go_ret
  exact ⟨_, rfl, by rw [HC.out, HS.out]; exact G6.out.o.mono (by omega), G6.out.b⟩
end Go.Proofs.Ytjejljjahmbhiaa.FrameW
