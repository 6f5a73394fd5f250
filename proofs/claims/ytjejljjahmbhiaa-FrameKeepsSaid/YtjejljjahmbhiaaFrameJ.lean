/- The document's own data frame. -/
import Derived.Test.YtjejljjahmbhiaaFrameI
import Derived.Lib.ConvBytes
namespace Go.Proofs.Ytjejljjahmbhiaa.FrameW
open Go.RowKit
def vlen : Value → Nat
  | .slice _ n _ => n
  | _ => 0
theorem data_by {c l n : Int} {p : List Int} {s : Int} (h : rightD c l n p s) : By [8, 0, c, l] := by
  obtain ⟨h1, h2, h3, -⟩ := h
  intro x hx
  simp at hx
  omega
theorem bytes_bl (w : World) (s : ByteArray) (cap : Nat) (fr : Nat × Nat) : BL (w.alloc (.cells (bytesRow s cap) 5 fr)).drew (some ⟨w.heap.size, 0, none⟩) (bs s) := by
  intro k x hx
  have hx2 := hx
  unfold bs at hx
  rw [List.getElem?_map] at hx
  have hk : k < s.data.size := by
    rcases Nat.lt_or_ge k s.data.size with h | h
    · exact h
    · rw [List.getElem?_eq_none (by simpa using h)] at hx; cases hx
  refine ⟨_, rfl, ?_, (bs_by s).get hx2⟩
  rw [show (⟨w.heap.size, 0, none⟩ : Addr).add k = ⟨w.heap.size, k, none⟩ by unfold Addr.add; split <;> simp_all]
  show (w.alloc (.cells (bytesRow s cap) 5 fr)).cell? ⟨w.heap.size, k, none⟩ = _
  rw [World.cell?_alloc_mark, bytesRow_at s cap k hk]
  rw [List.getElem?_eq_getElem (by simpa using hk)] at hx
  simp only [Option.map_some, Option.some.injEq] at hx
  rw [← hx]
  simp
set_option maxHeartbeats 4000000 in
theorem refData_ok (c l n : Int) (p : ByteArray) (s : Int) (w : World) (h : rightD c l n (bs p) s) :
    Calls Try.prog 20 #[DV c l n p s] w fun e w' => ∃ v, e = .returned v ∧ OB w' w.heap.size v (dat c l n (bs p) s) ∧ Below w.heap.size w w' := by
  have HY := Lib.hid (data_by h)
  obtain ⟨h1, h2, h3, h4, h5, h6, h7, h8⟩ := id h
  rw [bs_len] at h8
  obtain ⟨N, rfl⟩ : ∃ N : Nat, s = (N : Int) := ⟨s.toNat, by omega⟩
  have eC : c % 256 = c := by omega
  have eL : l % 256 = l := by omega
  have eN := u64_same (x := n) (by omega) (by omega)
  have eP := u64_same (x := (p.size : Int)) (by omega) (by omega)
  have hcv : ∀ w : World, (convert 9 26 (.string p)).run Try.prog w = _ := fun w => run_bytes_of_string w 9 26 5 p Try.underlying9 Try.underlying26 Try.underlying5
  have HT := Lib.hid (show n = (n.toNat : Int) by omega)
  have HB := Lib.hid (show n.toNat < 18446744073709551616 ∧ p.size < 18446744073709551616 by omega)
  have HN := Lib.hid (show 64 ≤ N ∧ N ≤ 1518 ∧ p.size + 14 ≤ N by omega)
  have HC := Lib.hid (show dat c l n (bs p) N = sealed (datB c l n (bs p) N) from rfl)
  have HD := Lib.hid (show datB c l n (bs p) N = [8, 0, c, l] ++ be 4 n.toNat ++ be 2 p.size ++ bs p ++ List.replicate (N - 14 - p.size) 0 by
    have a1 : be 1 c.toNat = [c] := by simp [be]; omega
    have a2 : be 1 l.toNat = [l] := by simp [be]; omega
    unfold datB
    rw [a1, a2, bs_len, Int.toNat_natCast]; rfl)
  have HLEN := Lib.hid (show (datB c l n (bs p) N).length = N - 4 by rw [datB_len h, Int.toNat_natCast])
  clear h1 h2 h3 h4 h5 h6 h7 h8 h
  go_enter Try.func20, Try.ntmps20
  go_wp2_with fail
  have G1 := Lib.hid (show Grow w w.heap.size (dbox c l n p N) ((w.alloc (dbox c l n p N)).alloc (Obj.cells #[.int .u8 8, .int .u8 0, .int .u8 c, .int .u8 l] 5)) (.slice (some ⟨w.heap.size + 1, 0, none⟩) 4 4) [8, 0, c, l] from
    ⟨ob_row (rs := [8, 0, c, l]) (heap_at (by simp) _) (Nat.le_refl _) HY.out (by simp), al (al (Below.refl _ _) _) _, heap_alloc2_old w _ _, Nat.le_refl _⟩)
  generalize (w.alloc (dbox c l n p N)).alloc (Obj.cells #[.int .u8 8, .int .u8 0, .int .u8 c, .int .u8 l] 5) = W1 at *
  refine (number_g G1.out (n.toNat) 4 HT.out (by omega) HB.out.1 (by decide) (by decide)).mono ?_
  rintro e w2 ⟨A2, d2, rfl, g2, b2, f2⟩
  have N2 := Lib.hid g2
  have N2b := Lib.hid b2
  have N2f := Lib.hid f2
  clear g2 b2 f2 G1
  go_wp2_with fail
  refine (lay_g N2.out A2 d2 (be 4 (n.toNat)) 4 (be_len _ _).symm N2b.out N2f.out (by simp) (by rw [be_len]; decide)).mono ?_
  rintro e x2 ⟨v2, rfl, g2⟩
  have G2 := Lib.hid g2
  obtain ⟨B2, m2, k2, rfl, hm2⟩ := G2.out.len
  have M2 := Lib.hid hm2
  obtain ⟨c0, c1, c2, c3, c4⟩ := cells5 G2.out.x
  clear g2 hm2 N2 N2b N2f
  go_wp2_with fail
  clear c0 c1 c2 c3 c4
  refine (number_g G2.out (p.size) 2 rfl (by omega) HB.out.2 (by decide) (by decide)).mono ?_
  rintro e w3 ⟨A3, d3, rfl, g3, b3, f3⟩
  have N3 := Lib.hid g3
  have N3b := Lib.hid b3
  have N3f := Lib.hid f3
  clear g3 b3 f3 G2
  go_wp2_with fail
  refine (lay_g N3.out A3 d3 (be 2 (p.size)) 2 (be_len _ _).symm N3b.out N3f.out (by simp [be_len]) (by rw [be_len]; decide)).mono ?_
  rintro e x3 ⟨v3, rfl, g3⟩
  have G3 := Lib.hid g3
  obtain ⟨B3, m3, k3, rfl, hm3⟩ := G3.out.len
  have M3 := Lib.hid hm3
  obtain ⟨c0, c1, c2, c3, c4⟩ := cells5 G3.out.x
  clear g3 hm3 N3 N3b N3f
  go_wp2_with fail
  clear c0 c1 c2 c3 c4
  obtain ⟨W4, hW4⟩ : ∃ W4, W4 = (x3.alloc (Obj.cells (bytesRow p (grownCap x3 p.size 0 5)) 5 ((bytesRow p (grownCap x3 p.size 0 5)).size, (bytesRow p (grownCap x3 p.size 0 5)).size + 1))).drew := ⟨_, rfl⟩
  have BP : BL W4 (some ⟨x3.heap.size, 0, none⟩) (bs p) := by rw [hW4]; exact bytes_bl _ _ _ _
  have N4 := Lib.hid (show Grow w w.heap.size (dbox c l n p N) W4 _ _ from G3.out.next (by rw [hW4]; exact (al (Below.refl _ _) _).drew))
  have F4 : Far (.slice B3 m3 k3) (some ⟨x3.heap.size, 0, none⟩) := by
    intro a ha hk
    cases ha
    have := (G3.out.o.lt _ hk.symm).2
    simp at this
  rw [← hW4]
  have N4b := Lib.hid BP
  have N4f := Lib.hid F4
  clear hW4 BP F4 hcv
  refine (lay_g N4.out _ _ (bs p) p.size (bs_len p).symm N4b.out N4f.out (by simp [be_len]) (by rw [bs_len]; have := HN.out; omega)).mono ?_
  rintro e x4 ⟨v4, rfl, g4⟩
  have G4 := Lib.hid g4
  obtain ⟨B4, m4, k4, rfl, hm4⟩ := G4.out.len
  have hm5 : m4 = 10 + p.size := by rw [hm4]; simp [be_len, bs_len]; omega
  clear g4 hm4 N4 N4b N4f G3
  have HX := Lib.hid (show ([8, 0, c, l] ++ be 4 n.toNat ++ be 2 p.size ++ bs p).length = 10 + p.size by simp [be_len, bs_len]; omega)
  generalize [8, 0, c, l] ++ be 4 n.toNat ++ be 2 p.size ++ bs p = xs at *
  subst hm5
  go_wp2
  go_loopw [3] (fun v1 wr => ∃ (j : Nat) (B : Option Addr) (k : Nat), j ≤ N - 14 - p.size ∧ v1 = .slice B (10 + p.size + j) k ∧ Hid (Grow w w.heap.size (dbox c l n p N) wr (.slice B (10 + p.size + j) k) (xs ++ List.replicate j 0))) (fun v1 _ => N - vlen v1)
  case atStart => exact ⟨0, _, _, Nat.zero_le _, rfl, by rw [List.replicate_zero, List.append_nil]; exact G4⟩
  case round =>
    obtain ⟨j, B, k, hj, rfl, HG⟩ := hrel
    obtain ⟨M, hM⟩ : ∃ M, M = 10 + p.size + j := ⟨_, rfl⟩
    rw [← hM] at HG ⊢
    obtain ⟨c0, c1, c2, c3, c4⟩ := cells5 HG.out.x
    have HM := Lib.hid hM
    have n0 : (64 : Int) ≤ (N : Int) := by have := HN.out; omega
    have n1 : (N : Int) ≤ 1518 := by have := HN.out; omega
    by_cases hlt : (M : Int) < (N : Int) - 4
    · have HJ := Lib.hid (show j < N - 14 - p.size by omega)
      have HMN := Lib.hid (show M < N by omega)
      clear hM hj
      go_wp2_with (at_builtin; refine wpList_append_ob _ rfl _ _ rfl (w.heap.size + 1) _ _ rfl (HG.out.o.alloc _) ⟨wr.heap.size, 0, none⟩ 1 1 [0] rfl rfl ?c1 ?c2 ?c3 ?_)
      case c1 => exact one_bl _ _ (by decide) (by decide) _
      case c2 => have := HN.out; have := HJ.out; rw [List.length_append, List.length_replicate, HX.out]; omega
      case c3 => rw [World.size_alloc]; have := HG.out.room; omega
      intro v2 w2 o2 s2
      have HG2 := HG.out.step (show OB w2 (w.heap.size + 1) v2 (xs ++ List.replicate (j + 1) 0) by rw [List.replicate_succ']; exact o2) (((Step.alloc wr (.slice B M k) _).trans s2).below HG.out.o HG.out.room)
      obtain ⟨B5, m5, k5, rfl, hm5⟩ := HG2.len
      have hm6 : m5 = 10 + p.size + (j + 1) := by rw [hm5, List.length_append, List.length_replicate, HX.out]
      have HM6 := Lib.hid hm6
      have HG3 := Lib.hid HG2
      clear o2 s2 HG2 hm5 hm6 c0 c1 c2 c3 c4
      go_wp2
      go_roundw
      case rel => exact ⟨j + 1, B5, k5, by have := HJ.out; omega, by rw [HM6.out], by rw [← HM6.out]; exact HG3⟩
      case measure => have := HM6.out; have := HMN.out; have := HM.out; simp only [vlen]; omega
    · obtain rfl : j = N - 14 - p.size := by have := HN.out; omega
      have G5 := Lib.hid HG.out
      rw [← HD.out] at G5
      clear hj HG G4 hM
      go_wp2_with fail
      clear c0 c1 c2 c3 c4
      obtain ⟨L, hL⟩ : ∃ L, L = datB c l n (bs p) N := ⟨_, rfl⟩
      rw [← hL] at G5 HC HLEN
      have ML : M = L.length := by rw [HLEN.out, HM.out]; have := HN.out; omega
      obtain ⟨B9, c9, hv, hbl, -⟩ := G5.out.o.form
      injection hv with hv1 hv2 hv3
      subst hv1; subst hv3
      have S := fun k0 => refSum_any _ k0 L wr hbl (by rw [HLEN.out]; have := HN.out; omega)
      rw [← ML] at S
      with_reducible refine (S _).mono ?_
      rintro e w6 ⟨rfl, rfl⟩
      have hcr := crc_lt L
      have eS := u64_same (x := ((crc L : Nat) : Int)) (by omega) (by omega)
      have HS := Lib.hid (show sealed L = L ++ be 4 (crc L) from rfl)
      have HCL := Lib.hid hcr
      clear hv2 hbl hL hcr S ML HD hlt HX
      generalize crc L = s at *
      go_wp2_with fail
      refine (number_g G5.out s 4 rfl (by omega) (by have := HCL.out; omega) (by decide) (by decide)).mono ?_
      rintro e w6 ⟨A6, d6, rfl, g6, b6, f6⟩
      have N6 := Lib.hid g6
      have N6b := Lib.hid b6
      have N6f := Lib.hid f6
      clear g6 b6 f6 G5
      go_wp2_with fail
      refine (lay_g N6.out A6 d6 (be 4 s) 4 (be_len _ _).symm N6b.out N6f.out (by rw [HLEN.out]; have := HN.out; omega) (by rw [be_len]; decide)).mono ?_
      rintro e x6 ⟨v6, rfl, g6⟩
      have G6 := Lib.hid g6
      clear g6 N6 N6b N6f
      go_wp2_with fail
      go_ret
      exact ⟨_, rfl, by rw [HC.out, HS.out]; exact G6.out.o.mono (by omega), G6.out.b⟩
end Go.Proofs.Ytjejljjahmbhiaa.FrameW
