/- math/bits.Div64, walked: of 128 bits, by 64, where the quotient fits. -/
import Derived.Test.YtmagjekmlnpfpaaGreatTickWideJa
import Derived.Test.YtmagjekmlnpfpaaGreatShelf
import Derived.Deep.DeepCutAuto
import Derived.Deep.CutBlock
import Derived.BigRegion
import Derived.Lib.ItoaNum
namespace Go.Proofs.YtmagjekmlnpfpaaGreat.TickW
open Go.RowKit
theorem wrapn (n : Nat) (h : n < 18446744073709551616) : IntKind.u64.wrap (n : Int) = (n : Int) := by rw [IntKind.wrap_u64]; omega
theorem div64_zero (lo y : Nat) (hlo : lo < 18446744073709551616) (hy : y < 18446744073709551616) (h : 0 < y) (w : World) :
    Calls Tryz.prog 196 #[.int .u64 0, .int .u64 lo, .int .u64 y] w fun e w' => e = .returned (.tuple #[.int .u64 ((lo / y : Nat) : Int), .int .u64 ((lo % y : Nat) : Int)]) ∧ Below w.heap.size w w' := by
  have k0 : ((y : Int) == 0) = false := by simp; omega
  have k1 : ¬ ((y : Int) ≤ 0) := by omega
  have k2 : ¬ ((y : Int) = 0) := by omega
  have hq : lo / y ≤ lo := Nat.div_le_self _ _
  have e1 : IntKind.u64.wrap ((lo : Int) / (y : Int)) = ((lo / y : Nat) : Int) := by
    rw [← Int.natCast_ediv]; exact wrapn _ (by generalize lo / y = z at *; omega)
  have E := Lib.hid e1
  clear e1
  go_enter Tryz.func196, Tryz.ntmps196
  go_wp2
  go_region
  go_wp2
  go_ret2
  exact ⟨by rw [E.out]; rfl, (Below.refl _ _).drew⟩
theorem k_step (A u Y y1 y0 q r : Nat) (hY : Y = y1 * 4294967296 + y0) (hA : A < Y) (hu : u < 4294967296) (hJ : q * y1 + r = A)
    (h : 4294967296 ≤ q ∨ 4294967296 * r + u < q * y0) : 1 ≤ q ∧ (A * 4294967296 + u) / Y ≤ q - 1 := by
  have hpos : 0 < Y := by omega
  have key : (A * 4294967296 + u) / Y < q := by
    rw [Nat.div_lt_iff_lt_mul hpos]
    rcases h with h | h
    · have : 4294967296 * Y ≤ q * Y := Nat.mul_le_mul_right _ h
      omega
    · rw [hY, Nat.mul_add, ← Nat.mul_assoc]
      generalize q * y1 = m at *
      generalize q * y0 = k at *
      omega
  generalize (A * 4294967296 + u) / Y = t at *
  omega
theorem k_end (A u Y y1 y0 q r : Nat) (hY : Y = y1 * 4294967296 + y0) (hA : A < Y) (hJ : q * y1 + r = A) (hq : (A * 4294967296 + u) / Y ≤ q)
    (h : q * y0 ≤ 4294967296 * r + u) : q = (A * 4294967296 + u) / Y := by
  have hpos : 0 < Y := by omega
  have key : q ≤ (A * 4294967296 + u) / Y := by
    rw [Nat.le_div_iff_mul_le hpos, hY, Nat.mul_add, ← Nat.mul_assoc]
    generalize q * y1 = m at *
    generalize q * y0 = k at *
    omega
  generalize (A * 4294967296 + u) / Y = t at *
  omega
theorem k_start (A u Y y1 y0 : Nat) (hY : Y = y1 * 4294967296 + y0) (h0 : y0 < 4294967296) (h1 : 2147483648 ≤ y1) (hA : A < Y) (hu : u < 4294967296) :
    A / y1 * y1 + A % y1 = A ∧ (A * 4294967296 + u) / Y ≤ A / y1 ∧ A / y1 ≤ 4294967297 := by
  have hp : 0 < y1 := by omega
  have hpos : 0 < Y := by omega
  refine ⟨by rw [Nat.mul_comm]; exact Nat.div_add_mod _ _, ?_, ?_⟩
  · rw [Nat.le_div_iff_mul_le hp]
    have h2 : (A * 4294967296 + u) / Y * Y ≤ A * 4294967296 + u := Nat.div_mul_le_self _ _
    rw [hY, Nat.mul_add, ← Nat.mul_assoc, ← hY] at h2
    generalize (A * 4294967296 + u) / Y * y1 = m at *
    generalize (A * 4294967296 + u) / Y * y0 = k at *
    omega
  · have : A / y1 < 4294967298 := by
      rw [Nat.div_lt_iff_lt_mul hp]
      omega
    omega
theorem rem_eqs (A u Y : Nat) (hY : 0 < Y) (hM : Y < 18446744073709551616) : ∃ a1 a2 a3 : Nat, IntKind.u64.wrap ((A : Int) * 4294967296) = (a1 : Int) ∧ IntKind.u64.wrap ((a1 : Int) + (u : Int)) = (a2 : Int) ∧
    IntKind.u64.wrap ((((A * 4294967296 + u) / Y : Nat) : Int) * (Y : Int)) = (a3 : Int) ∧ IntKind.u64.wrap ((a2 : Int) - (a3 : Int)) = (((A * 4294967296 + u) % Y : Nat) : Int) := by
  have e := Nat.div_add_mod (A * 4294967296 + u) Y
  have hl := Nat.mod_lt (A * 4294967296 + u) hY
  refine ⟨(A * 4294967296) % 18446744073709551616, (A * 4294967296 + u) % 18446744073709551616, ((A * 4294967296 + u) / Y * Y) % 18446744073709551616, ?_, ?_, ?_, ?_⟩
  · rw [IntKind.wrap_u64]; omega
  · rw [IntKind.wrap_u64]; omega
  · rw [IntKind.wrap_u64, ← Int.natCast_mul]; rfl
  · rw [IntKind.wrap_u64]
    rw [Nat.mul_comm] at e
    generalize (A * 4294967296 + u) / Y * Y = z at *
    generalize (A * 4294967296 + u) % Y = v at *
    omega
theorem start_eqs (A y1 : Nat) (hA : A < 18446744073709551616) : ∃ m : Nat, A / y1 * y1 = m ∧ IntKind.u64.wrap ((A : Int) / (y1 : Int)) = ((A / y1 : Nat) : Int) ∧ IntKind.u64.wrap (((A / y1 : Nat) : Int) * (y1 : Int)) = (m : Int) ∧ IntKind.u64.wrap ((A : Int) - (m : Int)) = ((A % y1 : Nat) : Int) := by
  have e : A / y1 * y1 + A % y1 = A := by rw [Nat.mul_comm]; exact Nat.div_add_mod _ _
  have h1 := Nat.div_le_self A y1
  refine ⟨_, rfl, ?_, ?_, ?_⟩
  · rw [← Int.natCast_ediv]; exact wrapn _ (by generalize A / y1 = z at *; omega)
  · rw [← Int.natCast_mul]; exact wrapn _ (by generalize A / y1 * y1 = z at *; generalize A % y1 = z' at *; omega)
  · rw [show (A : Int) - ((A / y1 * y1 : Nat) : Int) = ((A % y1 : Nat) : Int) by generalize A / y1 * y1 = z at *; generalize A % y1 = z' at *; omega]
    exact wrapn _ (by generalize A / y1 * y1 = z at *; generalize A % y1 = z' at *; omega)
set_option maxRecDepth 100000 in
set_option maxHeartbeats 2000000 in
theorem div64_walk (hi lo y s Y y1 y0 L u1 u0 Hs A : Nat) (hhi : (0 : Int) < hi) (h : (hi : Int) < y)
    (H : ∀ W : World, Calls Tryz.prog 211 #[.int .u64 (y : Int)] W fun e w' => e = .returned (.int .i64 (s : Int)) ∧ w' = W)
    (hs : s < 64) (eY : IntKind.u64.wrap ((y : Int) * 2 ^ s) = (Y : Int)) (e1 : (Y : Int) / 4294967296 = (y1 : Int)) (e0 : bits .and .u64 (Y : Int) 4294967295 = (y0 : Int))
    (eL : IntKind.u64.wrap ((lo : Int) * 2 ^ s) = (L : Int)) (eu1 : (L : Int) / 4294967296 = (u1 : Int)) (eu0 : bits .and .u64 (L : Int) 4294967295 = (u0 : Int))
    (eH : IntKind.u64.wrap ((hi : Int) * 2 ^ s) = (Hs : Int)) (eA : bits .or .u64 (Hs : Int) ((lo : Int) / 2 ^ (64 - s)) = (A : Int))
    (hY : Y = y1 * 4294967296 + y0) (h0 : y0 < 4294967296) (h1 : 2147483648 ≤ y1) (h2 : y1 < 4294967296) (hA : A < Y) (hu1 : u1 < 4294967296) (hu0 : u0 < 4294967296)
    (Q1 A2 Q0 R : Nat) (hQ1 : (A * 4294967296 + u1) / Y = Q1) (hA2 : (A * 4294967296 + u1) % Y = A2) (hQ0 : (A2 * 4294967296 + u0) / Y = Q0) (hR : (A2 * 4294967296 + u0) % Y = R) (w : World) :
    Calls Tryz.prog 196 #[.int .u64 hi, .int .u64 lo, .int .u64 y] w fun e w' =>
      e = .returned (.tuple #[.int .u64 ((Q1 * 4294967296 + Q0 : Nat) : Int), .int .u64 ((R : Int) / 2 ^ s)]) ∧ Below w.heap.size w w' := by
  have HEQ := Lib.hid (And.intro hQ1 (And.intro hA2 (And.intro hQ0 hR)))
  clear hQ1 hA2 hQ0 hR
  have k0 : ((y : Int) == 0) = false := by simp; omega
  have k1 : ¬ ((y : Int) ≤ hi) := by omega
  have k2 : ¬ ((y : Int) = 0) := by omega
  have k3 : ((hi : Int) == 0) = false := by simp; omega
  have k4 : ¬ ((y1 : Int) = 0) := by omega
  obtain ⟨j1, j2, j3⟩ := k_start A u1 Y y1 y0 hY h0 h1 hA hu1
  have hr : A % y1 < y1 := Nat.mod_lt _ (by omega)
  obtain ⟨m, hm, eq1, eq2, eq3⟩ := start_eqs A y1 (by omega)
  have HP := Lib.hid (And.intro hY (And.intro hA (And.intro hu1 (And.intro hu0 (And.intro h0 (And.intro h1 h2))))))
  have HJ := Lib.hid (And.intro j1 (And.intro j2 (And.intro j3 (Nat.lt_trans hr h2))))
  clear hY hA hu1 hu0 h0 h1 h2 j1 j2 j3 hr
  have HM := Lib.hid hm
  clear hm
  generalize A / y1 = q at *
  generalize A % y1 = r at *
  go_enter Tryz.func196, Tryz.ntmps196
  go_upto_block 0 with (first | (go_at_call 211; (with_reducible refine (H _).mono ?_); rintro e w' ⟨rfl, rfl⟩))
  clear eq1 eq2 eq3 eH eA eY eL
  go_cut [15, 16] (fun s15 _ wx => s15 = .int .u64 (((A * 4294967296 + u1) / Y : Nat) : Int) ∧ wx = w')
  case first =>
    go_wp2_with fail
    go_loopw [15, 16] (fun s15 s16 wr => ∃ q r : Nat, s15 = .int .u64 (q : Int) ∧ s16 = .int .u64 (r : Int) ∧ wr = w' ∧ Hid (q * y1 + r = A ∧ (A * 4294967296 + u1) / Y ≤ q ∧ q ≤ 4294967297 ∧ r < 4294967296)) (fun s15 _ _ => (intOf s15).toNat)
    case atStart => exact ⟨q, r, rfl, rfl, rfl, HJ⟩
    case round =>
      obtain ⟨q, r, rfl, rfl, rfl, HJ⟩ := hrel
      obtain ⟨j1, j2, j3, j4⟩ := HJ.out
      obtain ⟨p1, p2, p3, p4, p5, p6, p7⟩ := HP.out
      have hk : q * y0 ≤ 4294967297 * 4294967295 := Nat.mul_le_mul j3 (by omega)
      have a1 : IntKind.u64.wrap ((q : Int) * (y0 : Int)) = ((q * y0 : Nat) : Int) := by rw [← Int.natCast_mul]; exact wrapn _ (by omega)
      have a2 : IntKind.u64.wrap (4294967296 * (r : Int)) = ((4294967296 * r : Nat) : Int) := wrapn (4294967296 * r) (by omega)
      have a3 : IntKind.u64.wrap (((4294967296 * r : Nat) : Int) + (u1 : Int)) = ((4294967296 * r + u1 : Nat) : Int) := wrapn (4294967296 * r + u1) (by omega)
      by_cases hc : 4294967296 ≤ q ∨ 4294967296 * r + u1 < q * y0
      · obtain ⟨t1, t2⟩ := k_step A u1 Y y1 y0 q r p1 p2 p3 j1 hc
        have a4 : IntKind.u64.wrap ((q : Int) - 1) = ((q - 1 : Nat) : Int) := by rw [show (q : Int) - 1 = ((q - 1 : Nat) : Int) by omega]; exact wrapn _ (by omega)
        have a5 : IntKind.u64.wrap ((r : Int) + (y1 : Int)) = ((r + y1 : Nat) : Int) := wrapn (r + y1) (by omega)
        have j1' : (q - 1) * y1 + (r + y1) = A := by
          obtain ⟨q, rfl⟩ : ∃ q', q = q' + 1 := ⟨q - 1, by omega⟩
          rw [Nat.add_mul] at j1
          rw [Nat.add_sub_cancel]
          omega
        have hb : 4294967296 ≤ r + y1 → q - 1 = (A * 4294967296 + u1) / Y := fun h => k_end A u1 Y y1 y0 (q - 1) (r + y1) p1 p2 j1' t2 (by
          have : (q - 1) * y0 ≤ 4294967296 * y0 := Nat.mul_le_mul_right _ (by omega)
          omega)
        have HQ := Lib.hid (And.intro j1' (And.intro t2 (And.intro (show q - 1 ≤ 4294967297 by omega) hb)))
        have HT := Lib.hid (show q - 1 < q by omega)
        have hd : (4294967296 : Int) ≤ (q : Int) ∨ ¬ ((4294967296 : Int) ≤ (q : Int)) ∧ ((4294967296 * r + u1 : Nat) : Int) < ((q * y0 : Nat) : Int) := by omega
        clear j1 j2 j3 j4 p1 p2 p3 p4 p5 p6 p7 hk HJ t1 t2 j1' hb hc
        generalize 4294967296 * r + u1 = br at *
        generalize 4294967296 * r = b4 at *
        generalize q * y0 = k at *
        generalize q - 1 = q1 at *
        generalize r + y1 = r1 at *
        by_cases hg : (4294967296 : Int) ≤ (r1 : Int)
        · have HG := Lib.hid (show q1 = (A * 4294967296 + u1) / Y from HQ.out.2.2.2 (by omega))
          rcases hd with hd | ⟨hd, hd2⟩
          · go_wp2
            go_meet
            exact ⟨by rw [HG.out], rfl⟩
          · go_wp2
            go_meet
            exact ⟨by rw [HG.out], rfl⟩
        · have HG := Lib.hid (show r1 < 4294967296 by omega)
          rcases hd with hd | ⟨hd, hd2⟩
          · go_wp2
            go_roundw
            case rel => exact ⟨q1, r1, by simp, by simp, by simp, Lib.hid ⟨HQ.out.1, HQ.out.2.1, HQ.out.2.2.1, HG.out⟩⟩
            case measure => simp [intOf]; exact HT.out
          · go_wp2
            go_roundw
            case rel => exact ⟨q1, r1, by simp, by simp, by simp, Lib.hid ⟨HQ.out.1, HQ.out.2.1, HQ.out.2.2.1, HG.out⟩⟩
            case measure => simp [intOf]; exact HT.out
      · have HE := Lib.hid (k_end A u1 Y y1 y0 q r p1 p2 j1 j2 (by omega))
        have hd : ¬ ((4294967296 : Int) ≤ (q : Int)) := by omega
        have hd2 : ¬ (((4294967296 * r + u1 : Nat) : Int) < ((q * y0 : Nat) : Int)) := by omega
        clear j1 j2 j3 j4 p1 p2 p3 p4 p5 p6 p7 hk HJ hc
        generalize 4294967296 * r + u1 = br at *
        generalize 4294967296 * r = b4 at *
        generalize q * y0 = k at *
        go_wp2
        go_meet
        exact ⟨by rw [HE.out], rfl⟩
  case rest =>
    obtain ⟨p1, p2, p3, p4, p5, p6, p7⟩ := HP.out
    have hYp : 0 < Y := by omega
    have hA2 : (A * 4294967296 + u1) % Y < Y := Nat.mod_lt _ hYp
    obtain ⟨b1, b2, b3, f1, f2, f3, f4⟩ := rem_eqs A u1 Y hYp (by omega)
    have hqb : (A * 4294967296 + u1) / Y < 4294967296 := by rw [Nat.div_lt_iff_lt_mul hYp]; omega
    clear HJ HM
    rw [HEQ.out.1] at hcut f3 hqb
    rw [HEQ.out.2.1] at f4 hA2
    obtain ⟨rfl, rfl⟩ := hcut
    obtain ⟨j1, j2, j3⟩ := k_start A2 u0 Y y1 y0 p1 p5 p6 hA2 p4
    have hr : A2 % y1 < y1 := Nat.mod_lt _ (by omega)
    obtain ⟨m, hm, eq1, eq2, eq3⟩ := start_eqs A2 y1 (by omega)
    have HP2 := Lib.hid (And.intro p1 (And.intro hA2 (And.intro p4 (And.intro p5 (And.intro p6 p7)))))
    have HJ := Lib.hid (And.intro j1 (And.intro j2 (And.intro j3 (Nat.lt_trans hr p7))))
    have HQ1 := Lib.hid hqb
    clear p1 p2 p3 p4 p5 p6 p7 j1 j2 j3 hr hA2 hYp hqb
    have HM := Lib.hid hm
    clear hm
    generalize A2 / y1 = q at *
    generalize A2 % y1 = r at *
    go_upto_block 2 with (fail)
    clear f1 f2 f3 f4 eq1 eq2 eq3
    go_cut [18, 16] (fun s18 _ wx => s18 = .int .u64 (((A2 * 4294967296 + u0) / Y : Nat) : Int) ∧ wx = wc)
    case first =>
      go_wp2_with fail
      go_loopw [18, 16] (fun s18 s16 wr => ∃ q r : Nat, s18 = .int .u64 (q : Int) ∧ s16 = .int .u64 (r : Int) ∧ wr = wc ∧ Hid (q * y1 + r = A2 ∧ (A2 * 4294967296 + u0) / Y ≤ q ∧ q ≤ 4294967297 ∧ r < 4294967296)) (fun s18 _ _ => (intOf s18).toNat)
      case atStart => exact ⟨q, r, rfl, rfl, rfl, HJ⟩
      case round =>
        obtain ⟨q, r, rfl, rfl, rfl, HJ⟩ := hrel
        obtain ⟨j1, j2, j3, j4⟩ := HJ.out
        obtain ⟨p1, p2, p4, p5, p6, p7⟩ := HP2.out
        have hk : q * y0 ≤ 4294967297 * 4294967295 := Nat.mul_le_mul j3 (by omega)
        have a1 : IntKind.u64.wrap ((q : Int) * (y0 : Int)) = ((q * y0 : Nat) : Int) := by rw [← Int.natCast_mul]; exact wrapn _ (by omega)
        have a2 : IntKind.u64.wrap (4294967296 * (r : Int)) = ((4294967296 * r : Nat) : Int) := wrapn (4294967296 * r) (by omega)
        have a3 : IntKind.u64.wrap (((4294967296 * r : Nat) : Int) + (u0 : Int)) = ((4294967296 * r + u0 : Nat) : Int) := wrapn (4294967296 * r + u0) (by omega)
        by_cases hc : 4294967296 ≤ q ∨ 4294967296 * r + u0 < q * y0
        · obtain ⟨t1, t2⟩ := k_step A2 u0 Y y1 y0 q r p1 p2 p4 j1 hc
          have a4 : IntKind.u64.wrap ((q : Int) - 1) = ((q - 1 : Nat) : Int) := by rw [show (q : Int) - 1 = ((q - 1 : Nat) : Int) by omega]; exact wrapn _ (by omega)
          have a5 : IntKind.u64.wrap ((r : Int) + (y1 : Int)) = ((r + y1 : Nat) : Int) := wrapn (r + y1) (by omega)
          have j1' : (q - 1) * y1 + (r + y1) = A2 := by
            obtain ⟨q, rfl⟩ : ∃ q', q = q' + 1 := ⟨q - 1, by omega⟩
            rw [Nat.add_mul] at j1
            rw [Nat.add_sub_cancel]
            omega
          have hb : 4294967296 ≤ r + y1 → q - 1 = (A2 * 4294967296 + u0) / Y := fun h => k_end A2 u0 Y y1 y0 (q - 1) (r + y1) p1 p2 j1' t2 (by
            have : (q - 1) * y0 ≤ 4294967296 * y0 := Nat.mul_le_mul_right _ (by omega)
            omega)
          have HQ := Lib.hid (And.intro j1' (And.intro t2 (And.intro (show q - 1 ≤ 4294967297 by omega) hb)))
          have HT := Lib.hid (show q - 1 < q by omega)
          have hd : (4294967296 : Int) ≤ (q : Int) ∨ ¬ ((4294967296 : Int) ≤ (q : Int)) ∧ ((4294967296 * r + u0 : Nat) : Int) < ((q * y0 : Nat) : Int) := by omega
          clear j1 j2 j3 j4 p1 p2 p4 p5 p6 p7 hk HJ t1 t2 j1' hb hc
          generalize 4294967296 * r + u0 = br at *
          generalize 4294967296 * r = b4 at *
          generalize q * y0 = k at *
          generalize q - 1 = q1 at *
          generalize r + y1 = r1 at *
          by_cases hg : (4294967296 : Int) ≤ (r1 : Int)
          · have HG := Lib.hid (show q1 = (A2 * 4294967296 + u0) / Y from HQ.out.2.2.2 (by omega))
            rcases hd with hd | ⟨hd, hd2⟩
            · go_wp2
              go_meet
              exact ⟨by rw [HG.out], rfl⟩
            · go_wp2
              go_meet
              exact ⟨by rw [HG.out], rfl⟩
          · have HG := Lib.hid (show r1 < 4294967296 by omega)
            rcases hd with hd | ⟨hd, hd2⟩
            · go_wp2
              go_roundw
              case rel => exact ⟨q1, r1, by simp, by simp, by simp, Lib.hid ⟨HQ.out.1, HQ.out.2.1, HQ.out.2.2.1, HG.out⟩⟩
              case measure => simp [intOf]; exact HT.out
            · go_wp2
              go_roundw
              case rel => exact ⟨q1, r1, by simp, by simp, by simp, Lib.hid ⟨HQ.out.1, HQ.out.2.1, HQ.out.2.2.1, HG.out⟩⟩
              case measure => simp [intOf]; exact HT.out
        · have HE := Lib.hid (k_end A2 u0 Y y1 y0 q r p1 p2 j1 j2 (by omega))
          have hd : ¬ ((4294967296 : Int) ≤ (q : Int)) := by omega
          have hd2 : ¬ (((4294967296 * r + u0 : Nat) : Int) < ((q * y0 : Nat) : Int)) := by omega
          clear j1 j2 j3 j4 p1 p2 p4 p5 p6 p7 hk HJ hc
          generalize 4294967296 * r + u0 = br at *
          generalize 4294967296 * r = b4 at *
          generalize q * y0 = k at *
          go_wp2
          go_meet
          exact ⟨by rw [HE.out], rfl⟩

    case rest =>
      obtain ⟨p1, p2, p4, p5, p6, p7⟩ := HP2.out
      have hYp : 0 < Y := by omega
      obtain ⟨b1, b2, b3, f1, f2, f3, f4⟩ := rem_eqs A2 u0 Y hYp (by omega)
      have hqb : (A2 * 4294967296 + u0) / Y < 4294967296 := by rw [Nat.div_lt_iff_lt_mul hYp]; omega
      rw [HEQ.out.2.2.1] at hcut f3 hqb
      rw [HEQ.out.2.2.2] at f4
      have hq := HQ1.out
      obtain ⟨z1, z2, hz, g1, g2⟩ : ∃ z1 z2 : Nat, z2 = Q1 * 4294967296 + Q0 ∧ IntKind.u64.wrap ((Q1 : Int) * 4294967296) = (z1 : Int) ∧ IntKind.u64.wrap ((z1 : Int) + (Q0 : Int)) = (z2 : Int) :=
        ⟨Q1 * 4294967296, Q1 * 4294967296 + Q0, rfl, wrapn (Q1 * 4294967296) (by omega), wrapn (Q1 * 4294967296 + Q0) (by omega)⟩
      have HZ := Lib.hid hz
      clear HJ HM p1 p2 p4 p5 p6 p7 hYp hqb hq hz H e1 e0 eu1 eu0 k0 k1 k2 k3 k4
      obtain ⟨rfl, rfl⟩ := hcut
      go_wp2
      go_ret2
      exact ⟨by rw [← HZ.out]; rfl, Below.refl _ _⟩
theorem qr_of (N Y q r : Nat) (h : q * Y + r = N) (hr : r < Y) : N / Y = q ∧ N % Y = r := by
  have hp : 0 < Y := by omega
  subst h
  constructor
  · rw [Nat.add_comm, Nat.add_mul_div_right _ _ hp, Nat.div_eq_of_lt hr, Nat.zero_add]
  · rw [Nat.add_comm, Nat.add_mul_mod_self_right, Nat.mod_eq_of_lt hr]
theorem two_digits_gen (A L Y B : Nat) (hY0 : 0 < Y) : (A * (B * B) + L) / Y = (A * B + L / B) / Y * B + ((A * B + L / B) % Y * B + L % B) / Y ∧
    (A * (B * B) + L) % Y = ((A * B + L / B) % Y * B + L % B) % Y := by
  have d1 := Nat.div_add_mod (A * B + L / B) Y
  have d2 := Nat.div_add_mod ((A * B + L / B) % Y * B + L % B) Y
  have r2 := Nat.mod_lt ((A * B + L / B) % Y * B + L % B) hY0
  have dL := Nat.div_add_mod L B
  generalize ((A * B + L / B) % Y * B + L % B) / Y = q0 at *
  generalize ((A * B + L / B) % Y * B + L % B) % Y = R at *
  generalize (A * B + L / B) % Y = A2 at *
  generalize (A * B + L / B) / Y = q1 at *
  refine qr_of _ Y _ R ?_ r2
  have e1 : (q1 * B + q0) * Y + R = (Y * q1) * B + (Y * q0 + R) := by rw [Nat.add_mul, Nat.mul_right_comm, Nat.mul_comm q1, Nat.mul_comm q0, Nat.add_assoc]
  have e2 : A * (B * B) + L = (A * B + L / B) * B + L % B := by rw [Nat.add_mul, ← Nat.mul_assoc, Nat.mul_comm (L / B), Nat.add_assoc, dL]
  rw [e1, e2, ← d1, d2, Nat.add_mul, Nat.add_assoc]
theorem two_digits (A L Y : Nat) (hY0 : 0 < Y) : (A * 18446744073709551616 + L) / Y = (A * 4294967296 + L / 4294967296) / Y * 4294967296 + ((A * 4294967296 + L / 4294967296) % Y * 4294967296 + L % 4294967296) / Y ∧
    (A * 18446744073709551616 + L) % Y = ((A * 4294967296 + L / 4294967296) % Y * 4294967296 + L % 4294967296) % Y :=
  two_digits_gen A L Y 4294967296 hY0
theorem shr_cast (R s : Nat) : (R : Int) / 2 ^ s = ((R / 2 ^ s : Nat) : Int) := by push_cast; rfl
theorem div64_pos (hi lo y : Nat) (hlo : lo < 18446744073709551616) (hy : y < 18446744073709551616) (h0 : 0 < hi) (h : hi < y) (w : World) :
    Calls Tryz.prog 196 #[.int .u64 hi, .int .u64 lo, .int .u64 y] w fun e w' => e = .returned (.tuple #[.int .u64 (((hi * 18446744073709551616 + lo) / y : Nat) : Int), .int .u64 (((hi * 18446744073709551616 + lo) % y : Nat) : Int)]) ∧ Below w.heap.size w w' := by
  obtain ⟨b1, b2, b3⟩ := Lib.bitLenAux_bounds 64 y (by omega) (by omega)
  have b4 : Lib.bitLen y ≤ 64 := by have := Any.bitLen_le64 (y : Int) (by omega) (by omega); simpa using this
  have b1 : 1 ≤ Lib.bitLen y := b1
  have b2 : 2 ^ (Lib.bitLen y - 1) ≤ y := b2
  have b3 : y < 2 ^ Lib.bitLen y := b3
  obtain ⟨s, hs⟩ : ∃ s, s = 64 - Lib.bitLen y := ⟨_, rfl⟩
  have H : ∀ W : World, Calls Tryz.prog 211 #[.int .u64 (y : Int)] W fun e w' => e = .returned (.int .i64 (s : Int)) ∧ w' = W := by
    intro W
    have := Tryz.bits_LeadingZeros64 (y : Int) W (by omega) (by omega)
    rw [show (64 - (Lib.bitLen (y : Int).toNat : Int)) = (s : Int) by rw [Int.toNat_natCast]; omega] at this
    exact this
  have hbl : Lib.bitLen y = 64 - s := by omega
  rw [hbl] at b2 b3
  have hs63 : s < 64 := by omega
  clear b1 b4 hs hbl
  -- the powers, by one name each
  have hPP : 2 ^ (64 - s) * 2 ^ s = 18446744073709551616 := by rw [← Nat.pow_add, show 64 - s + s = 64 by omega]
  have hPP1 : 2 ^ (64 - s - 1) * 2 ^ s = 9223372036854775808 := by rw [← Nat.pow_add, show 64 - s - 1 + s = 63 by omega]
  have hP : 0 < 2 ^ s := Nat.pow_pos (by decide)
  have hYlo : 9223372036854775808 ≤ y * 2 ^ s := by rw [← hPP1]; exact Nat.mul_le_mul_right _ b2
  have hYhi : y * 2 ^ s < 18446744073709551616 := by rw [← hPP]; exact Nat.mul_lt_mul_of_pos_right b3 hP
  have hHs : hi * 2 ^ s + 2 ^ s ≤ y * 2 ^ s := by rw [← Nat.succ_mul]; exact Nat.mul_le_mul_right _ h
  have hlq : lo / 2 ^ (64 - s) < 2 ^ s := by rw [Nat.div_lt_iff_lt_mul (Nat.pow_pos (by decide)), Nat.mul_comm, hPP]; exact hlo
  have hll : lo * 2 ^ s / 18446744073709551616 = lo / 2 ^ (64 - s) := by rw [← hPP, Nat.mul_div_mul_right _ _ hP]
  have hor : hi * 2 ^ s ||| lo / 2 ^ (64 - s) = hi * 2 ^ s + lo / 2 ^ (64 - s) := by
    rw [Nat.mul_comm hi, Nat.two_pow_add_eq_or_of_lt hlq]
  have hA : hi * 2 ^ s + lo / 2 ^ (64 - s) < y * 2 ^ s := by omega
  have eY : IntKind.u64.wrap ((y : Int) * 2 ^ s) = ((y * 2 ^ s : Nat) : Int) := by rw [show ((y : Int) * 2 ^ s) = ((y * 2 ^ s : Nat) : Int) by push_cast; rfl]; exact wrapn _ hYhi
  have eH : IntKind.u64.wrap ((hi : Int) * 2 ^ s) = ((hi * 2 ^ s : Nat) : Int) := by rw [show ((hi : Int) * 2 ^ s) = ((hi * 2 ^ s : Nat) : Int) by push_cast; rfl]; exact wrapn _ (by omega)
  have eL : IntKind.u64.wrap ((lo : Int) * 2 ^ s) = ((lo * 2 ^ s % 18446744073709551616 : Nat) : Int) := by rw [show ((lo : Int) * 2 ^ s) = ((lo * 2 ^ s : Nat) : Int) by push_cast; rfl, IntKind.wrap_u64]; rfl
  have eA : bits .or .u64 ((hi * 2 ^ s : Nat) : Int) ((lo : Int) / 2 ^ (64 - s)) = ((hi * 2 ^ s + lo / 2 ^ (64 - s) : Nat) : Int) := by
    rw [show ((lo : Int) / 2 ^ (64 - s)) = ((lo / 2 ^ (64 - s) : Nat) : Int) by push_cast; rfl, bits_or_u64_nat _ _ (by omega) (by omega), hor]
  have mask : ∀ a : Nat, a < 18446744073709551616 → bits .and .u64 (a : Int) 4294967295 = ((a % 4294967296 : Nat) : Int) := by
    intro a ha
    have h := bits_and_u64_nat a 4294967295 ha (by omega)
    rw [show a &&& 4294967295 = a % 4294967296 from Nat.and_two_pow_sub_one_eq_mod a 32] at h
    exact h
  have hN : (hi * 18446744073709551616 + lo) * 2 ^ s = (hi * 2 ^ s + lo / 2 ^ (64 - s)) * 18446744073709551616 + lo * 2 ^ s % 18446744073709551616 := by
    have := Nat.div_add_mod (lo * 2 ^ s) 18446744073709551616
    rw [hll] at this
    rw [Nat.add_mul, Nat.add_mul, Nat.mul_right_comm]
    omega
  have hY0 : 0 < y * 2 ^ s := by omega
  have hq := Nat.mul_div_mul_right (hi * 18446744073709551616 + lo) y hP
  have hm := Nat.mul_mod_mul_right (2 ^ s) (hi * 18446744073709551616 + lo) y
  have hLlt : lo * 2 ^ s % 18446744073709551616 < 18446744073709551616 := Nat.mod_lt _ (by decide)
  refine (div64_walk hi lo y s (y * 2 ^ s) (y * 2 ^ s / 4294967296) (y * 2 ^ s % 4294967296) (lo * 2 ^ s % 18446744073709551616) (lo * 2 ^ s % 18446744073709551616 / 4294967296) (lo * 2 ^ s % 18446744073709551616 % 4294967296) (hi * 2 ^ s) (hi * 2 ^ s + lo / 2 ^ (64 - s)) (by omega) (by omega) H hs63
    eY (by omega) (mask _ hYhi) eL (by omega) (mask _ hLlt) eH eA (by omega) (by omega) (by omega) (by omega) hA (by omega) (by omega) _ _ _ _ rfl rfl rfl rfl w).mono ?_
  rintro e w' ⟨rfl, hb⟩
  refine ⟨?_, hb⟩
  rw [hN] at hq hm
  obtain ⟨k1, k2⟩ := two_digits (hi * 2 ^ s + lo / 2 ^ (64 - s)) (lo * 2 ^ s % 18446744073709551616) (y * 2 ^ s) hY0
  rw [k1] at hq
  rw [k2] at hm
  rw [hq]
  have hR : ((((hi * 2 ^ s + lo / 2 ^ (64 - s)) * 4294967296 + lo * 2 ^ s % 18446744073709551616 / 4294967296) % (y * 2 ^ s) * 4294967296 + lo * 2 ^ s % 18446744073709551616 % 4294967296) % (y * 2 ^ s) : Nat) / 2 ^ s = (hi * 18446744073709551616 + lo) % y := by
    rw [hm, Nat.mul_comm ((hi * 18446744073709551616 + lo) % y), Nat.mul_div_cancel_left _ hP]
  rw [shr_cast, hR]
theorem div64_any (hi lo y : Nat) (hlo : lo < 18446744073709551616) (hy : y < 18446744073709551616) (h : hi < y) (w : World) :
    Calls Tryz.prog 196 #[.int .u64 hi, .int .u64 lo, .int .u64 y] w fun e w' => e = .returned (.tuple #[.int .u64 (((hi * 18446744073709551616 + lo) / y : Nat) : Int), .int .u64 (((hi * 18446744073709551616 + lo) % y : Nat) : Int)]) ∧ Below w.heap.size w w' := by
  rcases Nat.eq_zero_or_pos hi with rfl | h0
  · have := div64_zero lo y hlo hy h w
    simpa using this
  · exact div64_pos hi lo y hlo hy h0 h w
end Go.Proofs.YtmagjekmlnpfpaaGreat.TickW



/- tick's wide.over: the greatest whole number not above the quotient. -/
namespace Go.Proofs.YtmagjekmlnpfpaaGreat.TickW
open Go.RowKit
theorem xor_zero (x : Nat) (h : x < 18446744073709551616) : bits .xor .u64 (x : Int) 0 = (x : Int) := by
  have := bits_xor_u64_nat x 0 h (by omega)
  simpa using this
theorem xor_ones (x : Nat) (h : x < 18446744073709551616) : bits .xor .u64 (x : Int) 18446744073709551615 = ((18446744073709551615 - x : Nat) : Int) := by
  have h1 := bits_xor_u64_nat x 18446744073709551615 h (by omega)
  have e : x ^^^ 18446744073709551615 = 18446744073709551615 - x := by
    have h2 : (BitVec.ofNat 64 x ^^^ BitVec.allOnes 64).toNat = (~~~ (BitVec.ofNat 64 x)).toNat := by rw [BitVec.xor_allOnes]
    rw [BitVec.toNat_xor, BitVec.toNat_not, BitVec.toNat_ofNat, BitVec.toNat_allOnes, Nat.mod_eq_of_lt h] at h2
    exact h2
  rw [e] at h1
  exact h1
theorem ret_wide_set {fn : Func} {R : Ending → World → Prop} {p : Tmp} (h : fn.results = #[.cell p 225]) {tmps : Array Value} {W : World} {g : Nat} {x y a b : Value} {t : TypeId}
    (hp : tmps.getD p undef = .pointer (some ⟨g, 0, none⟩)) (hg : W.heap[g]? = some (.cells #[a, b] t (0, 0))) (hR : R (.returned (.agg #[x, y])) ((W.setCell ⟨g, 0, none⟩ x).setCell ⟨g, 1, none⟩ y)) :
    bodyPost Tryz.prog fn R .ret { tmps := tmps, defers := [] } ((W.setCell ⟨g, 0, none⟩ x).setCell ⟨g, 1, none⟩ y) :=
  ret_wide h hp (heap_setCell_same _ g 1 _ t y (heap_setCell_same W g 0 _ t x hg)) hR
theorem over_raw (hi lo fl c x1 x0 q1 r q0 r0 o1 o0 : Int) (w : World) (ef : IntKind.u64.wrap (wrap64 hi / 9223372036854775808) = fl) (ex1 : bits .xor .u64 hi fl = x1) (ex0 : bits .xor .u64 lo fl = x0)
    (H1 : ∀ W : World, Calls Tryz.prog 196 #[.int .u64 0, .int .u64 x1, .int .u64 c] W fun e w' => e = .returned (.tuple #[.int .u64 q1, .int .u64 r]) ∧ Below W.heap.size W w')
    (H2 : ∀ W : World, Calls Tryz.prog 196 #[.int .u64 r, .int .u64 x0, .int .u64 c] W fun e w' => e = .returned (.tuple #[.int .u64 q0, .int .u64 r0]) ∧ Below W.heap.size W w')
    (eo1 : bits .xor .u64 q1 fl = o1) (eo0 : bits .xor .u64 q0 fl = o0) :
    Calls Tryz.prog 164 #[.agg #[.int .u64 hi, .int .u64 lo], .int .u64 c] w fun e w' => e = .returned (.agg #[.int .u64 o1, .int .u64 o0]) ∧ Below w.heap.size w w' := by
  go_enter Tryz.func164, Tryz.ntmps164
  go_wp2_with fail
  have hb := al (al (Below.refl w.heap.size w) (Obj.cells #[.int .u64 hi, .int .u64 lo] 225)) (Obj.cells #[.int .u64 0, .int .u64 0] 225)
  have c0 := heap_alloc2_old w (Obj.cells #[.int .u64 hi, .int .u64 lo] 225) (Obj.cells #[.int .u64 0, .int .u64 0] 225)
  have c1 := heap_alloc2_new w (Obj.cells #[.int .u64 hi, .int .u64 lo] 225) (Obj.cells #[.int .u64 0, .int .u64 0] 225)
  generalize (w.alloc (Obj.cells #[.int .u64 hi, .int .u64 lo] 225)).alloc (Obj.cells #[.int .u64 0, .int .u64 0] 225) = W at *
  refine (H1 W).mono ?_
  rintro e W1 ⟨rfl, b1⟩
  have hb1 := hb.trans (b1.mono hb.size)
  have c0' := row_below b1 c0
  have c1' := row_below b1 c1
  have d0 := cell_of_row W1 w.heap.size 1 _ _ _ c0'
  clear c0 c1 c0' hb b1 H1
  go_wp2_with fail
  refine (H2 _).mono ?_
  rintro e W2 ⟨rfl, b2⟩
  have c2 := row_below b2 c1'
  have hb2 := hb1.trans (b2.mono hb1.size)
  have fr0 := frozen_of_row W2 (w.heap.size + 1) 0 _ _ c2
  have fr1 := frozen_of_row W2 (w.heap.size + 1) 1 _ _ c2
  have z0 := cell_of_row W2 (w.heap.size + 1) 0 _ _ _ c2
  have z1 := cell_of_row W2 (w.heap.size + 1) 1 _ _ _ c2
  have HC := Lib.hid c2
  have HB := Lib.hid hb2
  clear c2 hb2 c1' d0 hb1 b2 H2
  go_wp2
  exact ret_wide_set rfl rfl HC.out ⟨rfl, (HB.out.setCell (by simp) _).setCell (by simp) _⟩
theorem long_gen (N c B : Nat) (hc : 0 < c) : N / c = N / B / c * B + (N / B % c * B + N % B) / c := by
  have d1 := Nat.div_add_mod N B
  have d2 := Nat.div_add_mod (N / B) c
  have d3 := Nat.div_add_mod (N / B % c * B + N % B) c
  have r3 := Nat.mod_lt (N / B % c * B + N % B) hc
  generalize (N / B % c * B + N % B) / c = q0 at *
  generalize (N / B % c * B + N % B) % c = R at *
  generalize N / B % c = r at *
  generalize N / B / c = q1 at *
  refine (qr_of N c _ R ?_ r3).1
  rw [← d1, ← d2]
  have e1 : (q1 * B + q0) * c + R = c * q1 * B + (c * q0 + R) := by rw [Nat.add_mul, Nat.mul_right_comm, Nat.mul_comm q1, Nat.mul_comm q0, Nat.add_assoc]
  have e2 : B * (c * q1 + r) + N % B = c * q1 * B + (r * B + N % B) := by rw [Nat.mul_comm B, Nat.add_mul, Nat.add_assoc]
  rw [e1, d3, e2]
theorem long2 (N c : Nat) (hc : 0 < c) : N / c = N / 18446744073709551616 / c * 18446744073709551616 + (N / 18446744073709551616 % c * 18446744073709551616 + N % 18446744073709551616) / c :=
  long_gen N c 18446744073709551616 hc
theorem over_vars (x1 x0 c fl hi lo q1 r q0 r0 : Nat) (e1 : x1 / c = q1) (e2 : x1 % c = r) (e3 : (r * 18446744073709551616 + x0) / c = q0) (e4 : (r * 18446744073709551616 + x0) % c = r0)
    (hx1 : x1 < 18446744073709551616) (hx0 : x0 < 18446744073709551616) (hc : 0 < c) (hc2 : c < 18446744073709551616) (hr : r < c) (w : World)
    (ef : IntKind.u64.wrap (wrap64 (hi : Int) / 9223372036854775808) = (fl : Int)) (o1 o0 : Nat) (eh : bits .xor .u64 (hi : Int) (fl : Int) = (x1 : Int)) (el : bits .xor .u64 (lo : Int) (fl : Int) = (x0 : Int))
    (eo1 : bits .xor .u64 (q1 : Int) (fl : Int) = (o1 : Int)) (eo0 : bits .xor .u64 (q0 : Int) (fl : Int) = (o0 : Int)) :
    Calls Tryz.prog 164 #[.agg #[.int .u64 hi, .int .u64 lo], .int .u64 c] w fun e w' => e = .returned (.agg #[.int .u64 (o1 : Int), .int .u64 (o0 : Int)]) ∧ Below w.heap.size w w' := by
  have H1 : ∀ W : World, Calls Tryz.prog 196 #[.int .u64 0, .int .u64 (x1 : Int), .int .u64 (c : Int)] W fun e w' => e = .returned (.tuple #[.int .u64 (q1 : Int), .int .u64 (r : Int)]) ∧ Below W.heap.size W w' := by
    intro W
    have h := div64_any 0 x1 c hx1 hc2 hc W
    rw [Nat.zero_mul, Nat.zero_add, e1, e2] at h
    exact h
  have H2 : ∀ W : World, Calls Tryz.prog 196 #[.int .u64 (r : Int), .int .u64 (x0 : Int), .int .u64 (c : Int)] W fun e w' => e = .returned (.tuple #[.int .u64 (q0 : Int), .int .u64 (r0 : Int)]) ∧ Below W.heap.size W w' := by
    intro W
    have h := div64_any r x0 c hx0 hc2 hr W
    rw [e3, e4] at h
    exact h
  exact over_raw (hi : Int) (lo : Int) (fl : Int) (c : Int) (x1 : Int) (x0 : Int) (q1 : Int) (r : Int) (q0 : Int) (r0 : Int) (o1 : Int) (o0 : Int) w ef eh el H1 H2 eo1 eo0
theorem over_nat (N c fl hi lo : Nat) (hN : N < 170141183460469231731687303715884105728) (hc : 0 < c) (hc2 : c < 18446744073709551616) (w : World)
    (ef : IntKind.u64.wrap (wrap64 (hi : Int) / 9223372036854775808) = (fl : Int)) (F : Nat → Nat) (ex : ∀ x : Nat, x < 18446744073709551616 → bits .xor .u64 (x : Int) (fl : Int) = (F x : Int))
    (h1 : F hi = N / 18446744073709551616) (h0 : F lo = N % 18446744073709551616) (hhi : hi < 18446744073709551616) (hlo : lo < 18446744073709551616) :
    Calls Tryz.prog 164 #[.agg #[.int .u64 hi, .int .u64 lo], .int .u64 c] w fun e w' =>
      e = .returned (.agg #[.int .u64 (F (N / c / 18446744073709551616) : Int), .int .u64 (F (N / c % 18446744073709551616) : Int)]) ∧ Below w.heap.size w w' := by
  have hx1 : N / 18446744073709551616 < 18446744073709551616 := by omega
  have hx0 : N % 18446744073709551616 < 18446744073709551616 := by omega
  have eN := long2 N c hc
  have eh := ex hi hhi
  have el := ex lo hlo
  rw [h1] at eh
  rw [h0] at el
  clear h1 h0
  generalize N / 18446744073709551616 = x1 at *
  generalize N % 18446744073709551616 = x0 at *
  have hq1 : x1 / c ≤ x1 := Nat.div_le_self _ _
  have hr : x1 % c < c := Nat.mod_lt _ hc
  have hq0 : (x1 % c * 18446744073709551616 + x0) / c < 18446744073709551616 := by
    rw [Nat.div_lt_iff_lt_mul hc, Nat.mul_comm 18446744073709551616]
    have : (x1 % c + 1) * 18446744073709551616 ≤ c * 18446744073709551616 := Nat.mul_le_mul_right _ hr
    omega
  have V := over_vars x1 x0 c fl hi lo (x1 / c) (x1 % c) ((x1 % c * 18446744073709551616 + x0) / c) ((x1 % c * 18446744073709551616 + x0) % c) rfl rfl rfl rfl hx1 hx0 hc hc2 hr w ef _ _ eh el (ex _ (by omega)) (ex _ hq0)
  generalize (x1 % c * 18446744073709551616 + x0) / c = q0 at *
  generalize x1 / c = q1 at *
  rw [show N / c / 18446744073709551616 = q1 by omega, show N / c % 18446744073709551616 = q0 by omega]
  exact V
theorem neg_parts (N : Nat) : (-(N : Int) - 1) / 18446744073709551616 = -((N / 18446744073709551616 : Nat) : Int) - 1 ∧ (-(N : Int) - 1) % 18446744073709551616 = 18446744073709551615 - ((N % 18446744073709551616 : Nat) : Int) := by
  constructor <;> omega
theorem xor_ones' (fl : Nat) (hfl : fl = 18446744073709551615) (x : Nat) (h : x < 18446744073709551616) : bits .xor .u64 (x : Int) (fl : Int) = ((fl - x : Nat) : Int) := by
  have e : (fl : Int) = 18446744073709551615 := by omega
  rw [e, xor_ones x h, hfl]
/-- The greatest whole number not above the quotient, by any c above 0. -/
theorem over_any (z c : Int) (hl : -170141183460469231731687303715884105728 ≤ z) (hg : z < 170141183460469231731687303715884105728) (hc : 0 < c) (hc2 : c ≤ 9223372036854775807) (w : World) :
    Calls Tryz.prog 164 #[wv z, .int .u64 c] w fun e w' => e = .returned (wv (z / c)) ∧ Below w.heap.size w w' := by
  obtain ⟨c, rfl⟩ := Int.eq_ofNat_of_zero_le (show 0 ≤ c by omega)
  have hc' : 0 < c := by omega
  rcases Int.lt_or_le z 0 with h | h
  · obtain ⟨N, hN⟩ := Int.eq_ofNat_of_zero_le (show 0 ≤ -z - 1 by omega)
    have hz : z = -(N : Int) - 1 := by omega
    obtain ⟨hi, ehi⟩ := Int.eq_ofNat_of_zero_le (show 0 ≤ z / 18446744073709551616 % 18446744073709551616 by omega)
    obtain ⟨lo, elo⟩ := Int.eq_ofNat_of_zero_le (show 0 ≤ z % 18446744073709551616 by omega)
    have eq : z / (c : Int) = -((N / c : Nat) : Int) - 1 := by
      rw [hz, show -(N : Int) - 1 = Int.negSucc N by omega, Int.negSucc_ediv N (by omega)]
      have : ((N : Int).ediv (c : Int)) = ((N / c : Nat) : Int) := rfl
      rw [this]; omega
    obtain ⟨fl, hfl⟩ : ∃ fl : Nat, fl = 18446744073709551615 := ⟨_, rfl⟩
    have s1 : z / 18446744073709551616 = -((N / 18446744073709551616 : Nat) : Int) - 1 := by rw [hz]; exact (neg_parts N).1
    have s2 : z % 18446744073709551616 = 18446744073709551615 - ((N % 18446744073709551616 : Nat) : Int) := by rw [hz]; exact (neg_parts N).2
    have s3 : N / 18446744073709551616 < 9223372036854775808 := by clear ehi elo s1 s2 eq; omega
    have s4 : N % 18446744073709551616 < 18446744073709551616 := Nat.mod_lt _ (by decide)
    have hN2 : N < 170141183460469231731687303715884105728 := by clear ehi elo s1 s2 eq s3 s4; omega
    have t1 : fl - hi = N / 18446744073709551616 := by rw [s1] at ehi; clear hN hz hN2 s2 elo eq hl hg h s4; generalize N / 18446744073709551616 = a at *; omega
    have t2 : fl - lo = N % 18446744073709551616 := by rw [s2] at elo; clear hN hz hN2 s1 ehi eq hl hg h s3 t1; generalize N % 18446744073709551616 = a at *; omega
    have t3 : hi < 18446744073709551616 := by clear hN hz hN2 s1 s2 s3 s4 t1 t2 elo eq hl hg h; omega
    have t4 : lo < 18446744073709551616 := by clear hN hz hN2 s1 s2 s3 s4 t1 t2 t3 ehi eq hl hg h; omega
    have t5 : 9223372036854775808 ≤ hi := by clear hN hz hN2 s1 s2 s4 t2 elo eq hl hg h ehi; generalize N / 18446744073709551616 = a at *; omega
    have t6 : IntKind.u64.wrap (wrap64 (hi : Int) / 9223372036854775808) = (fl : Int) := by rw [IntKind.wrap_u64]; unfold wrap64; clear hN hz hN2 s1 s2 s3 s4 t1 t2 t4 elo eq hl hg h ehi; omega
    have := over_nat N c fl hi lo hN2 hc' (by omega) w t6 (fun x => fl - x) (xor_ones' fl hfl) t1 t2 t3 t4
    unfold wv
    rw [ehi, elo, eq]
    refine this.mono ?_
    rintro e w' ⟨rfl, hb⟩
    refine ⟨?_, hb⟩
    have hle : N / c ≤ N := Nat.div_le_self _ _
    generalize N / c = Q at *
    rw [show (-(Q : Int) - 1) / 18446744073709551616 % 18446744073709551616 = ((fl - Q / 18446744073709551616 : Nat) : Int) by omega, show (-(Q : Int) - 1) % 18446744073709551616 = ((fl - Q % 18446744073709551616 : Nat) : Int) by omega]
  · obtain ⟨N, rfl⟩ := Int.eq_ofNat_of_zero_le h
    obtain ⟨hi, ehi⟩ := Int.eq_ofNat_of_zero_le (show 0 ≤ (N : Int) / 18446744073709551616 % 18446744073709551616 by omega)
    obtain ⟨lo, elo⟩ := Int.eq_ofNat_of_zero_le (show 0 ≤ (N : Int) % 18446744073709551616 by omega)
    have := over_nat N c 0 hi lo (by omega) hc' (by omega) w (by rw [IntKind.wrap_u64]; unfold wrap64; omega) (fun x => x) xor_zero (by show hi = _; omega) (by show lo = _; omega) (by omega) (by omega)
    unfold wv
    rw [ehi, elo, ← Int.natCast_ediv]
    refine this.mono ?_
    rintro e w' ⟨rfl, hb⟩
    refine ⟨?_, hb⟩
    have hle : N / c ≤ N := Nat.div_le_self _ _
    generalize N / c = Q at *
    rw [show (Q : Int) / 18446744073709551616 % 18446744073709551616 = ((Q / 18446744073709551616 : Nat) : Int) by omega, show (Q : Int) % 18446744073709551616 = ((Q % 18446744073709551616 : Nat) : Int) by omega]
end Go.Proofs.YtmagjekmlnpfpaaGreat.TickW



/- tick.Add, Sub, Mul, MulDiv: of any numbers, by their reckonings. -/
namespace Go.Proofs.YtmagjekmlnpfpaaGreat.TickW
open Go.RowKit
def ansV (z : Int) : Value := if -9223372036854775808 ≤ z ∧ z ≤ 9223372036854775807 then .tuple #[.int .i64 z, .int .i64 0] else .tuple #[.int .i64 0, .int .i64 4]
theorem answer_any (K : FuncId) (hK : ∀ args w, (callFunc K args).run Tryz.prog w = .ok (.enter K args) w) (caps : Array Value) (z : Int) (hl : -170141183460469231731687303715884105728 ≤ z) (hg : z < 170141183460469231731687303715884105728) (w : World)
    (H : ∀ W, Below w.heap.size w W → Calls Tryz.prog K caps W fun e w' => e = .returned (wv z) ∧ Below W.heap.size W w') :
    Calls Tryz.prog 161 #[.func (.func K) #[] caps] w fun e w' => e = .returned (ansV z) ∧ Below w.heap.size w w' := by
  unfold ansV
  by_cases h : -9223372036854775808 ≤ z ∧ z ≤ 9223372036854775807
  · rw [if_pos h]; exact answer_in K hK caps z h.1 h.2 w H
  · rw [if_neg h]; exact answer_out K hK caps z (by omega) hl hg w H
theorem set2_keep {w : World} {p : Addr} {v : Value} {g : Nat} (h : w.cell? p = some v) (hp : p.block < g) (x y : Value) : ((w.setCell ⟨g, 0, none⟩ x).setCell ⟨g, 1, none⟩ y).cell? p = some v := by
  have b1 : Below g w ((w.setCell ⟨g, 0, none⟩ x).setCell ⟨g, 1, none⟩ y) := ((Below.refl g w).setCell (Nat.le_refl _) _).setCell (Nat.le_refl _) _
  exact (b1.cell hp).trans h
theorem ansV_tuple (z : Int) : ∃ n k : Int, ansV z = .tuple #[.int .i64 n, .int .i64 k] := by
  unfold ansV
  by_cases h : -9223372036854775808 ≤ z ∧ z ≤ 9223372036854775807
  · rw [if_pos h]; exact ⟨_, _, rfl⟩
  · rw [if_neg h]; exact ⟨_, _, rfl⟩
theorem mul_reckon (p q : Addr) (a b : Int) (ha0 : -9223372036854775808 ≤ a) (ha1 : a ≤ 9223372036854775807) (hb0 : -9223372036854775808 ≤ b) (hb1 : b ≤ 9223372036854775807) (w : World) (hp : w.cell? p = some (.int .i64 a)) (hq : w.cell? q = some (.int .i64 b)) :
    Calls Tryz.prog 204 #[.pointer (some p), .pointer (some q)] w fun e w' => e = .returned (wv (a * b)) ∧ Below w.heap.size w w' := by
  have Hp := fun W => product_any a b ha0 ha1 hb0 hb1 W
  obtain ⟨s1, s0, hs⟩ : ∃ s1 s0 : Int, wv (a * b) = .agg #[.int .u64 s1, .int .u64 s0] := ⟨_, _, rfl⟩
  rw [hs] at Hp ⊢
  clear ha0 ha1 hb0 hb1 hs
  have hb := al (Below.refl w.heap.size w) (Obj.cells #[.int .u64 0, .int .u64 0] 225)
  have hp1 := cell_keep hp hb
  have hq1 := cell_keep hq hb
  clear hb
  go_enter Tryz.func204, Tryz.ntmps204
  go_wp2_with fail
  have hb := al (Below.refl w.heap.size w) (Obj.cells #[.int .u64 0, .int .u64 0] 225)
  have c0 := heap_alloc_new w (Obj.cells #[.int .u64 0, .int .u64 0] 225)
  generalize w.alloc (Obj.cells #[.int .u64 0, .int .u64 0] 225) = W at *
  refine (Hp W).mono ?_
  rintro e w3 ⟨rfl, b3⟩
  have HB := Lib.hid (hb.trans (b3.mono hb.size))
  have r4 := Lib.hid (row_below b3 c0)
  have z0 := cell_of_row w3 w.heap.size 0 _ _ _ r4.out
  have z1 := cell_of_row w3 w.heap.size 1 _ _ _ r4.out
  have fr0 := frozen_of_row w3 w.heap.size 0 _ _ r4.out
  have fr1 := frozen_of_row w3 w.heap.size 1 _ _ r4.out
  clear hp1 hq1 hp hq hb c0 b3
  go_wp2
  exact ret_wide_set rfl rfl r4.out ⟨rfl, (HB.out.setCell (Nat.le_refl _) _).setCell (Nat.le_refl _) _⟩
theorem mul_bounds (a b : Int) (ha0 : -9223372036854775808 ≤ a) (ha1 : a ≤ 9223372036854775807) (hb0 : -9223372036854775808 ≤ b) (hb1 : b ≤ 9223372036854775807) : -170141183460469231731687303715884105728 ≤ a * b ∧ a * b < 170141183460469231731687303715884105728 := by
  have hn : (a * b).natAbs ≤ 9223372036854775808 * 9223372036854775808 := by
    rw [Int.natAbs_mul]
    exact Nat.mul_le_mul (by omega) (by omega)
  generalize a * b = z at *
  omega
theorem mul_any (a b : Int) (ha0 : -9223372036854775808 ≤ a) (ha1 : a ≤ 9223372036854775807) (hb0 : -9223372036854775808 ≤ b) (hb1 : b ≤ 9223372036854775807) (w : World) :
    Calls Tryz.prog 177 #[.int .i64 a, .int .i64 b] w fun e w' => e = .returned (ansV (a * b)) ∧ Below w.heap.size w w' := by
  have hmf : ∀ (fn : Fn) (first cap : Array Value) (w : World), (Instr.makeFunc fn first cap).run Tryz.prog w = .ok (.func fn first cap) w := fun _ _ _ _ => rfl
  go_enter Tryz.func177, Tryz.ntmps177
  go_wp2_with fail
  have hb := al (al (Below.refl w.heap.size w) (Obj.cells #[.int .i64 a] 2)) (Obj.cells #[.int .i64 b] 2)
  have c0 := heap_alloc2_old w (Obj.cells #[.int .i64 a] 2) (Obj.cells #[.int .i64 b] 2)
  have c1 := heap_alloc2_new w (Obj.cells #[.int .i64 a] 2) (Obj.cells #[.int .i64 b] 2)
  generalize (w.alloc (Obj.cells #[.int .i64 a] 2)).alloc (Obj.cells #[.int .i64 b] 2) = W at *
  refine (answer_any 204 (fun args w => enters_of Tryz.func204 (by kernel_rfl) rfl args w) _ (a * b) (mul_bounds a b ha0 ha1 hb0 hb1).1 (mul_bounds a b ha0 ha1 hb0 hb1).2 W (fun W2 b2 => mul_reckon _ _ a b ha0 ha1 hb0 hb1 W2 (cell_of_row W2 _ 0 _ _ _ (row_below b2 c0)) (cell_of_row W2 _ 0 _ _ _ (row_below b2 c1)))).mono ?_
  rintro e w2 ⟨rfl, b2⟩
  obtain ⟨n, k, hk⟩ := ansV_tuple (a * b)
  rw [hk]
  go_wp2
  go_ret2
  exact ⟨by rw [hk]; rfl, hb.trans (b2.mono hb.size)⟩
end Go.Proofs.YtmagjekmlnpfpaaGreat.TickW



/- tick.MulDiv, Sum's reckoning, Half, Clamp. -/
namespace Go.Proofs.YtmagjekmlnpfpaaGreat.TickW
open Go.RowKit
set_option maxHeartbeats 1000000 in
theorem muldiv_reckon (p q r : Addr) (a b c : Int) (ha0 : -9223372036854775808 ≤ a) (ha1 : a ≤ 9223372036854775807) (hb0 : -9223372036854775808 ≤ b) (hb1 : b ≤ 9223372036854775807) (hc0 : 0 < c) (hc1 : c ≤ 9223372036854775807) (w : World)
    (hp : w.cell? p = some (.int .i64 a)) (hq : w.cell? q = some (.int .i64 b)) (hr : w.cell? r = some (.int .i64 c)) :
    Calls Tryz.prog 162 #[.pointer (some p), .pointer (some q), .pointer (some r)] w fun e w' => e = .returned (wv (a * b / c)) ∧ Below w.heap.size w w' := by
  have hm := mul_bounds a b ha0 ha1 hb0 hb1
  have Ha := fun W => product_any a b ha0 ha1 hb0 hb1 W
  have Hp := fun W => over_any (a * b) c hm.1 hm.2 hc0 hc1 W
  have ec : IntKind.u64.wrap c = c := by rw [IntKind.wrap_u64]; omega
  obtain ⟨s1, s0, hs⟩ : ∃ s1 s0 : Int, wv (a * b / c) = .agg #[.int .u64 s1, .int .u64 s0] := ⟨_, _, rfl⟩
  rw [hs] at Hp ⊢
  clear ha0 ha1 hb0 hb1 hs hm hc0 hc1
  generalize a * b = m at *
  have LP := Lib.hid (Lib.lt_of_cell hp)
  have LQ := Lib.hid (Lib.lt_of_cell hq)
  have LR := Lib.hid (Lib.lt_of_cell hr)
  have P := Lib.hid hp
  have Q := Lib.hid hq
  have R := Lib.hid hr
  clear hp hq hr
  go_enter Tryz.func162, Tryz.ntmps162
  go_wp2_with fail
  have hb := al (Below.refl w.heap.size w) (Obj.cells #[.int .u64 0, .int .u64 0] 225)
  have c0 := heap_alloc_new w (Obj.cells #[.int .u64 0, .int .u64 0] 225)
  generalize w.alloc (Obj.cells #[.int .u64 0, .int .u64 0] 225) = W at *
  have P1 := Lib.hid (cell_keep P.out hb)
  have Q1 := Lib.hid (cell_keep Q.out hb)
  have R1 := Lib.hid (cell_keep R.out hb)
  have HB := Lib.hid hb
  have HC := Lib.hid c0
  clear hb c0
  go_region_held3 (fun w' => w'.cell? p = some (.int .i64 a) ∧ w'.cell? q = some (.int .i64 b) ∧ w'.cell? r = some (.int .i64 c)) (first | exact ⟨P1.out, Q1.out, R1.out⟩ | exact ⟨g2.out, h2.out, i2.out⟩ | exact ⟨g4.out, h4.out, i4.out⟩ | exact ⟨set2_keep g4.out LP.out _ _, set2_keep h4.out LQ.out _ _, set2_keep i4.out LR.out _ _⟩) (first
    | (go_at_call 163; (with_reducible refine (Ha _).mono ?_); rintro e w1 ⟨rfl, b1⟩; have g2 := Lib.hid (cell_keep (show W.drew.cell? _ = some _ from P1.out) b1); have h2 := Lib.hid (cell_keep (show W.drew.cell? _ = some _ from Q1.out) b1); have i2 := Lib.hid (cell_keep (show W.drew.cell? _ = some _ from R1.out) b1); have r2 := Lib.hid (row_below b1 (show W.drew.heap[w.heap.size]? = _ from HC.out)); have k2 := Lib.hid (HB.out.trans ((of_drew b1).mono HB.out.size)); clear b1)
    | (go_at_call 164; (with_reducible refine (Hp _).mono ?_); rintro e w3 ⟨rfl, b3⟩; have g4 := Lib.hid (cell_keep g2.out b3); have h4 := Lib.hid (cell_keep h2.out b3); have i4 := Lib.hid (cell_keep i2.out b3); have r4 := Lib.hid (row_below b3 r2.out); have k4 := Lib.hid (k2.out.trans (b3.mono k2.out.size)); have z0 : w3.cell? ⟨w.heap.size, 0, none⟩ = some (.int .u64 0) := cell_of_row w3 w.heap.size 0 _ _ _ r4.out; have z1 : w3.cell? ⟨w.heap.size, 1, none⟩ = some (.int .u64 0) := cell_of_row w3 w.heap.size 1 _ _ _ r4.out; have fr0 := frozen_of_row w3 w.heap.size 0 _ _ r4.out; have fr1 := frozen_of_row w3 w.heap.size 1 _ _ r4.out; clear b3))
  go_wp2
  exact ret_wide_set rfl rfl r4.out ⟨rfl, (k4.out.setCell (Nat.le_refl _) _).setCell (Nat.le_refl _) _⟩
theorem div_bounds (a b c : Int) (ha0 : -9223372036854775808 ≤ a) (ha1 : a ≤ 9223372036854775807) (hb0 : -9223372036854775808 ≤ b) (hb1 : b ≤ 9223372036854775807) : -170141183460469231731687303715884105728 ≤ a * b / c ∧ a * b / c < 170141183460469231731687303715884105728 := by
  have h0 : (a * b).natAbs ≤ 9223372036854775808 * 9223372036854775808 := by
    rw [Int.natAbs_mul]
    exact Nat.mul_le_mul (by omega) (by omega)
  generalize a * b = z at *
  have e := Int.natAbs_ediv_le_natAbs z c
  generalize z / c = q at *
  omega
theorem muldiv_any (a b c : Int) (ha0 : -9223372036854775808 ≤ a) (ha1 : a ≤ 9223372036854775807) (hb0 : -9223372036854775808 ≤ b) (hb1 : b ≤ 9223372036854775807) (hc0 : 0 < c) (hc1 : c ≤ 9223372036854775807) (w : World) :
    Calls Tryz.prog 134 #[.int .i64 a, .int .i64 b, .int .i64 c] w fun e w' => e = .returned (ansV (a * b / c)) ∧ Below w.heap.size w w' := by
  have hmf : ∀ (fn : Fn) (first cap : Array Value) (w : World), (Instr.makeFunc fn first cap).run Tryz.prog w = .ok (.func fn first cap) w := fun _ _ _ _ => rfl
  have kc : ¬ c ≤ 0 := by omega
  go_enter Tryz.func134, Tryz.ntmps134
  go_wp2_with fail
  have hb := al (al (al (Below.refl w.heap.size w) (Obj.cells #[.int .i64 a] 2)) (Obj.cells #[.int .i64 b] 2)) (Obj.cells #[.int .i64 c] 2)
  have c0 := (Below.heap_alloc ((w.alloc (Obj.cells #[.int .i64 a] 2)).alloc (Obj.cells #[.int .i64 b] 2)) (Obj.cells #[.int .i64 c] 2) w.heap.size (by simp; omega)).trans (heap_alloc2_old w (Obj.cells #[.int .i64 a] 2) (Obj.cells #[.int .i64 b] 2))
  have c1 := (Below.heap_alloc ((w.alloc (Obj.cells #[.int .i64 a] 2)).alloc (Obj.cells #[.int .i64 b] 2)) (Obj.cells #[.int .i64 c] 2) (w.heap.size + 1) (by simp)).trans (heap_alloc2_new w (Obj.cells #[.int .i64 a] 2) (Obj.cells #[.int .i64 b] 2))
  have c2 : (((w.alloc (Obj.cells #[.int .i64 a] 2)).alloc (Obj.cells #[.int .i64 b] 2)).alloc (Obj.cells #[.int .i64 c] 2)).heap[w.heap.size + 1 + 1]? = some (Obj.cells #[.int .i64 c] 2) := heap_at (by simp) _
  generalize ((w.alloc (Obj.cells #[.int .i64 a] 2)).alloc (Obj.cells #[.int .i64 b] 2)).alloc (Obj.cells #[.int .i64 c] 2) = W at *
  refine (answer_any 162 (fun args w => enters_of Tryz.func162 (by kernel_rfl) rfl args w) _ (a * b / c) (div_bounds a b c ha0 ha1 hb0 hb1).1 (div_bounds a b c ha0 ha1 hb0 hb1).2 W (fun W2 b2 => muldiv_reckon _ _ _ a b c ha0 ha1 hb0 hb1 hc0 hc1 W2 (cell_of_row W2 _ 0 _ _ _ (row_below b2 c0)) (cell_of_row W2 _ 0 _ _ _ (row_below b2 c1)) (cell_of_row W2 _ 0 _ _ _ (row_below b2 c2)))).mono ?_
  rintro e w2 ⟨rfl, b2⟩
  obtain ⟨n, k, hk⟩ := ansV_tuple (a * b / c)
  rw [hk]
  go_wp2
  go_ret2
  exact ⟨by rw [hk]; rfl, hb.trans (b2.mono hb.size)⟩
theorem half_raw (a b : Int) (w : World) :
    Calls Tryz.prog 120 #[.int .i64 a, .int .i64 b] w fun e w' => e = .returned (.int .i64 (wrap64 (bits .and .i64 a b + bits .xor .i64 a b / 2))) ∧ w = w' := by
  go_enter Tryz.func120, Tryz.ntmps120
  go_wp2
  go_ret
  exact ⟨rfl, rfl⟩
theorem nat_and_xor : ∀ (n a b : Nat), a < 2 ^ n → b < 2 ^ n → 2 * (a &&& b) + (a ^^^ b) = a + b := by
  intro n
  induction n with
  | zero => intro a b ha hb; have : a = 0 := by omega
            have : b = 0 := by omega
            subst_vars; rfl
  | succ n ih =>
    intro a b ha hb
    have h := ih (a / 2) (b / 2) (by rw [Nat.pow_succ] at ha; omega) (by rw [Nat.pow_succ] at hb; omega)
    have e1 : (a &&& b) / 2 = a / 2 &&& b / 2 := Nat.and_div_two
    have e2 : (a ^^^ b) / 2 = a / 2 ^^^ b / 2 := Nat.xor_div_two
    have e3 : (a &&& b) % 2 = if a % 2 = 1 ∧ b % 2 = 1 then 1 else 0 := by
      have := @Nat.and_mod_two_pow a b 1
      rw [Nat.pow_one] at this
      rw [this]
      rcases Nat.mod_two_eq_zero_or_one a with h1 | h1 <;> rcases Nat.mod_two_eq_zero_or_one b with h2 | h2 <;> rw [h1, h2] <;> decide
    have e4 : (a ^^^ b) % 2 = if a % 2 = b % 2 then 0 else 1 := by
      have := @Nat.xor_mod_two_pow a b 1
      rw [Nat.pow_one] at this
      rw [this]
      rcases Nat.mod_two_eq_zero_or_one a with h1 | h1 <;> rcases Nat.mod_two_eq_zero_or_one b with h2 | h2 <;> rw [h1, h2] <;> decide
    rw [← e1, ← e2] at h
    generalize a &&& b = u at *
    generalize a ^^^ b = v at *
    split at e3 <;> split at e4 <;> omega
theorem top_and (A B : Nat) : (A &&& B) / 9223372036854775808 = (A / 9223372036854775808) &&& (B / 9223372036854775808) := by
  have := @Nat.and_div_two_pow A B 63
  rw [show (2 : Nat) ^ 63 = 9223372036854775808 from by decide] at this
  exact this
theorem top_xor (A B : Nat) : (A ^^^ B) / 9223372036854775808 = (A / 9223372036854775808) ^^^ (B / 9223372036854775808) := by
  have := @Nat.xor_div_two_pow A B 63
  rw [show (2 : Nat) ^ 63 = 9223372036854775808 from by decide] at this
  exact this
theorem half_nums (a b : Int) (A B u v p q r s : Nat) (hs : 2 * u + v = A + B) (hA : (A : Int) = a + 18446744073709551616 * p) (hB : (B : Int) = b + 18446744073709551616 * q)
    (hu : u / 9223372036854775808 = r) (hv : v / 9223372036854775808 = s) (h : 2 * r + s = p + q) (hr : r ≤ 1) (hs1 : s ≤ 1)
    (ha0 : -9223372036854775808 ≤ a) (ha1 : a ≤ 9223372036854775807) (hb0 : -9223372036854775808 ≤ b) (hb1 : b ≤ 9223372036854775807) :
    wrap64 (wrap64 (u : Int) + wrap64 (v : Int) / 2) = (a + b) / 2 := by
  have e1 : wrap64 (u : Int) = (u : Int) - 18446744073709551616 * r := by clear hs hA hB hv h; unfold wrap64; omega
  have e2 : wrap64 (v : Int) = (v : Int) - 18446744073709551616 * s := by clear hs hA hB hu h e1; unfold wrap64; omega
  rw [e1, e2]
  have e3 : (u : Int) - 18446744073709551616 * r + ((v : Int) - 18446744073709551616 * s) / 2 = (a + b) / 2 := by clear hu hv e1 e2; omega
  rw [e3]
  clear e1 e2 e3 hs hA hB hu hv h
  unfold wrap64
  omega
theorem half_eq (a b : Int) (ha0 : -9223372036854775808 ≤ a) (ha1 : a ≤ 9223372036854775807) (hb0 : -9223372036854775808 ≤ b) (hb1 : b ≤ 9223372036854775807) :
    wrap64 (bits .and .i64 a b + bits .xor .i64 a b / 2) = (a + b) / 2 := by
  have e1 : bits .and .i64 a b = IntKind.i64.wrap ((BitVec.ofInt 64 a &&& BitVec.ofInt 64 b).toNat : Int) := rfl
  have e2 : bits .xor .i64 a b = IntKind.i64.wrap ((BitVec.ofInt 64 a ^^^ BitVec.ofInt 64 b).toNat : Int) := rfl
  have w64 : ∀ n : Int, IntKind.i64.wrap n = wrap64 n := fun n => by unfold wrap64; exact IntKind.wrap_i64 n
  rw [e1, e2, BitVec.toNat_and, BitVec.toNat_xor, w64, w64]
  have lt1 := (BitVec.ofInt 64 a).isLt
  have lt2 := (BitVec.ofInt 64 b).isLt
  have F : ∀ x : Int, -9223372036854775808 ≤ x → x ≤ 9223372036854775807 → ∃ p : Nat, p ≤ 1 ∧ ((BitVec.ofInt 64 x).toNat : Int) = x + 18446744073709551616 * p ∧ (BitVec.ofInt 64 x).toNat / 9223372036854775808 = p := by
    intro x h0 h1
    have t : (BitVec.ofInt 64 x).toNat = (x % 18446744073709551616).toNat := by rw [BitVec.toNat_ofInt]; rfl
    rw [t]
    rcases Int.lt_or_le x 0 with h | h
    · exact ⟨1, by decide, by omega, by omega⟩
    · exact ⟨0, by decide, by omega, by omega⟩
  obtain ⟨p, hp1, hp2, hp3⟩ := F a ha0 ha1
  obtain ⟨q, hq1, hq2, hq3⟩ := F b hb0 hb1
  have hsum := nat_and_xor 64 _ _ lt1 lt2
  have d1 := top_and (BitVec.ofInt 64 a).toNat (BitVec.ofInt 64 b).toNat
  have d2 := top_xor (BitVec.ofInt 64 a).toNat (BitVec.ofInt 64 b).toNat
  rw [hp3, hq3] at d1 d2
  have G : ∀ p q : Nat, p ≤ 1 → q ≤ 1 → 2 * (p &&& q) + (p ^^^ q) = p + q ∧ (p &&& q) ≤ 1 ∧ (p ^^^ q) ≤ 1 := by
    intro p q h1 h2
    rcases (show p = 0 ∨ p = 1 by omega) with rfl | rfl <;> rcases (show q = 0 ∨ q = 1 by omega) with rfl | rfl <;> decide
  obtain ⟨g1, g2, g3⟩ := G p q hp1 hq1
  clear lt1 lt2 F G hp3 hq3
  generalize (BitVec.ofInt 64 a).toNat = A at *
  generalize (BitVec.ofInt 64 b).toNat = B at *
  generalize A &&& B = u at *
  generalize A ^^^ B = v at *
  generalize p &&& q = r at *
  generalize p ^^^ q = t at *
  have H := half_nums a b A B u v p q r t hsum hp2 hq2 d1 d2 g1 g2 g3 ha0 ha1 hb0 hb1
  exact H
theorem half_any (a b : Int) (ha0 : -9223372036854775808 ≤ a) (ha1 : a ≤ 9223372036854775807) (hb0 : -9223372036854775808 ≤ b) (hb1 : b ≤ 9223372036854775807) (w : World) :
    Calls Tryz.prog 120 #[.int .i64 a, .int .i64 b] w fun e w' => e = .returned (.int .i64 ((a + b) / 2)) ∧ w = w' := by
  rw [← half_eq a b ha0 ha1 hb0 hb1]
  exact half_raw a b w
end Go.Proofs.YtmagjekmlnpfpaaGreat.TickW


