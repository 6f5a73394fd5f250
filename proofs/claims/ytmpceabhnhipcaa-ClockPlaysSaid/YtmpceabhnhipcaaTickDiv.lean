/- math/bits.Div64, walked: of 128 bits, by 64, where the quotient fits. -/
import Derived.Test.YtmpceabhnhipcaaTickWide
import Derived.Test.YtmpceabhnhipcaaShelf
import Derived.Deep.DeepCutAuto
import Derived.Deep.CutBlock
import Derived.BigRegion
import Derived.Lib.ItoaNum
import Derived.Shelf.Small.Bits
namespace Go.Proofs.Ytmpceabhnhipcaa.TickW
open Go.RowKit
theorem wrapn (n : Nat) (h : n < 18446744073709551616) : IntKind.u64.wrap (n : Int) = (n : Int) := by rw [IntKind.wrap_u64]; omega
theorem div64_zero (lo y : Nat) (hlo : lo < 18446744073709551616) (hy : y < 18446744073709551616) (h : 0 < y) (w : World) :
    Calls Try.prog 52 #[.int .u64 0, .int .u64 lo, .int .u64 y] w fun e w' => e = .returned (.tuple #[.int .u64 ((lo / y : Nat) : Int), .int .u64 ((lo % y : Nat) : Int)]) ∧ Below w.heap.size w w' := by
  have k0 : ((y : Int) == 0) = false := by simp; omega
  have k1 : ¬ ((y : Int) ≤ 0) := by omega
  have k2 : ¬ ((y : Int) = 0) := by omega
  have hq : lo / y ≤ lo := Nat.div_le_self _ _
  have e1 : IntKind.u64.wrap ((lo : Int) / (y : Int)) = ((lo / y : Nat) : Int) := by
    rw [← Int.natCast_ediv]; exact wrapn _ (by generalize lo / y = z at *; omega)
  have E := Lib.hid e1
  clear e1
  go_enter Try.func52, Try.ntmps52
  go_wp2
  go_region
  go_wp2
  go_ret2
  exact ⟨by rw [E.out]; rfl, (Below.refl _ _).drew⟩
theorem k_step (A u Y y1 y0 q r : Nat) (hY : Y = y1 * 4294967296 + y0) (hA : A < Y) (hu : u < 4294967296) (hJ : q * y1 + r = A)
    (h : 4294967296 ≤ q ∨ 4294967296 * r + u < q * y0) : 1 ≤ q ∧ (A * 4294967296 + u) / Y ≤ q - 1 := by
  have hpos : 0 < Y := by omega
  have key : (A * 4294967296 + u) / Y < q := by
    rw [Nat.div_lt_iff_lt_mul hpos]
    rcases h with h | h
    · have : 4294967296 * Y ≤ q * Y := Nat.mul_le_mul_right _ h
      omega
    · rw [hY, Nat.mul_add, ← Nat.mul_assoc]
      generalize q * y1 = m at *
      generalize q * y0 = k at *
      omega
  generalize (A * 4294967296 + u) / Y = t at *
  omega
theorem k_end (A u Y y1 y0 q r : Nat) (hY : Y = y1 * 4294967296 + y0) (hA : A < Y) (hJ : q * y1 + r = A) (hq : (A * 4294967296 + u) / Y ≤ q)
    (h : q * y0 ≤ 4294967296 * r + u) : q = (A * 4294967296 + u) / Y := by
  have hpos : 0 < Y := by omega
  have key : q ≤ (A * 4294967296 + u) / Y := by
    rw [Nat.le_div_iff_mul_le hpos, hY, Nat.mul_add, ← Nat.mul_assoc]
    generalize q * y1 = m at *
    generalize q * y0 = k at *
    omega
  generalize (A * 4294967296 + u) / Y = t at *
  omega
theorem k_start (A u Y y1 y0 : Nat) (hY : Y = y1 * 4294967296 + y0) (h0 : y0 < 4294967296) (h1 : 2147483648 ≤ y1) (hA : A < Y) (hu : u < 4294967296) :
    A / y1 * y1 + A % y1 = A ∧ (A * 4294967296 + u) / Y ≤ A / y1 ∧ A / y1 ≤ 4294967297 := by
  have hp : 0 < y1 := by omega
  have hpos : 0 < Y := by omega
  refine ⟨by rw [Nat.mul_comm]; exact Nat.div_add_mod _ _, ?_, ?_⟩
  · rw [Nat.le_div_iff_mul_le hp]
    have h2 : (A * 4294967296 + u) / Y * Y ≤ A * 4294967296 + u := Nat.div_mul_le_self _ _
    rw [hY, Nat.mul_add, ← Nat.mul_assoc, ← hY] at h2
    generalize (A * 4294967296 + u) / Y * y1 = m at *
    generalize (A * 4294967296 + u) / Y * y0 = k at *
    omega
  · have : A / y1 < 4294967298 := by
      rw [Nat.div_lt_iff_lt_mul hp]
      omega
    omega
theorem rem_eqs (A u Y : Nat) (hY : 0 < Y) (hM : Y < 18446744073709551616) : ∃ a1 a2 a3 : Nat, IntKind.u64.wrap ((A : Int) * 4294967296) = (a1 : Int) ∧ IntKind.u64.wrap ((a1 : Int) + (u : Int)) = (a2 : Int) ∧
    IntKind.u64.wrap ((((A * 4294967296 + u) / Y : Nat) : Int) * (Y : Int)) = (a3 : Int) ∧ IntKind.u64.wrap ((a2 : Int) - (a3 : Int)) = (((A * 4294967296 + u) % Y : Nat) : Int) := by
  have e := Nat.div_add_mod (A * 4294967296 + u) Y
  have hl := Nat.mod_lt (A * 4294967296 + u) hY
  refine ⟨(A * 4294967296) % 18446744073709551616, (A * 4294967296 + u) % 18446744073709551616, ((A * 4294967296 + u) / Y * Y) % 18446744073709551616, ?_, ?_, ?_, ?_⟩
  · rw [IntKind.wrap_u64]; omega
  · rw [IntKind.wrap_u64]; omega
  · rw [IntKind.wrap_u64, ← Int.natCast_mul]; rfl
  · rw [IntKind.wrap_u64]
    rw [Nat.mul_comm] at e
    generalize (A * 4294967296 + u) / Y * Y = z at *
    generalize (A * 4294967296 + u) % Y = v at *
    omega
theorem start_eqs (A y1 : Nat) (hA : A < 18446744073709551616) : ∃ m : Nat, A / y1 * y1 = m ∧ IntKind.u64.wrap ((A : Int) / (y1 : Int)) = ((A / y1 : Nat) : Int) ∧ IntKind.u64.wrap (((A / y1 : Nat) : Int) * (y1 : Int)) = (m : Int) ∧ IntKind.u64.wrap ((A : Int) - (m : Int)) = ((A % y1 : Nat) : Int) := by
  have e : A / y1 * y1 + A % y1 = A := by rw [Nat.mul_comm]; exact Nat.div_add_mod _ _
  have h1 := Nat.div_le_self A y1
  refine ⟨_, rfl, ?_, ?_, ?_⟩
  · rw [← Int.natCast_ediv]; exact wrapn _ (by generalize A / y1 = z at *; omega)
  · rw [← Int.natCast_mul]; exact wrapn _ (by generalize A / y1 * y1 = z at *; generalize A % y1 = z' at *; omega)
  · rw [show (A : Int) - ((A / y1 * y1 : Nat) : Int) = ((A % y1 : Nat) : Int) by generalize A / y1 * y1 = z at *; generalize A % y1 = z' at *; omega]
    exact wrapn _ (by generalize A / y1 * y1 = z at *; generalize A % y1 = z' at *; omega)
set_option maxRecDepth 100000 in
set_option maxHeartbeats 2000000 in
theorem div64_walk (hi lo y s Y y1 y0 L u1 u0 Hs A : Nat) (hhi : (0 : Int) < hi) (h : (hi : Int) < y)
    (H : ∀ W : World, Calls Try.prog 56 #[.int .u64 (y : Int)] W fun e w' => e = .returned (.int .i64 (s : Int)) ∧ w' = W)
    (hs : s < 64) (eY : IntKind.u64.wrap ((y : Int) * 2 ^ s) = (Y : Int)) (e1 : (Y : Int) / 4294967296 = (y1 : Int)) (e0 : bits .and .u64 (Y : Int) 4294967295 = (y0 : Int))
    (eL : IntKind.u64.wrap ((lo : Int) * 2 ^ s) = (L : Int)) (eu1 : (L : Int) / 4294967296 = (u1 : Int)) (eu0 : bits .and .u64 (L : Int) 4294967295 = (u0 : Int))
    (eH : IntKind.u64.wrap ((hi : Int) * 2 ^ s) = (Hs : Int)) (eA : bits .or .u64 (Hs : Int) ((lo : Int) / 2 ^ (64 - s)) = (A : Int))
    (hY : Y = y1 * 4294967296 + y0) (h0 : y0 < 4294967296) (h1 : 2147483648 ≤ y1) (h2 : y1 < 4294967296) (hA : A < Y) (hu1 : u1 < 4294967296) (hu0 : u0 < 4294967296)
    (Q1 A2 Q0 R : Nat) (hQ1 : (A * 4294967296 + u1) / Y = Q1) (hA2 : (A * 4294967296 + u1) % Y = A2) (hQ0 : (A2 * 4294967296 + u0) / Y = Q0) (hR : (A2 * 4294967296 + u0) % Y = R) (w : World) :
    Calls Try.prog 52 #[.int .u64 hi, .int .u64 lo, .int .u64 y] w fun e w' =>
      e = .returned (.tuple #[.int .u64 ((Q1 * 4294967296 + Q0 : Nat) : Int), .int .u64 ((R : Int) / 2 ^ s)]) ∧ Below w.heap.size w w' := by
  have HEQ := Lib.hid (And.intro hQ1 (And.intro hA2 (And.intro hQ0 hR)))
  clear hQ1 hA2 hQ0 hR
  have k0 : ((y : Int) == 0) = false := by simp; omega
  have k1 : ¬ ((y : Int) ≤ hi) := by omega
  have k2 : ¬ ((y : Int) = 0) := by omega
  have k3 : ((hi : Int) == 0) = false := by simp; omega
  have k4 : ¬ ((y1 : Int) = 0) := by omega
  obtain ⟨j1, j2, j3⟩ := k_start A u1 Y y1 y0 hY h0 h1 hA hu1
  have hr : A % y1 < y1 := Nat.mod_lt _ (by omega)
  obtain ⟨m, hm, eq1, eq2, eq3⟩ := start_eqs A y1 (by omega)
  have HP := Lib.hid (And.intro hY (And.intro hA (And.intro hu1 (And.intro hu0 (And.intro h0 (And.intro h1 h2))))))
  have HJ := Lib.hid (And.intro j1 (And.intro j2 (And.intro j3 (Nat.lt_trans hr h2))))
  clear hY hA hu1 hu0 h0 h1 h2 j1 j2 j3 hr
  have HM := Lib.hid hm
  clear hm
  generalize A / y1 = q at *
  generalize A % y1 = r at *
  go_enter Try.func52, Try.ntmps52
  go_upto_block 0 with (first | (go_at_call 56; (with_reducible refine (H _).mono ?_); rintro e w' ⟨rfl, rfl⟩))
  clear eq1 eq2 eq3 eH eA eY eL
  go_cut [15, 16] (fun s15 _ wx => s15 = .int .u64 (((A * 4294967296 + u1) / Y : Nat) : Int) ∧ wx = w')
  case first =>
    go_wp2_with fail
    go_loopw [15, 16] (fun s15 s16 wr => ∃ q r : Nat, s15 = .int .u64 (q : Int) ∧ s16 = .int .u64 (r : Int) ∧ wr = w' ∧ Hid (q * y1 + r = A ∧ (A * 4294967296 + u1) / Y ≤ q ∧ q ≤ 4294967297 ∧ r < 4294967296)) (fun s15 _ _ => (intOf s15).toNat)
    case atStart => exact ⟨q, r, rfl, rfl, rfl, HJ⟩
    case round =>
      obtain ⟨q, r, rfl, rfl, rfl, HJ⟩ := hrel
      obtain ⟨j1, j2, j3, j4⟩ := HJ.out
      obtain ⟨p1, p2, p3, p4, p5, p6, p7⟩ := HP.out
      have hk : q * y0 ≤ 4294967297 * 4294967295 := Nat.mul_le_mul j3 (by omega)
      have a1 : IntKind.u64.wrap ((q : Int) * (y0 : Int)) = ((q * y0 : Nat) : Int) := by rw [← Int.natCast_mul]; exact wrapn _ (by omega)
      have a2 : IntKind.u64.wrap (4294967296 * (r : Int)) = ((4294967296 * r : Nat) : Int) := wrapn (4294967296 * r) (by omega)
      have a3 : IntKind.u64.wrap (((4294967296 * r : Nat) : Int) + (u1 : Int)) = ((4294967296 * r + u1 : Nat) : Int) := wrapn (4294967296 * r + u1) (by omega)
      by_cases hc : 4294967296 ≤ q ∨ 4294967296 * r + u1 < q * y0
      · obtain ⟨t1, t2⟩ := k_step A u1 Y y1 y0 q r p1 p2 p3 j1 hc
        have a4 : IntKind.u64.wrap ((q : Int) - 1) = ((q - 1 : Nat) : Int) := by rw [show (q : Int) - 1 = ((q - 1 : Nat) : Int) by omega]; exact wrapn _ (by omega)
        have a5 : IntKind.u64.wrap ((r : Int) + (y1 : Int)) = ((r + y1 : Nat) : Int) := wrapn (r + y1) (by omega)
        have j1' : (q - 1) * y1 + (r + y1) = A := by
          obtain ⟨q, rfl⟩ : ∃ q', q = q' + 1 := ⟨q - 1, by omega⟩
          rw [Nat.add_mul] at j1
          rw [Nat.add_sub_cancel]
          omega
        have hb : 4294967296 ≤ r + y1 → q - 1 = (A * 4294967296 + u1) / Y := fun h => k_end A u1 Y y1 y0 (q - 1) (r + y1) p1 p2 j1' t2 (by
          have : (q - 1) * y0 ≤ 4294967296 * y0 := Nat.mul_le_mul_right _ (by omega)
          omega)
        have HQ := Lib.hid (And.intro j1' (And.intro t2 (And.intro (show q - 1 ≤ 4294967297 by omega) hb)))
        have HT := Lib.hid (show q - 1 < q by omega)
        have hd : (4294967296 : Int) ≤ (q : Int) ∨ ¬ ((4294967296 : Int) ≤ (q : Int)) ∧ ((4294967296 * r + u1 : Nat) : Int) < ((q * y0 : Nat) : Int) := by omega
        clear j1 j2 j3 j4 p1 p2 p3 p4 p5 p6 p7 hk HJ t1 t2 j1' hb hc
        generalize 4294967296 * r + u1 = br at *
        generalize 4294967296 * r = b4 at *
        generalize q * y0 = k at *
        generalize q - 1 = q1 at *
        generalize r + y1 = r1 at *
        by_cases hg : (4294967296 : Int) ≤ (r1 : Int)
        · have HG := Lib.hid (show q1 = (A * 4294967296 + u1) / Y from HQ.out.2.2.2 (by omega))
          rcases hd with hd | ⟨hd, hd2⟩
          · go_wp2
            go_meet
            exact ⟨by rw [HG.out], rfl⟩
          · go_wp2
            go_meet
            exact ⟨by rw [HG.out], rfl⟩
        · have HG := Lib.hid (show r1 < 4294967296 by omega)
          rcases hd with hd | ⟨hd, hd2⟩
          · go_wp2
            go_roundw
            case rel => exact ⟨q1, r1, by simp, by simp, by simp, Lib.hid ⟨HQ.out.1, HQ.out.2.1, HQ.out.2.2.1, HG.out⟩⟩
            case measure => simp [intOf]; exact HT.out
          · go_wp2
            go_roundw
            case rel => exact ⟨q1, r1, by simp, by simp, by simp, Lib.hid ⟨HQ.out.1, HQ.out.2.1, HQ.out.2.2.1, HG.out⟩⟩
            case measure => simp [intOf]; exact HT.out
      · have HE := Lib.hid (k_end A u1 Y y1 y0 q r p1 p2 j1 j2 (by omega))
        have hd : ¬ ((4294967296 : Int) ≤ (q : Int)) := by omega
        have hd2 : ¬ (((4294967296 * r + u1 : Nat) : Int) < ((q * y0 : Nat) : Int)) := by omega
        clear j1 j2 j3 j4 p1 p2 p3 p4 p5 p6 p7 hk HJ hc
        generalize 4294967296 * r + u1 = br at *
        generalize 4294967296 * r = b4 at *
        generalize q * y0 = k at *
        go_wp2
        go_meet
        exact ⟨by rw [HE.out], rfl⟩
  case rest =>
    obtain ⟨p1, p2, p3, p4, p5, p6, p7⟩ := HP.out
    have hYp : 0 < Y := by omega
    have hA2 : (A * 4294967296 + u1) % Y < Y := Nat.mod_lt _ hYp
    obtain ⟨b1, b2, b3, f1, f2, f3, f4⟩ := rem_eqs A u1 Y hYp (by omega)
    have hqb : (A * 4294967296 + u1) / Y < 4294967296 := by rw [Nat.div_lt_iff_lt_mul hYp]; omega
    clear HJ HM
    rw [HEQ.out.1] at hcut f3 hqb
    rw [HEQ.out.2.1] at f4 hA2
    obtain ⟨rfl, rfl⟩ := hcut
    obtain ⟨j1, j2, j3⟩ := k_start A2 u0 Y y1 y0 p1 p5 p6 hA2 p4
    have hr : A2 % y1 < y1 := Nat.mod_lt _ (by omega)
    obtain ⟨m, hm, eq1, eq2, eq3⟩ := start_eqs A2 y1 (by omega)
    have HP2 := Lib.hid (And.intro p1 (And.intro hA2 (And.intro p4 (And.intro p5 (And.intro p6 p7)))))
    have HJ := Lib.hid (And.intro j1 (And.intro j2 (And.intro j3 (Nat.lt_trans hr p7))))
    have HQ1 := Lib.hid hqb
    clear p1 p2 p3 p4 p5 p6 p7 j1 j2 j3 hr hA2 hYp hqb
    have HM := Lib.hid hm
    clear hm
    generalize A2 / y1 = q at *
    generalize A2 % y1 = r at *
    go_upto_block 2 with (fail)
    clear f1 f2 f3 f4 eq1 eq2 eq3
    go_cut [18, 16] (fun s18 _ wx => s18 = .int .u64 (((A2 * 4294967296 + u0) / Y : Nat) : Int) ∧ wx = wc)
    case first =>
      go_wp2_with fail
      go_loopw [18, 16] (fun s18 s16 wr => ∃ q r : Nat, s18 = .int .u64 (q : Int) ∧ s16 = .int .u64 (r : Int) ∧ wr = wc ∧ Hid (q * y1 + r = A2 ∧ (A2 * 4294967296 + u0) / Y ≤ q ∧ q ≤ 4294967297 ∧ r < 4294967296)) (fun s18 _ _ => (intOf s18).toNat)
      case atStart => exact ⟨q, r, rfl, rfl, rfl, HJ⟩
      case round =>
        obtain ⟨q, r, rfl, rfl, rfl, HJ⟩ := hrel
        obtain ⟨j1, j2, j3, j4⟩ := HJ.out
        obtain ⟨p1, p2, p4, p5, p6, p7⟩ := HP2.out
        have hk : q * y0 ≤ 4294967297 * 4294967295 := Nat.mul_le_mul j3 (by omega)
        have a1 : IntKind.u64.wrap ((q : Int) * (y0 : Int)) = ((q * y0 : Nat) : Int) := by rw [← Int.natCast_mul]; exact wrapn _ (by omega)
        have a2 : IntKind.u64.wrap (4294967296 * (r : Int)) = ((4294967296 * r : Nat) : Int) := wrapn (4294967296 * r) (by omega)
        have a3 : IntKind.u64.wrap (((4294967296 * r : Nat) : Int) + (u0 : Int)) = ((4294967296 * r + u0 : Nat) : Int) := wrapn (4294967296 * r + u0) (by omega)
        by_cases hc : 4294967296 ≤ q ∨ 4294967296 * r + u0 < q * y0
        · obtain ⟨t1, t2⟩ := k_step A2 u0 Y y1 y0 q r p1 p2 p4 j1 hc
          have a4 : IntKind.u64.wrap ((q : Int) - 1) = ((q - 1 : Nat) : Int) := by rw [show (q : Int) - 1 = ((q - 1 : Nat) : Int) by omega]; exact wrapn _ (by omega)
          have a5 : IntKind.u64.wrap ((r : Int) + (y1 : Int)) = ((r + y1 : Nat) : Int) := wrapn (r + y1) (by omega)
          have j1' : (q - 1) * y1 + (r + y1) = A2 := by
            obtain ⟨q, rfl⟩ : ∃ q', q = q' + 1 := ⟨q - 1, by omega⟩
            rw [Nat.add_mul] at j1
            rw [Nat.add_sub_cancel]
            omega
          have hb : 4294967296 ≤ r + y1 → q - 1 = (A2 * 4294967296 + u0) / Y := fun h => k_end A2 u0 Y y1 y0 (q - 1) (r + y1) p1 p2 j1' t2 (by
            have : (q - 1) * y0 ≤ 4294967296 * y0 := Nat.mul_le_mul_right _ (by omega)
            omega)
          have HQ := Lib.hid (And.intro j1' (And.intro t2 (And.intro (show q - 1 ≤ 4294967297 by omega) hb)))
          have HT := Lib.hid (show q - 1 < q by omega)
          have hd : (4294967296 : Int) ≤ (q : Int) ∨ ¬ ((4294967296 : Int) ≤ (q : Int)) ∧ ((4294967296 * r + u0 : Nat) : Int) < ((q * y0 : Nat) : Int) := by omega
          clear j1 j2 j3 j4 p1 p2 p4 p5 p6 p7 hk HJ t1 t2 j1' hb hc
          generalize 4294967296 * r + u0 = br at *
          generalize 4294967296 * r = b4 at *
          generalize q * y0 = k at *
          generalize q - 1 = q1 at *
          generalize r + y1 = r1 at *
          by_cases hg : (4294967296 : Int) ≤ (r1 : Int)
          · have HG := Lib.hid (show q1 = (A2 * 4294967296 + u0) / Y from HQ.out.2.2.2 (by omega))
            rcases hd with hd | ⟨hd, hd2⟩
            · go_wp2
              go_meet
              exact ⟨by rw [HG.out], rfl⟩
            · go_wp2
              go_meet
              exact ⟨by rw [HG.out], rfl⟩
          · have HG := Lib.hid (show r1 < 4294967296 by omega)
            rcases hd with hd | ⟨hd, hd2⟩
            · go_wp2
              go_roundw
              case rel => exact ⟨q1, r1, by simp, by simp, by simp, Lib.hid ⟨HQ.out.1, HQ.out.2.1, HQ.out.2.2.1, HG.out⟩⟩
              case measure => simp [intOf]; exact HT.out
            · go_wp2
              go_roundw
              case rel => exact ⟨q1, r1, by simp, by simp, by simp, Lib.hid ⟨HQ.out.1, HQ.out.2.1, HQ.out.2.2.1, HG.out⟩⟩
              case measure => simp [intOf]; exact HT.out
        · have HE := Lib.hid (k_end A2 u0 Y y1 y0 q r p1 p2 j1 j2 (by omega))
          have hd : ¬ ((4294967296 : Int) ≤ (q : Int)) := by omega
          have hd2 : ¬ (((4294967296 * r + u0 : Nat) : Int) < ((q * y0 : Nat) : Int)) := by omega
          clear j1 j2 j3 j4 p1 p2 p4 p5 p6 p7 hk HJ hc
          generalize 4294967296 * r + u0 = br at *
          generalize 4294967296 * r = b4 at *
          generalize q * y0 = k at *
          go_wp2
          go_meet
          exact ⟨by rw [HE.out], rfl⟩

    case rest =>
      obtain ⟨p1, p2, p4, p5, p6, p7⟩ := HP2.out
      have hYp : 0 < Y := by omega
      obtain ⟨b1, b2, b3, f1, f2, f3, f4⟩ := rem_eqs A2 u0 Y hYp (by omega)
      have hqb : (A2 * 4294967296 + u0) / Y < 4294967296 := by rw [Nat.div_lt_iff_lt_mul hYp]; omega
      rw [HEQ.out.2.2.1] at hcut f3 hqb
      rw [HEQ.out.2.2.2] at f4
      have hq := HQ1.out
      obtain ⟨z1, z2, hz, g1, g2⟩ : ∃ z1 z2 : Nat, z2 = Q1 * 4294967296 + Q0 ∧ IntKind.u64.wrap ((Q1 : Int) * 4294967296) = (z1 : Int) ∧ IntKind.u64.wrap ((z1 : Int) + (Q0 : Int)) = (z2 : Int) :=
        ⟨Q1 * 4294967296, Q1 * 4294967296 + Q0, rfl, wrapn (Q1 * 4294967296) (by omega), wrapn (Q1 * 4294967296 + Q0) (by omega)⟩
      have HZ := Lib.hid hz
      clear HJ HM p1 p2 p4 p5 p6 p7 hYp hqb hq hz H e1 e0 eu1 eu0 k0 k1 k2 k3 k4
      obtain ⟨rfl, rfl⟩ := hcut
      go_wp2
      go_ret2
      exact ⟨by rw [← HZ.out]; rfl, Below.refl _ _⟩
theorem qr_of (N Y q r : Nat) (h : q * Y + r = N) (hr : r < Y) : N / Y = q ∧ N % Y = r := by
  have hp : 0 < Y := by omega
  subst h
  constructor
  · rw [Nat.add_comm, Nat.add_mul_div_right _ _ hp, Nat.div_eq_of_lt hr, Nat.zero_add]
  · rw [Nat.add_comm, Nat.add_mul_mod_self_right, Nat.mod_eq_of_lt hr]
theorem two_digits_gen (A L Y B : Nat) (hY0 : 0 < Y) : (A * (B * B) + L) / Y = (A * B + L / B) / Y * B + ((A * B + L / B) % Y * B + L % B) / Y ∧
    (A * (B * B) + L) % Y = ((A * B + L / B) % Y * B + L % B) % Y := by
  have d1 := Nat.div_add_mod (A * B + L / B) Y
  have d2 := Nat.div_add_mod ((A * B + L / B) % Y * B + L % B) Y
  have r2 := Nat.mod_lt ((A * B + L / B) % Y * B + L % B) hY0
  have dL := Nat.div_add_mod L B
  generalize ((A * B + L / B) % Y * B + L % B) / Y = q0 at *
  generalize ((A * B + L / B) % Y * B + L % B) % Y = R at *
  generalize (A * B + L / B) % Y = A2 at *
  generalize (A * B + L / B) / Y = q1 at *
  refine qr_of _ Y _ R ?_ r2
  have e1 : (q1 * B + q0) * Y + R = (Y * q1) * B + (Y * q0 + R) := by rw [Nat.add_mul, Nat.mul_right_comm, Nat.mul_comm q1, Nat.mul_comm q0, Nat.add_assoc]
  have e2 : A * (B * B) + L = (A * B + L / B) * B + L % B := by rw [Nat.add_mul, ← Nat.mul_assoc, Nat.mul_comm (L / B), Nat.add_assoc, dL]
  rw [e1, e2, ← d1, d2, Nat.add_mul, Nat.add_assoc]
theorem two_digits (A L Y : Nat) (hY0 : 0 < Y) : (A * 18446744073709551616 + L) / Y = (A * 4294967296 + L / 4294967296) / Y * 4294967296 + ((A * 4294967296 + L / 4294967296) % Y * 4294967296 + L % 4294967296) / Y ∧
    (A * 18446744073709551616 + L) % Y = ((A * 4294967296 + L / 4294967296) % Y * 4294967296 + L % 4294967296) % Y :=
  two_digits_gen A L Y 4294967296 hY0
theorem shr_cast (R s : Nat) : (R : Int) / 2 ^ s = ((R / 2 ^ s : Nat) : Int) := by push_cast; rfl
theorem div64_pos (hi lo y : Nat) (hlo : lo < 18446744073709551616) (hy : y < 18446744073709551616) (h0 : 0 < hi) (h : hi < y) (w : World) :
    Calls Try.prog 52 #[.int .u64 hi, .int .u64 lo, .int .u64 y] w fun e w' => e = .returned (.tuple #[.int .u64 (((hi * 18446744073709551616 + lo) / y : Nat) : Int), .int .u64 (((hi * 18446744073709551616 + lo) % y : Nat) : Int)]) ∧ Below w.heap.size w w' := by
  obtain ⟨b1, b2, b3⟩ := Lib.bitLenAux_bounds 64 y (by omega) (by omega)
  have b4 : Lib.bitLen y ≤ 64 := by have := Any.bitLen_le64 (y : Int) (by omega) (by omega); simpa using this
  have b1 : 1 ≤ Lib.bitLen y := b1
  have b2 : 2 ^ (Lib.bitLen y - 1) ≤ y := b2
  have b3 : y < 2 ^ Lib.bitLen y := b3
  obtain ⟨s, hs⟩ : ∃ s, s = 64 - Lib.bitLen y := ⟨_, rfl⟩
  have H : ∀ W : World, Calls Try.prog 56 #[.int .u64 (y : Int)] W fun e w' => e = .returned (.int .i64 (s : Int)) ∧ w' = W := by
    intro W
    have := Try.bits_LeadingZeros64 (y : Int) W (by omega) (by omega)
    rw [show (64 - (Lib.bitLen (y : Int).toNat : Int)) = (s : Int) by rw [Int.toNat_natCast]; omega] at this
    exact this
  have hbl : Lib.bitLen y = 64 - s := by omega
  rw [hbl] at b2 b3
  have hs63 : s < 64 := by omega
  clear b1 b4 hs hbl
  -- the powers, by one name each
  have hPP : 2 ^ (64 - s) * 2 ^ s = 18446744073709551616 := by rw [← Nat.pow_add, show 64 - s + s = 64 by omega]
  have hPP1 : 2 ^ (64 - s - 1) * 2 ^ s = 9223372036854775808 := by rw [← Nat.pow_add, show 64 - s - 1 + s = 63 by omega]
  have hP : 0 < 2 ^ s := Nat.pow_pos (by decide)
  have hYlo : 9223372036854775808 ≤ y * 2 ^ s := by rw [← hPP1]; exact Nat.mul_le_mul_right _ b2
  have hYhi : y * 2 ^ s < 18446744073709551616 := by rw [← hPP]; exact Nat.mul_lt_mul_of_pos_right b3 hP
  have hHs : hi * 2 ^ s + 2 ^ s ≤ y * 2 ^ s := by rw [← Nat.succ_mul]; exact Nat.mul_le_mul_right _ h
  have hlq : lo / 2 ^ (64 - s) < 2 ^ s := by rw [Nat.div_lt_iff_lt_mul (Nat.pow_pos (by decide)), Nat.mul_comm, hPP]; exact hlo
  have hll : lo * 2 ^ s / 18446744073709551616 = lo / 2 ^ (64 - s) := by rw [← hPP, Nat.mul_div_mul_right _ _ hP]
  have hor : hi * 2 ^ s ||| lo / 2 ^ (64 - s) = hi * 2 ^ s + lo / 2 ^ (64 - s) := by
    rw [Nat.mul_comm hi, Nat.two_pow_add_eq_or_of_lt hlq]
  have hA : hi * 2 ^ s + lo / 2 ^ (64 - s) < y * 2 ^ s := by omega
  have eY : IntKind.u64.wrap ((y : Int) * 2 ^ s) = ((y * 2 ^ s : Nat) : Int) := by rw [show ((y : Int) * 2 ^ s) = ((y * 2 ^ s : Nat) : Int) by push_cast; rfl]; exact wrapn _ hYhi
  have eH : IntKind.u64.wrap ((hi : Int) * 2 ^ s) = ((hi * 2 ^ s : Nat) : Int) := by rw [show ((hi : Int) * 2 ^ s) = ((hi * 2 ^ s : Nat) : Int) by push_cast; rfl]; exact wrapn _ (by omega)
  have eL : IntKind.u64.wrap ((lo : Int) * 2 ^ s) = ((lo * 2 ^ s % 18446744073709551616 : Nat) : Int) := by rw [show ((lo : Int) * 2 ^ s) = ((lo * 2 ^ s : Nat) : Int) by push_cast; rfl, IntKind.wrap_u64]; rfl
  have eA : bits .or .u64 ((hi * 2 ^ s : Nat) : Int) ((lo : Int) / 2 ^ (64 - s)) = ((hi * 2 ^ s + lo / 2 ^ (64 - s) : Nat) : Int) := by
    rw [show ((lo : Int) / 2 ^ (64 - s)) = ((lo / 2 ^ (64 - s) : Nat) : Int) by push_cast; rfl, bits_or_u64_nat _ _ (by omega) (by omega), hor]
  have mask : ∀ a : Nat, a < 18446744073709551616 → bits .and .u64 (a : Int) 4294967295 = ((a % 4294967296 : Nat) : Int) := by
    intro a ha
    have h := bits_and_u64_nat a 4294967295 ha (by omega)
    rw [show a &&& 4294967295 = a % 4294967296 from Nat.and_two_pow_sub_one_eq_mod a 32] at h
    exact h
  have hN : (hi * 18446744073709551616 + lo) * 2 ^ s = (hi * 2 ^ s + lo / 2 ^ (64 - s)) * 18446744073709551616 + lo * 2 ^ s % 18446744073709551616 := by
    have := Nat.div_add_mod (lo * 2 ^ s) 18446744073709551616
    rw [hll] at this
    rw [Nat.add_mul, Nat.add_mul, Nat.mul_right_comm]
    omega
  have hY0 : 0 < y * 2 ^ s := by omega
  have hq := Nat.mul_div_mul_right (hi * 18446744073709551616 + lo) y hP
  have hm := Nat.mul_mod_mul_right (2 ^ s) (hi * 18446744073709551616 + lo) y
  have hLlt : lo * 2 ^ s % 18446744073709551616 < 18446744073709551616 := Nat.mod_lt _ (by decide)
  refine (div64_walk hi lo y s (y * 2 ^ s) (y * 2 ^ s / 4294967296) (y * 2 ^ s % 4294967296) (lo * 2 ^ s % 18446744073709551616) (lo * 2 ^ s % 18446744073709551616 / 4294967296) (lo * 2 ^ s % 18446744073709551616 % 4294967296) (hi * 2 ^ s) (hi * 2 ^ s + lo / 2 ^ (64 - s)) (by omega) (by omega) H hs63
    eY (by omega) (mask _ hYhi) eL (by omega) (mask _ hLlt) eH eA (by omega) (by omega) (by omega) (by omega) hA (by omega) (by omega) _ _ _ _ rfl rfl rfl rfl w).mono ?_
  rintro e w' ⟨rfl, hb⟩
  refine ⟨?_, hb⟩
  rw [hN] at hq hm
  obtain ⟨k1, k2⟩ := two_digits (hi * 2 ^ s + lo / 2 ^ (64 - s)) (lo * 2 ^ s % 18446744073709551616) (y * 2 ^ s) hY0
  rw [k1] at hq
  rw [k2] at hm
  rw [hq]
  have hR : ((((hi * 2 ^ s + lo / 2 ^ (64 - s)) * 4294967296 + lo * 2 ^ s % 18446744073709551616 / 4294967296) % (y * 2 ^ s) * 4294967296 + lo * 2 ^ s % 18446744073709551616 % 4294967296) % (y * 2 ^ s) : Nat) / 2 ^ s = (hi * 18446744073709551616 + lo) % y := by
    rw [hm, Nat.mul_comm ((hi * 18446744073709551616 + lo) % y), Nat.mul_div_cancel_left _ hP]
  rw [shr_cast, hR]
theorem div64_any (hi lo y : Nat) (hlo : lo < 18446744073709551616) (hy : y < 18446744073709551616) (h : hi < y) (w : World) :
    Calls Try.prog 52 #[.int .u64 hi, .int .u64 lo, .int .u64 y] w fun e w' => e = .returned (.tuple #[.int .u64 (((hi * 18446744073709551616 + lo) / y : Nat) : Int), .int .u64 (((hi * 18446744073709551616 + lo) % y : Nat) : Int)]) ∧ Below w.heap.size w w' := by
  rcases Nat.eq_zero_or_pos hi with rfl | h0
  · have := div64_zero lo y hlo hy h w
    simpa using this
  · exact div64_pos hi lo y hlo hy h0 h w
end Go.Proofs.Ytmpceabhnhipcaa.TickW

