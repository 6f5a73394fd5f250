/- The law PortFills, of any port that is as asked, up to 1048577 frames (a number above 2147483647 is no frame's). -/
import Derived.Test.YtpliidkfllacpaaPortK
namespace Go.Proofs.Ytpliidkfllacpaa.PortW.PortFills
open Go.RowKit PortW Shell
section
variable {PI : Nat → (Nat → Prop) → Nat → Nat → List Da → List Da → Nat → World → Prop}
set_option maxHeartbeats 16000000 in
set_option maxRecDepth 100000 in
theorem walkS (S : Spec PI) (q : Nat) (A : Option Addr) (bs : List Bool) (m cp : Nat) (w : World) (_hq : q < 256) (h : BB w A bs) (hl : bs.length = m) (hm : m ≤ 1048577) : Calls Try.prog 6 #[.int .u8 (q : Int), .slice A m cp] w fun r w' => r = .returned (.bool true) ∧ Below w.heap.size w w' := by
  have SH := Lib.hid S
  have HA0 := Lib.hid h
  have HLN := Lib.hid hl
  have HMX := Lib.hid hm
  have hm1 : m ≤ 9223372036854775807 := by omega
  obtain ⟨p, hp⟩ : ∃ p, q % 64 = p := ⟨_, rfl⟩
  obtain ⟨n, hn⟩ : ∃ n, 1 + p = n := ⟨_, rfl⟩
  have pb : p < 64 := by omega
  have e2 : (q : Int) % 64 = (p : Int) := by omega
  have HN := Lib.hid (show 1 ≤ n ∧ n ≤ 64 by omega)
  have hn2 : 1 + (p : Int) = (n : Int) := by omega
  clear hp
  have e3 : IntKind.u8.wrap (p : Int) = (p : Int) := by rw [IntKind.wrap_u8]; omega
  have e4 : IntKind.i64.wrap (p : Int) = (p : Int) := by rw [IntKind.wrap_i64]; omega
  have e5 : IntKind.i64.wrap (1 + (p : Int)) = (n : Int) := by rw [IntKind.wrap_i64]; omega
  have e6 : wrap64 (1 + (p : Int)) = (n : Int) := by unfold wrap64; omega
  have e1 : Int.tmod (q : Int) 64 = (p : Int) := by rw [Int.tmod_eq_emod_of_nonneg (Int.natCast_nonneg q)]; exact e2
  clear S h hl hm _hq hn hn2 pb
  go_enter Try.func6, Try.ntmps6
  go_wp2_with fail
  refine (fixed_any SH.out _).mono ?_
  rintro v w1 ⟨rfl, b1⟩
  have B1 := Lib.hid b1
  clear b1
  go_wp2_with fail
  refine (SH.out.new_ok n _ HN.out.1 HN.out.2).mono ?_
  rintro v w2 ⟨g, X0, rfl, p1, b2⟩
  have P1 := Lib.hid (show PS PI w X0 g n [] [] 0 w2 from ⟨SH.out.lower p1 B1.out.size, B1.out.trans (b2.mono B1.out.size)⟩)
  clear p1 b2 B1 e1 e2 e3 e4 e5 e6
  have HA := HA0
  go_wp2
  go_loopw [29] (fun iv wr => ∃ (k : Nat) (X : Nat → Prop) (r e : List Da) (l : Nat), k ≤ m ∧ iv = .int .i64 k ∧ Hid (PS PI w X g n r e l wr) ∧ Hid (r.length + e.length = min k n) ∧ Hid (l = k - n)) (fun iv _ => m - (intOf iv).toNat)
  case atStart => exact ⟨0, X0, [], [], 0, Nat.zero_le _, rfl, P1, Lib.hid (by simp), Lib.hid (by omega)⟩
  case round =>
    clear P1
    obtain ⟨k, X, r, e, l, hk, rfl, HP, HR, HL⟩ := hrel
    by_cases hlt : (k : Int) < (m : Int)
    · obtain ⟨b, hb⟩ : ∃ b, bs[k]? = some b := ⟨_, List.getElem?_eq_getElem (by rw [HLN.out]; omega)⟩
      obtain ⟨a, rfl, hc⟩ := (HA0.out.below HP.out.b) k b hb
      have KB := Lib.hid (show (0 : Int) ≤ (k : Int) ∧ (k : Int) ≤ 2147483647 by have := HMX.out; omega)
      obtain ⟨kk, hkk⟩ : ∃ kk, k + 1 = kk := ⟨_, rfl⟩
      obtain ⟨D1, hD⟩ : ∃ D1, (kk : Int) - (n : Int) = D1 := ⟨_, rfl⟩
      have kb := KB.out
      have nb := HN.out
      have c1 : (k : Int) + 1 = (kk : Int) ∧ -4503599627370496 ≤ (kk : Int) ∧ (kk : Int) ≤ 4503599627370496 := by omega
      have c2 : -4503599627370496 ≤ D1 ∧ D1 ≤ 4503599627370496 := by omega
      have hr := HR.out
      have hl := HL.out
      have LB := Lib.hid (show l < 4611686018427387904 by have := HMX.out; omega)
      clear hb kb nb
      by_cases hfull : (n : Int) ≤ (k : Int)
      · have RE := Lib.hid (show r.length + e.length = n by omega)
        have hM : min (kk : Int) (n : Int) = (n : Int) := by omega
        have hLx : max (0 : Int) D1 = D1 := by omega
        have m1 : ¬ kk ≤ n := by omega
        have m2 : (0 : Int) ≤ D1 := by omega
        have HM2 := Lib.hid (show (((n : Nat)) : Int) = (n : Int) from rfl)
        have HL2 := Lib.hid (show (((l + 1 : Nat)) : Int) = D1 by omega)
        have HKN := Lib.hid (show n ≤ k by omega)
        have HKK := Lib.hid hkk
        have HLL := Lib.hid hl
        obtain ⟨u1, u2⟩ := wr_of c1.1 c1.2
        obtain ⟨u3, u4⟩ := wr_of hD c2
        clear hr hl hkk hD c1 c2
        cases b with
        | true =>
          go_wp2_with fail
          refine (one_any 2 (k : Int) _).mono ?_
          rintro v a1 ⟨rfl, b1⟩
          have R2 := Lib.hid (HP.out.next SH.out b1)
          have HA2 := Lib.hid ((HA.out.below HP.out.b).below b1)
          clear b1
          go_wp2_with fail
          refine (SH.out.offer_full (od 2 (k : Int)) R2.out.p (od_p _ _) (od_ok (by decide) KB.out) RE.out LB.out).mono ?_
          rintro v a2 ⟨rfl, X2, q2, t2⟩
          have R3 := Lib.hid (R2.out.turn SH.out q2 t2)
          clear q2 t2 R2 HA2
          go_wp2_with fail
          refine (SH.out.len R3.out.p).mono ?_
          rintro v a3 ⟨hv, X3, q3, t3⟩
          obtain rfl : v = .returned (.int .i64 (n : Int)) := by rw [hv]; exact congrArg (fun z => Ending.returned (.int .i64 z)) (by rw [RE.out])
          have R4 := Lib.hid (R3.out.turn SH.out q3 t3)
          clear hv q3 t3 R3
          go_wp2_with fail
          refine (SH.out.lost R4.out.p).mono ?_
          rintro v a4 ⟨hv, X4, q4, t4⟩
          obtain rfl : v = .returned (.int .i64 D1) := by rw [hv]; exact congrArg (fun z => Ending.returned (.int .i64 z)) HL2.out
          have R5 := Lib.hid (R4.out.turn SH.out q4 t4)
          clear hv q4 t4 R4
          go_wp2
          go_roundw
          case rel => exact ⟨kk, X4, r, e, l + 1, by have := HKK.out; omega, by go_num, R5, Lib.hid (by have := HKN.out; have := HKK.out; rw [RE.out]; omega), Lib.hid (by have := HKN.out; have := HLL.out; have := HKK.out; omega)⟩
          case measure => have h1 := HKK.out; simp [intOf]; omega
        | false =>
          go_wp2_with fail
          refine (one_any 3 (k : Int) _).mono ?_
          rintro v a1 ⟨rfl, b1⟩
          have R2 := Lib.hid (HP.out.next SH.out b1)
          have HA2 := Lib.hid ((HA.out.below HP.out.b).below b1)
          clear b1
          go_wp2_with fail
          refine (SH.out.offer_full (od 3 (k : Int)) R2.out.p (od_p _ _) (od_ok (by decide) KB.out) RE.out LB.out).mono ?_
          rintro v a2 ⟨rfl, X2, q2, t2⟩
          have R3 := Lib.hid (R2.out.turn SH.out q2 t2)
          clear q2 t2 R2 HA2
          go_wp2_with fail
          refine (SH.out.len R3.out.p).mono ?_
          rintro v a3 ⟨hv, X3, q3, t3⟩
          obtain rfl : v = .returned (.int .i64 (n : Int)) := by rw [hv]; exact congrArg (fun z => Ending.returned (.int .i64 z)) (by rw [RE.out])
          have R4 := Lib.hid (R3.out.turn SH.out q3 t3)
          clear hv q3 t3 R3
          go_wp2_with fail
          refine (SH.out.lost R4.out.p).mono ?_
          rintro v a4 ⟨hv, X4, q4, t4⟩
          obtain rfl : v = .returned (.int .i64 D1) := by rw [hv]; exact congrArg (fun z => Ending.returned (.int .i64 z)) HL2.out
          have R5 := Lib.hid (R4.out.turn SH.out q4 t4)
          clear hv q4 t4 R4
          go_wp2
          go_roundw
          case rel => exact ⟨kk, X4, r, e, l + 1, by have := HKK.out; omega, by go_num, R5, Lib.hid (by have := HKN.out; have := HKK.out; rw [RE.out]; omega), Lib.hid (by have := HKN.out; have := HLL.out; have := HKK.out; omega)⟩
          case measure => have h1 := HKK.out; simp [intOf]; omega
      · by_cases hkn : kk = n
        · have RE := Lib.hid (show r.length + e.length < n by omega)
          have hM : min (kk : Int) (n : Int) = (kk : Int) := by omega
          have hLx : max (0 : Int) D1 = 0 := by omega
          have m1 : kk ≤ n := by omega
          obtain rfl : D1 = 0 := by omega
          have HM2 := Lib.hid (show (((r.length + e.length + 1 : Nat)) : Int) = (kk : Int) by omega)
          have HL2 := Lib.hid (show (((l : Nat)) : Int) = 0 by omega)
          have HKN := Lib.hid (show k < n by omega)
          have HKK := Lib.hid hkk
          have HLL := Lib.hid hl
          have HRR := Lib.hid hr
          obtain ⟨u1, u2⟩ := wr_of c1.1 c1.2
          obtain ⟨u3, u4⟩ := wr_of hD c2
          clear hr hl hkk hD c1 c2
          cases b with
          | true =>
            go_wp2_with fail
            refine (one_any 2 (k : Int) _).mono ?_
            rintro v a1 ⟨rfl, b1⟩
            have R2 := Lib.hid (HP.out.next SH.out b1)
            have HA2 := Lib.hid ((HA.out.below HP.out.b).below b1)
            clear b1
            go_wp2_with fail
            refine (SH.out.offer_ok (od 2 (k : Int)) R2.out.p (od_p _ _) (od_ok (by decide) KB.out) RE.out).mono ?_
            rintro v a2 ⟨rfl, X2, q2, t2⟩
            have R3 := Lib.hid (R2.out.turn SH.out q2 t2)
            clear q2 t2 R2 HA2
            go_wp2_with fail
            refine (SH.out.len R3.out.p).mono ?_
            rintro v a3 ⟨hv, X3, q3, t3⟩
            obtain rfl : v = .returned (.int .i64 (kk : Int)) := by rw [hv]; exact congrArg (fun z => Ending.returned (.int .i64 z)) (by have := off_len r e (od 2 (k : Int)); rw [this]; exact HM2.out)
            have R4 := Lib.hid (R3.out.turn SH.out q3 t3)
            clear hv q3 t3 R3
            go_wp2_with fail
            refine (SH.out.lost R4.out.p).mono ?_
            rintro v a4 ⟨hv, X4, q4, t4⟩
            obtain rfl : v = .returned (.int .i64 0) := by rw [hv]; exact congrArg (fun z => Ending.returned (.int .i64 z)) HL2.out
            have R5 := Lib.hid (R4.out.turn SH.out q4 t4)
            clear hv q4 t4 R4
            go_wp2
            go_roundw
            case rel => exact ⟨kk, X4, (if rat (od 2 (k : Int)) then r ++ [od 2 (k : Int)] else r), (if rat (od 2 (k : Int)) then e else e ++ [od 2 (k : Int)]), l, by have := HKK.out; omega, by go_num, R5, Lib.hid (by have := HKN.out; have := HRR.out; have := HKK.out; rw [off_len]; omega), Lib.hid (by have := HKN.out; have := HLL.out; have := HKK.out; omega)⟩
            case measure => have h1 := HKK.out; simp [intOf]; omega
          | false =>
            go_wp2_with fail
            refine (one_any 3 (k : Int) _).mono ?_
            rintro v a1 ⟨rfl, b1⟩
            have R2 := Lib.hid (HP.out.next SH.out b1)
            have HA2 := Lib.hid ((HA.out.below HP.out.b).below b1)
            clear b1
            go_wp2_with fail
            refine (SH.out.offer_ok (od 3 (k : Int)) R2.out.p (od_p _ _) (od_ok (by decide) KB.out) RE.out).mono ?_
            rintro v a2 ⟨rfl, X2, q2, t2⟩
            have R3 := Lib.hid (R2.out.turn SH.out q2 t2)
            clear q2 t2 R2 HA2
            go_wp2_with fail
            refine (SH.out.len R3.out.p).mono ?_
            rintro v a3 ⟨hv, X3, q3, t3⟩
            obtain rfl : v = .returned (.int .i64 (kk : Int)) := by rw [hv]; exact congrArg (fun z => Ending.returned (.int .i64 z)) (by have := off_len r e (od 3 (k : Int)); rw [this]; exact HM2.out)
            have R4 := Lib.hid (R3.out.turn SH.out q3 t3)
            clear hv q3 t3 R3
            go_wp2_with fail
            refine (SH.out.lost R4.out.p).mono ?_
            rintro v a4 ⟨hv, X4, q4, t4⟩
            obtain rfl : v = .returned (.int .i64 0) := by rw [hv]; exact congrArg (fun z => Ending.returned (.int .i64 z)) HL2.out
            have R5 := Lib.hid (R4.out.turn SH.out q4 t4)
            clear hv q4 t4 R4
            go_wp2
            go_roundw
            case rel => exact ⟨kk, X4, (if rat (od 3 (k : Int)) then r ++ [od 3 (k : Int)] else r), (if rat (od 3 (k : Int)) then e else e ++ [od 3 (k : Int)]), l, by have := HKK.out; omega, by go_num, R5, Lib.hid (by have := HKN.out; have := HRR.out; have := HKK.out; rw [off_len]; omega), Lib.hid (by have := HKN.out; have := HLL.out; have := HKK.out; omega)⟩
            case measure => have h1 := HKK.out; simp [intOf]; omega
        · have RE := Lib.hid (show r.length + e.length < n by omega)
          have hM : min (kk : Int) (n : Int) = (kk : Int) := by omega
          have hLx : max (0 : Int) D1 = 0 := by omega
          have m1 : kk ≤ n := by omega
          have m2 : ¬ (0 : Int) ≤ D1 := by omega
          have HM2 := Lib.hid (show (((r.length + e.length + 1 : Nat)) : Int) = (kk : Int) by omega)
          have HL2 := Lib.hid (show (((l : Nat)) : Int) = 0 by omega)
          have HKN := Lib.hid (show k < n by omega)
          have HKK := Lib.hid hkk
          have HLL := Lib.hid hl
          have HRR := Lib.hid hr
          obtain ⟨u1, u2⟩ := wr_of c1.1 c1.2
          obtain ⟨u3, u4⟩ := wr_of hD c2
          clear hr hl hkk hD c1 c2
          cases b with
          | true =>
            go_wp2_with fail
            refine (one_any 2 (k : Int) _).mono ?_
            rintro v a1 ⟨rfl, b1⟩
            have R2 := Lib.hid (HP.out.next SH.out b1)
            have HA2 := Lib.hid ((HA.out.below HP.out.b).below b1)
            clear b1
            go_wp2_with fail
            refine (SH.out.offer_ok (od 2 (k : Int)) R2.out.p (od_p _ _) (od_ok (by decide) KB.out) RE.out).mono ?_
            rintro v a2 ⟨rfl, X2, q2, t2⟩
            have R3 := Lib.hid (R2.out.turn SH.out q2 t2)
            clear q2 t2 R2 HA2
            go_wp2_with fail
            refine (SH.out.len R3.out.p).mono ?_
            rintro v a3 ⟨hv, X3, q3, t3⟩
            obtain rfl : v = .returned (.int .i64 (kk : Int)) := by rw [hv]; exact congrArg (fun z => Ending.returned (.int .i64 z)) (by have := off_len r e (od 2 (k : Int)); rw [this]; exact HM2.out)
            have R4 := Lib.hid (R3.out.turn SH.out q3 t3)
            clear hv q3 t3 R3
            go_wp2_with fail
            refine (SH.out.lost R4.out.p).mono ?_
            rintro v a4 ⟨hv, X4, q4, t4⟩
            obtain rfl : v = .returned (.int .i64 0) := by rw [hv]; exact congrArg (fun z => Ending.returned (.int .i64 z)) HL2.out
            have R5 := Lib.hid (R4.out.turn SH.out q4 t4)
            clear hv q4 t4 R4
            go_wp2
            go_roundw
            case rel => exact ⟨kk, X4, (if rat (od 2 (k : Int)) then r ++ [od 2 (k : Int)] else r), (if rat (od 2 (k : Int)) then e else e ++ [od 2 (k : Int)]), l, by have := HKK.out; omega, by go_num, R5, Lib.hid (by have := HKN.out; have := HRR.out; have := HKK.out; rw [off_len]; omega), Lib.hid (by have := HKN.out; have := HLL.out; have := HKK.out; omega)⟩
            case measure => have h1 := HKK.out; simp [intOf]; omega
          | false =>
            go_wp2_with fail
            refine (one_any 3 (k : Int) _).mono ?_
            rintro v a1 ⟨rfl, b1⟩
            have R2 := Lib.hid (HP.out.next SH.out b1)
            have HA2 := Lib.hid ((HA.out.below HP.out.b).below b1)
            clear b1
            go_wp2_with fail
            refine (SH.out.offer_ok (od 3 (k : Int)) R2.out.p (od_p _ _) (od_ok (by decide) KB.out) RE.out).mono ?_
            rintro v a2 ⟨rfl, X2, q2, t2⟩
            have R3 := Lib.hid (R2.out.turn SH.out q2 t2)
            clear q2 t2 R2 HA2
            go_wp2_with fail
            refine (SH.out.len R3.out.p).mono ?_
            rintro v a3 ⟨hv, X3, q3, t3⟩
            obtain rfl : v = .returned (.int .i64 (kk : Int)) := by rw [hv]; exact congrArg (fun z => Ending.returned (.int .i64 z)) (by have := off_len r e (od 3 (k : Int)); rw [this]; exact HM2.out)
            have R4 := Lib.hid (R3.out.turn SH.out q3 t3)
            clear hv q3 t3 R3
            go_wp2_with fail
            refine (SH.out.lost R4.out.p).mono ?_
            rintro v a4 ⟨hv, X4, q4, t4⟩
            obtain rfl : v = .returned (.int .i64 0) := by rw [hv]; exact congrArg (fun z => Ending.returned (.int .i64 z)) HL2.out
            have R5 := Lib.hid (R4.out.turn SH.out q4 t4)
            clear hv q4 t4 R4
            go_wp2
            go_roundw
            case rel => exact ⟨kk, X4, (if rat (od 3 (k : Int)) then r ++ [od 3 (k : Int)] else r), (if rat (od 3 (k : Int)) then e else e ++ [od 3 (k : Int)]), l, by have := HKK.out; omega, by go_num, R5, Lib.hid (by have := HKN.out; have := HRR.out; have := HKK.out; rw [off_len]; omega), Lib.hid (by have := HKN.out; have := HLL.out; have := HKK.out; omega)⟩
            case measure => have h1 := HKK.out; simp [intOf]; omega
    · obtain rfl : k = m := by omega
      by_cases hmn : (k : Int) < (n : Int)
      · have L0 := Lib.hid (show ((l : Nat) : Int) = 0 by have := HL.out; omega)
        go_wp2_with fail
        refine (SH.out.lost HP.out.p).mono ?_
        rintro v a1 ⟨hv, X1, q1, t1⟩
        obtain rfl : v = .returned (.int .i64 0) := by rw [hv, L0.out]
        have R1 := Lib.hid (HP.out.turn SH.out q1 t1)
        clear hv q1 t1
        go_wp2
        go_ret
        exact ⟨rfl, R1.out.b⟩
      · have RN := Lib.hid (show r.length + e.length = n by have := HR.out; omega)
        have LB := Lib.hid (show l < 4611686018427387904 by have := HL.out; have := HMX.out; omega)
        obtain ⟨x, hx⟩ := nx_some (r := r) (e := e) (by have := RN.out; have := HN.out; omega)
        have TL := Lib.hid (take_len (r := r) (e := e) (by have := RN.out; have := HN.out; omega))
        have TK := Lib.hid (show Calls Try.prog 13 #[.pointer (some ⟨g, 0, none⟩)] wr fun v W' => v = .returned (.tuple #[dv x, .bool true]) ∧ ∃ X', PI w.heap.size X' g n (tR r) (tE r e) l W' ∧ Turn X X' wr W' by have := SH.out.take HP.out.p; rw [hx] at this; exact this)
        clear hx
        generalize tR r = r1 at *
        generalize tE r e = e1 at *
        go_wp2_with fail
        refine TK.out.mono ?_
        rintro v a1 ⟨rfl, X1, q1, t1⟩
        have R1 := Lib.hid (HP.out.turn SH.out q1 t1)
        have R2 := Lib.hid (R1.out.next SH.out (al (Below.refl _ _) (dbx x)))
        clear q1 t1 R1 TK
        go_wp2_with fail
        refine (one_any 2 9 _).mono ?_
        rintro v a2 ⟨rfl, b2⟩
        have R3 := Lib.hid (R2.out.next SH.out b2)
        clear b2 R2
        go_wp2_with fail
        refine (SH.out.offer_ok (od 2 9) R3.out.p (od_p _ _) (od_ok (by decide) (by decide)) (by have := TL.out; have := RN.out; omega)).mono ?_
        rintro v a3 ⟨rfl, X2, q2, t2⟩
        have R4 := Lib.hid (R3.out.turn SH.out q2 t2)
        clear q2 t2 R3
        go_wp2_with fail
        refine (one_any 2 9 _).mono ?_
        rintro v a4 ⟨rfl, b4⟩
        have R5 := Lib.hid (R4.out.next SH.out b4)
        clear b4 R4
        go_wp2_with fail
        refine (SH.out.offer_full (od 2 9) R5.out.p (od_p _ _) (od_ok (by decide) (by decide)) (by rw [off_len]; have := TL.out; have := RN.out; omega) LB.out).mono ?_
        rintro v a5 ⟨rfl, X3, q3, t3⟩
        have R6 := Lib.hid (R5.out.turn SH.out q3 t3)
        clear q3 t3 R5
        go_wp2
        go_ret
        exact ⟨rfl, R6.out.b⟩
end
end Go.Proofs.Ytpliidkfllacpaa.PortW.PortFills
