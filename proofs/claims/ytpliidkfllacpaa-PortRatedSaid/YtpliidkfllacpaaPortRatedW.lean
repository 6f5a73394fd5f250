/- The law PortRated, of any port that is as asked. -/
import Derived.Test.YtpliidkfllacpaaPortRatedP
namespace Go.Proofs.Ytpliidkfllacpaa.PortW.PortRated
open Go.RowKit PortW Shell
/-- The last number that was seen, of what came out. -/
def lst (L : List Da) : Nat → Int
  | 0 => -1
  | j + 1 => ((L[j]?).map (fun x => x.n)).getD (-1)
theorem cl2_yes {cls : Int} {want : Bool} {bs : List Bool} {k : Nat} (h : bs[k]? = some want) : cl2 cls want bs (k + 1) = cl2 cls want bs k ++ [od cls (k : Int)] := by
  show (if bs[k]? = some want then _ else _) = _
  rw [if_pos h]
theorem cl2_not {cls : Int} {want : Bool} {bs : List Bool} {k : Nat} (h : bs[k]? = some (!want)) : cl2 cls want bs (k + 1) = cl2 cls want bs k := by
  show (if bs[k]? = some want then _ else _) = _
  rw [if_neg (by rw [h]; cases want <;> simp)]
/-- What is asked of the one that comes out at i. -/
theorem out_at {bs : List Bool} {M i : Nat} {x : Da} (h : (cl2 2 true bs M ++ cl2 3 false bs M)[i]? = some x) :
    (x.c = 2 ↔ i < (cl2 2 true bs M).length) ∧ -1 < x.n ∧ (i ≠ (cl2 2 true bs M).length → lst (cl2 2 true bs M ++ cl2 3 false bs M) i < x.n) := by
  have upR := @cl2_up 2 true bs M
  have upE := @cl2_up 3 false bs M
  generalize hR : cl2 2 true bs M = R at *
  generalize hE : cl2 3 false bs M = E at *
  have hx : (x ∈ R → x.c = 2 ∧ -1 < x.n) ∧ (x ∈ E → x.c = 3 ∧ -1 < x.n) := by
    constructor
    · intro g
      rw [← hR] at g
      have := cl2_mem g
      omega
    · intro g
      rw [← hE] at g
      have := cl2_mem g
      omega
  have hlast : ∀ j y, i = j + 1 → (R ++ E)[j]? = some y → lst (R ++ E) i = y.n := by
    intro j y hi hy
    subst hi
    show (((R ++ E)[j]?).map (fun x => x.n)).getD (-1) = y.n
    rw [hy]
    rfl
  by_cases h1 : i < R.length
  · rw [List.getElem?_append_left h1] at h
    have hm := hx.1 (List.mem_of_getElem? h)
    refine ⟨⟨fun _ => h1, fun _ => hm.1⟩, hm.2, fun _ => ?_⟩
    rcases i with _ | j
    · exact hm.2
    · have hj : R[j]? = some (R[j]'(by omega)) := List.getElem?_eq_getElem (by omega)
      rw [hlast j _ rfl (by rw [List.getElem?_append_left (by omega)]; exact hj)]
      exact upR hj h
  · rw [List.getElem?_append_right (by omega)] at h
    have hm := hx.2 (List.mem_of_getElem? h)
    refine ⟨⟨fun g => by omega, fun g => absurd g h1⟩, hm.2, fun hne => ?_⟩
    rcases i with _ | j
    · exact hm.2
    · have hlt := Shell.lt_of_get h
      have hj : E[j - R.length]? = some (E[j - R.length]'(by omega)) := List.getElem?_eq_getElem (by omega)
      rw [hlast j _ rfl (by rw [List.getElem?_append_right (by omega)]; exact hj)]
      rw [show j + 1 - R.length = j - R.length + 1 by omega] at h
      exact upE hj h
section
variable {PI : Nat → (Nat → Prop) → Nat → Nat → List Da → List Da → Nat → World → Prop}
set_option maxHeartbeats 16000000 in
set_option maxRecDepth 100000 in
theorem walkS (S : Spec PI) (A : Option Addr) (bs : List Bool) (m cp : Nat) (w : World) (h : BB w A bs) (hl : bs.length = m) (hm : m ≤ 9223372036854775807) (hcp : m ≤ cp) (hn : A = none → cp = 0) : Calls Try.prog 5 #[.slice A m cp] w fun r w' => r = .returned (.bool true) ∧ Below w.heap.size w w' := by
  have SH := Lib.hid S
  have HA0 := Lib.hid h
  have HLN := Lib.hid hl
  clear S h
  by_cases hbig : m ≤ 64
  · have m1 : ¬ (64 : Int) < (m : Int) := by omega
    have m2 : (m : Int) ≤ 64 := by omega
    have HM := Lib.hid (show m ≤ 64 ∧ m ≤ bs.length by omega)
    clear hbig hl
    go_enter Try.func5, Try.ntmps5
    go_wp2_with fail
    refine (fixed_any SH.out _).mono ?_
    rintro v w1 ⟨rfl, b1⟩
    have B1 := Lib.hid b1
    clear b1
    go_wp2_with fail
    refine (SH.out.new_ok 64 _ (by omega) (by omega)).mono ?_
    rintro v w2 ⟨g, X0, rfl, p1, b2⟩
    have P1 := Lib.hid (show PS PI w X0 g 64 [] [] 0 w2 from ⟨SH.out.lower p1 B1.out.size, B1.out.trans (b2.mono B1.out.size)⟩)
    clear p1 b2 B1 m1 m2
    go_wp2
    go_loopw [5, 31] (fun rv iv wr => ∃ (k : Nat) (X : Nat → Prop), k ≤ m ∧ iv = .int .i64 k ∧ rv = .int .i64 (((cl2 2 true bs k).length : Nat) : Int) ∧ Hid (PS PI w X g 64 (cl2 2 true bs k) (cl2 3 false bs k) 0 wr)) (fun _ iv _ => m - (intOf iv).toNat)
    case atStart => exact ⟨0, X0, Nat.zero_le _, rfl, rfl, P1⟩
    case round =>
      clear P1
      obtain ⟨k, X, hk, rfl, rfl, HP⟩ := hrel
      by_cases hlt : (k : Int) < (m : Int)
      · obtain ⟨b, hb⟩ : ∃ b, bs[k]? = some b := ⟨_, List.getElem?_eq_getElem (by have := HM.out; omega)⟩
        obtain ⟨a, rfl, hc⟩ := (HA0.out.below HP.out.b) k b hb
        have KB := Lib.hid (show (0 : Int) ≤ (k : Int) ∧ (k : Int) ≤ 2147483647 by have := HM.out; omega)
        have KL := Lib.hid (show (cl2 2 true bs k).length + (cl2 3 false bs k).length < 64 by rw [cl2_len bs k (by have := HM.out; omega)]; have := HM.out; omega)
        have KR := Lib.hid (show (cl2 2 true bs k).length ≤ 64 by have := KL.out; omega)
        cases b with
        | true =>
          have HE1 := Lib.hid (cl2_yes (cls := 2) (want := true) hb)
          have HE2 := Lib.hid (cl2_not (cls := 3) (want := false) hb)
          clear hb
          go_wp2_with fail
          refine (one_any 2 (k : Int) _).mono ?_
          rintro v a1 ⟨rfl, b1⟩
          have R2 := Lib.hid (HP.out.next SH.out b1)
          clear b1
          go_wp2_with fail
          refine (SH.out.offer_ok (od 2 (k : Int)) R2.out.p (od_p _ _) (od_ok (by decide) KB.out) KL.out).mono ?_
          rintro v a2 ⟨rfl, X2, q2, t2⟩
          have R3 := Lib.hid (show PS PI w X2 g 64 (cl2 2 true bs (k + 1)) (cl2 3 false bs (k + 1)) 0 a2 by rw [HE1.out, HE2.out]; exact R2.out.turn SH.out q2 t2)
          clear q2 t2 R2
          have CN := Lib.hid (show wrap64 ((((cl2 2 true bs k).length : Nat) : Int) + 1) = (((cl2 2 true bs (k + 1)).length : Nat) : Int) by rw [HE1.out, List.length_append, List.length_singleton]; have := KR.out; unfold wrap64; omega)
          go_wp2
          go_roundw
          case rel => exact ⟨k + 1, X2, by omega, by go_num, (congrArg (Value.int .i64) CN.out), R3⟩
          case measure => simp [intOf]; omega
        | false =>
          have HE1 := Lib.hid (cl2_not (cls := 2) (want := true) hb)
          have HE2 := Lib.hid (cl2_yes (cls := 3) (want := false) hb)
          clear hb
          go_wp2_with fail
          refine (one_any 3 (k : Int) _).mono ?_
          rintro v a1 ⟨rfl, b1⟩
          have R2 := Lib.hid (HP.out.next SH.out b1)
          clear b1
          go_wp2_with fail
          refine (SH.out.offer_ok (od 3 (k : Int)) R2.out.p (od_p _ _) (od_ok (by decide) KB.out) KL.out).mono ?_
          rintro v a2 ⟨rfl, X2, q2, t2⟩
          have R3 := Lib.hid (show PS PI w X2 g 64 (cl2 2 true bs (k + 1)) (cl2 3 false bs (k + 1)) 0 a2 by rw [HE1.out, HE2.out]; exact R2.out.turn SH.out q2 t2)
          clear q2 t2 R2
          have CN := Lib.hid (show (((cl2 2 true bs k).length : Nat) : Int) = (((cl2 2 true bs (k + 1)).length : Nat) : Int) by rw [HE1.out])
          go_wp2
          go_roundw
          case rel => exact ⟨k + 1, X2, by omega, by go_num, (congrArg (Value.int .i64) CN.out), R3⟩
          case measure => simp [intOf]; omega
      · obtain rfl : k = m := by omega
        have OUT := Lib.hid (fun (i : Nat) (x : Da) (hx : (cl2 2 true bs k ++ cl2 3 false bs k)[i]? = some x) => out_at hx)
        have TL := Lib.hid (show (cl2 2 true bs k ++ cl2 3 false bs k).length = k by rw [List.length_append]; exact cl2_len bs _ HM.out.2)
        have P0 := Lib.hid (show PS PI w X g 64 ((cl2 2 true bs k).drop 0) ((cl2 3 false bs k).drop (0 - (cl2 2 true bs k).length)) 0 wr by rw [Nat.zero_sub]; exact HP.out)
        clear HP
        generalize cl2 2 true bs k = R at *
        generalize cl2 3 false bs k = E at *
        go_wp2
        go_loopw [9, 48] (fun lv iv wr => ∃ (i : Nat) (X : Nat → Prop), i ≤ k ∧ iv = .int .i64 i ∧ lv = .int .i64 (lst (R ++ E) i) ∧ Hid (PS PI w X g 64 (R.drop i) (E.drop (i - R.length)) 0 wr)) (fun _ iv _ => k - (intOf iv).toNat)
        case atStart => exact ⟨0, X, Nat.zero_le _, rfl, rfl, P0⟩
        case round =>
          clear P0
          obtain ⟨i, X2, hi, rfl, rfl, HQ⟩ := hrel
          by_cases hlt2 : (i : Int) < (k : Int)
          · obtain ⟨x, hx⟩ : ∃ x, (R ++ E)[i]? = some x := ⟨_, List.getElem?_eq_getElem (by rw [TL.out]; omega)⟩
            obtain ⟨o1, o2, o3⟩ := OUT.out i x hx
            have NX := nx_at R E hx
            have TD := take_drop R E i
            have LS1 := Lib.hid (show x.n = lst (R ++ E) (i + 1) by show x.n = (((R ++ E)[i]?).map (fun x => x.n)).getD (-1); rw [hx]; rfl)
            have TK := Lib.hid (show Calls Try.prog 13 #[.pointer (some ⟨g, 0, none⟩)] wr fun v W' => v = .returned (.tuple #[dv x, .bool true]) ∧ ∃ X', PI w.heap.size X' g 64 (R.drop (i + 1)) (E.drop (i + 1 - R.length)) 0 W' ∧ Turn X2 X' wr W' by have := SH.out.take HQ.out.p; rw [NX, TD.1, TD.2] at this; exact this)
            generalize hla : lst (R ++ E) i = la at *
            generalize R.length = n at *
            clear hx NX TD hla
            by_cases c1 : i < n
            · have q1 : (x.c == 2) = true := by rw [beq_iff_eq]; exact o1.2 c1
              have q2 : (i : Int) < (n : Int) := by omega
              have q3 : ((i : Int) == (n : Int)) = false := by rw [beq_eq_false_iff_ne]; omega
              have q4 : ¬ x.n ≤ la := by have := o3 (by omega); omega
              clear o1 o2 o3 c1
              go_wp2_with fail
              refine TK.out.mono ?_
              rintro v a1 ⟨rfl, X3, q5, t5⟩
              have R1 := Lib.hid (HQ.out.turn SH.out q5 t5)
              have R2 := Lib.hid (R1.out.next SH.out (al (Below.refl _ _) (dbx x)))
              clear q5 t5 R1 TK
              go_wp2
              go_roundw
              case rel => exact ⟨i + 1, X3, by omega, by go_num, congrArg (Value.int .i64) LS1.out, R2⟩
              case measure => simp [intOf]; omega
            · by_cases c2 : i = n
              · have q1 : (x.c == 2) = false := by rw [beq_eq_false_iff_ne]; exact fun h => c1 (o1.1 h)
                have q2 : ¬ (i : Int) < (n : Int) := by omega
                have q3 : ((i : Int) == (n : Int)) = true := by rw [beq_iff_eq]; omega
                have q4 : ¬ x.n ≤ -1 := by omega
                clear o1 o2 o3 c1 c2
                go_wp2_with fail
                refine TK.out.mono ?_
                rintro v a1 ⟨rfl, X3, q5, t5⟩
                have R1 := Lib.hid (HQ.out.turn SH.out q5 t5)
                have R2 := Lib.hid (R1.out.next SH.out (al (Below.refl _ _) (dbx x)))
                clear q5 t5 R1 TK
                go_wp2
                go_roundw
                case rel => exact ⟨i + 1, X3, by omega, by go_num, congrArg (Value.int .i64) LS1.out, R2⟩
                case measure => simp [intOf]; omega
              · have q1 : (x.c == 2) = false := by rw [beq_eq_false_iff_ne]; exact fun h => c1 (o1.1 h)
                have q2 : ¬ (i : Int) < (n : Int) := by omega
                have q3 : ((i : Int) == (n : Int)) = false := by rw [beq_eq_false_iff_ne]; omega
                have q4 : ¬ x.n ≤ la := by have := o3 c2; omega
                clear o1 o2 o3 c1 c2
                go_wp2_with fail
                refine TK.out.mono ?_
                rintro v a1 ⟨rfl, X3, q5, t5⟩
                have R1 := Lib.hid (HQ.out.turn SH.out q5 t5)
                have R2 := Lib.hid (R1.out.next SH.out (al (Below.refl _ _) (dbx x)))
                clear q5 t5 R1 TK
                go_wp2
                go_roundw
                case rel => exact ⟨i + 1, X3, by omega, by go_num, congrArg (Value.int .i64) LS1.out, R2⟩
                case measure => simp [intOf]; omega
          · have B0 := Lib.hid HQ.out.b
            clear HQ
            go_wp2_with fail
            refine (SH.out.peek_nil _).mono ?_
            rintro v a1 ⟨rfl, b1⟩
            have B1 := Lib.hid (al (B0.out.trans (b1.mono B0.out.size)) (dbx zD))
            clear b1 B0
            go_wp2_with fail
            refine (SH.out.take_nil _).mono ?_
            rintro v a2 ⟨rfl, b2⟩
            have B2 := Lib.hid (al (B1.out.trans (b2.mono B1.out.size)) (dbx zD))
            clear b2 B1
            go_wp2_with fail
            refine (one_any 2 1 _).mono ?_
            rintro v a3 ⟨rfl, b3⟩
            have B3 := Lib.hid (B2.out.trans (b3.mono B2.out.size))
            clear b3 B2
            go_wp2_with fail
            refine (SH.out.offer_nil (od 2 1) _ (od_p _ _)).mono ?_
            rintro v a4 ⟨rfl, b4⟩
            have B4 := Lib.hid (B3.out.trans (b4.mono B3.out.size))
            clear b4 B3
            go_wp2_with fail
            refine (SH.out.len_nil _).mono ?_
            rintro v a5 ⟨rfl, b5⟩
            have B5 := Lib.hid (B4.out.trans (b5.mono B4.out.size))
            clear b5 B4
            go_wp2_with fail
            refine (SH.out.clear_nil _).mono ?_
            rintro v a6 ⟨A6, c6, rfl, b6⟩
            have B6 := Lib.hid (B5.out.trans (b6.mono B5.out.size))
            clear b6 B5
            go_wp2_with fail
            refine (SH.out.lost_nil _).mono ?_
            rintro v a7 ⟨rfl, b7⟩
            have B7 := Lib.hid (B6.out.trans (b7.mono B6.out.size))
            clear b7 B6
            go_wp2
            go_ret
            exact ⟨rfl, B7.out⟩
  · have m1 : (64 : Int) < (m : Int) := by omega
    have m2 : ¬ (m : Int) ≤ 64 := by omega
    have m3 : (64 : Int) ≤ (cp : Int) := by omega
    have m4 : 64 ≤ cp := by omega
    obtain ⟨a0, rfl, -⟩ := HA0.out 0 (bs[0]'(by omega)) (List.getElem?_eq_getElem (by omega))
    have HM := Lib.hid (show 64 ≤ 64 ∧ 64 ≤ bs.length by omega)
    clear hbig hl
    go_enter Try.func5, Try.ntmps5
    go_wp2_with fail
    refine (fixed_any SH.out _).mono ?_
    rintro v w1 ⟨rfl, b1⟩
    have B1 := Lib.hid b1
    clear b1
    go_wp2_with fail
    refine (SH.out.new_ok 64 _ (by omega) (by omega)).mono ?_
    rintro v w2 ⟨g, X0, rfl, p1, b2⟩
    have P1 := Lib.hid (show PS PI w X0 g 64 [] [] 0 w2 from ⟨SH.out.lower p1 B1.out.size, B1.out.trans (b2.mono B1.out.size)⟩)
    clear p1 b2 B1 m1 m2
    go_wp2
    go_loopw [5, 31] (fun rv iv wr => ∃ (k : Nat) (X : Nat → Prop), k ≤ 64 ∧ iv = .int .i64 k ∧ rv = .int .i64 (((cl2 2 true bs k).length : Nat) : Int) ∧ Hid (PS PI w X g 64 (cl2 2 true bs k) (cl2 3 false bs k) 0 wr)) (fun _ iv _ => 64 - (intOf iv).toNat)
    case atStart => exact ⟨0, X0, Nat.zero_le _, rfl, rfl, P1⟩
    case round =>
      clear P1
      obtain ⟨k, X, hk, rfl, rfl, HP⟩ := hrel
      by_cases hlt : (k : Int) < (64 : Int)
      · obtain ⟨b, hb⟩ : ∃ b, bs[k]? = some b := ⟨_, List.getElem?_eq_getElem (by have := HM.out; omega)⟩
        obtain ⟨a, hA, hc⟩ := (HA0.out.below HP.out.b) k b hb; cases hA
        have KB := Lib.hid (show (0 : Int) ≤ (k : Int) ∧ (k : Int) ≤ 2147483647 by have := HM.out; omega)
        have KL := Lib.hid (show (cl2 2 true bs k).length + (cl2 3 false bs k).length < 64 by rw [cl2_len bs k (by have := HM.out; omega)]; have := HM.out; omega)
        have KR := Lib.hid (show (cl2 2 true bs k).length ≤ 64 by have := KL.out; omega)
        cases b with
        | true =>
          have HE1 := Lib.hid (cl2_yes (cls := 2) (want := true) hb)
          have HE2 := Lib.hid (cl2_not (cls := 3) (want := false) hb)
          clear hb
          go_wp2_with fail
          refine (one_any 2 (k : Int) _).mono ?_
          rintro v a1 ⟨rfl, b1⟩
          have R2 := Lib.hid (HP.out.next SH.out b1)
          clear b1
          go_wp2_with fail
          refine (SH.out.offer_ok (od 2 (k : Int)) R2.out.p (od_p _ _) (od_ok (by decide) KB.out) KL.out).mono ?_
          rintro v a2 ⟨rfl, X2, q2, t2⟩
          have R3 := Lib.hid (show PS PI w X2 g 64 (cl2 2 true bs (k + 1)) (cl2 3 false bs (k + 1)) 0 a2 by rw [HE1.out, HE2.out]; exact R2.out.turn SH.out q2 t2)
          clear q2 t2 R2
          have CN := Lib.hid (show wrap64 ((((cl2 2 true bs k).length : Nat) : Int) + 1) = (((cl2 2 true bs (k + 1)).length : Nat) : Int) by rw [HE1.out, List.length_append, List.length_singleton]; have := KR.out; unfold wrap64; omega)
          go_wp2
          go_roundw
          case rel => exact ⟨k + 1, X2, by omega, by go_num, (congrArg (Value.int .i64) CN.out), R3⟩
          case measure => simp [intOf]; omega
        | false =>
          have HE1 := Lib.hid (cl2_not (cls := 2) (want := true) hb)
          have HE2 := Lib.hid (cl2_yes (cls := 3) (want := false) hb)
          clear hb
          go_wp2_with fail
          refine (one_any 3 (k : Int) _).mono ?_
          rintro v a1 ⟨rfl, b1⟩
          have R2 := Lib.hid (HP.out.next SH.out b1)
          clear b1
          go_wp2_with fail
          refine (SH.out.offer_ok (od 3 (k : Int)) R2.out.p (od_p _ _) (od_ok (by decide) KB.out) KL.out).mono ?_
          rintro v a2 ⟨rfl, X2, q2, t2⟩
          have R3 := Lib.hid (show PS PI w X2 g 64 (cl2 2 true bs (k + 1)) (cl2 3 false bs (k + 1)) 0 a2 by rw [HE1.out, HE2.out]; exact R2.out.turn SH.out q2 t2)
          clear q2 t2 R2
          have CN := Lib.hid (show (((cl2 2 true bs k).length : Nat) : Int) = (((cl2 2 true bs (k + 1)).length : Nat) : Int) by rw [HE1.out])
          go_wp2
          go_roundw
          case rel => exact ⟨k + 1, X2, by omega, by go_num, (congrArg (Value.int .i64) CN.out), R3⟩
          case measure => simp [intOf]; omega
      · obtain rfl : k = 64 := by omega
        have OUT := Lib.hid (fun (i : Nat) (x : Da) (hx : (cl2 2 true bs 64 ++ cl2 3 false bs 64)[i]? = some x) => out_at hx)
        have TL := Lib.hid (show (cl2 2 true bs 64 ++ cl2 3 false bs 64).length = 64 by rw [List.length_append]; exact cl2_len bs _ HM.out.2)
        have P0 := Lib.hid (show PS PI w X g 64 ((cl2 2 true bs 64).drop 0) ((cl2 3 false bs 64).drop (0 - (cl2 2 true bs 64).length)) 0 wr by rw [Nat.zero_sub]; exact HP.out)
        clear HP
        generalize cl2 2 true bs 64 = R at *
        generalize cl2 3 false bs 64 = E at *
        go_wp2
        go_loopw [9, 48] (fun lv iv wr => ∃ (i : Nat) (X : Nat → Prop), i ≤ 64 ∧ iv = .int .i64 i ∧ lv = .int .i64 (lst (R ++ E) i) ∧ Hid (PS PI w X g 64 (R.drop i) (E.drop (i - R.length)) 0 wr)) (fun _ iv _ => 64 - (intOf iv).toNat)
        case atStart => exact ⟨0, X, Nat.zero_le _, rfl, rfl, P0⟩
        case round =>
          clear P0
          obtain ⟨i, X2, hi, rfl, rfl, HQ⟩ := hrel
          by_cases hlt2 : (i : Int) < (64 : Int)
          · obtain ⟨x, hx⟩ : ∃ x, (R ++ E)[i]? = some x := ⟨_, List.getElem?_eq_getElem (by rw [TL.out]; omega)⟩
            obtain ⟨o1, o2, o3⟩ := OUT.out i x hx
            have NX := nx_at R E hx
            have TD := take_drop R E i
            have LS1 := Lib.hid (show x.n = lst (R ++ E) (i + 1) by show x.n = (((R ++ E)[i]?).map (fun x => x.n)).getD (-1); rw [hx]; rfl)
            have TK := Lib.hid (show Calls Try.prog 13 #[.pointer (some ⟨g, 0, none⟩)] wr fun v W' => v = .returned (.tuple #[dv x, .bool true]) ∧ ∃ X', PI w.heap.size X' g 64 (R.drop (i + 1)) (E.drop (i + 1 - R.length)) 0 W' ∧ Turn X2 X' wr W' by have := SH.out.take HQ.out.p; rw [NX, TD.1, TD.2] at this; exact this)
            generalize hla : lst (R ++ E) i = la at *
            generalize R.length = n at *
            clear hx NX TD hla
            by_cases c1 : i < n
            · have q1 : (x.c == 2) = true := by rw [beq_iff_eq]; exact o1.2 c1
              have q2 : (i : Int) < (n : Int) := by omega
              have q3 : ((i : Int) == (n : Int)) = false := by rw [beq_eq_false_iff_ne]; omega
              have q4 : ¬ x.n ≤ la := by have := o3 (by omega); omega
              clear o1 o2 o3 c1
              go_wp2_with fail
              refine TK.out.mono ?_
              rintro v a1 ⟨rfl, X3, q5, t5⟩
              have R1 := Lib.hid (HQ.out.turn SH.out q5 t5)
              have R2 := Lib.hid (R1.out.next SH.out (al (Below.refl _ _) (dbx x)))
              clear q5 t5 R1 TK
              go_wp2
              go_roundw
              case rel => exact ⟨i + 1, X3, by omega, by go_num, congrArg (Value.int .i64) LS1.out, R2⟩
              case measure => simp [intOf]; omega
            · by_cases c2 : i = n
              · have q1 : (x.c == 2) = false := by rw [beq_eq_false_iff_ne]; exact fun h => c1 (o1.1 h)
                have q2 : ¬ (i : Int) < (n : Int) := by omega
                have q3 : ((i : Int) == (n : Int)) = true := by rw [beq_iff_eq]; omega
                have q4 : ¬ x.n ≤ -1 := by omega
                clear o1 o2 o3 c1 c2
                go_wp2_with fail
                refine TK.out.mono ?_
                rintro v a1 ⟨rfl, X3, q5, t5⟩
                have R1 := Lib.hid (HQ.out.turn SH.out q5 t5)
                have R2 := Lib.hid (R1.out.next SH.out (al (Below.refl _ _) (dbx x)))
                clear q5 t5 R1 TK
                go_wp2
                go_roundw
                case rel => exact ⟨i + 1, X3, by omega, by go_num, congrArg (Value.int .i64) LS1.out, R2⟩
                case measure => simp [intOf]; omega
              · have q1 : (x.c == 2) = false := by rw [beq_eq_false_iff_ne]; exact fun h => c1 (o1.1 h)
                have q2 : ¬ (i : Int) < (n : Int) := by omega
                have q3 : ((i : Int) == (n : Int)) = false := by rw [beq_eq_false_iff_ne]; omega
                have q4 : ¬ x.n ≤ la := by have := o3 c2; omega
                clear o1 o2 o3 c1 c2
                go_wp2_with fail
                refine TK.out.mono ?_
                rintro v a1 ⟨rfl, X3, q5, t5⟩
                have R1 := Lib.hid (HQ.out.turn SH.out q5 t5)
                have R2 := Lib.hid (R1.out.next SH.out (al (Below.refl _ _) (dbx x)))
                clear q5 t5 R1 TK
                go_wp2
                go_roundw
                case rel => exact ⟨i + 1, X3, by omega, by go_num, congrArg (Value.int .i64) LS1.out, R2⟩
                case measure => simp [intOf]; omega
          · have B0 := Lib.hid HQ.out.b
            clear HQ
            go_wp2_with fail
            refine (SH.out.peek_nil _).mono ?_
            rintro v a1 ⟨rfl, b1⟩
            have B1 := Lib.hid (al (B0.out.trans (b1.mono B0.out.size)) (dbx zD))
            clear b1 B0
            go_wp2_with fail
            refine (SH.out.take_nil _).mono ?_
            rintro v a2 ⟨rfl, b2⟩
            have B2 := Lib.hid (al (B1.out.trans (b2.mono B1.out.size)) (dbx zD))
            clear b2 B1
            go_wp2_with fail
            refine (one_any 2 1 _).mono ?_
            rintro v a3 ⟨rfl, b3⟩
            have B3 := Lib.hid (B2.out.trans (b3.mono B2.out.size))
            clear b3 B2
            go_wp2_with fail
            refine (SH.out.offer_nil (od 2 1) _ (od_p _ _)).mono ?_
            rintro v a4 ⟨rfl, b4⟩
            have B4 := Lib.hid (B3.out.trans (b4.mono B3.out.size))
            clear b4 B3
            go_wp2_with fail
            refine (SH.out.len_nil _).mono ?_
            rintro v a5 ⟨rfl, b5⟩
            have B5 := Lib.hid (B4.out.trans (b5.mono B4.out.size))
            clear b5 B4
            go_wp2_with fail
            refine (SH.out.clear_nil _).mono ?_
            rintro v a6 ⟨A6, c6, rfl, b6⟩
            have B6 := Lib.hid (B5.out.trans (b6.mono B5.out.size))
            clear b6 B5
            go_wp2_with fail
            refine (SH.out.lost_nil _).mono ?_
            rintro v a7 ⟨rfl, b7⟩
            have B7 := Lib.hid (B6.out.trans (b7.mono B6.out.size))
            clear b7 B6
            go_wp2
            go_ret
            exact ⟨rfl, B7.out⟩
end
end Go.Proofs.Ytpliidkfllacpaa.PortW.PortRated
