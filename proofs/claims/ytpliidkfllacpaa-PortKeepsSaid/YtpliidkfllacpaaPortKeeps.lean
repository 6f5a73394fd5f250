/- tocsinlaw16.PortKeeps answers true at every input: what a port has taken in comes out once, each class in the order of its coming, or waits; what it refused never comes out. No condition. -/
import Derived.Test.YtpliidkfllacpaaPortLay
import Derived.Test.YtpliidkfllacpaaPortM
namespace Go.Proofs.Ytpliidkfllacpaa.PortW.PortKeeps
open Go.ChangeShapes Go.WideShapes Go.ChangeAt Go.RowKit PortW Shell
abbrev obx (k : Int) (x : Da) : Obj := .cells #[.int .i64 k, .int .i64 x.c, .int .i64 x.l, .int .i64 x.n, .string x.p, .int .i64 x.s] 32 (0, 0)
section
variable {PI : Nat → (Nat → Prop) → Nat → Nat → List Da → List Da → Nat → World → Prop}
/-- What Clear gives lies where a slice may begin. -/
def ClearS (PI : Nat → (Nat → Prop) → Nat → Nat → List Da → List Da → Nat → World → Prop) : Prop := ∀ (X : Nat → Prop) (r e : List Da) {lo g m l : Nat} (W : World), PI lo X g m r e l W → Calls Try.prog 16 #[.pointer (some ⟨g, 0, none⟩)] W fun v W' => ∃ A n c, v = .returned (.slice A n c) ∧ (n = r.length + e.length ∧ n ≤ c ∧ (A = none → c = 0) ∧ SG FD W' A (r ++ e)) ∧ ∃ X', PI lo X' g m [] [] l W' ∧ Turn X X' W W' ∧ ∀ a, A = some a → a.spot = none ∧ lo ≤ a.block ∧ ¬ X' a.block
theorem cls_take {L : List Da} {k : Nat} {x : Da} (c : Int) (hx : L[k]? = some x) : cls c (L.take (k + 1)) = if x.c = c then cls c (L.take k) ++ [x] else cls c (L.take k) := by
  rw [List.take_add_one, hx, Option.toList_some, cls_app]
  unfold cls
  by_cases h : x.c = c
  · rw [if_pos h]; simp [h]
  · rw [if_neg h]; simp [h]
set_option maxHeartbeats 64000000 in
set_option maxRecDepth 100000 in
theorem walkS (S : Spec PI) (K : ClearS PI) (b : Nat) (A : Option Addr) (os : List Op) (n cp : Nat) (w : World) (_hb : b < 256) (h : OPS w A os) (hl : os.length = n) (hz : n * 56 ≤ 140737488351232) :
    Calls Try.prog 4 #[.int .u8 (b : Int), .slice A n cp] w fun r w' => r = .returned (.bool true) ∧ Below w.heap.size w w' := by
  have SH := Lib.hid S
  have KC := Lib.hid K
  have HA := Lib.hid h
  have HL := Lib.hid hl
  have HNB := Lib.hid (show n ≤ 4503599627370495 by omega)
  obtain ⟨p, hp⟩ : ∃ p, b % 64 = p := ⟨_, rfl⟩
  obtain ⟨m, hm⟩ : ∃ m, 1 + p = m := ⟨_, rfl⟩
  have pb : p < 64 := by omega
  have e2 : (b : Int) % 64 = (p : Int) := by omega
  have HMB := Lib.hid (show 1 ≤ m ∧ m ≤ 64 by omega)
  have hn2 : 1 + (p : Int) = (m : Int) := by omega
  clear hp
  have e3 : IntKind.u8.wrap (p : Int) = (p : Int) := by rw [IntKind.wrap_u8]; omega
  have e4 : IntKind.i64.wrap (p : Int) = (p : Int) := by rw [IntKind.wrap_i64]; omega
  have e5 : IntKind.i64.wrap (1 + (p : Int)) = (m : Int) := by rw [IntKind.wrap_i64]; omega
  have e6 : wrap64 (1 + (p : Int)) = (m : Int) := by unfold wrap64; omega
  have e1 : Int.tmod (b : Int) 64 = (p : Int) := by rw [Int.tmod_eq_emod_of_nonneg (Int.natCast_nonneg b)]; exact e2
  clear S K h hl hz _hb hm hn2 pb
  go_enter Try.func4, Try.ntmps4
  go_wp2_with fail
  refine (fixed_any SH.out _).mono ?_
  rintro v w1 ⟨rfl, b1⟩
  have B1 := Lib.hid b1
  clear b1
  go_wp2_with fail
  refine (SH.out.new_ok m _ HMB.out.1 HMB.out.2).mono ?_
  rintro v w2 ⟨g, X0, rfl, p1, b2⟩
  have P1 := Lib.hid (ST2.start (PI := PI) (show ST PI w X0 g m (R []) (E []) 0 (.slice none 0 0) [] [] w2 from ⟨⟨SH.out.lower p1 B1.out.size, B1.out.trans (b2.mono B1.out.size)⟩, OG.nil _ _ _, (fun k hk => by cases hk), (fun b hb => by cases hb)⟩))
  clear p1 b2 B1 e1 e2 e3 e4 e5 e6
  go_wp2
  go_loopw [7, 8, 33] (fun vv uv iv wr => ∃ (k l : Nat) (X : Nat → Prop) (L I O : List Da), k ≤ n ∧ iv = .int .i64 k ∧ l ≤ k ∧ Hid (ST2 PI w X g m (R L) (E L) l vv I uv O [] wr) ∧ Hid (Kep I O L) ∧ Hid (L.length ≤ m) ∧ Hid (I.length ≤ k ∧ I.length ≤ 2147483648)) (fun _ _ iv _ => n - (intOf iv).toNat)
  case atStart => exact ⟨0, 0, X0, [], [], [], Nat.zero_le _, rfl, Nat.le_refl _, P1, Lib.hid kept_nil, Lib.hid (Nat.zero_le _), Lib.hid ⟨Nat.le_refl _, by decide⟩⟩
  case round =>
    clear P1
    obtain ⟨k, l, X, L, I, O, hk, rfl, hlk, HS, HKE, HLM, HIB⟩ := hrel
    obtain ⟨B, c, rfl, -⟩ := HS.out.s.o.form
    obtain ⟨D, d, rfl, -⟩ := HS.out.o.form
    obtain ⟨a, ha⟩ : ∃ a, I.length = a := ⟨_, rfl⟩
    obtain ⟨t, ht⟩ : ∃ t, O.length = t := ⟨_, rfl⟩
    rw [ha, ht] at HS
    rw [ha, ht]
    have HA_ := Lib.hid ha
    have HT_ := Lib.hid ht
    clear ha ht
    by_cases hlt : (k : Int) < (n : Int)
    case neg =>
      go_wp2_with fail
      refine (KC.out _ _ _ _ HS.out.s.p.p).mono ?_
      rintro v w3 ⟨A3, n3, c3, rfl, ⟨hn3, -, hA3, sg3⟩, X3, p3, t3, hx3⟩
      have S3 := Lib.hid (HS.out.turn SH.out p3 t3)
      have N3 := Lib.hid (show (R L ++ E L).length = n3 by rw [List.length_append, hn3])
      have SG3 := Lib.hid sg3
      have A3n := Lib.hid hA3
      have A3s := Lib.hid (fun ad h => (hx3 ad h).1)
      have HKE2 := Lib.hid (kept_clear HKE.out)
      have HOB := Lib.hid (show (O ++ (R L ++ E L)).length ≤ 2147483648 by have h1 : I.length = (O ++ (R L ++ E L)).length := HKE2.out.len; have := HIB.out; omega)
      clear hn3 hA3 sg3 p3 t3 hx3 HS
      go_wp2_with (at_builtin; refine wpList_append_og oneD _ rfl _ _ rfl w.heap.size _ O rfl S3.out.o A3 n3 c3 (R L ++ E L) rfl N3.out SG3.out A3n.out A3s.out ?c1 (by decide) ?c2 ?_)
      case c1 => have h1 := HOB.out; rw [List.length_append, N3.out] at h1; omega
      case c2 => have := S3.out.s.p.b.size; omega
      intro v5 w5 o5 s5
      have S5 := Lib.hid (S3.out.growU SH.out o5 s5)
      obtain ⟨D5, d5, hv5, -⟩ := o5.form
      obtain ⟨tO, htO⟩ : ∃ tO, (O ++ (R L ++ E L)).length = tO := ⟨_, rfl⟩
      rw [htO] at hv5
      subst hv5
      have HOL := Lib.hid htO
      have HCN := Lib.hid (show I.length = (O ++ (R L ++ E L)).length from HKE2.out.len)
      have HC2 := Lib.hid (show cls 2 I = cls 2 (O ++ (R L ++ E L)) by have := HKE2.out.two; rwa [show cls 2 [] = [] from rfl, List.append_nil] at this)
      have HC3 := Lib.hid (show cls 3 I = cls 3 (O ++ (R L ++ E L)) by have := HKE2.out.three; rwa [show cls 3 [] = [] from rfl, List.append_nil] at this)
      have HSI := Lib.hid (show SG FD w5 B I by
        obtain ⟨A', c', hv', sg, -⟩ := S5.out.s.o.form
        cases hv'
        exact sg)
      have HSO := Lib.hid (show SG FD w5 D5 (O ++ (R L ++ E L)) by
        obtain ⟨A', c', hv', sg, -⟩ := S5.out.o.form
        cases hv'
        exact sg)
      have HB5 := Lib.hid S5.out.s.p.b
      generalize O ++ (R L ++ E L) = O2 at *
      clear htO o5 s5 S3 S5 N3 SG3 A3n A3s HKE2 HKE HLM
      go_wp2
      go_loopw [14] (fun cv wo => ∃ cl : Nat, 2 ≤ cl ∧ cl ≤ 4 ∧ cv = .int .i64 cl ∧ Hid (Below w5.heap.size w5 wo)) (fun cv _ => 4 - (intOf cv).toNat)
      case atStart => exact ⟨2, Nat.le_refl _, by omega, rfl, Lib.hid (Below.refl _ _)⟩
      case round =>
        obtain ⟨cl, hc2, hc4, rfl, HBo⟩ := hrel
        by_cases h3 : (cl : Int) ≤ 3
        · have HCE := Lib.hid (show cls (cl : Int) I = cls (cl : Int) O2 by
            rcases (show cl = 2 ∨ cl = 3 by omega) with rfl | rfl
            · exact HC2.out
            · exact HC3.out)
          go_wp2
          go_loopw [15, 83] (fun av iv wr => ∃ j : Nat, j ≤ a ∧ iv = .int .i64 j ∧ Hid (OG FD wr w5.heap.size 30 av (cls (cl : Int) (I.take j))) ∧ Hid (Below w5.heap.size w5 wr)) (fun _ iv _ => a - (intOf iv).toNat)
          case atStart => exact ⟨0, Nat.zero_le _, rfl, Lib.hid (by rw [List.take_zero]; exact OG.nil _ _ _), HBo⟩
          case round =>
            obtain ⟨j, hj, rfl, HO1, HB1⟩ := hrel
            obtain ⟨Ba1, ca1, rfl, -⟩ := HO1.out.form
            by_cases hjl : (j : Int) < (a : Int)
            · obtain ⟨x, hx⟩ : ∃ x, I[j]? = some x := ⟨_, List.getElem?_eq_getElem (by rw [HA_.out]; omega)⟩
              obtain ⟨bb, off, rfl, x0, x1, x2, x3, x4⟩ := sg5 (HSI.out.below HB1.out) hx
              have HTK := Lib.hid (cls_take (cl : Int) hx)
              have HTN := Lib.hid (show (cls (cl : Int) (I.take j)).length ≤ I.length from Nat.le_trans (List.length_filter_le _ _) (by rw [List.length_take]; omega))
              generalize cls (cl : Int) (I.take j) = T at *
              obtain ⟨nT, hnT⟩ : ∃ nT, T.length = nT := ⟨_, rfl⟩
              rw [hnT] at HO1
              rw [hnT]
              have HNT := Lib.hid hnT
              have BX := Lib.hid (al (Below.refl wr.heap.size wr) (dbx x))
              have OX := Lib.hid (HO1.out.below BX.out)
              obtain ⟨d0, d1, d2, d3, d4⟩ := cells5 (heap_alloc_new wr (dbx x))
              obtain ⟨jj, hjj⟩ : ∃ jj, j + 1 = jj := ⟨_, rfl⟩
              have HJJ := Lib.hid hjj
              obtain ⟨u1, u2⟩ := wr_of (x := (j : Int) + 1) (z := (jj : Int)) (by omega) (by have := HIB.out.2; have := HA_.out; omega)
              rw [hjj] at HTK
              have HJL := Lib.hid hjl
              clear hx hnT hjj
              by_cases hc : x.c = (cl : Int)
              · have q1 : (x.c == (cl : Int)) = true := by rw [beq_iff_eq]; exact hc
                have HT2 := Lib.hid (show cls (cl : Int) (I.take jj) = T ++ [x] by rw [HTK.out, if_pos hc])
                obtain ⟨n1, hn1⟩ : ∃ n1, nT + 1 = n1 := ⟨_, rfl⟩
                have HN1 := Lib.hid (show (T ++ [x]).length = n1 by rw [List.length_append, HNT.out]; exact hn1)
                clear hc hn1
                go_wp2_with (at_builtin; refine wpList_append_one oneD _ rfl _ _ rfl w5.heap.size _ T rfl (OX.out.alloc _) x _ rfl (heap_at (World.size_alloc _ _) _) ?c1 (by decide) ?c2 ?_)
                case c1 => have := HTN.out; have := HIB.out.2; omega
                case c2 => rw [World.size_alloc, World.size_alloc]; have := HB1.out.size; omega
                intro v7 w7 o7 s7
                have HO2 := Lib.hid (show OG FD w7 w5.heap.size 30 v7 (cls (cl : Int) (I.take jj)) by rw [HT2.out]; exact o7)
                have HB2 := Lib.hid (HB1.out.trans ((((Step.alloc wr _ (dbx x)).trans (Step.alloc _ _ _)).trans s7).belowG HO1.out HB1.out.size))
                obtain ⟨B7, c7, hv7, -⟩ := o7.form
                rw [HN1.out] at hv7
                subst hv7
                clear o7 s7 HO1 OX BX d0 d1 d2 d3 d4 x0 x1 x2 x3 x4
                go_wp2
                go_roundw
                case rel => exact ⟨jj, by have := HJJ.out; have := HJL.out; omega, by go_num, HO2, HB2⟩
                case measure => have := HJJ.out; have := HJL.out; simp [intOf]; omega
              · have q1 : (x.c == (cl : Int)) = false := by rw [beq_eq_false_iff_ne]; exact hc
                have HO2 := Lib.hid (show OG FD (wr.alloc (dbx x)) w5.heap.size 30 (.slice Ba1 nT ca1) (cls (cl : Int) (I.take jj)) by rw [HTK.out, if_neg hc]; exact OX.out)
                have HB2 := Lib.hid (HB1.out.trans (BX.out.mono HB1.out.size))
                clear hc HO1 OX BX
                go_wp2
                go_roundw
                case rel => exact ⟨jj, by have := HJJ.out; have := HJL.out; omega, by go_num, HO2, HB2⟩
                case measure => have := HJJ.out; have := HJL.out; simp [intOf]; omega
            · obtain rfl : j = a := by omega
              have HAR := Lib.hid (show OG FD wr w5.heap.size 30 (.slice Ba1 (cls (cl : Int) (I.take j)).length ca1) (cls (cl : Int) I) by have := HO1.out; rwa [show I.take j = I from by rw [← HA_.out, List.take_length]] at this ⊢)
              obtain ⟨la, hla⟩ : ∃ la, (cls (cl : Int) (I.take j)).length = la := ⟨_, rfl⟩
              rw [hla] at HAR
              rw [hla]
              have HLa := Lib.hid (show (cls (cl : Int) I).length = la by rw [← hla, show I.take j = I from by rw [← HA_.out, List.take_length]])
              have HBs := HB1
              clear hla HO1 HB1
              generalize wr = ws at *
              go_wp2
              go_loopw [16, 98] (fun av iv wr => ∃ j : Nat, j ≤ tO ∧ iv = .int .i64 j ∧ Hid (OG FD wr ws.heap.size 30 av (cls (cl : Int) (O2.take j))) ∧ Hid (Below ws.heap.size ws wr)) (fun _ iv _ => tO - (intOf iv).toNat)
              case atStart => exact ⟨0, Nat.zero_le _, rfl, Lib.hid (by rw [List.take_zero]; exact OG.nil _ _ _), Lib.hid (Below.refl _ _)⟩
              case round =>
                obtain ⟨j, hj, rfl, HO1, HB1⟩ := hrel
                obtain ⟨Ba2, ca2, rfl, -⟩ := HO1.out.form
                by_cases hjl : (j : Int) < (tO : Int)
                · obtain ⟨x, hx⟩ : ∃ x, O2[j]? = some x := ⟨_, List.getElem?_eq_getElem (by rw [HOL.out]; omega)⟩
                  obtain ⟨bb, off, rfl, x0, x1, x2, x3, x4⟩ := sg5 ((HSO.out.below HBs.out).below HB1.out) hx
                  have HTK := Lib.hid (cls_take (cl : Int) hx)
                  have HTN := Lib.hid (show (cls (cl : Int) (O2.take j)).length ≤ O2.length from Nat.le_trans (List.length_filter_le _ _) (by rw [List.length_take]; omega))
                  generalize cls (cl : Int) (O2.take j) = T at *
                  obtain ⟨nT, hnT⟩ : ∃ nT, T.length = nT := ⟨_, rfl⟩
                  rw [hnT] at HO1
                  rw [hnT]
                  have HNT := Lib.hid hnT
                  have BX := Lib.hid (al (Below.refl wr.heap.size wr) (dbx x))
                  have OX := Lib.hid (HO1.out.below BX.out)
                  obtain ⟨d0, d1, d2, d3, d4⟩ := cells5 (heap_alloc_new wr (dbx x))
                  obtain ⟨jj, hjj⟩ : ∃ jj, j + 1 = jj := ⟨_, rfl⟩
                  have HJJ := Lib.hid hjj
                  obtain ⟨u1, u2⟩ := wr_of (x := (j : Int) + 1) (z := (jj : Int)) (by omega) (by have := HOB.out; have := HOL.out; omega)
                  rw [hjj] at HTK
                  have HJL := Lib.hid hjl
                  clear hx hnT hjj
                  by_cases hc : x.c = (cl : Int)
                  · have q1 : (x.c == (cl : Int)) = true := by rw [beq_iff_eq]; exact hc
                    have HT2 := Lib.hid (show cls (cl : Int) (O2.take jj) = T ++ [x] by rw [HTK.out, if_pos hc])
                    obtain ⟨n1, hn1⟩ : ∃ n1, nT + 1 = n1 := ⟨_, rfl⟩
                    have HN1 := Lib.hid (show (T ++ [x]).length = n1 by rw [List.length_append, HNT.out]; exact hn1)
                    clear hc hn1
                    go_wp2_with (at_builtin; refine wpList_append_one oneD _ rfl _ _ rfl ws.heap.size _ T rfl (OX.out.alloc _) x _ rfl (heap_at (World.size_alloc _ _) _) ?c1 (by decide) ?c2 ?_)
                    case c1 => have := HTN.out; have := HOB.out; omega
                    case c2 => rw [World.size_alloc, World.size_alloc]; have := HB1.out.size; omega
                    intro v7 w7 o7 s7
                    have HO2 := Lib.hid (show OG FD w7 ws.heap.size 30 v7 (cls (cl : Int) (O2.take jj)) by rw [HT2.out]; exact o7)
                    have HB2 := Lib.hid (HB1.out.trans ((((Step.alloc wr _ (dbx x)).trans (Step.alloc _ _ _)).trans s7).belowG HO1.out HB1.out.size))
                    obtain ⟨B7, c7, hv7, -⟩ := o7.form
                    rw [HN1.out] at hv7
                    subst hv7
                    clear o7 s7 HO1 OX BX d0 d1 d2 d3 d4 x0 x1 x2 x3 x4
                    go_wp2
                    go_roundw
                    case rel => exact ⟨jj, by have := HJJ.out; have := HJL.out; omega, by go_num, HO2, HB2⟩
                    case measure => have := HJJ.out; have := HJL.out; simp [intOf]; omega
                  · have q1 : (x.c == (cl : Int)) = false := by rw [beq_eq_false_iff_ne]; exact hc
                    have HO2 := Lib.hid (show OG FD (wr.alloc (dbx x)) ws.heap.size 30 (.slice Ba2 nT ca2) (cls (cl : Int) (O2.take jj)) by rw [HTK.out, if_neg hc]; exact OX.out)
                    have HB2 := Lib.hid (HB1.out.trans (BX.out.mono HB1.out.size))
                    clear hc HO1 OX BX
                    go_wp2
                    go_roundw
                    case rel => exact ⟨jj, by have := HJJ.out; have := HJL.out; omega, by go_num, HO2, HB2⟩
                    case measure => have := HJJ.out; have := HJL.out; simp [intOf]; omega
                · obtain rfl : j = tO := by omega
                  have HOf := Lib.hid (show OG FD wr ws.heap.size 30 (.slice Ba2 (cls (cl : Int) (O2.take j)).length ca2) (cls (cl : Int) O2) by have := HO1.out; rwa [show O2.take j = O2 from by rw [← HOL.out, List.take_length]] at this ⊢)
                  have HAf := Lib.hid (HAR.out.below HB1.out)
                  obtain ⟨lb, hlb⟩ : ∃ lb, (cls (cl : Int) (O2.take j)).length = lb := ⟨_, rfl⟩
                  rw [hlb] at HOf
                  rw [hlb]
                  have HLb := Lib.hid (show (cls (cl : Int) O2).length = lb by rw [← hlb, show O2.take j = O2 from by rw [← HOL.out, List.take_length]])
                  obtain ⟨Ya, ya, hva, sga, -, -, -⟩ := HAf.out.form
                  obtain ⟨Yb, yb, hvb, sgb, -, -, -⟩ := HOf.out.form
                  rw [HLa.out] at hva
                  rw [HLb.out] at hvb
                  cases hva
                  cases hvb
                  have KS := Lib.hid (same_any _ _ (cls (cl : Int) I) (cls (cl : Int) O2) la lb ca1 ca2 wr sga sgb HLa.out HLb.out (by have := HLa.out; have h2 : (cls (cl : Int) I).length ≤ I.length := List.length_filter_le _ _; have := HIB.out; omega) (by have := HLb.out; have h2 : (cls (cl : Int) O2).length ≤ O2.length := List.length_filter_le _ _; have := HOB.out; omega))
                  rw [same_iff.2 HCE.out] at KS
                  have HB3 := Lib.hid (HBs.out.trans (HB1.out.mono HBs.out.size))
                  clear sga sgb hlb HO1
                  go_wp2_with fail
                  refine KS.out.mono ?_
                  rintro v w9 ⟨rfl, b9⟩
                  have HB9 := Lib.hid (HB3.out.trans (b9.mono HB3.out.size))
                  clear b9 KS
                  go_wp2
                  go_roundw
                  case rel => exact ⟨cl + 1, by omega, by omega, by go_num, HB9⟩
                  case measure => simp [intOf]; omega
        · have q1 : ((a : Nat) : Int) = ((tO : Nat) : Int) := by have := HCN.out; have := HA_.out; have := HOL.out; omega
          have HBF := Lib.hid (HB5.out.trans (HBo.out.mono HB5.out.size))
          go_wp2
          go_ret
          exact ⟨rfl, HBF.out⟩
    obtain ⟨o, ho⟩ : ∃ o, os[k]? = some o := ⟨_, List.getElem?_eq_getElem (by rw [HL.out]; omega)⟩
    obtain ⟨z, off0, rfl, -, hxp, c0, c1, c2, c3, c4, c5⟩ := (HA.out.below HS.out.s.p.b) k o ho
    obtain ⟨kd, x⟩ := o
    simp only at c0 c1 c2 c3 c4 c5
    obtain ⟨q, hq⟩ : ∃ q, L.length = q := ⟨_, rfl⟩
    have HQ_ := Lib.hid hq
    have HLT := Lib.hid hlt
    have HLK := Lib.hid hlk
    obtain ⟨kk, hkk⟩ : ∃ kk, k + 1 = kk := ⟨_, rfl⟩
    have HKK := Lib.hid hkk
    obtain ⟨u1, u2⟩ := wr_of (x := (k : Int) + 1) (z := (kk : Int)) (by omega) (by have := HNB.out; omega)
    have S1 := Lib.hid (HS.out.box SH.out (obx kd x))
    have a0 := cell_of_row _ wr.heap.size 0 _ _ _ (S1.out.s.at 0 rfl)
    clear hq hkk hxp ho hlk
    by_cases k1 : kd = 1
    · subst k1
      obtain ⟨k2, hk2⟩ : ∃ k2 : Int, (k : Int) % 2 = k2 := ⟨_, rfl⟩
      obtain ⟨cl, hcl⟩ : ∃ cl : Int, 2 + k2 = cl := ⟨_, rfl⟩
      have HCL := Lib.hid (show cl = 2 ∨ cl = 3 by omega)
      have f1 : Int.tmod (k : Int) 2 = k2 := by rw [Int.tmod_eq_emod_of_nonneg (Int.natCast_nonneg k)]; exact hk2
      have f6 : (k : Int) % 2 = k2 := hk2
      obtain ⟨f2, f3⟩ := wr_of (x := 2 + k2) (z := cl) hcl (by omega)
      obtain ⟨f4, f5⟩ := wr_of (x := k2) (z := k2) rfl (by omega)
      clear hcl hk2
      by_cases hbig : 2147483647 < (k : Int)
      · have KO := Lib.hid (fun Z X (hz : PI w.heap.size X g m (R L) (E L) l Z) => SH.out.offer_arg (od cl (k : Int)) hz (od_p _ _) (fun ok => by have := ok.1.2.2.2.2.1; simp only at this; omega))
        go_wp2_with fail
        refine (one_any cl (k : Int) _).mono ?_
        rintro v a1 ⟨rfl, b1⟩
        have S2 := Lib.hid ((S1.out.next SH.out b1).box SH.out (dbx (od cl (k : Int))))
        obtain ⟨d0, d1, d2, d3, d4⟩ := cells5 (S2.out.s.at 0 rfl)
        clear b1 S1
        go_wp2_with fail
        clear d0 d1 d2 d3 d4
        generalize a1.heap.size = p2 at *
        generalize a1.alloc _ = a2 at *
        refine (KO.out _ _ S2.out.s.p.p).mono ?_
        rintro v a3 ⟨rfl, X3, p3, t3⟩
        have S3 := Lib.hid (S2.out.turn SH.out p3 t3)
        clear p3 t3 S2 KO
        have HIB2 := Lib.hid (show I.length ≤ kk ∧ I.length ≤ 2147483648 by have := HIB.out; have := HKK.out; omega)
        have W1 := wr_of (x := ((t : Nat) : Int) + ((q : Nat) : Int)) (z := ((a : Nat) : Int)) (by have := HKE.out.len; have := HA_.out; have := HT_.out; have := HQ_.out; omega) (by have := HIB2.out; have := HA_.out; omega)
        obtain ⟨e3, e4⟩ := W1
        go_wp2_with fail
        refine (SH.out.len S3.out.s.p.p).mono ?_
        rintro v r1 ⟨hv, Y1, y1, z1⟩
        obtain rfl : v = .returned (.int .i64 ((q : Nat) : Int)) := by rw [hv, len_re, HQ_.out]
        have U1 := Lib.hid ((S3.out.turn SH.out y1 z1).sub (B' := []) (fun b hb => by cases hb))
        clear hv y1 z1 S3
        go_wp2
        go_roundw
        case rel => exact ⟨kk, l, Y1, L, I, O, by have := HKK.out; have := HLT.out; omega, by go_num, by have := HLK.out; have := HKK.out; omega, U1, HKE, HLM, HIB2⟩
        case measure => have h1 := HKK.out; have h2 := HLT.out; simp [intOf]; omega
      · by_cases hf : L.length = m
        · have KO := Lib.hid (fun Z X (hz : PI w.heap.size X g m (R L) (E L) l Z) => SH.out.offer_full (od cl (k : Int)) hz (od_p _ _) (od_ok HCL.out ⟨by omega, by omega⟩) (by rw [len_re]; exact hf) (by have := HLK.out; have := HLT.out; have := HNB.out; omega))
          go_wp2_with fail
          refine (one_any cl (k : Int) _).mono ?_
          rintro v a1 ⟨rfl, b1⟩
          have S2 := Lib.hid ((S1.out.next SH.out b1).box SH.out (dbx (od cl (k : Int))))
          obtain ⟨d0, d1, d2, d3, d4⟩ := cells5 (S2.out.s.at 0 rfl)
          clear b1 S1
          go_wp2_with fail
          clear d0 d1 d2 d3 d4
          generalize a1.heap.size = p2 at *
          generalize a1.alloc _ = a2 at *
          refine (KO.out _ _ S2.out.s.p.p).mono ?_
          rintro v a3 ⟨rfl, X3, p3, t3⟩
          have S3 := Lib.hid (S2.out.turn SH.out p3 t3)
          clear p3 t3 S2 KO
          have HIB2 := Lib.hid (show I.length ≤ kk ∧ I.length ≤ 2147483648 by have := HIB.out; have := HKK.out; omega)
          have W1 := wr_of (x := ((t : Nat) : Int) + ((q : Nat) : Int)) (z := ((a : Nat) : Int)) (by have := HKE.out.len; have := HA_.out; have := HT_.out; have := HQ_.out; omega) (by have := HIB2.out; have := HA_.out; omega)
          obtain ⟨e3, e4⟩ := W1
          go_wp2_with fail
          refine (SH.out.len S3.out.s.p.p).mono ?_
          rintro v r1 ⟨hv, Y1, y1, z1⟩
          obtain rfl : v = .returned (.int .i64 ((q : Nat) : Int)) := by rw [hv, len_re, HQ_.out]
          have U1 := Lib.hid ((S3.out.turn SH.out y1 z1).sub (B' := []) (fun b hb => by cases hb))
          clear hv y1 z1 S3
          go_wp2
          go_roundw
          case rel => exact ⟨kk, (l + 1), Y1, L, I, O, by have := HKK.out; have := HLT.out; omega, by go_num, by have := HLK.out; have := HKK.out; omega, U1, HKE, HLM, HIB2⟩
          case measure => have h1 := HKK.out; have h2 := HLT.out; simp [intOf]; omega
        · obtain ⟨aa, ha1⟩ : ∃ aa, a + 1 = aa := ⟨_, rfl⟩
          obtain ⟨q1, hq1⟩ : ∃ q1, q + 1 = q1 := ⟨_, rfl⟩
          have KO := Lib.hid (fun Z X (hz : PI w.heap.size X g m (R L) (E L) l Z) => SH.out.offer_ok (od cl (k : Int)) hz (od_p _ _) (od_ok HCL.out ⟨by omega, by omega⟩) (by rw [len_re]; have := HLM.out; omega))
          rw [← R_snoc, ← E_snoc] at KO
          go_wp2_with fail
          refine (one_any cl (k : Int) _).mono ?_
          rintro v a1 ⟨rfl, b1⟩
          have S2 := Lib.hid ((S1.out.next SH.out b1).box SH.out (dbx (od cl (k : Int))))
          obtain ⟨d0, d1, d2, d3, d4⟩ := cells5 (S2.out.s.at 0 rfl)
          clear b1 S1
          go_wp2_with fail
          clear d0 d1 d2 d3 d4
          generalize a1.heap.size = p2 at *
          generalize a1.alloc _ = a2 at *
          refine (KO.out _ _ S2.out.s.p.p).mono ?_
          rintro v a3 ⟨rfl, X3, p3, t3⟩
          have S3 := Lib.hid (S2.out.turn SH.out p3 t3)
          clear p3 t3 S2 KO
          have HKE2 := Lib.hid (kept_offer HKE.out (od cl (k : Int)))
          have HLM2 := Lib.hid (show (L ++ [od cl (k : Int)]).length ≤ m by rw [List.length_append]; have := HLM.out; simp; omega)
          have HA_2 := Lib.hid (show (I ++ [od cl (k : Int)]).length = aa by rw [List.length_append, HA_.out]; exact ha1)
          have HQ_2 := Lib.hid (show (L ++ [od cl (k : Int)]).length = q1 by rw [List.length_append, HQ_.out]; exact hq1)
          clear ha1 hq1
          have HIB2 := Lib.hid (show (I ++ [od cl (k : Int)]).length ≤ kk ∧ (I ++ [od cl (k : Int)]).length ≤ 2147483648 by rw [List.length_append]; have := HIB.out; have := HKK.out; simp; omega)
          obtain ⟨d0, d1, d2, d3, d4⟩ := cells5 (S3.out.s.at 0 rfl)
          go_wp2_with (at_builtin; refine wpList_append_one oneD _ rfl _ _ rfl w.heap.size _ I rfl (S3.out.s.o.alloc _) (od cl (k : Int)) _ rfl (heap_at rfl _) ?c1 (by decide) ?c2 ?_)
          case c1 => have := HIB.out; omega
          case c2 => rw [World.size_alloc]; have := S3.out.s.p.b.size; omega
          intro v5 w5 o5 s5
          have S5 := Lib.hid (S3.out.grow SH.out o5 ((Step.alloc _ _ _).trans s5))
          obtain ⟨B5, c5, hv5, -⟩ := o5.form
          rw [HA_2.out] at hv5
          subst hv5
          clear o5 s5 S3 d0 d1 d2 d3 d4 HA_ HQ_
          have HA_ := HA_2
          have HQ_ := HQ_2
          have W1 := wr_of (x := ((t : Nat) : Int) + ((q1 : Nat) : Int)) (z := ((aa : Nat) : Int)) (by have := HKE2.out.len; have := HA_.out; have := HT_.out; have := HQ_.out; omega) (by have := HIB2.out; have := HA_.out; omega)
          obtain ⟨e3, e4⟩ := W1
          go_wp2_with fail
          refine (SH.out.len S5.out.s.p.p).mono ?_
          rintro v r1 ⟨hv, Y1, y1, z1⟩
          obtain rfl : v = .returned (.int .i64 ((q1 : Nat) : Int)) := by rw [hv, len_re, HQ_.out]
          have U1 := Lib.hid ((S5.out.turn SH.out y1 z1).sub (B' := []) (fun b hb => by cases hb))
          clear hv y1 z1 S5
          go_wp2
          go_roundw
          case rel => exact ⟨kk, l, Y1, (L ++ [od cl (k : Int)]), (I ++ [od cl (k : Int)]), O, by have := HKK.out; have := HLT.out; omega, by go_num, by have := HLK.out; have := HKK.out; omega, U1, HKE2, HLM2, HIB2⟩
          case measure => have h1 := HKK.out; have h2 := HLT.out; simp [intOf]; omega
    · have q1 : (kd == 1) = false := by rw [beq_eq_false_iff_ne]; exact k1
      have KT := fun Z X (hz : PI w.heap.size X g m (R L) (E L) l Z) => SH.out.take hz
      clear k1
      rcases hre : R L ++ E L with _ | ⟨y, tt⟩
      · obtain rfl := re_nil hre
        have NV : nxV (R []) (E []) = .tuple #[dv zD, .bool false] := rfl
        clear hre
        rw [NV] at KT
        have KT2 := Lib.hid KT
        clear NV KT
        go_wp2_with fail
        refine (KT2.out _ _ S1.out.s.p.p).mono ?_
        rintro v a3 ⟨rfl, X3, p3, t3⟩
        have S3 := Lib.hid ((S1.out.turn SH.out p3 t3).box SH.out (dbx zD))
        have PB := Lib.hid (show w.heap.size ≤ a3.heap.size from (S1.out.turn SH.out p3 t3).s.p.b.size)
        obtain ⟨d0, d1, d2, d3, d4⟩ := cells5 (S3.out.s.at 0 rfl)
        clear p3 t3 S1 KT2
        have S4 : Hid (ST2 PI w X3 g m (R []) (E []) l (.slice B a c) I (.slice D t d) O _ _) := S3
        clear S3
        have HIB2 := Lib.hid (show I.length ≤ kk ∧ I.length ≤ 2147483648 by have := HIB.out; have := HKK.out; omega)
        have W1 := wr_of (x := ((t : Nat) : Int) + ((q : Nat) : Int)) (z := ((a : Nat) : Int)) (by have := HKE.out.len; have := HA_.out; have := HT_.out; have := HQ_.out; omega) (by have := HIB2.out; have := HA_.out; omega)
        obtain ⟨e3, e4⟩ := W1
        go_wp2_with fail
        refine (SH.out.len S4.out.s.p.p).mono ?_
        rintro v r1 ⟨hv, Y1, y1, z1⟩
        obtain rfl : v = .returned (.int .i64 ((q : Nat) : Int)) := by rw [hv, len_re, HQ_.out]
        have U1 := Lib.hid ((S4.out.turn SH.out y1 z1).sub (B' := []) (fun b hb => by cases hb))
        clear hv y1 z1 S4
        go_wp2
        go_roundw
        case rel => exact ⟨kk, l, Y1, [], I, O, by have := HKK.out; have := HLT.out; omega, by go_num, by have := HLK.out; have := HKK.out; omega, U1, HKE, HLM, HIB2⟩
        case measure => have h1 := HKK.out; have h2 := HLT.out; simp [intOf]; omega
      · obtain ⟨i, hi, hx, hR, hE, hil⟩ := nxt_re hre
        have NV : nxV (R L) (E L) = .tuple #[dv y, .bool true] := by unfold nxV; rw [hre]
        rw [← hR, ← hE] at KT
        obtain ⟨j, hj, -, ho2, -⟩ := nxt_ord (L := L) (x := y) (t := tt) hre
        obtain rfl : i = j := Option.some.inj (hi.symm.trans hj)
        have HKE2 := Lib.hid (kept_take HKE.out (show ord L = y :: tt from hre) ho2 hil)
        have HQ_2 := Lib.hid (show (L.eraseIdx i).length = q - 1 by rw [List.length_eraseIdx_of_lt hil, HQ_.out])
        have HLM2 := Lib.hid (show (L.eraseIdx i).length ≤ m from Nat.le_trans (List.length_eraseIdx_le _ _) HLM.out)
        obtain ⟨t1, ht1⟩ : ∃ t1, t + 1 = t1 := ⟨_, rfl⟩
        have HT_2 := Lib.hid (show (O ++ [y]).length = t1 by rw [List.length_append, HT_.out]; exact ht1)
        have HIB2 := Lib.hid (show I.length ≤ kk ∧ I.length ≤ 2147483648 by have := HIB.out; have := HKK.out; omega)
        have HOB := Lib.hid (show O.length < I.length by have h1 := HKE.out.len; omega)
        clear hi hx hR hE hil hre hj ho2 ht1
        generalize L.eraseIdx i = M at *
        generalize hq9 : q - 1 = q9 at *
        clear hq9
        rw [NV] at KT
        have KT2 := Lib.hid KT
        clear NV KT
        go_wp2_with fail
        refine (KT2.out _ _ S1.out.s.p.p).mono ?_
        rintro v a3 ⟨rfl, X3, p3, t3⟩
        have S3 := Lib.hid ((S1.out.turn SH.out p3 t3).box SH.out (dbx y))
        have PB := Lib.hid (show w.heap.size ≤ a3.heap.size from (S1.out.turn SH.out p3 t3).s.p.b.size)
        obtain ⟨d0, d1, d2, d3, d4⟩ := cells5 (S3.out.s.at 0 rfl)
        clear p3 t3 S1 KT2
        go_wp2_with (at_builtin; refine wpList_append_one oneD _ rfl _ _ rfl w.heap.size _ O rfl (S3.out.o.alloc _) y _ rfl (heap_at (World.size_alloc _ _) _) ?c1 (by decide) ?c2 ?_)
        case c1 => have := HOB.out; have := HIB.out; omega
        case c2 => rw [World.size_alloc, World.size_alloc]; have := PB.out; omega
        intro v5 w5 o5 s5
        have S5 := Lib.hid (S3.out.growU SH.out o5 ((Step.alloc _ _ _).trans s5))
        obtain ⟨D5, e5, hv5, -⟩ := o5.form
        rw [HT_2.out] at hv5
        subst hv5
        clear o5 s5 S3 d0 d1 d2 d3 d4 HT_ HQ_
        have HT_ := HT_2
        have HQ_ := HQ_2
        have W1 := wr_of (x := ((t1 : Nat) : Int) + ((q9 : Nat) : Int)) (z := ((a : Nat) : Int)) (by have := HKE2.out.len; have := HA_.out; have := HT_.out; have := HQ_.out; omega) (by have := HIB2.out; have := HA_.out; omega)
        obtain ⟨e3, e4⟩ := W1
        go_wp2_with fail
        refine (SH.out.len S5.out.s.p.p).mono ?_
        rintro v r1 ⟨hv, Y1, y1, z1⟩
        obtain rfl : v = .returned (.int .i64 ((q9 : Nat) : Int)) := by rw [hv, len_re, HQ_.out]
        have U1 := Lib.hid ((S5.out.turn SH.out y1 z1).sub (B' := []) (fun b hb => by cases hb))
        clear hv y1 z1 S5
        go_wp2
        go_roundw
        case rel => exact ⟨kk, l, Y1, M, I, (O ++ [y]), by have := HKK.out; have := HLT.out; omega, by go_num, by have := HLK.out; have := HKK.out; omega, U1, HKE2, HLM2, HIB2⟩
        case measure => have h1 := HKK.out; have h2 := HLT.out; simp [intOf]; omega
end
theorem landedC : ClearS PI := fun _ _ _ _ _ _ _ _ h => clear_pi2 h
theorem walkI (q : Int) (A : Option Addr) (os : List Op) (cp : Nat) (w : World) (wq : (Lit.int .u8 q).wf = true) (h : OPS w A os) (hz : os.length * 56 ≤ 140737488351232) : Calls Try.prog 4 #[.int .u8 q, .slice A os.length cp] w fun r w' => r = .returned (.bool true) ∧ Below w.heap.size w w' := by
  obtain ⟨n, rfl, hn⟩ := u8_nat wq
  exact walkS landed landedC n A os os.length cp w hn h rfl hz
set_option maxRecDepth 100000 in
/-- What the walk gives, for every argument and every world. -/
theorem contract (H : Type) (enc : TypeId × Value → H) (W : World) (base : Nat) (args : Array Value) (ds gs : List (DataW H)) (before : List MemPlace)
    (hval : ∀ (j : Nat) t v, Try.f4.params[j]? = some t → args[j]? = some v → Value.okWide Try.prog W .any base t v)
    (hW : DataW.Whole enc Try.prog Try.f4.params.toList Rows.portKeepsSpec.vars false W args.toList ds gs before) (hz : (DataW.weightsEach Try.prog (Try.f4.params.toList ++ (OpenSpec.ofChange Rows.portKeepsSpec).bare.plain.varTypes Try.prog) (ds ++ gs)).all (· ≤ reachBytes) = true) : 
    Calls Try.prog 4 args W fun e W' => ∃ v, e = .returned v ∧ Rows.portKeepsSpec.post enc Try.prog Try.f4 false true false false W args v W' := by
  have hW' := hW
  obtain ⟨p, q, hA0, hV, rfl, hfz, hnd⟩ := hW
  have hA : DataW.TrodAll enc Try.prog W 0 (fun _ => true) true Try.f4.params.toList args.toList ds p := hA0
  rw [Try.params4] at hA hval
  obtain ⟨v0, vs0, d0, ds0, p0, q0, hargs, rfl, rfl, h0, r0⟩ := trodAll_cons hA
  obtain ⟨v1, vs1, d1, ds1, p1, q1, rfl, rfl, rfl, h1, r1⟩ := trodAll_cons r0
  obtain ⟨rfl, rfl, rfl⟩ := trodAll_nil r1
  obtain rfl : args = #[v0, v1] := by cases args; simp_all
  obtain ⟨rfl, rfl⟩ := trodVars_none hV
  obtain ⟨most, rfl, rfl, rfl, w0⟩ := open_int Try.underlying5 (hval 0 5 v0 rfl rfl) h0
  obtain ⟨A1, xs, c1, rfl, f1, l1, lc1, sz1, nl1⟩ := open_ops (hval 1 22 v1 rfl rfl) h1
  have z1 : xs.length * 56 ≤ 140737488351232 := by
    rcases sz1 with h | ⟨es, sp, hd, hl⟩
    · rw [h]; decide
    · have := sized_slice hz (j := 1) (t := 22) (e := 32) (elems := es) (spare := sp) (by rw [Try.params4]; rfl) (by rw [hd]; rfl) Try.underlying22
      rw [show Try.prog.bytesOf 32 = 56 by kernel_rfl, show reachBytes = 140737488351232 from rfl] at this
      omega
  refine (walkI most A1 xs c1 W w0 f1 z1).mono fun e W' ⟨he, hb⟩ => ?_
  exact ⟨_, he, Shell.post_law laidOut (by kernel_rfl) rfl Try.underlying4 rfl hW' rfl hb⟩
theorem reads (os : Os) {H : Type} (enc : TypeId × Value → H) : ∃ places, DataW.whole enc Try.prog ((World.holding Try.prog os ⟨#[], #[], []⟩).forCall (fun _ _ => 0) ⟨#[], #[.int .u8 0, .slice none 0 0], []⟩).memory Try.f4.params.toList Rows.portKeepsSpec.vars false (#[Value.int .u8 0, Value.slice none 0 0]).toList 8 = some ([.lit (.int .u8 0), .nil], [], places) :=
  ⟨[], by kernel_rfl⟩
set_option maxRecDepth 100000 in
theorem lifted (os : Os) (started : os.Started) (H : Type) (enc : TypeId × Value → H) (F : Stop.Interp) :
    ReturnsInHanded {} Try.checked os 4 .any ((OpenSpec.ofChange Rows.portKeepsSpec).preRow enc Try.prog Try.f4 Rows.portKeepsRow.domain false Rows.portKeepsRow.laid) (((OpenSpec.ofChange Rows.portKeepsSpec).at F).post enc Try.prog Try.f4 false true false false) := by
  obtain ⟨places, hx⟩ := reads os enc
  refine returnsInHanded_of_row (C := Try.checked) (s := OpenSpec.ofChange Rows.portKeepsSpec) own started (by kernel_rfl) Try.func4
    (witness_row_atRef (enc := enc) (C := Try.checked) false (World.holding Try.prog os ⟨#[], #[], []⟩) #[.int .u8 0, .slice none 0 0] rfl (by kernel_rfl) (by kernel_rfl) (by kernel_rfl)
      (OpenSpec.preRow_of_cond 8 hx (by kernel_rfl) (fun k hk => by cases hk) (by kernel_rfl) (laid_met os _))) ?_
  intro W base args ds gs before hval hW _ _ hz hL _ _
  exact contract H enc W base args ds gs before hval hW hz
theorem said : Rows.PortKeepsSaid :=
  OpenClaim.holds_of_cond 4 Try.f4 rfl rfl rfl rfl rfl rfl rfl ⟨rfl, rfl, rfl, rfl, rfl⟩ rfl rfl rfl rfl rfl (by kernel_rfl) Try.func4 (by kernel_rfl)
    (of_decide_eq_true (by kernel_rfl)) (by unfold Func.isWrapper; first | (rw [if_pos (by decide +kernel)]; kernel_rfl) | (rw [if_neg (by decide +kernel)]; exact ⟨rfl, rfl⟩))
    (fun os started H enc _ F => by rw [OpenClaim.pre_eq_preRow]; exact lifted os started H enc F)
end Go.Proofs.Ytpliidkfllacpaa.PortW.PortKeeps
