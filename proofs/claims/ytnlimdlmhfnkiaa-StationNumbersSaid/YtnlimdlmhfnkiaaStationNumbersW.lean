/- StationNumbers, walked by what is asked of a station. -/
import Derived.Test.YtnlimdlmhfnkiaaStationFixed
namespace Go.Proofs.Ytnlimdlmhfnkiaa.StationW
open Go.RowKit Shell
open ConfW (Cfg R4 CM ML chk famC)
open FrameW (BL OB rdE rdV dat rightD)
/-- The law's configuration: four hosts, no entry, one link. -/
abbrev cN : Cfg := { famC 4 0 with links := [⟨0, 14, 1, 64⟩] }
theorem chk_n : chk cN = 0 := by decide +kernel
theorem may_n {h : Int} (h1 : 1 ≤ h) (h3 : h ≤ 3) : may cN h := by
  have e : cN.hosts = 4 := by decide +kernel
  exact ⟨chk_n, by omega, by omega⟩
abbrev dN (n : Int) : Dt := ⟨2, 0, n, ⟨#[]⟩, 64⟩
theorem top_nil : ∀ n : Int, 0 ≤ n → tw [] (dN n) 0 = decide (n ≤ -1) := fun n hn => by
  rw [tw_nil, decide_eq_false (by omega)]
/-- Those that count. -/
def TopP (T : List Tn) (z : Int) : Prop := ∀ n, 0 ≤ n → tw T (dN n) 0 = decide (n ≤ z)
theorem topp_snoc {T : List Tn} {z n : Int} (h : TopP T z) (hn : z < n) : TopP (T ++ [⟨dN n, 0⟩]) n := by
  intro k hk
  rw [tw_snoc, h k hk]
  have e : bars (dN k) 0 ⟨dN n, 0⟩ = decide (k ≤ n) := by simp [bars]
  rw [e]
  by_cases h1 : k ≤ n
  · rw [decide_eq_true h1, Bool.or_true]
  · rw [decide_eq_false h1, decide_eq_false (by omega)]; rfl
theorem has_n {h : Int} (h1 : 1 ≤ h) (h3 : h ≤ 3) : CrewW.has 14 h = true := by
  have : h = 1 ∨ h = 2 ∨ h = 3 := by omega
  rcases this with rfl | rfl | rfl <;> decide
theorem gd_n {h t n z : Int} {T : List Tn} {l : List Int} (h1 : 1 ≤ h) (h3 : h ≤ 3) (hn : 0 ≤ n) (he : rdE l = 0) (hd : dt l = dN n) (hT : TopP T z) : gd cN h T t l = ⟨if n ≤ z then 3 else 0, 0⟩ := by
  have e1 : pj cN h t 0 (dN n) = ⟨0, 0⟩ := by
    unfold pj vR
    rw [if_pos rfl, if_neg (show ¬ (2 : Int) = 1 by decide), if_neg (show ¬ (2 : Int) = 3 by decide)]
    have e2 : lnkAt cN (dN n).l = some ⟨0, 14, 1, 64⟩ := rfl
    rw [e2]
    dsimp only
    rw [if_pos ⟨has_n h1 h3, by decide⟩]
  unfold gd gj
  rw [he, hd, e1]
  rw [hT n hn]
  by_cases hz : n ≤ z
  · rw [if_pos ⟨rfl, decide_eq_true hz⟩, if_pos hz]
  · rw [if_neg (fun hh => hz (of_decide_eq_true hh.2)), if_neg hz]
/-- What is held behind i numbers, the greatest of them z. -/
def NJ (SI : SIT) (w : World) (g : Nat) (h : Int) (i : Nat) (z : Int) (W : World) : Prop :=
  ∃ X T a b N, N ≤ i ∧ TopP T z ∧ SQ SI w X g cN h T a b N [] W
section
variable {SI : SIT}
set_option maxRecDepth 100000 in
theorem rated_any (n : Int) (hn : 0 ≤ n ∧ n ≤ 255) (W : World) : Calls Try.prog 19 #[.int .i64 n] W fun r W' => ∃ A l cp, r = .returned (.slice A l.length cp) ∧ BL W' A l ∧ l.length = 64 ∧ l.length ≤ cp ∧ rdE l = 0 ∧ dt l = dN n ∧ Below W.heap.size W W' := by
  have R : rightD 2 0 n (FrameW.bs ⟨#[]⟩) 64 := by unfold rightD; simp [FrameW.bs]; omega
  have HD := Lib.hid (FrameW.refData_ok 2 0 n ⟨#[]⟩ 64 W R)
  obtain ⟨ea, da⟩ := dt_dat R
  have la : (dat 2 0 n (FrameW.bs ⟨#[]⟩) 64).length = 64 := by have := FrameW.dat_len R; omega
  generalize dat 2 0 n (FrameW.bs ⟨#[]⟩) 64 = l at *
  clear R
  go_enter Try.func19, Try.ntmps19
  go_wp2_with fail
  refine HD.out.mono ?_
  rintro r w1 ⟨v, rfl, o1, b1⟩
  obtain ⟨A, c, rfl, hb, hc, -⟩ := o1.form
  have HE := Lib.hid (And.intro hb (And.intro la (And.intro hc (And.intro ea (And.intro da b1)))))
  clear o1 b1 hb hc ea da la HD
  go_wp2
  go_ret
  exact ⟨A, l, c, rfl, HE.out⟩
set_option maxHeartbeats 16000000 in
set_option maxRecDepth 100000 in
theorem numbers_walk (S : Spec SI) (A : Option Addr) (l : List Int) (cp : Nat) (x : Int) (hx : 0 ≤ x ∧ x ≤ 255) (w : World) (hb : BL w A l) (hl : l.length ≤ 140737488351232) :
    Calls Try.prog 7 #[.slice A l.length cp, .int .u8 x] w fun r w' => r = .returned (.bool true) ∧ Below w.heap.size w w' := by
  have SH := Lib.hid S
  have HB := Lib.hid hb
  have HL := Lib.hid hl
  have HF := Lib.hid (fun W => fixed_any S W)
  have HFM := Lib.hid (fun W => ConfW.refFamily_any 4 0 W)
  have hnn : l.length ≤ 9223372036854775807 := by omega
  clear S hb hl
  go_enter Try.func7, Try.ntmps7
  go_wp2_with fail
  refine (HF.out _).mono ?_
  rintro r w1 ⟨rfl, b1⟩
  have B1 := Lib.hid b1
  clear b1 HF
  go_wp2_with fail
  refine (HFM.out _).mono ?_
  rintro r w2 ⟨D, E, nd, cd, ne, ce, rfl, q2, b2⟩
  have M2 := Lib.hid q2
  have B2 := Lib.hid (B1.out.trans (b2.mono B1.out.size))
  clear q2 b2 B1 HFM
  go_wp2_with fail
  have M3 := Lib.hid (show CM ((w2.alloc (cbx cN D E (some ⟨w2.heap.size + 1, 0, none⟩) nd cd ne ce 1 1)).alloc (.cells #[.int .i64 0, .int .u32 14, .int .i64 1, .int .i64 64] 64)) cN D E (some ⟨w2.heap.size + 1, 0, none⟩) nd cd ne ce 1 1 by
    have m := M2.out.below (al (al (Below.refl _ _) (cbx cN D E (some ⟨w2.heap.size + 1, 0, none⟩) nd cd ne ce 1 1)) (.cells #[.int .i64 0, .int .u32 14, .int .i64 1, .int .i64 64] 64))
    have hh := heap_alloc_new (w2.alloc (cbx cN D E (some ⟨w2.heap.size + 1, 0, none⟩) nd cd ne ce 1 1)) (.cells #[.int .i64 0, .int .u32 14, .int .i64 1, .int .i64 64] 64)
    rw [World.size_alloc] at hh
    obtain ⟨l0, l1, l2, l3⟩ := PlanW.cells4 hh
    exact { hd := m.hd, he := m.he, hl := fun k r hk => (by
              have hk0 : k = 0 := by
                have := lt_of_get hk
                simpa using this
              subst hk0
              cases hk
              exact ⟨_, 0, rfl, ⟨l0, l1, l2, l3⟩, by decide⟩), nD := m.nD, nE := m.nE, nL := rfl, mD := m.mD, mE := m.mE, mL := by decide, cD := m.cD, cE := m.cE, cL := Nat.le_refl _, zD := m.zD, zE := m.zE, zL := fun h => by cases h })
  have hh1 : 1 ≤ 1 + x % 3 ∧ 1 + x % 3 ≤ 3 := by omega
  have HH := Lib.hid hh1
  refine (SH.out.new cN D E (some ⟨w2.heap.size + 1, 0, none⟩) nd cd ne ce 1 1 (1 + x % 3) _ M3.out (may_n hh1.1 hh1.2)).mono ?_
  rintro r w4 ⟨g, X, rfl, F4, b4⟩
  have J0 := Lib.hid (show NJ SI w g (1 + x % 3) 0 (-1) w4 from ⟨X, [], 0, 0, 0, Nat.le_refl _, top_nil, sq_new SH.out F4 b4 (Stay.mk (B2.out.trans ((al (al (Below.refl _ _) _) _).mono B2.out.size)) (fun x hx => by cases hx)) (fun x hx => by cases hx)⟩)
  clear F4 b4 M2 M3 B2 hh1
  generalize 1 + x % 3 = h at *
  go_wp2
  go_loopw [9, 33] (fun lv iv wr => ∃ (i : Nat) (z : Int), i ≤ l.length ∧ iv = .int .i64 i ∧ lv = .int .i64 z ∧ (-1 ≤ z ∧ z ≤ 255) ∧ Hid (NJ SI w g h i z wr)) (fun _ iv _ => l.length - (intOf iv).toNat)
  case atStart => exact ⟨0, -1, Nat.zero_le _, rfl, rfl, by decide, J0⟩
  case round =>
    clear J0
    obtain ⟨i, z, hi, rfl, rfl, hz, HQ⟩ := hrel
    obtain ⟨X, T, a, b, N, hN, hT, Q0⟩ := HQ.out
    have Q1 := Lib.hid Q0
    have HNI := Lib.hid hN
    have HT := Lib.hid hT
    clear Q0 HQ hN hT
    by_cases hlt : i < l.length
    case neg =>
      obtain rfl : l.length = i := by omega
      go_wp2
      go_ret
      exact ⟨rfl, Q1.out.b⟩
    have hlt' : (i : Int) < (l.length : Int) := by omega
    obtain ⟨n, hn⟩ : ∃ n, l[i]? = some n := ⟨_, List.getElem?_eq_getElem hlt⟩
    obtain ⟨ad, rfl, hc, hr⟩ := (HB.out.below Q1.out.b) i n hn
    have HR := Lib.hid hr
    clear hn
    go_wp2_with fail
    refine (rated_any n ⟨HR.out.1, by have := HR.out; omega⟩ _).mono ?_
    rintro r w5 ⟨A5, l5, cp5, rfl, hb5, hl5, hc5, he5, hd5, b5⟩
    have Q5 := Lib.hid (Q1.out.next SH.out b5)
    have GN := Lib.hid (gd_n (t := n) HH.out.1 HH.out.2 HR.out.1 he5 hd5 HT.out)
    have HD5 := Lib.hid hd5
    have HL5 := Lib.hid (And.intro hb5 (And.intro hl5 hc5))
    clear Q1 b5 hb5 hl5 hc5 he5 hd5 hc hr
    go_wp2_with fail
    refine (SH.out.judge n A5 l5 cp5 Q5.out.p (by have := HNI.out; have := HL.out; omega) HL5.out.1 (by rw [HL5.out.2.1]; decide) HL5.out.2.2).mono ?_
    rintro r w6 ⟨X6, rfl, F6, T6⟩
    have Q6 := Lib.hid (Q5.out.turn SH.out F6 T6)
    have HNL := Lib.hid (show nL cN h T n l5 = if (gd cN h T n l5).w = 0 then T ++ [⟨dt l5, (gd cN h T n l5).k⟩] else T from rfl)
    rw [GN.out, HD5.out] at HNL
    rw [GN.out, HD5.out]
    clear F6 T6 Q5 GN HD5 HL5
    generalize nL cN h T n l5 = T1 at *
    have w1' : IntKind.i64.wrap n = n := by rw [IntKind.wrap_i64]; have := HR.out; omega
    have w2' : wrap64 n = n := by have := HR.out; unfold wrap64; omega
    by_cases hnz : n ≤ z
    · rw [if_pos hnz] at HNL ⊢
      obtain rfl : T1 = T := HNL.out
      have Q7 := Lib.hid (Q6.out.next SH.out (al (Below.refl _ _) (gbx ⟨3, 0⟩ (dN n) 41)))
      obtain ⟨y0, y1, y2, y3, y4, y5, y6⟩ := cells7 (heap_alloc_new w6 (gbx ⟨3, 0⟩ (dN n) 41))
      have g1 : ¬ n > z := Int.not_lt.2 hnz
      have g2 : decide (z < n) = false := decide_eq_false g1
      clear Q6 HNL
      by_cases hzn : z ≤ n
      · obtain rfl : n = z := by omega
        go_wp2
        go_roundw
        case rel => exact ⟨i + 1, n, by omega, by go_num, rfl, hz, Lib.hid ⟨X6, T1, _, _, N + 1, Nat.succ_le_succ HNI.out, HT.out, Q7.out⟩⟩
        case measure => simp [intOf]; omega
      · go_wp2
        go_roundw
        case rel => exact ⟨i + 1, z, by omega, by go_num, rfl, hz, Lib.hid ⟨X6, T1, _, _, N + 1, Nat.succ_le_succ HNI.out, HT.out, Q7.out⟩⟩
        case measure => simp [intOf]; omega
    · rw [if_neg hnz] at HNL ⊢
      obtain rfl : T1 = T ++ [⟨dN n, 0⟩] := HNL.out
      have Q7 := Lib.hid (Q6.out.next SH.out (al (Below.refl _ _) (gbx ⟨0, 0⟩ (dN n) 41)))
      obtain ⟨y0, y1, y2, y3, y4, y5, y6⟩ := cells7 (heap_alloc_new w6 (gbx ⟨0, 0⟩ (dN n) 41))
      have g1 : n > z := Int.not_le.1 hnz
      have g2 : decide (z < n) = true := decide_eq_true g1
      have g3 : z ≤ n := by omega
      clear Q6 HNL
      go_wp2
      go_roundw
      case rel => exact ⟨i + 1, n, by omega, by go_num, rfl, by have := HR.out; omega, Lib.hid ⟨X6, _, _, _, N + 1, Nat.succ_le_succ HNI.out, topp_snoc HT.out g1, Q7.out⟩⟩
      case measure => simp [intOf]; omega
end
end Go.Proofs.Ytnlimdlmhfnkiaa.StationW
