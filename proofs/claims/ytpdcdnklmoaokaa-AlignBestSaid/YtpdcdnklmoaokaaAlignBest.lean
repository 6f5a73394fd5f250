/- The law AlignBest: of two frames the one with more hosts sets the clock, of two with as many that of the lesser switch, whichever is heard first: for all crews and distances. No condition. -/
import Derived.Test.YtpdcdnklmoaokaaAlignFixed
namespace Go.Proofs.Ytpdcdnklmoaokaa.AlignW.AlignBest
open Go.ChangeShapes Go.WideShapes Go.ChangeAt Go.RowKit AlignW Shell
open FrameW (CV rightC)
open CrewW (mem)
theorem mem_half (n : Nat) (h : n < 64) : (mem n).length = n % 2 + (mem (n / 2)).length ∧ (mem n).length ≤ 6 := by
  have H : ∀ c ∈ List.range 64, (mem c).length = c % 2 + (mem (c / 2)).length ∧ (mem c).length ≤ 6 := by decide +kernel
  exact H n (List.mem_range.2 h)
theorem w64 {x : Int} (h0 : -1000000000000 ≤ x) (h1 : x ≤ 1000000000000) : wrap64 x = x := by unfold wrap64; omega
theorem wi64 {x : Int} (h0 : -1000000000000 ≤ x) (h1 : x ≤ 1000000000000) : IntKind.i64.wrap x = x := by rw [IntKind.wrap_i64]; omega
theorem wu32 {x : Int} (h0 : 0 ≤ x) (h1 : x ≤ 1000000000) : IntKind.u32.wrap x = x := by rw [IntKind.wrap_u32]; omega
set_option maxHeartbeats 1000000 in
/-- How many bits of a crew are set. -/
theorem bits_any (m : Nat) (hm : m < 64) (w : World) : Calls Try.prog 15 #[.int .u32 (m : Int)] w fun r w' => r = .returned (.int .i64 ((mem m).length : Int)) ∧ w = w' := by
  obtain ⟨z, hz⟩ : ∃ z, (mem m).length = z := ⟨_, rfl⟩
  rw [hz]
  have z6 := (mem_half m hm).2
  rw [hz] at z6
  have HZ := Lib.hid hz
  have H6 := Lib.hid z6
  have HM := Lib.hid hm
  clear hz z6 hm
  go_enter Try.func15, Try.ntmps15
  go_upto_region 2 with (fail)
  go_loopw [0, 3] (fun nv kv wr => ∃ (n k : Nat), nv = .int .u32 n ∧ kv = .int .i64 k ∧ Hid (n < 64 ∧ k + (mem n).length = z) ∧ wr = w) (fun nv _ _ => (intOf nv).toNat)
  case atStart => exact ⟨m, 0, rfl, rfl, Lib.hid ⟨HM.out, by rw [HZ.out]; omega⟩, rfl⟩
  case round =>
    obtain ⟨n, k, rfl, rfl, HK, rfl⟩ := hrel
    have h64 := HK.out.1
    have hs := HK.out.2
    have h6 := H6.out
    by_cases h0 : 0 < n
    · have hh := (mem_half n h64).1
      obtain ⟨a, ha⟩ : ∃ a, n % 2 = a := ⟨_, rfl⟩
      obtain ⟨b, hb⟩ : ∃ b, n / 2 = b := ⟨_, rfl⟩
      rw [ha, hb] at hh
      have hbn : b < n := by omega
      have HJ := Lib.hid (show b < 64 ∧ k + a + (mem b).length = z by omega)
      have m1 : (n : Int) % 2 = (a : Int) := by rw [← ha]; rfl
      have m2 : Int.tmod (n : Int) 2 = (a : Int) := by rw [← ha]; rfl
      have d1 : (n : Int) / 2 = (b : Int) := by rw [← hb]; rfl
      have d2 : Int.tdiv (n : Int) 2 = (b : Int) := by rw [← hb]; rfl
      have h0' : (0 : Int) < (n : Int) := by omega
      have kb : k + a ≤ 6 := by omega
      have a1 : a ≤ 6 := by omega
      have b1 : b < 64 := by omega
      have w1 : wrap64 ((k : Int) + (a : Int)) = (((k + a : Nat)) : Int) := by rw [w64 (by clear m1 m2 d1 d2; omega) (by clear m1 m2 d1 d2; omega)]; rfl
      have w2 : IntKind.i64.wrap (a : Int) = (a : Int) := wi64 (by clear m1 m2 d1 d2; omega) (by clear m1 m2 d1 d2; omega)
      have w3 : wrap64 (a : Int) = (a : Int) := w64 (by clear m1 m2 d1 d2; omega) (by clear m1 m2 d1 d2; omega)
      have w4 : IntKind.u32.wrap (b : Int) = (b : Int) := wu32 (by clear m1 m2 d1 d2; omega) (by clear m1 m2 d1 d2; omega)
      clear hs hh ha hb h64 kb a1 b1 h6
      go_wp2
      go_roundw
      case rel => exact ⟨b, k + a, rfl, by rw [w1], HJ, trivial⟩
      case measure => simp only [intOf]; omega
    · obtain rfl : n = 0 := by omega
      have hk : k = z := by rw [← hs, mem_zero]; rfl
      clear hs h64
      go_wp2
      go_ret
      exact ⟨by rw [hk]; rfl, rfl⟩
abbrev cbx (a b : Int) : Obj := .cells #[.int .u32 a, .int .u32 b] 44 (0, 0)
abbrev ofx (a b : Int) : Obj := .cells #[.int .u8 a, .int .u8 b] 45 (0, 0)
abbrev tox (a b : Int) : Obj := .cells #[.int .i64 a, .int .i64 b] 47 (0, 0)
theorem at2 {w : World} {q : Nat} {v : Nat → Value} {t : TypeId} (h : w.heap[q]? = some (.cells #[v 0, v 1] t (0, 0))) (k : Nat) (hk : k < 2) : w.cell? ⟨q, k, none⟩ = some (v k) := by
  obtain ⟨a0, a1⟩ := cells2 h
  match k, hk with
  | 0, _ => exact a0
  | 1, _ => exact a1
/-- What was heard behind i frames of the round k. -/
def J (O : Nat → Int) (M : Nat → Nat) (k i : Nat) (B : Nat → Int) (C : Nat → Nat) : Prop :=
  (i = 0 → C 0 = 0 ∧ C 1 = 0) ∧ (i = 1 → C k = M k ∧ B k = -O k ∧ C (1 - k) = 0) ∧ (i = 2 → (C 0 = M 0 ∧ B 0 = -O 0) ∧ C 1 = M 1 ∧ B 1 = -O 1)
theorem J.free {O : Nat → Int} {M : Nat → Nat} {k i : Nat} {B : Nat → Int} {C : Nat → Nat} (h : J O M k i B C) (hk : k < 2) (hi : i < 2) : C ((i + k) % 2) = 0 := by
  rcases (show i = 0 ∨ i = 1 by omega) with rfl | rfl <;> rcases (show k = 0 ∨ k = 1 by omega) with rfl | rfl
  · exact (h.1 rfl).1
  · exact (h.1 rfl).2
  · exact (h.2.1 rfl).2.2
  · exact (h.2.1 rfl).2.2
theorem J.step {O : Nat → Int} {M : Nat → Nat} {k i : Nat} {B : Nat → Int} {C : Nat → Nat} (h : J O M k i B C) (hk : k < 2) (hi : i < 2) : J O M k (i + 1) (upd B ((i + k) % 2) (-O ((i + k) % 2))) (upd C ((i + k) % 2) (M ((i + k) % 2))) := by
  rcases (show i = 0 ∨ i = 1 by omega) with rfl | rfl <;> rcases (show k = 0 ∨ k = 1 by omega) with rfl | rfl
  · exact ⟨fun h => absurd h (by decide), fun _ => ⟨rfl, rfl, (h.1 rfl).2⟩, fun h => absurd h (by decide)⟩
  · exact ⟨fun h => absurd h (by decide), fun _ => ⟨rfl, rfl, (h.1 rfl).1⟩, fun h => absurd h (by decide)⟩
  · exact ⟨fun h => absurd h (by decide), fun h => absurd h (by decide), fun _ => ⟨⟨(h.2.1 rfl).1, (h.2.1 rfl).2.1⟩, rfl, rfl⟩⟩
  · exact ⟨fun h => absurd h (by decide), fun h => absurd h (by decide), fun _ => ⟨⟨rfl, rfl⟩, (h.2.1 rfl).1, (h.2.1 rfl).2.1⟩⟩
/-- By how much the better frame sets the clock on. -/
def want (O : Nat → Int) (M : Nat → Nat) : Int := if (mem (M 0)).length < (mem (M 1)).length then -O 1 else -O 0
theorem J.best {O : Nat → Int} {M : Nat → Nat} {k : Nat} {B : Nat → Int} {C : Nat → Nat} (h : J O M k 2 B C) : bsB B C = want O M := by
  obtain ⟨⟨h1, h2⟩, h3, h4⟩ := h.2.2 rfl
  unfold bsB bet want
  rw [h1, h2, h3, h4]
  by_cases hl : (mem (M 0)).length < (mem (M 1)).length
  · rw [decide_eq_true hl, if_pos rfl, if_pos hl]
  · rw [decide_eq_false hl, if_neg (by decide), if_neg hl]
theorem cells9 {w : World} {j : Nat} {v0 v1 v2 v3 v4 v5 v6 v7 v8 : Value} {t : TypeId} (h : w.heap[j]? = some (.cells #[v0, v1, v2, v3, v4, v5, v6, v7, v8] t (0, 0))) : w.cell? ⟨j, 0, none⟩ = some v0 ∧ w.cell? ⟨j, 1, none⟩ = some v1 ∧ w.cell? ⟨j, 2, none⟩ = some v2 ∧ w.cell? ⟨j, 3, none⟩ = some v3 ∧ w.cell? ⟨j, 4, none⟩ = some v4 ∧ w.cell? ⟨j, 5, none⟩ = some v5 ∧ w.cell? ⟨j, 6, none⟩ = some v6 ∧ w.cell? ⟨j, 7, none⟩ = some v7 ∧ w.cell? ⟨j, 8, none⟩ = some v8 :=
  ⟨cell_of_row w j 0 _ _ _ h, cell_of_row w j 1 _ _ _ h, cell_of_row w j 2 _ _ _ h, cell_of_row w j 3 _ _ _ h, cell_of_row w j 4 _ _ _ h, cell_of_row w j 5 _ _ _ h, cell_of_row w j 6 _ _ _ h, cell_of_row w j 7 _ _ _ h, cell_of_row w j 8 _ _ _ h⟩
abbrev CB (c : ConfW.Cfg) (D E : Option Addr) (nd cd ne ce : Nat) : Obj := Obj.cells #[.int .i64 c.hosts, .int .i64 c.cycle, .int .i64 c.delay, .int .i64 c.window, .int .i64 c.precision, .slice D nd cd, .slice E ne ce, .slice none 0 0, .int .i64 c.queue] 26 (0, 0)
set_option maxHeartbeats 8000000 in
set_option maxRecDepth 100000 in
theorem walk2 (P : Nat → Nat) (O : Nat → Int) (w : World) (hP : ∀ k, P k < 4294967296) (hO : ∀ k, 0 ≤ O k ∧ O k ≤ 255) :
    Calls Try.prog 5 #[.agg #[.int .u32 (P 0 : Int), .int .u32 (P 1 : Int)], .agg #[.int .u8 (O 0), .int .u8 (O 1)]] w fun r w' => r = .returned (.bool true) ∧ Below w.heap.size w w' := by
  obtain ⟨M, hM⟩ : ∃ M : Nat → Nat, M = fun k => P k % 63 + 1 := ⟨_, rfl⟩
  have HM := Lib.hid hM
  clear hM
  have HP := Lib.hid hP
  have HO := Lib.hid hO
  clear hP hO
  have S0 := Lib.hid (((Stay.start w).alloc (cbx (P 0 : Int) (P 1 : Int))).alloc (ofx (O 0) (O 1)))
  have q1 : (w.alloc (cbx (P 0 : Int) (P 1 : Int))).heap.size = w.heap.size + 1 := by simp
  rw [q1] at S0
  clear q1
  go_enter Try.func5, Try.ntmps5
  go_wp2_with fail
  refine (fixed_any _).mono ?_
  rintro r w1 ⟨rfl, b1⟩
  have S := Lib.hid (S0.out.next b1)
  clear b1 S0
  go_wp2_with fail
  refine (fam_any 6 0 _).mono ?_
  rintro r w2 ⟨c, D, E, nd, cd, ne, ce, rfl, hm, hc, b2⟩
  have HCM := Lib.hid hm
  have HC := Lib.hid hc
  have S2 := Lib.hid (S.out.next b2)
  clear hm hc b2 S
  have T0 := ((((Stay.start w2).add (S2.out.at 1 rfl)).add (S2.out.at 0 rfl)).alloc (CB c D E nd cd ne ce)).alloc (tox 0 0)
  have u1 : (w2.alloc (CB c D E nd cd ne ce)).heap.size = w2.heap.size + 1 := by simp
  rw [u1] at T0
  have T := Lib.hid T0
  have HCB := Lib.hid (fun W (b : Below w2.heap.size w2 W) => HCM.out.below b)
  have HB := Lib.hid S2.out.b
  have HL := Lib.hid (lt_of_heap (S2.out.at 0 rfl))
  clear T0 u1 HCM S2
  go_upto_region 5 with (fail)
  generalize (w2.alloc (CB c D E nd cd ne ce)).alloc (tox 0 0) = w3 at *
  generalize hu : w2.heap.size = u at *
  have UU := Lib.hid hu
  clear hu
  go_upto_region 6 with (fail)
  go_loopw [21] (fun kv wr => ∃ (k : Nat) (t0 t1 : Int), k ≤ 2 ∧ kv = .int .i64 k ∧ Hid ((1 ≤ k → t0 = want O M) ∧ (k = 2 → t1 = want O M)) ∧ Hid (Stay w2 [(u + 1, tox t0 t1), (u, CB c D E nd cd ne ce), (w.heap.size + 1, ofx (O 0) (O 1)), (w.heap.size, cbx (P 0 : Int) (P 1 : Int))] wr)) (fun kv _ => 2 - (intOf kv).toNat)
  case atStart => exact ⟨0, 0, 0, by decide, rfl, Lib.hid ⟨fun h => absurd h (by decide), fun h => absurd h (by decide)⟩, T⟩
  case round =>
    obtain ⟨k, t0, t1, hk, rfl, HT, HS⟩ := hrel
    clear T
    by_cases hk2 : (k : Int) < 2
    · obtain ⟨a0, a1, a2, a3, a4, a5, a6, a7, a8⟩ := cells9 (HS.out.at 1 rfl)
      go_wp2_with fail
      refine (new_ok c D E none nd cd ne ce 0 0 _ (HCB.out _ (UU.out ▸ HS.out.b)) HC.out.1).mono ?_
      rintro r w4 ⟨g, rfl, h4, hg, b4⟩
      have PP := Lib.hid (fam_new HC.out HS.out h4 hg b4)
      clear h4 hg b4 HS a0 a1 a2 a3 a4 a5 a6 a7 a8
      go_upto_region 10 with (fail)
      have hk1 : k < 2 := by omega
      have HK1 := Lib.hid hk1
      clear hk1 hk
      go_loopw [29] (fun iv wr => ∃ (i : Nat) (B : Nat → Int) (C : Nat → Nat), i ≤ 2 ∧ iv = .int .i64 i ∧ Hid (J O M k i B C) ∧ Hid (PA w2 [(u + 1, tox t0 t1), (u, CB c D E nd cd ne ce), (w.heap.size + 1, ofx (O 0) (O 1)), (w.heap.size, cbx (P 0 : Int) (P 1 : Int))] g 2000000 5000 2000 B C wr)) (fun iv _ => 2 - (intOf iv).toNat)
      case atStart => exact ⟨0, zB, zC, by decide, rfl, Lib.hid ⟨fun _ => ⟨rfl, rfl⟩, fun h => absurd h (by decide), fun h => absurd h (by decide)⟩, PP⟩
      case round =>
        obtain ⟨i, B, C, hi, rfl, HJ, HX⟩ := hrel
        clear PP
        by_cases hi2 : (i : Int) < 2
        · have i1 : i < 2 := by omega
          obtain ⟨j, hj⟩ : ∃ j, (i + k) % 2 = j := ⟨_, rfl⟩
          have j1 : j < 2 := by omega
          have free := HJ.out.free HK1.out i1
          have step := HJ.out.step HK1.out i1
          rw [hj] at free step
          have k1 := HK1.out
          have a1 : wrap64 ((i : Int) + (k : Int)) = (i : Int) + (k : Int) := w64 (by omega) (by omega)
          have a2 : ((i : Int) + (k : Int)) % 2 = (j : Int) := by rw [← hj]; rfl
          have a3 : Int.tmod ((i : Int) + (k : Int)) 2 = (j : Int) := by rw [← hj]; rfl
          have j2 : (j : Int) < 2 := by clear a2 a3; omega
          have ob := HO.out j
          have pb := HP.out j
          have mj : M j = P j % 63 + 1 := by rw [HM.out]
          obtain ⟨T, hT⟩ : ∃ T : Int, 4005000 + O j = T := ⟨_, rfl⟩
          obtain ⟨F, hF⟩ : ∃ F : Int, 6 + (j : Int) = F := ⟨_, rfl⟩
          obtain ⟨m, hm⟩ : ∃ m, M j = m := ⟨_, rfl⟩
          rw [hm] at mj step
          have mb : 1 ≤ m ∧ m ≤ 63 := by clear a2 a3; omega
          have m1 : ((P j : Nat) : Int) % 63 = (m : Int) - 1 := by clear a2 a3; omega
          have m2 : Int.tmod ((P j : Nat) : Int) 63 = (m : Int) - 1 := by rw [← m1]; rfl
          have m3 : IntKind.u32.wrap ((m : Int) - 1 + 1) = (m : Int) := by rw [show (m : Int) - 1 + 1 = (m : Int) by omega]; exact wu32 (by omega) (by clear a2 a3 m1 m2; omega)
          have m4 : IntKind.u32.wrap (m : Int) = (m : Int) := wu32 (by omega) (by clear a2 a3 m1 m2; omega)
          have g1 : IntKind.i64.wrap (4005000 + O j) = T := by rw [hT]; exact wi64 (by clear a2 a3 m1 m2; omega) (by clear a2 a3 m1 m2; omega)
          have g2 : IntKind.i64.wrap (O j) = O j := wi64 (by clear a2 a3 m1 m2; omega) (by clear a2 a3 m1 m2; omega)
          have g3 : IntKind.i64.wrap (6 + (j : Int)) = F := by rw [hF]; exact wi64 (by clear a2 a3 m1 m2; omega) (by clear a2 a3 m1 m2; omega)
          have EX := Lib.hid (fun W (h : PA w2 [(u + 1, tox t0 t1), (u, CB c D E nd cd ne ce), (w.heap.size + 1, ofx (O 0) (O 1)), (w.heap.size, cbx (P 0 : Int) (P 1 : Int))] g 2000000 5000 2000 B C W) => h.exp 2 (by decide) 4005000 (by decide))
          have HE := Lib.hid (fun W (h : PA w2 [(u + 1, tox t0 t1), (u, CB c D E nd cd ne ce), (w.heap.size + 1, ofx (O 0) (O 1)), (w.heap.size, cbx (P 0 : Int) (P 1 : Int))] g 2000000 5000 2000 B C W) => h.hear 2 T 2 F 2 m 0 j j1 hF.symm (by decide) (okT_iff.2 (by clear a2 a3 m1 m2; omega)) (okF_iff.2 ⟨by clear a2 a3 m1 m2; unfold rightC; omega, rfl, by clear a2 a3 m1 m2; omega, by clear a2 a3 m1 m2; omega⟩) free (by clear a2 a3 m1 m2; unfold inT; omega) rfl m rfl (-O j) (by clear a2 a3 m1 m2; omega))
          have HST := Lib.hid step
          have HI1 := Lib.hid i1
          have HJ1 := Lib.hid j1
          clear step free ob pb mj hT hF hm mb k1 hj HJ i1 j1 hi
          go_wp2_with fail
          clear a1 a2 a3 hi2 hk2
          apply wp_some (S := fun w' => PA w2 [(u + 1, tox t0 t1), (u, CB c D E nd cd ne ce), (w.heap.size + 1, ofx (O 0) (O 1)), (w.heap.size, cbx (P 0 : Int) (P 1 : Int))] g 2000000 5000 2000 (upd B j (-O j)) (upd C j m) w')
          case h =>
            refine wp_region_noPanic ?_
            refine wp_region_held_drew (S := fun W : World => Stay w2 [(u + 1, tox t0 t1), (u, CB c D E nd cd ne ce), (w.heap.size + 1, ofx (O 0) (O 1)), (w.heap.size, cbx (P 0 : Int) (P 1 : Int))] W) (by kernel_rfl) (HX.out.st.drew) (fun hHeld => ?_)
            refine wpAnyH_take (i := 0) (oi := ⟨(some 36), _, _, _, _, _⟩) (v := ?_) rfl (by kernel_rfl) (by kernel_rfl) (by kernel_rfl) (fun _ _ _ h => h) (Or.inl ⟨by kernel_rfl, ?_⟩) (by assumption) ?_; rotate_left; (focus (intro w hSw; (try dsimp only at hSw); go_simp; (try with_reducible rfl)))
            simp only [Act.put, List.setIfInBounds_toArray, List.set_cons_zero, List.set_cons_succ]
            refine wpAnyH_take (i := 1) (oi := ⟨(some 37), _, _, _, _, _⟩) (v := ?_) rfl (by kernel_rfl) (by kernel_rfl) (by kernel_rfl) (fun _ _ _ h => h) (Or.inl ⟨by kernel_rfl, ?_⟩) (by assumption) ?_; rotate_left; (focus (intro w hSw; (try dsimp only at hSw); go_simp; (try with_reducible rfl)))
            simp only [Act.put, List.setIfInBounds_toArray, List.set_cons_zero, List.set_cons_succ]
            refine wpAnyH_take (i := 3) (oi := ⟨(some 39), _, _, _, _, _⟩) (v := ?_) rfl (by kernel_rfl) (by kernel_rfl) (by kernel_rfl) (fun _ _ _ h => h) (Or.inl ⟨by kernel_rfl, ?_⟩) (by assumption) ?_; rotate_left; (focus (intro w hSw; (try dsimp only at hSw); go_simp; (try with_reducible rfl)))
            simp only [Act.put, List.setIfInBounds_toArray, List.set_cons_zero, List.set_cons_succ]
            refine wpAnyH_take (i := 4) (oi := ⟨(some 40), _, _, _, _, _⟩) (v := ?_) rfl (by kernel_rfl) (by kernel_rfl) (by kernel_rfl) (fun _ _ _ h => h) (Or.inl ⟨by kernel_rfl, ?_⟩) (by assumption) ?_; rotate_left; (focus (intro w hSw; (try dsimp only at hSw); go_simp; (try with_reducible rfl)))
            simp only [Act.put, List.setIfInBounds_toArray, List.set_cons_zero, List.set_cons_succ]
            refine wpAnyH_take (i := 5) (oi := ⟨(some 41), _, _, _, _, _⟩) (v := ?_) rfl (by kernel_rfl) (by kernel_rfl) (by kernel_rfl) (fun _ _ _ h => h) (Or.inl ⟨by kernel_rfl, ?_⟩) (by assumption) ?_; rotate_left; (focus (intro w hSw; (try dsimp only at hSw); have x0 := at2 (v := fun k => Value.int .u8 (O k)) (Stay.at hSw 2 rfl) j HJ1.out; have x1 := at2 (v := fun k => Value.int .u32 (P k : Int)) (Stay.at hSw 3 rfl) j HJ1.out; skip; go_simp; (try with_reducible rfl)))
            simp only [Act.put, List.setIfInBounds_toArray, List.set_cons_zero, List.set_cons_succ]
            refine wpAnyH_take (i := 6) (oi := ⟨(some 42), _, _, _, _, _⟩) (v := ?_) rfl (by kernel_rfl) (by kernel_rfl) (by kernel_rfl) (fun _ _ _ h => h) (Or.inl ⟨by kernel_rfl, ?_⟩) (by assumption) ?_; rotate_left; (focus (intro w hSw; (try dsimp only at hSw); go_simp; (try with_reducible rfl)))
            simp only [Act.put, List.setIfInBounds_toArray, List.set_cons_zero, List.set_cons_succ]
            refine wpAnyH_take (i := 8) (oi := ⟨(some 44), _, _, _, _, _⟩) (v := ?_) rfl (by kernel_rfl) (by kernel_rfl) (by kernel_rfl) (fun _ _ _ h => h) (Or.inl ⟨by kernel_rfl, ?_⟩) (by assumption) ?_; rotate_left; (focus (intro w hSw; (try dsimp only at hSw); go_simp; (try with_reducible rfl)))
            simp only [Act.put, List.setIfInBounds_toArray, List.set_cons_zero, List.set_cons_succ]
            refine wpAnyH_take (i := 9) (oi := ⟨(some 45), _, _, _, _, _⟩) (v := ?_) rfl (by kernel_rfl) (by kernel_rfl) (by kernel_rfl) (fun _ _ _ h => h) (Or.inl ⟨by kernel_rfl, ?_⟩) (by assumption) ?_; rotate_left; (focus (intro w hSw; (try dsimp only at hSw); go_simp; (try with_reducible rfl)))
            simp only [Act.put, List.setIfInBounds_toArray, List.set_cons_zero, List.set_cons_succ]
            refine wpAnyH_take (i := 10) (oi := ⟨(some 46), _, _, _, _, _⟩) (v := ?_) rfl (by kernel_rfl) (by kernel_rfl) (by kernel_rfl) (fun _ _ _ h => h) (Or.inl ⟨by kernel_rfl, ?_⟩) (by assumption) ?_; rotate_left; (focus (intro w hSw; (try dsimp only at hSw); go_simp; (try with_reducible rfl)))
            simp only [Act.put, List.setIfInBounds_toArray, List.set_cons_zero, List.set_cons_succ]
            refine wpAnyH_take (i := 11) (oi := ⟨(some 47), _, _, _, _, _⟩) (v := ?_) rfl (by kernel_rfl) (by kernel_rfl) (by kernel_rfl) (fun _ _ _ h => h) (Or.inl ⟨by kernel_rfl, ?_⟩) (by assumption) ?_; rotate_left; (focus (intro w hSw; (try dsimp only at hSw); go_simp; (try with_reducible rfl)))
            simp only [Act.put, List.setIfInBounds_toArray, List.set_cons_zero, List.set_cons_succ]
            refine wpAnyH_take (i := 12) (oi := ⟨(some 48), _, _, _, _, _⟩) (v := ?_) rfl (by kernel_rfl) (by kernel_rfl) (by kernel_rfl) (fun _ _ _ h => h) (Or.inl ⟨by kernel_rfl, ?_⟩) (by assumption) ?_; rotate_left; (focus (intro w hSw; (try dsimp only at hSw); have x0 := at2 (v := fun k => Value.int .u8 (O k)) (Stay.at hSw 2 rfl) j HJ1.out; have x1 := at2 (v := fun k => Value.int .u32 (P k : Int)) (Stay.at hSw 3 rfl) j HJ1.out; skip; go_simp; (try with_reducible rfl)))
            simp only [Act.put, List.setIfInBounds_toArray, List.set_cons_zero, List.set_cons_succ]
            refine wpAnyH_take (i := 13) (oi := ⟨(some 49), _, _, _, _, _⟩) (v := ?_) rfl (by kernel_rfl) (by kernel_rfl) (by kernel_rfl) (fun _ _ _ h => h) (Or.inl ⟨by kernel_rfl, ?_⟩) (by assumption) ?_; rotate_left; (focus (intro w hSw; (try dsimp only at hSw); go_simp; (try with_reducible rfl)))
            simp only [Act.put, List.setIfInBounds_toArray, List.set_cons_zero, List.set_cons_succ]
            refine wpAnyH_take (i := 14) (oi := ⟨(some 50), _, _, _, _, _⟩) (v := ?_) rfl (by kernel_rfl) (by kernel_rfl) (by kernel_rfl) (fun _ _ _ h => h) (Or.inl ⟨by kernel_rfl, ?_⟩) (by assumption) ?_; rotate_left; (focus (intro w hSw; (try dsimp only at hSw); go_simp; (try with_reducible rfl)))
            simp only [Act.put, List.setIfInBounds_toArray, List.set_cons_zero, List.set_cons_succ]
            refine wpAnyH_take (i := 15) (oi := ⟨(some 51), _, _, _, _, _⟩) (v := ?_) rfl (by kernel_rfl) (by kernel_rfl) (by kernel_rfl) (fun _ _ _ h => h) (Or.inl ⟨by kernel_rfl, ?_⟩) (by assumption) ?_; rotate_left; (focus (intro w hSw; (try dsimp only at hSw); go_simp; (try with_reducible rfl)))
            simp only [Act.put, List.setIfInBounds_toArray, List.set_cons_zero, List.set_cons_succ]
            refine wpAnyH_ready (rs := [2]) (by kernel_rfl) (by simp) ?_
            refine AllReadyH.cons (o := ⟨(some 38), _, _, _, _, _⟩) rfl (fun K hK => ?_) AllReadyH.nil
            rw [if_pos (by kernel_rfl)]
            go_simp
            go_at_call 9; refine (EX.out _ HX.out.drew).mono ?_; rintro r w5 ⟨rfl, p5, -⟩; have s5 := PA.st p5
            go_simp
            refine hK.out _ _ (by assumption) (fun hHeld => ?_)
            clear hK K
            refine wpAnyH_take (i := 7) (oi := ⟨(some 43), _, _, _, _, _⟩) (v := ?_) rfl (by kernel_rfl) (by kernel_rfl) (by kernel_rfl) (fun _ _ _ h => h) (Or.inl ⟨by kernel_rfl, ?_⟩) (by assumption) ?_; rotate_left; (focus (intro w hSw; (try dsimp only at hSw); go_simp; (try with_reducible rfl)))
            simp only [Act.put, List.setIfInBounds_toArray, List.set_cons_zero, List.set_cons_succ]
            refine wpAnyH_ready (rs := [16]) (by kernel_rfl) (by simp) ?_
            refine AllReadyH.cons (o := ⟨(some 52), _, _, _, _, _⟩) rfl (fun K hK => ?_) AllReadyH.nil
            rw [if_pos (by kernel_rfl)]
            go_simp
            go_at_call 12; (with_reducible refine (HE.out _ p5).mono ?_); rintro r w6 ⟨rfl, p6, -⟩; have s6 := PA.st p6
            go_simp
            refine hK.out _ _ (by assumption) (fun hHeld => ?_)
            clear hK K
            refine wpAnyH_take (i := 17) (oi := ⟨(some 53), _, _, _, _, _⟩) (v := ?_) rfl (by kernel_rfl) (by kernel_rfl) (by kernel_rfl) (fun _ _ _ h => h) (Or.inl ⟨by kernel_rfl, ?_⟩) (by assumption) ?_; rotate_left; (focus (intro w hSw; (try dsimp only at hSw); go_simp; (try with_reducible rfl)))
            simp only [Act.put, List.setIfInBounds_toArray, List.set_cons_zero, List.set_cons_succ]
            refine wpAnyH_done (by kernel_rfl) ?_ _
            exact NoPanic.normal ⟨rfl, rfl, p6⟩
          case hm =>
          intro w9 h9
          have P9 := Lib.hid h9
          clear h9 m1 m2 m3 m4 g1 g2 g3
          have i2 : (i : Int) < 2 := by have := HI1.out; omega
          go_wp2
          go_roundw
          case rel => exact ⟨i + 1, _, _, by have := HI1.out; omega, by go_num, HST, P9⟩
          case measure => have := HI1.out; simp only [intOf]; omega
        · obtain rfl : i = 2 := by omega
          have best := HJ.out.best
          obtain ⟨cc, hcc⟩ : ∃ cc, bsC C = cc := ⟨_, rfl⟩
          obtain ⟨nn, hnn⟩ : ∃ nn, hrd C = nn := ⟨_, rfl⟩
          obtain ⟨W0, hW0⟩ : ∃ W0, want O M = W0 := ⟨_, rfl⟩
          rw [hW0] at best
          have HW0 := Lib.hid hW0
          have KC := Lib.hid (HX.out.close W0 cc nn best hcc hnn)
          have k2 : (k : Int) < 2 := by have := HK1.out; omega
          clear best hcc hnn hW0 HJ hi hi2 hk2
          rcases (show k = 0 ∨ k = 1 by have := HK1.out; omega) with rfl | rfl
          · go_upto_region 16 with (fail)
            go_wp2_with fail
            refine KC.out.mono ?_
            rintro r w7 ⟨rfl, p7, -⟩
            have P7 := Lib.hid p7
            clear p7 KC HX
            obtain ⟨x0, x1⟩ := cells2 (P7.out.st.at 0 rfl)
            obtain ⟨f0, f1⟩ := frozen2 (P7.out.st.at 0 rfl)
            have TU := Lib.hid (show Stay w2 [(u + 1, tox W0 t1), (u, CB c D E nd cd ne ce), (w.heap.size + 1, ofx (O 0) (O 1)), (w.heap.size, cbx (P 0 : Int) (P 1 : Int))] (w7.setCell ⟨u + 1, 0, none⟩ (.int .i64 W0)) from P7.out.st.turn (kept1 w7 (u + 1) 0 _) (heap_setCell_same w7 (u + 1) 0 _ _ _ (P7.out.st.at 0 rfl)) (by have := UU.out; omega) (fun x hx => by
              have := HL.out
              rcases List.mem_cons.1 hx with rfl | hx
              · show u ≠ u + 1; omega
              · rcases List.mem_cons.1 hx with rfl | hx
                · show w.heap.size + 1 ≠ u + 1; omega
                · rcases List.mem_cons.1 hx with rfl | hx
                  · show w.heap.size ≠ u + 1; omega
                  · cases hx))
            go_wp2
            go_roundw
            case rel => exact ⟨1, W0, t1, by decide, by go_num, Lib.hid ⟨fun _ => HW0.out.symm, fun h => absurd h (by decide)⟩, TU⟩
            case measure => simp only [intOf]; omega
          · go_upto_region 16 with (fail)
            go_wp2_with fail
            refine KC.out.mono ?_
            rintro r w7 ⟨rfl, p7, -⟩
            have P7 := Lib.hid p7
            clear p7 KC HX
            obtain ⟨x0, x1⟩ := cells2 (P7.out.st.at 0 rfl)
            obtain ⟨f0, f1⟩ := frozen2 (P7.out.st.at 0 rfl)
            have TU := Lib.hid (show Stay w2 [(u + 1, tox t0 W0), (u, CB c D E nd cd ne ce), (w.heap.size + 1, ofx (O 0) (O 1)), (w.heap.size, cbx (P 0 : Int) (P 1 : Int))] (w7.setCell ⟨u + 1, 1, none⟩ (.int .i64 W0)) from P7.out.st.turn (kept1 w7 (u + 1) 1 _) (heap_setCell_same w7 (u + 1) 1 _ _ _ (P7.out.st.at 0 rfl)) (by have := UU.out; omega) (fun x hx => by
              have := HL.out
              rcases List.mem_cons.1 hx with rfl | hx
              · show u ≠ u + 1; omega
              · rcases List.mem_cons.1 hx with rfl | hx
                · show w.heap.size + 1 ≠ u + 1; omega
                · rcases List.mem_cons.1 hx with rfl | hx
                  · show w.heap.size ≠ u + 1; omega
                  · cases hx))
            have T0 := Lib.hid (HT.out.1 (by decide))
            go_wp2
            go_roundw
            case rel => exact ⟨2, t0, W0, by decide, by go_num, Lib.hid ⟨fun _ => T0.out, fun _ => HW0.out.symm⟩, TU⟩
            case measure => simp only [intOf]; omega
    · obtain rfl : k = 2 := by omega
      have t0w := HT.out.1 (by decide)
      have t1w := HT.out.2 rfl
      clear HT hk hk2
      subst t0w
      subst t1w
      have ob0 := HO.out 0
      have ob1 := HO.out 1
      have pb0 := HP.out 0
      have pb1 := HP.out 1
      obtain ⟨mA, hA⟩ : ∃ mA, M 0 = mA := ⟨_, rfl⟩
      obtain ⟨mB, hB⟩ : ∃ mB, M 1 = mB := ⟨_, rfl⟩
      have xA : P 0 % 63 + 1 = mA := by rw [← hA, HM.out]
      have xB : P 1 % 63 + 1 = mB := by rw [← hB, HM.out]
      have bA : 1 ≤ mA ∧ mA ≤ 63 := by omega
      have bB : 1 ≤ mB ∧ mB ≤ 63 := by omega
      have KA := Lib.hid (fun W => bits_any mA (by omega) W)
      have KB := Lib.hid (fun W => bits_any mB (by omega) W)
      have a1 : ((P 0 : Nat) : Int) % 63 = (mA : Int) - 1 := by omega
      have a2 : ((P 1 : Nat) : Int) % 63 = (mB : Int) - 1 := by omega
      have a3 : IntKind.u32.wrap (mA : Int) = (mA : Int) := wu32 (by omega) (by omega)
      have a4 : IntKind.u32.wrap (mB : Int) = (mB : Int) := wu32 (by omega) (by omega)
      have a5 : IntKind.u32.wrap ((mA : Int) - 1 + 1) = (mA : Int) := by rw [show (mA : Int) - 1 + 1 = (mA : Int) by omega]; exact a3
      have a6 : IntKind.u32.wrap ((mB : Int) - 1 + 1) = (mB : Int) := by rw [show (mB : Int) - 1 + 1 = (mB : Int) by omega]; exact a4
      have c1 : IntKind.i64.wrap (O 0) = O 0 := wi64 (by omega) (by omega)
      have c2 : IntKind.i64.wrap (O 1) = O 1 := wi64 (by omega) (by omega)
      have c3 : wrap64 (O 0) = O 0 := w64 (by omega) (by omega)
      have c4 : wrap64 (O 1) = O 1 := w64 (by omega) (by omega)
      have c5 : wrap64 (-O 0) = -O 0 := w64 (by omega) (by omega)
      have c6 : wrap64 (-O 1) = -O 1 := w64 (by omega) (by omega)
      have a7 : Int.tmod ((P 0 : Nat) : Int) 63 = (mA : Int) - 1 := by rw [← a1]; rfl
      have a8 : Int.tmod ((P 1 : Nat) : Int) 63 = (mB : Int) - 1 := by rw [← a2]; rfl
      have HW : want O M = if (mem mA).length < (mem mB).length then -O 1 else -O 0 := by unfold want; rw [hA, hB]
      generalize want O M = W0 at *
      obtain ⟨lA, hlA⟩ : ∃ lA, (mem mA).length = lA := ⟨_, rfl⟩
      obtain ⟨lB, hlB⟩ : ∃ lB, (mem mB).length = lB := ⟨_, rfl⟩
      rw [hlA] at KA HW
      rw [hlB] at KB HW
      have HWW := Lib.hid HW
      have OB := Lib.hid (show (0 ≤ O 0 ∧ O 0 ≤ 255) ∧ 0 ≤ O 1 ∧ O 1 ≤ 255 from ⟨ob0, ob1⟩)
      clear HW hlA hlB hA hB xA xB bA bB ob0 ob1 pb0 pb1
      obtain ⟨d0, d1⟩ := cells2 (HS.out.at 2 rfl)
      obtain ⟨x0, x1⟩ := cells2 (HS.out.at 3 rfl)
      obtain ⟨z0, z1⟩ := cells2 (HS.out.at 0 rfl)
      go_upto_region 20 with (fail)
      apply wp_some (S := fun w' => Stay w2 [(u + 1, tox W0 W0), (u, CB c D E nd cd ne ce), (w.heap.size + 1, ofx (O 0) (O 1)), (w.heap.size, cbx (P 0 : Int) (P 1 : Int))] w')
      case h =>
        refine wp_region_noPanic ?_
        refine wp_region_held_drew (S := fun W : World => Stay w2 [(u + 1, tox W0 W0), (u, CB c D E nd cd ne ce), (w.heap.size + 1, ofx (O 0) (O 1)), (w.heap.size, cbx (P 0 : Int) (P 1 : Int))] W) (by kernel_rfl) (HS.out.drew) (fun hHeld => ?_)
        refine wpAnyH_take (i := 0) (oi := ⟨(some 68), _, _, _, _, _⟩) (v := ?_) rfl (by kernel_rfl) (by kernel_rfl) (by kernel_rfl) (fun _ _ _ h => h) (Or.inl ⟨by kernel_rfl, ?_⟩) (by assumption) ?_; rotate_left; (focus (intro w hSw; (try dsimp only at hSw); go_simp; (try with_reducible rfl)))
        simp only [Act.put, List.setIfInBounds_toArray, List.set_cons_zero, List.set_cons_succ]
        refine wpAnyH_take (i := 1) (oi := ⟨(some 69), _, _, _, _, _⟩) (v := ?_) rfl (by kernel_rfl) (by kernel_rfl) (by kernel_rfl) (fun _ _ _ h => h) (Or.inl ⟨by kernel_rfl, ?_⟩) (by assumption) ?_; rotate_left; (focus (intro w hSw; (try dsimp only at hSw); go_simp; (try with_reducible rfl)))
        simp only [Act.put, List.setIfInBounds_toArray, List.set_cons_zero, List.set_cons_succ]
        refine wpAnyH_take (i := 2) (oi := ⟨(some 70), _, _, _, _, _⟩) (v := ?_) rfl (by kernel_rfl) (by kernel_rfl) (by kernel_rfl) (fun _ _ _ h => h) (Or.inl ⟨by kernel_rfl, ?_⟩) (by assumption) ?_; rotate_left; (focus (intro w hSw; (try dsimp only at hSw); obtain ⟨y0, y1⟩ := cells2 (Stay.at hSw 3 rfl); go_simp; (try with_reducible rfl)))
        simp only [Act.put, List.setIfInBounds_toArray, List.set_cons_zero, List.set_cons_succ]
        refine wpAnyH_take (i := 3) (oi := ⟨(some 71), _, _, _, _, _⟩) (v := ?_) rfl (by kernel_rfl) (by kernel_rfl) (by kernel_rfl) (fun _ _ _ h => h) (Or.inl ⟨by kernel_rfl, ?_⟩) (by assumption) ?_; rotate_left; (focus (intro w hSw; (try dsimp only at hSw); go_simp; (try with_reducible rfl)))
        simp only [Act.put, List.setIfInBounds_toArray, List.set_cons_zero, List.set_cons_succ]
        refine wpAnyH_take (i := 4) (oi := ⟨(some 72), _, _, _, _, _⟩) (v := ?_) rfl (by kernel_rfl) (by kernel_rfl) (by kernel_rfl) (fun _ _ _ h => h) (Or.inl ⟨by kernel_rfl, ?_⟩) (by assumption) ?_; rotate_left; (focus (intro w hSw; (try dsimp only at hSw); go_simp; (try with_reducible rfl)))
        simp only [Act.put, List.setIfInBounds_toArray, List.set_cons_zero, List.set_cons_succ]
        refine wpAnyH_take (i := 6) (oi := ⟨(some 74), _, _, _, _, _⟩) (v := ?_) rfl (by kernel_rfl) (by kernel_rfl) (by kernel_rfl) (fun _ _ _ h => h) (Or.inl ⟨by kernel_rfl, ?_⟩) (by assumption) ?_; rotate_left; (focus (intro w hSw; (try dsimp only at hSw); go_simp; (try with_reducible rfl)))
        simp only [Act.put, List.setIfInBounds_toArray, List.set_cons_zero, List.set_cons_succ]
        refine wpAnyH_take (i := 7) (oi := ⟨(some 75), _, _, _, _, _⟩) (v := ?_) rfl (by kernel_rfl) (by kernel_rfl) (by kernel_rfl) (fun _ _ _ h => h) (Or.inl ⟨by kernel_rfl, ?_⟩) (by assumption) ?_; rotate_left; (focus (intro w hSw; (try dsimp only at hSw); go_simp; (try with_reducible rfl)))
        simp only [Act.put, List.setIfInBounds_toArray, List.set_cons_zero, List.set_cons_succ]
        refine wpAnyH_take (i := 8) (oi := ⟨(some 76), _, _, _, _, _⟩) (v := ?_) rfl (by kernel_rfl) (by kernel_rfl) (by kernel_rfl) (fun _ _ _ h => h) (Or.inl ⟨by kernel_rfl, ?_⟩) (by assumption) ?_; rotate_left; (focus (intro w hSw; (try dsimp only at hSw); obtain ⟨y0, y1⟩ := cells2 (Stay.at hSw 3 rfl); go_simp; (try with_reducible rfl)))
        simp only [Act.put, List.setIfInBounds_toArray, List.set_cons_zero, List.set_cons_succ]
        refine wpAnyH_take (i := 9) (oi := ⟨(some 77), _, _, _, _, _⟩) (v := ?_) rfl (by kernel_rfl) (by kernel_rfl) (by kernel_rfl) (fun _ _ _ h => h) (Or.inl ⟨by kernel_rfl, ?_⟩) (by assumption) ?_; rotate_left; (focus (intro w hSw; (try dsimp only at hSw); go_simp; (try with_reducible rfl)))
        simp only [Act.put, List.setIfInBounds_toArray, List.set_cons_zero, List.set_cons_succ]
        refine wpAnyH_take (i := 10) (oi := ⟨(some 78), _, _, _, _, _⟩) (v := ?_) rfl (by kernel_rfl) (by kernel_rfl) (by kernel_rfl) (fun _ _ _ h => h) (Or.inl ⟨by kernel_rfl, ?_⟩) (by assumption) ?_; rotate_left; (focus (intro w hSw; (try dsimp only at hSw); go_simp; (try with_reducible rfl)))
        simp only [Act.put, List.setIfInBounds_toArray, List.set_cons_zero, List.set_cons_succ]
        refine wpAnyH_ready (rs := [5]) (by kernel_rfl) (by simp) ?_
        refine AllReadyH.cons (o := ⟨(some 73), _, _, _, _, _⟩) rfl (fun K hK => ?_) AllReadyH.nil
        rw [if_pos (by kernel_rfl)]
        go_simp
        go_at_call 15; (with_reducible refine (KB.out _).mono ?_); rintro r w' ⟨rfl, hw⟩; obtain rfl := hw.symm
        go_simp
        refine hK.out _ _ (by assumption) (fun hHeld => ?_)
        clear hK K
        refine wpAnyH_ready (rs := [11]) (by kernel_rfl) (by simp) ?_
        refine AllReadyH.cons (o := ⟨(some 79), _, _, _, _, _⟩) rfl (fun K hK => ?_) AllReadyH.nil
        rw [if_pos (by kernel_rfl)]
        go_simp
        go_at_call 15; (with_reducible refine (KA.out _).mono ?_); rintro r w' ⟨rfl, hw⟩; obtain rfl := hw.symm
        go_simp
        refine hK.out _ _ (by assumption) (fun hHeld => ?_)
        clear hK K
        refine wpAnyH_take (i := 12) (oi := ⟨(some 80), _, _, _, _, _⟩) (v := ?_) rfl (by kernel_rfl) (by kernel_rfl) (by kernel_rfl) (fun _ _ _ h => h) (Or.inl ⟨by kernel_rfl, ?_⟩) (by assumption) ?_; rotate_left; (focus (intro w hSw; (try dsimp only at hSw); go_simp; (try with_reducible rfl)))
        simp only [Act.put, List.setIfInBounds_toArray, List.set_cons_zero, List.set_cons_succ]
        refine wpAnyH_done (by kernel_rfl) ?_ _
        exact NoPanic.normal ⟨rfl, rfl, hHeld⟩
      case hm =>
      intro w9 h9
      have P9 := Lib.hid h9
      clear h9 a1 a2 a3 a4 a5 a6 a7 a8 d0 d1 x0 x1 z0 z1 HS KA KB
      obtain ⟨d0, d1⟩ := cells2 (P9.out.at 2 rfl)
      obtain ⟨z0, z1⟩ := cells2 (P9.out.at 0 rfl)
      have BF := Lib.hid (HB.out.trans (P9.out.b.mono HB.out.size))
      have NC := Lib.hid (fun W => close_nil W)
      have NH := Lib.hid (fun W => hear_nil 0 0 0 0 0 0 0 W)
      have NA := Lib.hid (fun W => accept_nil W)
      have NE := Lib.hid (fun W => expected_nil 3 W)
      by_cases hl : lA < lB
      · have e1 : W0 = -O 1 := by rw [HWW.out, if_pos hl]
        subst e1
        have hl2 : (lA : Int) < (lB : Int) := by omega
        have l1 : decide ((lA : Int) < (lB : Int)) = true := decide_eq_true hl2
        have l2 : decide (lA < lB) = true := decide_eq_true hl
        clear HWW
        go_wp2_with (first
          | (go_at_call 13; refine (NC.out _).mono ?_; rintro r w' ⟨rfl, hw⟩; obtain rfl := hw.symm)
          | (go_at_call 12; refine (NH.out _).mono ?_; rintro r w10 ⟨rfl, b10⟩; have B2 := Lib.hid b10; clear b10)
          | (go_at_call 11; refine (NA.out _).mono ?_; rintro r w' ⟨rfl, hw⟩; obtain rfl := hw.symm)
          | (go_at_call 9; refine (NE.out _).mono ?_; rintro r w' ⟨rfl, hw⟩; obtain rfl := hw.symm))
        go_ret
        exact ⟨rfl, BF.out.trans (B2.out.mono BF.out.size)⟩
      · have e1 : W0 = -O 0 := by rw [HWW.out, if_neg hl]
        subst e1
        have l1 : decide ((lA : Int) < (lB : Int)) = false := decide_eq_false (by omega)
        have l2 : decide (lA < lB) = false := decide_eq_false hl
        clear HWW
        go_wp2_with (first
          | (go_at_call 13; refine (NC.out _).mono ?_; rintro r w' ⟨rfl, hw⟩; obtain rfl := hw.symm)
          | (go_at_call 12; refine (NH.out _).mono ?_; rintro r w10 ⟨rfl, b10⟩; have B2 := Lib.hid b10; clear b10)
          | (go_at_call 11; refine (NA.out _).mono ?_; rintro r w' ⟨rfl, hw⟩; obtain rfl := hw.symm)
          | (go_at_call 9; refine (NE.out _).mono ?_; rintro r w' ⟨rfl, hw⟩; obtain rfl := hw.symm))
        go_ret
        exact ⟨rfl, BF.out.trans (B2.out.mono BF.out.size)⟩
theorem walk (xs ys : List Int) (w : World) (hl : xs.length = 2) (hw : ∀ x ∈ xs, (Lit.int .u32 x).wf = true) (hl2 : ys.length = 2) (hw2 : ∀ y ∈ ys, (Lit.int .u8 y).wf = true) :
    Calls Try.prog 5 #[.agg (xs.map (Value.int .u32)).toArray, .agg (ys.map (Value.int .u8)).toArray] w fun r w' => r = .returned (.bool true) ∧ Below w.heap.size w w' := by
  obtain ⟨a, b, rfl⟩ := len2 hl
  obtain ⟨x, y, rfl⟩ := len2 hl2
  have ha := u32_wf (hw a (by simp))
  have hb := u32_wf (hw b (by simp))
  have hx := u8_wf (hw2 x (by simp))
  have hy := u8_wf (hw2 y (by simp))
  obtain ⟨a, rfl⟩ := Int.eq_ofNat_of_zero_le ha.1
  obtain ⟨b, rfl⟩ := Int.eq_ofNat_of_zero_le hb.1
  exact walk2 (fun k => if k = 0 then a else b) (fun k => if k = 0 then x else y) w (fun k => by split <;> omega) (fun k => by split <;> omega)
set_option maxRecDepth 100000 in
/-- What the walk gives, for every argument and every world. -/
theorem contract (H : Type) (enc : TypeId × Value → H) (W : World) (base : Nat) (args : Array Value) (ds gs : List (DataW H)) (before : List MemPlace)
    (hval : ∀ (j : Nat) t v, Try.f5.params[j]? = some t → args[j]? = some v → Value.okWide Try.prog W .any base t v)
    (hW : DataW.Whole enc Try.prog Try.f5.params.toList Rows.alignBestSpec.vars false W args.toList ds gs before) : 
    Calls Try.prog 5 args W fun e W' => ∃ v, e = .returned v ∧ Rows.alignBestSpec.post enc Try.prog Try.f5 false true false false W args v W' := by
  have hW' := hW
  obtain ⟨p, q, hA0, hV, rfl, hfz, hnd⟩ := hW
  have hA : DataW.TrodAll enc Try.prog W 0 (fun _ => true) true Try.f5.params.toList args.toList ds p := hA0
  rw [Try.params5] at hA hval
  obtain ⟨v0, vs0, d0, ds0, p0, q0, hargs, rfl, rfl, h0, r0⟩ := trodAll_cons hA
  obtain ⟨v1, vs1, d1, ds1, p1, q1, rfl, rfl, rfl, h1, r1⟩ := trodAll_cons r0
  obtain ⟨rfl, rfl, rfl⟩ := trodAll_nil r1
  obtain rfl : args = #[v0, v1] := by cases args; simp_all
  obtain ⟨rfl, rfl⟩ := trodVars_none hV
  obtain ⟨xs0, rfl, l0, w0⟩ := open_array Try.underlying44 Try.underlying27 (by kernel_rfl) (by kernel_rfl) (hval 0 44 v0 rfl rfl) h0
  obtain ⟨xs1, rfl, l1, w1⟩ := open_array Try.underlying45 Try.underlying5 (by kernel_rfl) (by kernel_rfl) (hval 1 45 v1 rfl rfl) h1
  refine (walk xs0 xs1 W l0 w0 l1 w1).mono fun e W' ⟨he, hb⟩ => ?_
  exact ⟨_, he, Shell.post_law laidOut (by kernel_rfl) rfl Try.underlying4 rfl hW' rfl hb⟩
theorem reads (os : Os) {H : Type} (enc : TypeId × Value → H) : ∃ places, DataW.whole enc Try.prog ((World.holding Try.prog os ⟨#[], #[], []⟩).forCall (fun _ _ => 0) ⟨#[], #[.agg #[.int .u32 0, .int .u32 0], .agg #[.int .u8 0, .int .u8 0]], []⟩).memory Try.f5.params.toList Rows.alignBestSpec.vars false (#[Value.agg #[.int .u32 0, .int .u32 0], Value.agg #[.int .u8 0, .int .u8 0]]).toList 8 = some ([.agg [.lit (.int .u32 0), .lit (.int .u32 0)], .agg [.lit (.int .u8 0), .lit (.int .u8 0)]], [], places) :=
  ⟨[], by kernel_rfl⟩
set_option maxRecDepth 100000 in
theorem lifted (os : Os) (started : os.Started) (H : Type) (enc : TypeId × Value → H) (F : Stop.Interp) :
    ReturnsInHanded {} Try.checked os 5 .any ((OpenSpec.ofChange Rows.alignBestSpec).preRow enc Try.prog Try.f5 Rows.alignBestRow.domain false Rows.alignBestRow.laid) (((OpenSpec.ofChange Rows.alignBestSpec).at F).post enc Try.prog Try.f5 false true false false) := by
  obtain ⟨places, hx⟩ := reads os enc
  refine returnsInHanded_of_row (C := Try.checked) (s := OpenSpec.ofChange Rows.alignBestSpec) own started (by kernel_rfl) Try.func5
    (witness_row_atRef (enc := enc) (C := Try.checked) false (World.holding Try.prog os ⟨#[], #[], []⟩) #[.agg #[.int .u32 0, .int .u32 0], .agg #[.int .u8 0, .int .u8 0]] rfl (by kernel_rfl) (by kernel_rfl) (by kernel_rfl)
      (OpenSpec.preRow_of_cond 8 hx (by kernel_rfl) (fun k hk => by cases hk) (by kernel_rfl) (laid_met os _))) ?_
  intro W base args ds gs before hval hW _ _ _ hL _ _
  exact contract H enc W base args ds gs before hval hW
theorem said : Rows.AlignBestSaid :=
  OpenClaim.holds_of_cond 5 Try.f5 rfl rfl rfl rfl rfl rfl rfl ⟨rfl, rfl, rfl, rfl, rfl⟩ rfl rfl rfl rfl rfl (by kernel_rfl) Try.func5 (by kernel_rfl)
    (of_decide_eq_true (by kernel_rfl)) (by unfold Func.isWrapper; first | (rw [if_pos (by decide +kernel)]; kernel_rfl) | (rw [if_neg (by decide +kernel)]; exact ⟨rfl, rfl⟩))
    (fun os started H enc _ F => by rw [OpenClaim.pre_eq_preRow]; exact lifted os started H enc F)
end Go.Proofs.Ytpdcdnklmoaokaa.AlignW.AlignBest
