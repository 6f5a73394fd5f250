/- Package align's small functions: an Align in memory; times; what a compressed frame is. -/
import Derived.Test.YtmagjekmlnpfpaaGreatCrewAJa
import Derived.Test.YtmagjekmlnpfpaaGreatFrameEJa
import Derived.Test.YtmagjekmlnpfpaaGreatSmall
import Derived.Deep.RegionLaw
import Derived.Deep.RegionHeld3
namespace Go.Proofs.YtmagjekmlnpfpaaGreat.AlignW
open Go.RowKit Shell
open CrewW (mem count_any)
open FrameW (CV rightC control_ok control_bad)
def okT (t : Int) : Bool := decide (0 ≤ t) && decide (t ≤ 1125899906842624)
theorem okT_iff {t : Int} : okT t = true ↔ 0 ≤ t ∧ t ≤ 1125899906842624 := by unfold okT; simp
/-- A frame that is right, that a switch compressed, and that has a host. -/
def okF (k f y c l : Int) : Bool := decide (rightC k f y c l) && decide (k = 2) && decide (6 ≤ f) && decide (c ≠ 0)
theorem okF_iff {k f y c l : Int} : okF k f y c l = true ↔ rightC k f y c l ∧ k = 2 ∧ 6 ≤ f ∧ c ≠ 0 := by unfold okF; simp [and_assoc]
/-- An Align: its cycle, when a frame is expected, how far from that it may be; by switch what its frame told. -/
abbrev abx (y e a : Int) (B : Nat → Int) (C : Nat → Nat) : Obj := .cells #[.int .i64 y, .int .i64 e, .int .i64 a, .int .i64 (B 0), .int .u32 (C 0 : Int), .int .i64 (B 1), .int .u32 (C 1 : Int)] 209 (0, 0)
def Fit (y e a : Int) : Prop := (1 ≤ y ∧ y ≤ 1073741824) ∧ (0 ≤ e ∧ e ≤ 3145728) ∧ 0 ≤ a ∧ a ≤ 3145728
theorem cells7 {w : World} {j : Nat} {v0 v1 v2 v3 v4 v5 v6 : Value} {t : TypeId} (h : w.heap[j]? = some (.cells #[v0, v1, v2, v3, v4, v5, v6] t (0, 0))) : w.cell? ⟨j, 0, none⟩ = some v0 ∧ w.cell? ⟨j, 1, none⟩ = some v1 ∧ w.cell? ⟨j, 2, none⟩ = some v2 ∧ w.cell? ⟨j, 3, none⟩ = some v3 ∧ w.cell? ⟨j, 4, none⟩ = some v4 ∧ w.cell? ⟨j, 5, none⟩ = some v5 ∧ w.cell? ⟨j, 6, none⟩ = some v6 :=
  ⟨cell_of_row w j 0 _ _ _ h, cell_of_row w j 1 _ _ _ h, cell_of_row w j 2 _ _ _ h, cell_of_row w j 3 _ _ _ h, cell_of_row w j 4 _ _ _ h, cell_of_row w j 5 _ _ _ h, cell_of_row w j 6 _ _ _ h⟩
theorem frozen7 {w : World} {j : Nat} {v0 v1 v2 v3 v4 v5 v6 : Value} {t : TypeId} (h : w.heap[j]? = some (.cells #[v0, v1, v2, v3, v4, v5, v6] t (0, 0))) : w.frozen? ⟨j, 3, none⟩ = false ∧ w.frozen? ⟨j, 4, none⟩ = false ∧ w.frozen? ⟨j, 5, none⟩ = false ∧ w.frozen? ⟨j, 6, none⟩ = false :=
  ⟨frozen_of_row w j 3 _ _ h, frozen_of_row w j 4 _ _ h, frozen_of_row w j 5 _ _ h, frozen_of_row w j 6 _ _ h⟩
theorem mem_pos (c : Nat) (h : c < 64) : 0 < (mem c).length ↔ c ≠ 0 := by
  have H : ∀ c ∈ List.range 64, (0 < (mem c).length ↔ c ≠ 0) := by decide +kernel
  exact H c (List.mem_range.2 h)
theorem isTime_any (n : Int) (w : World) : Calls Tryz.prog 143 #[.int .i64 n] w fun e w' => e = .returned (.bool (okT n)) ∧ w = w' := by
  unfold okT
  by_cases h : 0 ≤ n
  · rw [decide_eq_true h, Bool.true_and]
    go_enter Tryz.func143, Tryz.ntmps143
    go_wp2
    go_ret
    exact ⟨rfl, rfl⟩
  · rw [decide_eq_false h, Bool.false_and]
    go_enter Tryz.func143, Tryz.ntmps143
    go_wp2
    go_ret
    exact ⟨rfl, rfl⟩
set_option maxHeartbeats 2000000 in
theorem isCompressed_any (k f y c l : Int) (hc : 0 ≤ c) (w : World) : Calls Tryz.prog 144 #[CV k f y c l] w fun e w' => e = .returned (.bool (okF k f y c l)) ∧ Below w.heap.size w w' := by
  unfold okF
  have X := Lib.hid ((Stay.start w).alloc (.cells #[.int .i64 k, .int .i64 f, .int .i64 y, .int .u32 c, .int .i64 l] 157 (0, 0)))
  by_cases h : rightC k f y c l
  · rw [decide_eq_true h, Bool.true_and]
    have C := Lib.hid (fun W => control_ok k f y c l W h)
    have h' := h
    unfold rightC at h'
    obtain ⟨hk, -, -, -, -, -, hc1, -, -⟩ := h'
    obtain ⟨c, rfl⟩ := Int.eq_ofNat_of_zero_le hc
    have M := mem_pos c (by omega)
    have K := Lib.hid (fun W => count_any c W (by omega))
    generalize (mem c).length = m at *
    clear h hc hc1
    rcases hk with rfl | rfl
    · rw [show (decide ((1 : Int) = 2) && decide (6 ≤ f) && decide ((c : Int) ≠ 0)) = false by simp]
      clear M
      go_enter Tryz.func144, Tryz.ntmps144
      go_wp2_with (go_at_call 175; refine (C.out _).mono ?_; rintro e w1 ⟨v, rfl, -, b1⟩; have X1 := Lib.hid (X.out.next b1); clear b1; obtain ⟨a0, a1, a2, a3, a4⟩ := FrameW.cells5 (X1.out.at 0 rfl))
      go_ret
      exact ⟨rfl, X1.out.b⟩
    · by_cases hf : 6 ≤ f
      · by_cases h0 : c = 0
        · rw [show (decide ((2 : Int) = 2) && decide (6 ≤ f) && decide ((c : Int) ≠ 0)) = false by simp [h0]]
          have hm : m = 0 := by omega
          subst hm
          clear M h0
          go_enter Tryz.func144, Tryz.ntmps144
          go_wp2_with (first
            | (go_at_call 175; refine (C.out _).mono ?_; rintro e w1 ⟨v, rfl, -, b1⟩; have X1 := Lib.hid (X.out.next b1); clear b1; obtain ⟨a0, a1, a2, a3, a4⟩ := FrameW.cells5 (X1.out.at 0 rfl))
            | (go_at_call 146; refine (K.out _).mono ?_; rintro e w2 ⟨rfl, b2⟩; have X2 := Lib.hid (X1.out.next b2); clear b2))
          go_ret
          exact ⟨rfl, X2.out.b⟩
        · rw [show (decide ((2 : Int) = 2) && decide (6 ≤ f) && decide ((c : Int) ≠ 0)) = true by simp [hf, h0]]
          have hm : 0 < m := M.2 h0
          have hm' : (0 : Int) < (m : Int) := by omega
          clear M h0
          go_enter Tryz.func144, Tryz.ntmps144
          go_wp2_with (first
            | (go_at_call 175; refine (C.out _).mono ?_; rintro e w1 ⟨v, rfl, -, b1⟩; have X1 := Lib.hid (X.out.next b1); clear b1; obtain ⟨a0, a1, a2, a3, a4⟩ := FrameW.cells5 (X1.out.at 0 rfl))
            | (go_at_call 146; refine (K.out _).mono ?_; rintro e w2 ⟨rfl, b2⟩; have X2 := Lib.hid (X1.out.next b2); clear b2))
          go_ret
          exact ⟨rfl, X2.out.b⟩
      · rw [show (decide ((2 : Int) = 2) && decide (6 ≤ f) && decide ((c : Int) ≠ 0)) = false by simp [hf]]
        clear M
        go_enter Tryz.func144, Tryz.ntmps144
        go_wp2_with (go_at_call 175; refine (C.out _).mono ?_; rintro e w1 ⟨v, rfl, -, b1⟩; have X1 := Lib.hid (X.out.next b1); clear b1; obtain ⟨a0, a1, a2, a3, a4⟩ := FrameW.cells5 (X1.out.at 0 rfl))
        go_ret
        exact ⟨rfl, X1.out.b⟩
  · rw [decide_eq_false h, Bool.false_and, Bool.false_and, Bool.false_and]
    have C := Lib.hid (fun W => control_bad k f y c l W h hc)
    clear h
    go_enter Tryz.func144, Tryz.ntmps144
    go_wp2_with (go_at_call 175; refine (C.out _).mono ?_; rintro e w1 ⟨rfl, b1⟩; have X1 := Lib.hid (X.out.next b1); clear b1; obtain ⟨a0, a1, a2, a3, a4⟩ := FrameW.cells5 (X1.out.at 0 rfl))
    go_ret
    exact ⟨rfl, X1.out.b⟩
end Go.Proofs.YtmagjekmlnpfpaaGreat.AlignW



/- Close. -/
namespace Go.Proofs.YtmagjekmlnpfpaaGreat.AlignW
open Go.RowKit Shell
open CrewW (mem count_any)
abbrev hbx (b : Int) (c : Nat) : Obj := .cells #[.int .i64 b, .int .u32 (c : Int)] 206 (0, 0)
theorem cells2 {w : World} {j : Nat} {v0 v1 : Value} {t : TypeId} (h : w.heap[j]? = some (.cells #[v0, v1] t (0, 0))) : w.cell? ⟨j, 0, none⟩ = some v0 ∧ w.cell? ⟨j, 1, none⟩ = some v1 :=
  ⟨cell_of_row w j 0 _ _ _ h, cell_of_row w j 1 _ _ _ h⟩
theorem frozen2 {w : World} {j : Nat} {v0 v1 : Value} {t : TypeId} (h : w.heap[j]? = some (.cells #[v0, v1] t (0, 0))) : w.frozen? ⟨j, 0, none⟩ = false ∧ w.frozen? ⟨j, 1, none⟩ = false :=
  ⟨frozen_of_row w j 0 _ _ h, frozen_of_row w j 1 _ _ h⟩
theorem put2 {w : World} {k : Nat} {m b : Value} {t : TypeId} (h : w.heap[k]? = some (.cells #[m, b] t (0, 0))) (x y : Value) : ((w.setCell ⟨k, 0, none⟩ x).setCell ⟨k, 1, none⟩ y).heap[k]? = some (.cells #[x, y] t (0, 0)) :=
  heap_setCell_same _ k 1 _ _ _ (heap_setCell_same w k 0 _ _ _ h)
theorem put4 {w : World} {k : Nat} {v0 v1 v2 v3 v4 v5 v6 : Value} {t : TypeId} (h : w.heap[k]? = some (.cells #[v0, v1, v2, v3, v4, v5, v6] t (0, 0))) (x3 x4 x5 x6 : Value) : ((((w.setCell ⟨k, 3, none⟩ x3).setCell ⟨k, 4, none⟩ x4).setCell ⟨k, 5, none⟩ x5).setCell ⟨k, 6, none⟩ x6).heap[k]? = some (.cells #[v0, v1, v2, x3, x4, x5, x6] t (0, 0)) :=
  heap_setCell_same _ k 6 _ _ _ (heap_setCell_same _ k 5 _ _ _ (heap_setCell_same _ k 4 _ _ _ (heap_setCell_same w k 3 _ _ _ h)))
theorem kept4 (w : World) (k : Nat) (x3 x4 x5 x6 : Value) : Kept k w ((((w.setCell ⟨k, 3, none⟩ x3).setCell ⟨k, 4, none⟩ x4).setCell ⟨k, 5, none⟩ x5).setCell ⟨k, 6, none⟩ x6) := (kept2 w k 3 4 x3 x4).trans (kept2 _ k 5 6 x5 x6)
/-- Whether the second switch's frame is the better one. -/
def bet (C : Nat → Nat) : Bool := decide ((mem (C 0)).length < (mem (C 1)).length)
def hrd (C : Nat → Nat) : Nat := (if C 0 = 0 then 0 else 1) + (if C 1 = 0 then 0 else 1)
def bsB (B : Nat → Int) (C : Nat → Nat) : Int := if bet C then B 1 else B 0
def bsC (C : Nat → Nat) : Nat := if bet C then C 1 else C 0
def zB : Nat → Int := fun _ => 0
def zC : Nat → Nat := fun _ => 0
theorem mem_zero : (mem 0).length = 0 := by decide +kernel
/-- What the loop of Close keeps: how many frames it has looked at, how many were heard, the best one so far. -/
def Seen (B : Nat → Int) (C : Nat → Nat) (k n : Nat) (b : Int) (c : Nat) : Prop :=
  (k = 0 → n = 0 ∧ b = 0 ∧ c = 0) ∧ (k = 1 → n = (if C 0 = 0 then 0 else 1) ∧ b = B 0 ∧ c = C 0) ∧ (k = 2 → n = hrd C ∧ b = bsB B C ∧ c = bsC C)
/-- The best one so far has turned. -/
theorem turned {w w1 : World} {p q g : Nat} {o1 o3 : Obj} {b b' : Int} {c c' : Nat} (h : Stay w [(p, o1), (q, hbx b c), (g, o3)] w1) (_hp : q < p) (_hg : g < p) (hq : g < q) (hs : w.heap.size = q) :
    Stay w [(q, hbx b' c'), (g, o3)] ((w1.setCell ⟨q, 0, none⟩ (.int .i64 b')).setCell ⟨q, 1, none⟩ (.int .u32 (c' : Int))) :=
  h.drop.turn (kept2 w1 q 0 1 _ _) (put2 (h.at 1 rfl) _ _) (by omega) (fun x hx => by
    rcases List.mem_cons.1 hx with rfl | hx
    · show g ≠ q; omega
    · cases hx)
section
variable {w : World} {g : Nat} {y e a : Int} {B : Nat → Int} {C : Nat → Nat}
set_option maxHeartbeats 4000000 in
set_option maxRecDepth 100000 in
theorem close_any (h : w.heap[g]? = some (abx y e a B C)) (h0 : C 0 < 64) (h1 : C 1 < 64) (hz : C 0 = 0 → B 0 = 0) :
    Calls Tryz.prog 90 #[.pointer (some ⟨g, 0, none⟩)] w fun r w' => r = .returned (.tuple #[.int .i64 (bsB B C), .int .u32 (bsC C : Int), .int .i64 (hrd C : Int)]) ∧ w'.heap[g]? = some (abx y e a zB zC) ∧ Kept g w w' := by
  have X := Lib.hid (((Stay.start w).add h).alloc (hbx 0 0))
  have KN := Lib.hid (fun c (hc : c < 64) W => count_any c W (by omega))
  have GL := Lib.hid (lt_of_heap h)
  have HZ := Lib.hid hz
  have H0 := Lib.hid h0
  have H1 := Lib.hid h1
  clear hz h0 h1 h
  go_enter Tryz.func90, Tryz.ntmps90
  go_upto_region 4 with (fail)
  generalize w.alloc (hbx 0 0) = w1 at *
  generalize hq : w.heap.size = q at *
  have HQ := Lib.hid hq
  clear hq
  obtain ⟨a0, a1, a2, a3, a4, a5, a6⟩ := cells7 (X.out.at 1 rfl)
  go_upto_region 5 with (fail)
  clear a0 a1 a2 a3 a4 a5 a6
  go_loopw [4, 14] (fun nv kv wr => ∃ (k n : Nat) (b : Int) (c : Nat), k ≤ 2 ∧ kv = .int .i64 k ∧ nv = .int .i64 n ∧ Hid (Seen B C k n b c) ∧ Hid (Stay w [(q, hbx b c), (g, abx y e a B C)] wr)) (fun _ kv _ => 2 - (intOf kv).toNat)
  case atStart => exact ⟨0, 0, 0, 0, by decide, rfl, rfl, Lib.hid ⟨fun _ => ⟨rfl, rfl, rfl⟩, fun h => absurd h (by decide), fun h => absurd h (by decide)⟩, X⟩
  case round =>
    obtain ⟨k, n, b, c, hk, rfl, rfl, HS, HX⟩ := hrel
    have PQ := Lib.hid (lt_of_heap (HX.out.at 0 rfl))
    have PG := Lib.hid (lt_of_heap (HX.out.at 1 rfl))
    have QG := Lib.hid (show g < q from GL.out)
    rcases (show k = 0 ∨ k = 1 ∨ k = 2 by omega) with rfl | rfl | rfl
    · have ix : (Instr.index 207 (.agg #[.int .i64 (B 0), .int .u32 (C 0 : Int), .int .i64 (B 1), .int .u32 (C 1 : Int)]) (.int .i64 0)).run Tryz.prog wr = .ok (.agg #[.int .i64 (B 0), .int .u32 (C 0 : Int)]) wr := by rfl
      obtain ⟨hn, hb, hc⟩ := HS.out.1 rfl
      clear HS
      have hn1 : n ≤ 1 := by omega
      have hcl : c < 64 := by rw [hc]; decide
      have K1 := Lib.hid (KN.out (C 0) H0.out)
      have K2 := Lib.hid (KN.out c hcl)
      have hL : (mem c).length = 0 := by rw [hc]; exact mem_zero
      have M := mem_pos (C 0) H0.out
      have HL := Lib.hid hL
      have HN := Lib.hid hn
      have HB := Lib.hid hb
      have HC := Lib.hid hc
      have HN1 := Lib.hid hn1
      have hn2 : (n : Int) ≤ 1 := by omega
      clear hL hn hb hc hn1 hcl
      by_cases zz : C 0 = 0
      · have lt : ¬ (mem c).length < (mem (C 0)).length := by omega
        have e1 : (((C 0 : Nat) : Int) != 0) = false := by rw [zz]; rfl
        have e2 : decide (((mem c).length : Int) < ((mem (C 0)).length : Int)) = false := decide_eq_false (by omega)
        have e3 : decide ((mem c).length < (mem (C 0)).length) = false := decide_eq_false (by omega)
        have z := Lib.hid zz
        clear M lt zz
        go_upto_region 9 with (fail)
        have Y := Lib.hid (HX.out.alloc (hbx (B 0) (C 0)))
        generalize wr.alloc (hbx (B 0) (C 0)) = w2 at *
        generalize hp : wr.heap.size = p at *
        have HP := Lib.hid hp
        clear hp HX
        obtain ⟨d0, d1⟩ := cells2 (Y.out.at 0 rfl)
        obtain ⟨x0, x1⟩ := cells2 (Y.out.at 1 rfl)
        apply wp_some (S := fun w' => Stay w [(p, hbx (B 0) (C 0)), (q, hbx b c), (g, abx y e a B C)] w')
        case h =>
          refine wp_region_noPanic ?_
          go_region_law (first
            | (go_at_call 146; (with_reducible refine (K1.out _).mono ?_); rintro r w3 ⟨rfl, b3⟩; have Y3 := Lib.hid (Y.out.drew.next b3); clear b3; obtain ⟨b0, b1⟩ := cells2 (Y3.out.at 1 rfl))
            | (go_at_call 146; (with_reducible refine (K2.out _).mono ?_); rintro r w4 ⟨rfl, b4⟩; have Y4 := Lib.hid (Y3.out.next b4); clear b4)
            | (go_simp; go_at_call 146; (with_reducible refine (K1.out _).mono ?_); rintro r w3 ⟨rfl, b3⟩; have Y3 := Lib.hid (Y.out.drew.next b3); clear b3; obtain ⟨b0, b1⟩ := cells2 (Y3.out.at 1 rfl))
            | (go_simp; go_at_call 146; (with_reducible refine (K2.out _).mono ?_); rintro r w4 ⟨rfl, b4⟩; have Y4 := Lib.hid (Y3.out.next b4); clear b4))
          all_goals exact NoPanic.normal ⟨rfl, rfl, Y4.out⟩
        case hm =>
        intro w5 h5
        have Z := Lib.hid h5
        clear h5 d0 d1 x0 x1 Y
        obtain ⟨d0, d1⟩ := cells2 (Z.out.at 0 rfl)
        obtain ⟨b0, b1⟩ := cells2 (Z.out.at 1 rfl)
        obtain ⟨f0, f1⟩ := frozen2 (Z.out.at 1 rfl)
        go_wp2
        go_roundw
        case rel => exact ⟨1, n, b, c, by decide, by go_num, rfl, Lib.hid ⟨fun h => absurd h (by decide), fun _ => ⟨by rw [HN.out, if_pos z.out], by rw [HB.out, HZ.out z.out], by rw [HC.out, z.out]⟩, fun h => absurd h (by decide)⟩, Lib.hid (by exact Z.out.sub (by intro x hx; exact List.mem_cons_of_mem _ hx))⟩
        case measure => simp only [intOf]; omega
      · have lt : (mem c).length < (mem (C 0)).length := by have := HL.out; have := M.2 zz; omega
        have e1 : (((C 0 : Nat) : Int) != 0) = true := by rw [bne_iff_ne]; omega
        have e2 : decide (((mem c).length : Int) < ((mem (C 0)).length : Int)) = true := decide_eq_true (by omega)
        have e3 : decide ((mem c).length < (mem (C 0)).length) = true := decide_eq_true (by omega)
        have z := Lib.hid zz
        clear M lt zz
        go_upto_region 9 with (fail)
        have Y := Lib.hid (HX.out.alloc (hbx (B 0) (C 0)))
        generalize wr.alloc (hbx (B 0) (C 0)) = w2 at *
        generalize hp : wr.heap.size = p at *
        have HP := Lib.hid hp
        clear hp HX
        obtain ⟨d0, d1⟩ := cells2 (Y.out.at 0 rfl)
        obtain ⟨x0, x1⟩ := cells2 (Y.out.at 1 rfl)
        apply wp_some (S := fun w' => Stay w [(p, hbx (B 0) (C 0)), (q, hbx b c), (g, abx y e a B C)] w')
        case h =>
          refine wp_region_noPanic ?_
          go_region_law (first
            | (go_at_call 146; (with_reducible refine (K1.out _).mono ?_); rintro r w3 ⟨rfl, b3⟩; have Y3 := Lib.hid (Y.out.drew.next b3); clear b3; obtain ⟨b0, b1⟩ := cells2 (Y3.out.at 1 rfl))
            | (go_at_call 146; (with_reducible refine (K2.out _).mono ?_); rintro r w4 ⟨rfl, b4⟩; have Y4 := Lib.hid (Y3.out.next b4); clear b4)
            | (go_simp; go_at_call 146; (with_reducible refine (K1.out _).mono ?_); rintro r w3 ⟨rfl, b3⟩; have Y3 := Lib.hid (Y.out.drew.next b3); clear b3; obtain ⟨b0, b1⟩ := cells2 (Y3.out.at 1 rfl))
            | (go_simp; go_at_call 146; (with_reducible refine (K2.out _).mono ?_); rintro r w4 ⟨rfl, b4⟩; have Y4 := Lib.hid (Y3.out.next b4); clear b4))
          all_goals exact NoPanic.normal ⟨rfl, rfl, Y4.out⟩
        case hm =>
        intro w5 h5
        have Z := Lib.hid h5
        clear h5 d0 d1 x0 x1 Y
        obtain ⟨d0, d1⟩ := cells2 (Z.out.at 0 rfl)
        obtain ⟨b0, b1⟩ := cells2 (Z.out.at 1 rfl)
        obtain ⟨f0, f1⟩ := frozen2 (Z.out.at 1 rfl)
        go_wp2
        go_roundw
        case rel => exact ⟨1, n + 1, B 0, C 0, by decide, by go_num, by go_num, Lib.hid ⟨fun h => absurd h (by decide), fun _ => ⟨by rw [HN.out, if_neg z.out], rfl, rfl⟩, fun h => absurd h (by decide)⟩, Lib.hid (by exact turned Z.out PQ.out PG.out QG.out HQ.out)⟩
        case measure => simp only [intOf]; omega
    · have ix : (Instr.index 207 (.agg #[.int .i64 (B 0), .int .u32 (C 0 : Int), .int .i64 (B 1), .int .u32 (C 1 : Int)]) (.int .i64 1)).run Tryz.prog wr = .ok (.agg #[.int .i64 (B 1), .int .u32 (C 1 : Int)]) wr := by rfl
      obtain ⟨hn, hb, hc⟩ := HS.out.2.1 rfl
      clear HS
      have hn1 : n ≤ 1 := by rw [hn]; split <;> omega
      have hcl : c < 64 := by rw [hc]; exact H0.out
      have K1 := Lib.hid (KN.out (C 1) H1.out)
      have K2 := Lib.hid (KN.out c hcl)
      have hL : (mem c).length = (mem (C 0)).length := by rw [hc]
      have M := mem_pos (C 1) H1.out
      have HL := Lib.hid hL
      have HN := Lib.hid hn
      have HB := Lib.hid hb
      have HC := Lib.hid hc
      have HN1 := Lib.hid hn1
      have hn2 : (n : Int) ≤ 1 := by omega
      clear hL hn hb hc hn1 hcl
      by_cases zz : C 1 = 0
      · have lt : ¬ (mem c).length < (mem (C 1)).length := by omega
        have BT := Lib.hid (show bet C = false from decide_eq_false (by have := HL.out; omega))
        have e1 : (((C 1 : Nat) : Int) != 0) = false := by rw [zz]; rfl
        have e2 : decide (((mem c).length : Int) < ((mem (C 1)).length : Int)) = false := decide_eq_false (by omega)
        have e3 : decide ((mem c).length < (mem (C 1)).length) = false := decide_eq_false (by omega)
        have z := Lib.hid zz
        clear M lt zz
        go_upto_region 9 with (fail)
        have Y := Lib.hid (HX.out.alloc (hbx (B 1) (C 1)))
        generalize wr.alloc (hbx (B 1) (C 1)) = w2 at *
        generalize hp : wr.heap.size = p at *
        have HP := Lib.hid hp
        clear hp HX
        obtain ⟨d0, d1⟩ := cells2 (Y.out.at 0 rfl)
        obtain ⟨x0, x1⟩ := cells2 (Y.out.at 1 rfl)
        apply wp_some (S := fun w' => Stay w [(p, hbx (B 1) (C 1)), (q, hbx b c), (g, abx y e a B C)] w')
        case h =>
          refine wp_region_noPanic ?_
          go_region_law (first
            | (go_at_call 146; (with_reducible refine (K1.out _).mono ?_); rintro r w3 ⟨rfl, b3⟩; have Y3 := Lib.hid (Y.out.drew.next b3); clear b3; obtain ⟨b0, b1⟩ := cells2 (Y3.out.at 1 rfl))
            | (go_at_call 146; (with_reducible refine (K2.out _).mono ?_); rintro r w4 ⟨rfl, b4⟩; have Y4 := Lib.hid (Y3.out.next b4); clear b4)
            | (go_simp; go_at_call 146; (with_reducible refine (K1.out _).mono ?_); rintro r w3 ⟨rfl, b3⟩; have Y3 := Lib.hid (Y.out.drew.next b3); clear b3; obtain ⟨b0, b1⟩ := cells2 (Y3.out.at 1 rfl))
            | (go_simp; go_at_call 146; (with_reducible refine (K2.out _).mono ?_); rintro r w4 ⟨rfl, b4⟩; have Y4 := Lib.hid (Y3.out.next b4); clear b4))
          all_goals exact NoPanic.normal ⟨rfl, rfl, Y4.out⟩
        case hm =>
        intro w5 h5
        have Z := Lib.hid h5
        clear h5 d0 d1 x0 x1 Y
        obtain ⟨d0, d1⟩ := cells2 (Z.out.at 0 rfl)
        obtain ⟨b0, b1⟩ := cells2 (Z.out.at 1 rfl)
        obtain ⟨f0, f1⟩ := frozen2 (Z.out.at 1 rfl)
        go_wp2
        go_roundw
        case rel => exact ⟨2, n, b, c, by decide, by go_num, rfl, Lib.hid ⟨fun h => absurd h (by decide), fun h => absurd h (by decide), fun _ => ⟨by rw [HN.out]; unfold hrd; rw [if_pos z.out]; rfl, by show _ = (if bet C then B 1 else B 0); rw [BT.out]; exact HB.out, by show _ = (if bet C then C 1 else C 0); rw [BT.out]; exact HC.out⟩⟩, Lib.hid (by exact Z.out.sub (by intro x hx; exact List.mem_cons_of_mem _ hx))⟩
        case measure => simp only [intOf]; omega
      · by_cases lt : (mem c).length < (mem (C 1)).length
        · have BT := Lib.hid (show bet C = true from decide_eq_true (by have := HL.out; omega))
          have e1 : (((C 1 : Nat) : Int) != 0) = true := by rw [bne_iff_ne]; omega
          have e2 : decide (((mem c).length : Int) < ((mem (C 1)).length : Int)) = true := decide_eq_true (by omega)
          have e3 : decide ((mem c).length < (mem (C 1)).length) = true := decide_eq_true (by omega)
          have z := Lib.hid zz
          clear M lt zz
          go_upto_region 9 with (fail)
          have Y := Lib.hid (HX.out.alloc (hbx (B 1) (C 1)))
          generalize wr.alloc (hbx (B 1) (C 1)) = w2 at *
          generalize hp : wr.heap.size = p at *
          have HP := Lib.hid hp
          clear hp HX
          obtain ⟨d0, d1⟩ := cells2 (Y.out.at 0 rfl)
          obtain ⟨x0, x1⟩ := cells2 (Y.out.at 1 rfl)
          apply wp_some (S := fun w' => Stay w [(p, hbx (B 1) (C 1)), (q, hbx b c), (g, abx y e a B C)] w')
          case h =>
            refine wp_region_noPanic ?_
            go_region_law (first
              | (go_at_call 146; (with_reducible refine (K1.out _).mono ?_); rintro r w3 ⟨rfl, b3⟩; have Y3 := Lib.hid (Y.out.drew.next b3); clear b3; obtain ⟨b0, b1⟩ := cells2 (Y3.out.at 1 rfl))
              | (go_at_call 146; (with_reducible refine (K2.out _).mono ?_); rintro r w4 ⟨rfl, b4⟩; have Y4 := Lib.hid (Y3.out.next b4); clear b4)
              | (go_simp; go_at_call 146; (with_reducible refine (K1.out _).mono ?_); rintro r w3 ⟨rfl, b3⟩; have Y3 := Lib.hid (Y.out.drew.next b3); clear b3; obtain ⟨b0, b1⟩ := cells2 (Y3.out.at 1 rfl))
              | (go_simp; go_at_call 146; (with_reducible refine (K2.out _).mono ?_); rintro r w4 ⟨rfl, b4⟩; have Y4 := Lib.hid (Y3.out.next b4); clear b4))
            all_goals exact NoPanic.normal ⟨rfl, rfl, Y4.out⟩
          case hm =>
          intro w5 h5
          have Z := Lib.hid h5
          clear h5 d0 d1 x0 x1 Y
          obtain ⟨d0, d1⟩ := cells2 (Z.out.at 0 rfl)
          obtain ⟨b0, b1⟩ := cells2 (Z.out.at 1 rfl)
          obtain ⟨f0, f1⟩ := frozen2 (Z.out.at 1 rfl)
          go_wp2
          go_roundw
          case rel => exact ⟨2, n + 1, B 1, C 1, by decide, by go_num, by go_num, Lib.hid ⟨fun h => absurd h (by decide), fun h => absurd h (by decide), fun _ => ⟨by rw [HN.out]; unfold hrd; rw [if_neg z.out], by show _ = (if bet C then B 1 else B 0); rw [BT.out]; rfl, by show _ = (if bet C then C 1 else C 0); rw [BT.out]; rfl⟩⟩, Lib.hid (by exact turned Z.out PQ.out PG.out QG.out HQ.out)⟩
          case measure => simp only [intOf]; omega
        · have BT := Lib.hid (show bet C = false from decide_eq_false (by have := HL.out; omega))
          have e1 : (((C 1 : Nat) : Int) != 0) = true := by rw [bne_iff_ne]; omega
          have e2 : decide (((mem c).length : Int) < ((mem (C 1)).length : Int)) = false := decide_eq_false (by omega)
          have e3 : decide ((mem c).length < (mem (C 1)).length) = false := decide_eq_false (by omega)
          have z := Lib.hid zz
          clear M lt zz
          go_upto_region 9 with (fail)
          have Y := Lib.hid (HX.out.alloc (hbx (B 1) (C 1)))
          generalize wr.alloc (hbx (B 1) (C 1)) = w2 at *
          generalize hp : wr.heap.size = p at *
          have HP := Lib.hid hp
          clear hp HX
          obtain ⟨d0, d1⟩ := cells2 (Y.out.at 0 rfl)
          obtain ⟨x0, x1⟩ := cells2 (Y.out.at 1 rfl)
          apply wp_some (S := fun w' => Stay w [(p, hbx (B 1) (C 1)), (q, hbx b c), (g, abx y e a B C)] w')
          case h =>
            refine wp_region_noPanic ?_
            go_region_law (first
              | (go_at_call 146; (with_reducible refine (K1.out _).mono ?_); rintro r w3 ⟨rfl, b3⟩; have Y3 := Lib.hid (Y.out.drew.next b3); clear b3; obtain ⟨b0, b1⟩ := cells2 (Y3.out.at 1 rfl))
              | (go_at_call 146; (with_reducible refine (K2.out _).mono ?_); rintro r w4 ⟨rfl, b4⟩; have Y4 := Lib.hid (Y3.out.next b4); clear b4)
              | (go_simp; go_at_call 146; (with_reducible refine (K1.out _).mono ?_); rintro r w3 ⟨rfl, b3⟩; have Y3 := Lib.hid (Y.out.drew.next b3); clear b3; obtain ⟨b0, b1⟩ := cells2 (Y3.out.at 1 rfl))
              | (go_simp; go_at_call 146; (with_reducible refine (K2.out _).mono ?_); rintro r w4 ⟨rfl, b4⟩; have Y4 := Lib.hid (Y3.out.next b4); clear b4))
            all_goals exact NoPanic.normal ⟨rfl, rfl, Y4.out⟩
          case hm =>
          intro w5 h5
          have Z := Lib.hid h5
          clear h5 d0 d1 x0 x1 Y
          obtain ⟨d0, d1⟩ := cells2 (Z.out.at 0 rfl)
          obtain ⟨b0, b1⟩ := cells2 (Z.out.at 1 rfl)
          obtain ⟨f0, f1⟩ := frozen2 (Z.out.at 1 rfl)
          go_wp2
          go_roundw
          case rel => exact ⟨2, n + 1, b, c, by decide, by go_num, by go_num, Lib.hid ⟨fun h => absurd h (by decide), fun h => absurd h (by decide), fun _ => ⟨by rw [HN.out]; unfold hrd; rw [if_neg z.out], by show _ = (if bet C then B 1 else B 0); rw [BT.out]; exact HB.out, by show _ = (if bet C then C 1 else C 0); rw [BT.out]; exact HC.out⟩⟩, Lib.hid (by exact Z.out.sub (by intro x hx; exact List.mem_cons_of_mem _ hx))⟩
          case measure => simp only [intOf]; omega
    · obtain ⟨hn, hb, hc⟩ := HS.out.2.2 rfl
      have HN := Lib.hid hn
      have HB := Lib.hid hb
      have HC := Lib.hid hc
      clear hn hb hc HS PQ PG KN HZ H0 H1
      obtain ⟨a0, a1, a2, a3, a4, a5, a6⟩ := cells7 (HX.out.at 1 rfl)
      obtain ⟨f3, f4, f5, f6⟩ := frozen7 (HX.out.at 1 rfl)
      go_upto_region 13 with (fail)
      have PK := Lib.hid (put4 (HX.out.at 1 rfl) (.int .i64 0) (.int .u32 0) (.int .i64 0) (.int .u32 0))
      have KK := Lib.hid (kept4 wr g (.int .i64 0) (.int .u32 0) (.int .i64 0) (.int .u32 0))
      have PQ := Lib.hid ((KK.out.block q (by have := QG.out; omega) (lt_of_heap (HX.out.at 0 rfl))).trans (HX.out.at 0 rfl))
      obtain ⟨b0, b1⟩ := cells2 PQ.out
      clear a0 a1 a2 a3 a4 a5 a6 f3 f4 f5 f6
      generalize (((wr.setCell ⟨g, 3, none⟩ (.int .i64 0)).setCell ⟨g, 4, none⟩ (.int .u32 0)).setCell ⟨g, 5, none⟩ (.int .i64 0)).setCell ⟨g, 6, none⟩ (.int .u32 0) = w8 at *
      go_region
      go_wp2
      go_ret3
      exact ⟨by rw [← HN.out, ← HB.out, ← HC.out]; rfl, PK.out, ((Kept.of HX.out.b).trans KK.out).drew⟩
end
end Go.Proofs.YtmagjekmlnpfpaaGreat.AlignW


