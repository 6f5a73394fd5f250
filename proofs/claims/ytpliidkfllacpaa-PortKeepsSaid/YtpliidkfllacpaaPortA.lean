/- Frames in rows; the document's own Next, Without, Same; one. -/
import Derived.Test.YtpliidkfllacpaaPortP
import Derived.Test.YtpliidkfllacpaaRowO
import Derived.Test.YtpliidkfllacpaaStr1
import Derived.Test.YtpliidkfllacpaaProg
import Derived.Deep.RegionHeld3
import Derived.Deep.RegionLaw
import Derived.Deep.RegionWith
import Derived.Deep.DeepCutAuto
import Derived.Deep.CutBlock
import Derived.Laws.Unary
import Derived.Laws.Cover2
import Derived.Laws.NewBlocks
import Derived.Laws.StructEq
import Derived.WalkKit
namespace Go.Proofs.Ytpliidkfllacpaa.PortW
open Go.RowKit Shell
/-- A frame's cells. -/
def FD : Flat Da where
  n := 5
  cs x := [.int .i64 x.c, .int .i64 x.l, .int .i64 x.n, .string x.p, .int .i64 x.s]
  len _ := rfl
  one x u hu := by
    simp only [List.mem_cons, List.not_mem_nil, or_false] at hu
    rcases hu with rfl | rfl | rfl | rfl | rfl <;> rfl
  pos := by decide
abbrev dv (x : Da) : Value := .agg #[.int .i64 x.c, .int .i64 x.l, .int .i64 x.n, .string x.p, .int .i64 x.s]
abbrev dbx (x : Da) : Obj := .cells #[.int .i64 x.c, .int .i64 x.l, .int .i64 x.n, .string x.p, .int .i64 x.s] 30 (0, 0)
theorem oneD : OneG Try.prog 28 30 FD.n 48 := oneG_of Try.underlying28 (by kernel_rfl)
theorem cells5 {w : World} {j : Nat} {v0 v1 v2 v3 v4 : Value} {t : TypeId} {fr : Nat × Nat} (h : w.heap[j]? = some (.cells #[v0, v1, v2, v3, v4] t fr)) : w.cell? ⟨j, 0, none⟩ = some v0 ∧ w.cell? ⟨j, 1, none⟩ = some v1 ∧ w.cell? ⟨j, 2, none⟩ = some v2 ∧ w.cell? ⟨j, 3, none⟩ = some v3 ∧ w.cell? ⟨j, 4, none⟩ = some v4 :=
  ⟨cell_of_row w j 0 _ _ _ h, cell_of_row w j 1 _ _ _ h, cell_of_row w j 2 _ _ _ h, cell_of_row w j 3 _ _ _ h, cell_of_row w j 4 _ _ _ h⟩
/-- Where a frame of a row lies. -/
theorem sg5 {w : World} {A : Option Addr} {L : List Da} (h : SG FD w A L) {k : Nat} {x : Da} (hk : L[k]? = some x) : ∃ b off, A = some ⟨b, off, none⟩ ∧ w.cell? ⟨b, off + k * 5, none⟩ = some (.int .i64 x.c) ∧ w.cell? ⟨b, off + k * 5 + 1, none⟩ = some (.int .i64 x.l) ∧ w.cell? ⟨b, off + k * 5 + 2, none⟩ = some (.int .i64 x.n) ∧ w.cell? ⟨b, off + k * 5 + 3, none⟩ = some (.string x.p) ∧ w.cell? ⟨b, off + k * 5 + 4, none⟩ = some (.int .i64 x.s) := by
  obtain ⟨b, off, hA, -, hc⟩ := h k x hk
  exact ⟨b, off, hA, hc 0 _ rfl, hc 1 _ rfl, hc 2 _ rfl, hc 3 _ rfl, hc 4 _ rfl⟩
/-- Are they alike? -/
def deq (x y : Da) : Bool := decide (x.c = y.c) && (decide (x.l = y.l) && (decide (x.n = y.n) && (decide (x.p = y.p) && decide (x.s = y.s))))
theorem deq_iff {x y : Da} : deq x y = true ↔ x = y := by
  unfold deq
  simp only [Bool.and_eq_true, decide_eq_true_eq]
  constructor
  · rintro ⟨h1, h2, h3, h4, h5⟩
    cases x; cases y
    simp_all
  · rintro rfl
    exact ⟨rfl, rfl, rfl, rfl, rfl⟩
theorem guardD : Try.prog.eqGuardType Try.prog.depth 30 = false := by kernel_rfl
set_option maxRecDepth 100000 in
theorem eql_any (x y : Da) (w : World) : (binOp .eql 30 (dv x) (dv y)).run Try.prog w = .ok (.bool (deq x y)) w := by
  have u3 := Try.underlying3
  have u4 := Try.underlying9
  have a3 := Try.isAgg3
  have z3 := Try.sizeOf3
  have a4 := Try.isAgg9
  have z4 := Try.sizeOf9
  have hS : Try.prog.underlying 30 = some (.struct (Try.prog.fieldsOf 30)) := by kernel_rfl
  have hp : Try.prog.stoodInHeld 30 = false := by kernel_rfl
  obtain ⟨c, l, n, p, s⟩ := x
  obtain ⟨c', l', n', p', s'⟩ := y
  unfold deq
  rw [run_eql_struct, show (10000 : Nat) = 9999 + 1 from rfl, run_equalIn_agg w 9999 30 _ _ hS hp]
  simp only [Program.fieldsOf, Try.underlying30]
  by_cases h1 : c = c'
  · by_cases h2 : l = l'
    · by_cases h3 : n = n'
      · by_cases h4 : p = p'
        · by_cases h5 : s = s'
          · subst h1; subst h2; subst h3; subst h4; subst h5
            go_simp
          · subst h1; subst h2; subst h3; subst h4
            go_simp
        · subst h1; subst h2; subst h3
          have hs := str_ne h4
          go_simp
      · subst h1; subst h2
        go_simp
    · subst h1
      go_simp
  · go_simp
theorem neq_gen {t : TypeId} {xs ys : Array Value} {w : World} {b : Bool} (h : (binOp .eql t (.agg xs) (.agg ys)).run Try.prog w = .ok (.bool b) w) : (binOp .neq t (.agg xs) (.agg ys)).run Try.prog w = .ok (.bool (!b)) w := by
  rw [run_eql_struct] at h
  rw [run_neq_struct]
  cases hr : (Op.equalIn 10000 t (.agg xs) (.agg ys)).run Try.prog w with
  | ok b' w' => rw [hr] at h; simp [Result.andThen] at h ⊢; obtain ⟨rfl, rfl⟩ := h; simp
  | _ => rw [hr] at h; simp [Result.andThen] at h
theorem neq_any (x y : Da) (w : World) : (binOp .neq 30 (dv x) (dv y)).run Try.prog w = .ok (.bool (!deq x y)) w := neq_gen (eql_any x y w)
/-- The next one's place, or -1. -/
def nxI (L : List Da) : Int := match nxt L with | some i => (i : Int) | none => -1
theorem fst_none_at {L : List Da} (h : ∀ (j : Nat) (x : Da), L[j]? = some x → x.c ≠ 2) : fst L = none := by
  rw [fst_none]
  unfold R
  rw [List.filter_eq_nil_iff]
  intro d hd
  obtain ⟨j, hj⟩ := List.getElem?_of_mem hd
  unfold rat
  rw [decide_eq_true_eq]
  exact h j d hj
theorem fst_at : ∀ {L : List Da} {k : Nat} {x : Da}, (∀ (j : Nat) (y : Da), j < k → L[j]? = some y → y.c ≠ 2) → L[k]? = some x → x.c = 2 → fst L = some k
  | [], k, x, _, h, _ => by simp at h
  | d :: L, 0, x, _, h, hc => by
    simp only [List.getElem?_cons_zero, Option.some.injEq] at h
    subst h
    rw [fst_cons, if_pos (by unfold rat; rw [decide_eq_true_eq]; exact hc)]
  | d :: L, k + 1, x, hn, h, hc => by
    rw [fst_cons, if_neg (by unfold rat; rw [decide_eq_true_eq]; exact hn 0 d (by omega) rfl), fst_at (k := k) (x := x) (fun j y hj hy => hn (j + 1) y (Nat.succ_lt_succ hj) (by simpa using hy)) (by simpa using h) hc]
    rfl
set_option maxHeartbeats 2000000 in
theorem next_any (A : Option Addr) (L : List Da) (m cp : Nat) (w : World) (h : SG FD w A L) (hl : L.length = m) (hm : m ≤ 9223372036854775807) : Calls Try.prog 9 #[.slice A m cp] w fun r w' => r = .returned (.int .i64 (nxI L)) ∧ Below w.heap.size w w' := by
  have HS := Lib.hid h
  have HL := Lib.hid hl
  obtain ⟨N, hN⟩ : ∃ N, nxI L = N := ⟨_, rfl⟩
  have HN := Lib.hid hN
  rw [hN]
  clear h hl hN
  go_enter Try.func9, Try.ntmps9
  go_wp2
  go_loopw [3] (fun iv wr => ∃ (k : Nat), k ≤ m ∧ iv = .int .i64 k ∧ Hid (Below w.heap.size w wr) ∧ Hid (∀ (j : Nat) (x : Da), j < k → L[j]? = some x → x.c ≠ 2)) (fun iv _ => m - (intOf iv).toNat)
  case atStart => exact ⟨0, Nat.zero_le _, rfl, Lib.hid (Below.refl _ _), Lib.hid (fun j x (hj : j < 0) => absurd hj (Nat.not_lt_zero _))⟩
  case round =>
    obtain ⟨k, hk, rfl, HW, HI⟩ := hrel
    by_cases hlt : (k : Int) < (m : Int)
    · obtain ⟨x, hx⟩ : ∃ x, L[k]? = some x := ⟨_, List.getElem?_eq_getElem (by rw [HL.out]; omega)⟩
      obtain ⟨b, off, rfl, x0, x1, x2, x3, x4⟩ := sg5 (HS.out.below HW.out) hx
      have HX := Lib.hid hx
      clear hx
      by_cases hc : x.c = 2
      · have q1 : (x.c == 2) = true := by rw [beq_iff_eq]; exact hc
        have HF := Lib.hid (show N = (k : Int) by rw [← HN.out]; unfold nxI nxt; rw [fst_at HI.out HX.out hc])
        clear hc
        go_wp2
        go_ret
        exact ⟨by rw [HF.out]; rfl, HW.out⟩
      · have q1 : (x.c == 2) = false := by rw [beq_eq_false_iff_ne]; exact hc
        have HJ := Lib.hid (show ∀ (j : Nat) (y : Da), j < k + 1 → L[j]? = some y → y.c ≠ 2 by
          intro j y hj hy
          by_cases hjk : j = k
          · rw [hjk, HX.out] at hy
            cases hy
            exact hc
          · exact HI.out j y (by omega) hy)
        clear hc
        go_wp2
        go_roundw
        case rel => exact ⟨k + 1, by omega, by go_num, HW, HJ⟩
        case measure => simp [intOf]; omega
    · have HF := Lib.hid (fst_none_at (fun j x hj => HI.out j x (by have := lt_of_get hj; rw [HL.out] at this; omega) hj))
      by_cases h0 : m = 0
      · have HG := Lib.hid (show N = -1 by
          rw [← HN.out]
          have : L = [] := List.eq_nil_of_length_eq_zero (by rw [HL.out]; exact h0)
          subst this
          rfl)
        have q1 : ¬ (0 : Int) < (m : Int) := by omega
        go_wp2
        go_ret
        exact ⟨by rw [HG.out]; rfl, HW.out⟩
      · have HG := Lib.hid (show N = 0 by
          rw [← HN.out]
          unfold nxI nxt
          rw [HF.out, if_neg (fun e => h0 (by rw [← HL.out, e]; rfl))]
          rfl)
        have q1 : (0 : Int) < (m : Int) := by omega
        have q2 : 0 < m := by omega
        go_wp2
        go_ret
        exact ⟨by rw [HG.out]; rfl, HW.out⟩
end Go.Proofs.Ytpliidkfllacpaa.PortW
