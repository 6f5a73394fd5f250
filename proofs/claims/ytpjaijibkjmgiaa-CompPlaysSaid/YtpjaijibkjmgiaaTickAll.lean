/- tick's numbers of 128 bits: widen, plus, minus: what they answer, as whole numbers modulo 2^128. -/
import Derived.Test.YtpjaijibkjmgiaaRows
import Derived.WalkKit
import Derived.Carry
import Derived.Laws.Bits64b
import Derived.Laws.NewBlocks
import Derived.Laws.Externs
import Derived.Laws.Rows
import Derived.WalkLawsBesides
import Derived.Lib.Hide
import Derived.WalkSpells
import Derived.Deep.RegionHeld3
import Derived.Lib.AtoiErrMem
import Derived.Tactics
import Derived.Tactics2
import Derived.Defers
import Derived.Recover
import Derived.Laws.Pointers
import Derived.Deep.DeepCutAuto
import Derived.Deep.CutBlock
import Derived.BigRegion
import Derived.Lib.ItoaNum
import Derived.Deep.RegionLaw
import Derived.Deep.RegionWith
import Derived.Lib.LaidTab
import Derived.Stop.LaidErr
import Derived.Deep.QuietTactic
import Derived.Test.YtpjaijibkjmgiaaLawShell
import Derived.ProofKit
import Derived.OpenShut
import Derived.Laws.Cover2
import Derived.Deep.DeepHandedRow
import Derived.Deep.DeepWitnessRowRef
import Derived.Laws.AppendOwn
import Derived.Laws.OwnMore
import Derived.OwnWalk
import Derived.OneCell
import Derived.DataElems
import Derived.Deep.Slices
import Derived.SizedLaws
import Derived.Deep.OwnRows
namespace Go.Proofs.Ytpjaijibkjmgiaa.TickW
open Go.RowKit
theorem al {w w1 : World} (h : Below w.heap.size w w1) (o : Obj) : Below w.heap.size w (w1.alloc o) := h.alloc h.size o
theorem heap_at {w : World} {g : Nat} (h : w.heap.size = g) (o : Obj) : (w.alloc o).heap[g]? = some o := by
  subst h; exact heap_alloc_new _ _
theorem row_below {w w1 : World} (b : Below w.heap.size w w1) {g : Nat} {o : Obj} (h : w.heap[g]? = some o) : w1.heap[g]? = some o := by
  have hlt : g < w.heap.size := by
    rcases Nat.lt_or_ge g w.heap.size with h1 | h1
    · exact h1
    · rw [Array.getElem?_eq_none h1] at h; cases h
  exact (b.block g hlt).trans h
theorem cell_keep {w1 w2 : World} {a : Addr} {v : Value} (h : w1.cell? a = some v) (b : Below w1.heap.size w1 w2) : w2.cell? a = some v := (b.cell (Lib.lt_of_cell h)).trans h
theorem of_drew {W w1 : World} (b : Below W.drew.heap.size W.drew w1) : Below W.heap.size W w1 := ⟨b.os, b.tape, b.output, b.size, b.block⟩
end Go.Proofs.Ytpjaijibkjmgiaa.TickW


/- tick.Add, Sub, Mul, MulDiv: of any numbers, by their reckonings. -/
namespace Go.Proofs.Ytpjaijibkjmgiaa.TickW
open Go.RowKit
def ansV (z : Int) : Value := if -9223372036854775808 ≤ z ∧ z ≤ 9223372036854775807 then .tuple #[.int .i64 z, .int .i64 0] else .tuple #[.int .i64 0, .int .i64 4]
theorem set2_keep {w : World} {p : Addr} {v : Value} {g : Nat} (h : w.cell? p = some v) (hp : p.block < g) (x y : Value) : ((w.setCell ⟨g, 0, none⟩ x).setCell ⟨g, 1, none⟩ y).cell? p = some v := by
  have b1 : Below g w ((w.setCell ⟨g, 0, none⟩ x).setCell ⟨g, 1, none⟩ y) := ((Below.refl g w).setCell (Nat.le_refl _) _).setCell (Nat.le_refl _) _
  exact (b1.cell hp).trans h
end Go.Proofs.Ytpjaijibkjmgiaa.TickW


/- tick.MulDiv, Sum's reckoning, Half, Clamp. -/
namespace Go.Proofs.Ytpjaijibkjmgiaa.TickW
open Go.RowKit
theorem half_raw (a b : Int) (w : World) :
    Calls Try.prog 49 #[.int .i64 a, .int .i64 b] w fun e w' => e = .returned (.int .i64 (wrap64 (bits .and .i64 a b + bits .xor .i64 a b / 2))) ∧ w = w' := by
  go_enter Try.func49, Try.ntmps49
  go_wp2
  go_ret
  exact ⟨rfl, rfl⟩
theorem nat_and_xor : ∀ (n a b : Nat), a < 2 ^ n → b < 2 ^ n → 2 * (a &&& b) + (a ^^^ b) = a + b := by
  intro n
  induction n with
  | zero => intro a b ha hb; have : a = 0 := by omega
            have : b = 0 := by omega
            subst_vars; rfl
  | succ n ih =>
    intro a b ha hb
    have h := ih (a / 2) (b / 2) (by rw [Nat.pow_succ] at ha; omega) (by rw [Nat.pow_succ] at hb; omega)
    have e1 : (a &&& b) / 2 = a / 2 &&& b / 2 := Nat.and_div_two
    have e2 : (a ^^^ b) / 2 = a / 2 ^^^ b / 2 := Nat.xor_div_two
    have e3 : (a &&& b) % 2 = if a % 2 = 1 ∧ b % 2 = 1 then 1 else 0 := by
      have := @Nat.and_mod_two_pow a b 1
      rw [Nat.pow_one] at this
      rw [this]
      rcases Nat.mod_two_eq_zero_or_one a with h1 | h1 <;> rcases Nat.mod_two_eq_zero_or_one b with h2 | h2 <;> rw [h1, h2] <;> decide
    have e4 : (a ^^^ b) % 2 = if a % 2 = b % 2 then 0 else 1 := by
      have := @Nat.xor_mod_two_pow a b 1
      rw [Nat.pow_one] at this
      rw [this]
      rcases Nat.mod_two_eq_zero_or_one a with h1 | h1 <;> rcases Nat.mod_two_eq_zero_or_one b with h2 | h2 <;> rw [h1, h2] <;> decide
    rw [← e1, ← e2] at h
    generalize a &&& b = u at *
    generalize a ^^^ b = v at *
    split at e3 <;> split at e4 <;> omega
theorem top_and (A B : Nat) : (A &&& B) / 9223372036854775808 = (A / 9223372036854775808) &&& (B / 9223372036854775808) := by
  have := @Nat.and_div_two_pow A B 63
  rw [show (2 : Nat) ^ 63 = 9223372036854775808 from by decide] at this
  exact this
theorem top_xor (A B : Nat) : (A ^^^ B) / 9223372036854775808 = (A / 9223372036854775808) ^^^ (B / 9223372036854775808) := by
  have := @Nat.xor_div_two_pow A B 63
  rw [show (2 : Nat) ^ 63 = 9223372036854775808 from by decide] at this
  exact this
theorem half_nums (a b : Int) (A B u v p q r s : Nat) (hs : 2 * u + v = A + B) (hA : (A : Int) = a + 18446744073709551616 * p) (hB : (B : Int) = b + 18446744073709551616 * q)
    (hu : u / 9223372036854775808 = r) (hv : v / 9223372036854775808 = s) (h : 2 * r + s = p + q) (hr : r ≤ 1) (hs1 : s ≤ 1)
    (ha0 : -9223372036854775808 ≤ a) (ha1 : a ≤ 9223372036854775807) (hb0 : -9223372036854775808 ≤ b) (hb1 : b ≤ 9223372036854775807) :
    wrap64 (wrap64 (u : Int) + wrap64 (v : Int) / 2) = (a + b) / 2 := by
  have e1 : wrap64 (u : Int) = (u : Int) - 18446744073709551616 * r := by clear hs hA hB hv h; unfold wrap64; omega
  have e2 : wrap64 (v : Int) = (v : Int) - 18446744073709551616 * s := by clear hs hA hB hu h e1; unfold wrap64; omega
  rw [e1, e2]
  have e3 : (u : Int) - 18446744073709551616 * r + ((v : Int) - 18446744073709551616 * s) / 2 = (a + b) / 2 := by clear hu hv e1 e2; omega
  rw [e3]
  clear e1 e2 e3 hs hA hB hu hv h
  unfold wrap64
  omega
theorem half_eq (a b : Int) (ha0 : -9223372036854775808 ≤ a) (ha1 : a ≤ 9223372036854775807) (hb0 : -9223372036854775808 ≤ b) (hb1 : b ≤ 9223372036854775807) :
    wrap64 (bits .and .i64 a b + bits .xor .i64 a b / 2) = (a + b) / 2 := by
  have e1 : bits .and .i64 a b = IntKind.i64.wrap ((BitVec.ofInt 64 a &&& BitVec.ofInt 64 b).toNat : Int) := rfl
  have e2 : bits .xor .i64 a b = IntKind.i64.wrap ((BitVec.ofInt 64 a ^^^ BitVec.ofInt 64 b).toNat : Int) := rfl
  have w64 : ∀ n : Int, IntKind.i64.wrap n = wrap64 n := fun n => by unfold wrap64; exact IntKind.wrap_i64 n
  rw [e1, e2, BitVec.toNat_and, BitVec.toNat_xor, w64, w64]
  have lt1 := (BitVec.ofInt 64 a).isLt
  have lt2 := (BitVec.ofInt 64 b).isLt
  have F : ∀ x : Int, -9223372036854775808 ≤ x → x ≤ 9223372036854775807 → ∃ p : Nat, p ≤ 1 ∧ ((BitVec.ofInt 64 x).toNat : Int) = x + 18446744073709551616 * p ∧ (BitVec.ofInt 64 x).toNat / 9223372036854775808 = p := by
    intro x h0 h1
    have t : (BitVec.ofInt 64 x).toNat = (x % 18446744073709551616).toNat := by rw [BitVec.toNat_ofInt]; rfl
    rw [t]
    rcases Int.lt_or_le x 0 with h | h
    · exact ⟨1, by decide, by omega, by omega⟩
    · exact ⟨0, by decide, by omega, by omega⟩
  obtain ⟨p, hp1, hp2, hp3⟩ := F a ha0 ha1
  obtain ⟨q, hq1, hq2, hq3⟩ := F b hb0 hb1
  have hsum := nat_and_xor 64 _ _ lt1 lt2
  have d1 := top_and (BitVec.ofInt 64 a).toNat (BitVec.ofInt 64 b).toNat
  have d2 := top_xor (BitVec.ofInt 64 a).toNat (BitVec.ofInt 64 b).toNat
  rw [hp3, hq3] at d1 d2
  have G : ∀ p q : Nat, p ≤ 1 → q ≤ 1 → 2 * (p &&& q) + (p ^^^ q) = p + q ∧ (p &&& q) ≤ 1 ∧ (p ^^^ q) ≤ 1 := by
    intro p q h1 h2
    rcases (show p = 0 ∨ p = 1 by omega) with rfl | rfl <;> rcases (show q = 0 ∨ q = 1 by omega) with rfl | rfl <;> decide
  obtain ⟨g1, g2, g3⟩ := G p q hp1 hq1
  clear lt1 lt2 F G hp3 hq3
  generalize (BitVec.ofInt 64 a).toNat = A at *
  generalize (BitVec.ofInt 64 b).toNat = B at *
  generalize A &&& B = u at *
  generalize A ^^^ B = v at *
  generalize p &&& q = r at *
  generalize p ^^^ q = t at *
  have H := half_nums a b A B u v p q r t hsum hp2 hq2 d1 d2 g1 g2 g3 ha0 ha1 hb0 hb1
  exact H
theorem half_any (a b : Int) (ha0 : -9223372036854775808 ≤ a) (ha1 : a ≤ 9223372036854775807) (hb0 : -9223372036854775808 ≤ b) (hb1 : b ≤ 9223372036854775807) (w : World) :
    Calls Try.prog 49 #[.int .i64 a, .int .i64 b] w fun e w' => e = .returned (.int .i64 ((a + b) / 2)) ∧ w = w' := by
  rw [← half_eq a b ha0 ha1 hb0 hb1]
  exact half_raw a b w
end Go.Proofs.Ytpjaijibkjmgiaa.TickW


/- tick.Sum: the sum of any numbers, reckoned without any bound. -/
namespace Go.Proofs.Ytpjaijibkjmgiaa.TickW
open Go.RowKit
/-- The slice's cells hold these numbers of 64 bits. -/
def IL (w : World) (A : Option Addr) (xs : List Int) : Prop := ∀ k x, xs[k]? = some x → ∃ a, A = some a ∧ w.cell? (a.add k) = some (.int .i64 x) ∧ -9223372036854775808 ≤ x ∧ x ≤ 9223372036854775807
theorem IL.below {w w1 : World} {A : Option Addr} {xs : List Int} (h : IL w A xs) (b : Below w.heap.size w w1) : IL w1 A xs := by
  intro k x hx
  obtain ⟨a, ha, hc, hb⟩ := h k x hx
  exact ⟨a, ha, cell_keep hc b, hb⟩
theorem row_lt {w : World} {g : Nat} {o : Obj} (h : w.heap[g]? = some o) : g < w.heap.size := by
  rcases Nat.lt_or_ge g w.heap.size with h1 | h1
  · exact h1
  · rw [Array.getElem?_eq_none h1] at h; cases h
end Go.Proofs.Ytpjaijibkjmgiaa.TickW


/- What the row's listed variables give a walk; a world for the witness. -/


namespace Go.Proofs.Ytpjaijibkjmgiaa.TickW
open Go.ChangeShapes Go.WideShapes Go.ChangeAt Go.RowKit
theorem own : ownKnob Try.prog.godebug = none := by kernel_rfl
theorem laidOut : laidOutB Try.prog = true := by kernel_rfl
end Go.Proofs.Ytpjaijibkjmgiaa.TickW


/- Plain mathematics: the document's numbers, as digits of 16 bits, the lowest first. -/
namespace Go.Proofs.Ytpjaijibkjmgiaa.TickW
/-- The digits of a size, the lowest first, without noughts ahead. -/
def dl (m : Nat) : List Nat := if h : m = 0 then [] else m % 65536 :: dl (m / 65536)
termination_by m
decreasing_by omega
def val : List Nat → Nat
  | [] => 0
  | d :: r => d + 65536 * val r
theorem dl_zero : dl 0 = [] := by rw [dl, dif_pos rfl]
theorem dl_pos {m : Nat} (h : 0 < m) : dl m = m % 65536 :: dl (m / 65536) := by rw [dl, dif_neg (by omega)]
theorem val_dl (m : Nat) : val (dl m) = m := by
  induction m using Nat.strongRecOn with
  | _ m ih =>
    rcases Nat.eq_zero_or_pos m with rfl | h
    · rw [dl_zero]; rfl
    · rw [dl_pos h, val, ih (m / 65536) (by omega)]; omega
theorem dl_lt (m : Nat) : ∀ d ∈ dl m, d < 65536 := by
  induction m using Nat.strongRecOn with
  | _ m ih =>
    rcases Nat.eq_zero_or_pos m with rfl | h
    · rw [dl_zero]; intro d hd; cases hd
    · rw [dl_pos h]
      intro d hd
      rcases List.mem_cons.1 hd with rfl | hd
      · omega
      · exact ih (m / 65536) (by omega) d hd
theorem dl_nil {m : Nat} : dl m = [] ↔ m = 0 := by
  constructor
  · intro h
    have := val_dl m
    rw [h] at this
    exact this.symm
  · rintro rfl; exact dl_zero
/-- Digits whose highest is not 0 are those of their value. -/
theorem dl_val : ∀ (l : List Nat), (∀ d ∈ l, d < 65536) → l.getLast? ≠ some 0 → dl (val l) = l := by
  intro l
  induction l with
  | nil => intro _ _; exact dl_zero
  | cons d r ih =>
    intro h hl
    have hd := h d List.mem_cons_self
    have hr : ∀ x ∈ r, x < 65536 := fun x hx => h x (List.mem_cons_of_mem _ hx)
    have hpos : 0 < val (d :: r) := by
      cases r with
      | nil =>
        rw [val, val]
        have : d ≠ 0 := fun e => hl (by rw [e]; rfl)
        omega
      | cons x t =>
        have h2 := ih hr (by rw [List.getLast?_cons_cons] at hl; exact hl)
        have : val (x :: t) ≠ 0 := fun e => by rw [e, dl_zero] at h2; cases h2
        rw [val]; omega
    have h3 : r.getLast? ≠ some 0 := by
      cases r with
      | nil => simp
      | cons x t => rw [List.getLast?_cons_cons] at hl; exact hl
    have e1 : val (d :: r) % 65536 = d := by rw [val]; omega
    have e2 : val (d :: r) / 65536 = val r := by rw [val]; omega
    rw [dl_pos hpos, e1, e2, ih hr h3]
theorem val_append (l : List Nat) (d : Nat) : val (l ++ [d]) = val l + d * 65536 ^ l.length := by
  induction l with
  | nil => simp [val]
  | cons x l ih =>
    rw [List.cons_append, val, val, ih, List.length_cons, Nat.pow_succ, Nat.mul_add, ← Nat.add_assoc]
    congr 1
    rw [← Nat.mul_assoc, Nat.mul_comm 65536 d, Nat.mul_assoc, Nat.mul_comm 65536]
theorem dl_length_le {m n : Nat} (h : m < 65536 ^ n) : (dl m).length ≤ n := by
  induction n generalizing m with
  | zero => have : m = 0 := by simpa using h
            rw [this, dl_zero]; exact Nat.le_refl _
  | succ n ih =>
    rcases Nat.eq_zero_or_pos m with rfl | hp
    · rw [dl_zero]; exact Nat.zero_le _
    · rw [dl_pos hp, List.length_cons]
      have := ih (m := m / 65536) (by rw [Nat.pow_succ] at h; omega)
      omega
/-- The k-th digit. -/
theorem dl_get (m k : Nat) : (dl m)[k]? = if 0 < m / 65536 ^ k then some (m / 65536 ^ k % 65536) else none := by
  induction k generalizing m with
  | zero =>
    rw [Nat.pow_zero, Nat.div_one]
    rcases Nat.eq_zero_or_pos m with rfl | h
    · rw [dl_zero]; rfl
    · rw [dl_pos h, if_pos h]; rfl
  | succ k ih =>
    have e : m / 65536 ^ (k + 1) = m / 65536 / 65536 ^ k := by rw [Nat.pow_succ, Nat.mul_comm, ← Nat.div_div_eq_div_mul]
    rcases Nat.eq_zero_or_pos m with rfl | h
    · rw [dl_zero, Nat.zero_div]; simp
    · rw [dl_pos h, List.getElem?_cons_succ, ih, e]
/-- So many digits as there are powers not above. -/
theorem dl_lt_length (m k : Nat) : k < (dl m).length ↔ 0 < m / 65536 ^ k := by
  have h := dl_get m k
  constructor
  · intro hk
    rw [List.getElem?_eq_getElem hk] at h
    by_cases h2 : 0 < m / 65536 ^ k
    · exact h2
    · rw [if_neg h2] at h; cases h
  · intro hp
    rw [if_pos hp] at h
    rcases Nat.lt_or_ge k (dl m).length with h2 | h2
    · exact h2
    · rw [List.getElem?_eq_none h2] at h; cases h
theorem dl_take_succ (m k : Nat) (h : k < (dl m).length) : (dl m).take (k + 1) = (dl m).take k ++ [m / 65536 ^ k % 65536] := by
  rw [List.take_add_one, dl_get, if_pos ((dl_lt_length m k).1 h)]
  rfl
end Go.Proofs.Ytpjaijibkjmgiaa.TickW


/- The document's numbers in memory; Of. -/
namespace Go.Proofs.Ytpjaijibkjmgiaa.TickW
open Go.RowKit
def u32s (l : List Nat) : List Value := l.map fun d : Nat => .int .u32 (d : Int)
def DL (w : World) (A : Option Addr) (ds : List Nat) : Prop := ∀ (k d : Nat), ds[k]? = some d → ∃ a, A = some a ∧ w.cell? (a.add k) = some (.int .u32 (d : Int))
theorem DL.below {w w1 : World} {A : Option Addr} {ds : List Nat} (h : DL w A ds) (b : Below w.heap.size w w1) : DL w1 A ds := by
  intro k d hd
  obtain ⟨a, ha, hc⟩ := h k d hd
  exact ⟨a, ha, cell_keep hc b⟩
theorem DL.take {w : World} {A : Option Addr} {ds : List Nat} (h : DL w A ds) (n : Nat) : DL w A (ds.take n) := by
  intro k d hd
  rw [List.getElem?_take] at hd
  split at hd
  · exact h k d hd
  · cases hd
/-- The value of a number. -/
def WV (w : World) (v : Value) (z : Int) : Prop := ∃ A c, v = .agg #[.slice A (dl z.natAbs).length c, .bool (decide (z < 0))] ∧ DL w A (dl z.natAbs) ∧ (dl z.natAbs).length ≤ c
theorem WV.below {w w1 : World} {v : Value} {z : Int} (h : WV w v z) (b : Below w.heap.size w w1) : WV w1 v z := by
  obtain ⟨A, c, hv, hd, hc⟩ := h
  exact ⟨A, c, hv, hd.below b, hc⟩
theorem ret_ref {fn : Func} {R : Ending → World → Prop} {p : Tmp} (h : fn.results = #[.cell p 86]) {tmps : Array Value} {w : World} {g : Nat} {x y : Value} {t : TypeId} {fr : Nat × Nat}
    (hp : tmps.getD p undef = .pointer (some ⟨g, 0, none⟩)) (hg : w.heap[g]? = some (.cells #[x, y] t fr)) (hR : R (.returned (.agg #[x, y])) w) :
    bodyPost Try.prog fn R .ret { tmps := tmps, defers := [] } w :=
  bodyPost_ret (results_cell_row h tmps w g t #[x, y] fr _ hp hg Try.underlying86 rfl (by kernel_rfl)) rfl hR
theorem ret_ref_set {fn : Func} {R : Ending → World → Prop} {p : Tmp} (h : fn.results = #[.cell p 86]) {tmps : Array Value} {W : World} {g : Nat} {x y a b : Value} {t : TypeId}
    (hp : tmps.getD p undef = .pointer (some ⟨g, 0, none⟩)) (hg : W.heap[g]? = some (.cells #[a, b] t (0, 0))) (hR : R (.returned (.agg #[x, y])) ((W.setCell ⟨g, 0, none⟩ x).setCell ⟨g, 1, none⟩ y)) :
    bodyPost Try.prog fn R .ret { tmps := tmps, defers := [] } ((W.setCell ⟨g, 0, none⟩ x).setCell ⟨g, 1, none⟩ y) :=
  ret_ref h hp (heap_setCell_same _ g 1 _ t y (heap_setCell_same W g 0 _ t x hg)) hR
theorem own_dl {w : World} {base n : Nat} {v : Value} {ds : List Nat} (h : w.ownsRow base 29 1 v n (u32s ds)) (hn : ds.length = n) : ∃ A c, v = .slice A n c ∧ DL w A ds ∧ n ≤ c := by
  rcases h.2 with ⟨hv, h0⟩ | ⟨g, cap, cur, hv, hb, hg, h5, h6, h7, htake⟩
  · have hd : ds = [] := List.eq_nil_of_length_eq_zero (by omega)
    subst hd; subst h0
    exact ⟨none, 0, hv, fun k d hk => by simp at hk, Nat.le_refl _⟩
  · refine ⟨_, cap, hv, fun j y hy => ⟨_, rfl, ?_⟩, h5⟩
    have hj : j < ds.length := by
      rcases Nat.lt_or_ge j ds.length with h4 | h4
      · exact h4
      · rw [List.getElem?_eq_none h4] at hy; cases hy
    have ha : (⟨g, 0, none⟩ : Addr).add j = ⟨g, j, none⟩ := by unfold Addr.add; split <;> simp_all
    have h5 : (u32s ds)[j]? = some (.int .u32 (y : Int)) := by unfold u32s; rw [List.getElem?_map, hy]; rfl
    rw [← htake, List.getElem?_take_of_lt (by omega), Array.getElem?_toList] at h5
    rw [ha]
    unfold World.cell?
    simp only [hg]
    exact h5
theorem row_lt0 {w : World} {g : Nat} {o : Obj} (h : w.heap[g]? = some o) : g < w.heap.size := by
  rcases Nat.lt_or_ge g w.heap.size with h1 | h1
  · exact h1
  · rw [Array.getElem?_eq_none h1] at h; cases h
theorem u32_info : ∃ i0 : TypeInfo, Try.prog.info? 29 = some i0 ∧ i0.zero = some (.int .u32 0) ∧ i0.size = 1 ∧ i0.bytes = 4 :=
  info_parts (show (Try.prog.info? 29).map (fun i => (i.zero, i.size, i.bytes)) = some (some (.int .u32 0), 1, 4) by kernel_rfl)
set_option maxHeartbeats 4000000 in
set_option maxRecDepth 100000 in
theorem of_any (n : Int) (h0 : -9223372036854775808 ≤ n) (h1 : n ≤ 9223372036854775807) (w : World) :
    Calls Try.prog 45 #[.int .i64 n] w fun e w' => (∃ v, e = .returned v ∧ WV w' v n) ∧ Below w.heap.size w w' := by
  obtain ⟨M, hM⟩ : ∃ M, M = n.natAbs := ⟨_, rfl⟩
  obtain ⟨i0, hi, hz0, hz1, hz2⟩ := u32_info
  have HI := Lib.hid hi
  have HZ0 := Lib.hid hz0
  have HZ1 := Lib.hid hz1
  have HZ2 := Lib.hid hz2
  have HMM := Lib.hid hM
  have HMB := Lib.hid (show M ≤ 9223372036854775808 by omega)
  have HN := Lib.hid (show n < 0 → IntKind.u64.wrap (-(IntKind.u64.wrap n)) = (M : Int) from fun h => by rw [IntKind.wrap_u64, IntKind.wrap_u64]; omega)
  have HN2 := Lib.hid (show ¬ n < 0 → IntKind.u64.wrap n = (M : Int) from fun h => by rw [IntKind.wrap_u64]; omega)
  clear hi hz0 hz1 hz2 hM h0 h1
  go_enter Try.func45, Try.ntmps45
  go_upto_if 11 with (fail)
  have hb := al (al (Below.refl w.heap.size w) (Obj.cells #[.slice none 0 0, .bool false] 86)) (Obj.cells #[.slice none 0 0, .bool (decide (n < 0))] 86)
  have c0 := heap_alloc2_old w (Obj.cells #[.slice none 0 0, .bool false] 86) (Obj.cells #[.slice none 0 0, .bool (decide (n < 0))] 86)
  have c1 := heap_alloc2_new w (Obj.cells #[.slice none 0 0, .bool false] 86) (Obj.cells #[.slice none 0 0, .bool (decide (n < 0))] 86)
  generalize (w.alloc (Obj.cells #[.slice none 0 0, .bool false] 86)).alloc (Obj.cells #[.slice none 0 0, .bool (decide (n < 0))] 86) = W at *
  have HB := Lib.hid hb
  have C0 := Lib.hid c0
  have C1 := Lib.hid c1
  clear hb c0 c1
  go_cut [4] (fun s4 wx => s4 = .int .u64 (M : Int) ∧ wx = W)
  case first =>
    by_cases hneg : n < 0
    · have e := HN.out hneg
      go_wp2
      go_meet
      exact ⟨rfl, rfl⟩
    · have e := HN2.out hneg
      go_wp2
      go_meet
      exact ⟨rfl, rfl⟩
  case rest =>
    obtain ⟨rfl, rfl⟩ := hcut
    obtain ⟨w0, hw0⟩ : ∃ w0, w0 = wc := ⟨_, rfl⟩
    subst hw0
    have HG := Lib.hid (row_lt0 C1.out)
    clear HN HN2
    generalize hbb : decide (n < 0) = bb at *
    have HBB := Lib.hid hbb
    clear hbb
    go_wp2_with fail
    go_loopw [4] (fun m wr => ∃ (k : Nat) (v : Value), k ≤ (dl M).length ∧ m = .int .u64 ((M / 65536 ^ k : Nat) : Int) ∧ Hid (Below w.heap.size w wr) ∧ Hid (wr.heap[w.heap.size]? = some (.cells #[.slice none 0 0, .bool false] 86 (0, 0))) ∧ Hid (wr.heap[w.heap.size + 1]? = some (.cells #[v, .bool bb] 86 (0, 0))) ∧ Hid (wr.ownsRow w0.heap.size 29 1 v k (u32s ((dl M).take k))) ∧ Hid (w0.heap.size ≤ wr.heap.size)) (fun m _ => (intOf m).toNat)
    case atStart => exact ⟨0, _, Nat.zero_le _, by simp, HB, C0, C1, Lib.hid ⟨rfl, Or.inl ⟨rfl, rfl⟩⟩, Lib.hid (Nat.le_refl _)⟩
    case round =>
      clear HB C0 C1
      obtain ⟨k, v, hk, rfl, HB, C0, C1, HO, HS⟩ := hrel
      obtain ⟨A, cap, rfl⟩ : ∃ A cap, v = .slice A k cap := by
        rcases HO.out.2 with ⟨h, h0⟩ | ⟨g, cap, cur, hv, _⟩
        · subst h0; exact ⟨_, _, h⟩
        · exact ⟨_, cap, hv⟩
      have hz0 := cell_of_row wr (w.heap.size + 1) 0 _ _ _ C1.out
      have hiff := dl_lt_length M k
      by_cases hlt : k < (dl M).length
      · have hp := hiff.1 hlt
        have HT := Lib.hid (show ∀ q, M / 65536 ^ k = q → (dl M).take (k + 1) = (dl M).take k ++ [q % 65536] from fun q hq => by rw [dl_take_succ M k hlt, hq])
        have HQ := Lib.hid (show ∀ q, M / 65536 ^ k = q → q / 65536 = M / 65536 ^ (k + 1) from fun q hq => by rw [← hq, Nat.div_div_eq_div_mul, Nat.pow_succ])
        have hqM : M / 65536 ^ k ≤ M := Nat.div_le_self _ _
        have HK := Lib.hid hlt
        have hlen : (dl M).length ≤ 4 := dl_length_le (by have := HMB.out; omega)
        have HLEN := Lib.hid hlen
        clear hiff hlt hk hlen
        generalize hqe : M / 65536 ^ k = q at *
        have HQE := Lib.hid hqe
        have x1 : IntKind.u32.wrap ((q : Int) % 65536) = ((q % 65536 : Nat) : Int) := by simp [IntKind.wrap, IntKind.bits, IntKind.signed]; omega
        have x3 : IntKind.u64.wrap ((q : Int) / 65536) = ((q / 65536 : Nat) : Int) := by have := HMB.out; rw [IntKind.wrap_u64]; omega
        have HQ0 := Lib.hid hp
        have kq : (0 : Int) < (q : Int) := by omega
        have HT1 := Lib.hid (HT.out q rfl)
        have HQ1 := Lib.hid (HQ.out q rfl)
        generalize hd : q % 65536 = d at *
        clear hp hqe hqM HT HQ hd
        go_wp2_with (at_builtin; refine wpList_append_own _ rfl _ _ 58 rfl w0.heap.size 29 i0 (.int .u32 0) 1 4 Try.underlying58 HI.out HZ0.out HZ1.out HZ2.out rfl (by decide) _ _ _ rfl (HO.out.alloc _) ⟨wr.heap.size, 0, none⟩ 1 1 [.int .u32 (d : Int)] rfl rfl ?c1 ?c2 ?c3 ?c4 ?c5 ?_)
        case c1 => exact (cell_one_new _ _ _)
        case c2 => intro u hu; simp at hu; subst hu; rfl
        case c3 => have := HK.out; have := HLEN.out; unfold maxLen; omega
        case c4 => have := HK.out; have := HLEN.out; omega
        case c5 => rw [World.size_alloc]; have := HS.out; omega
        intro v' w2 hown2 hgrow _
        obtain ⟨A', cap', rfl⟩ : ∃ A' cap', v' = .slice A' (k + 1) cap' := by
          rcases hown2.2 with ⟨h, h0⟩ | ⟨g, cap, cur, hv, _⟩
          · omega
          · exact ⟨_, cap, hv⟩
        have HO2 := Lib.hid (show w2.ownsRow w0.heap.size 29 1 (.slice A' (k + 1) cap') (k + 1) (u32s ((dl M).take (k + 1))) by rw [HT1.out]; unfold u32s; rw [List.map_append]; exact hown2)
        have HW : Hid (Below w0.heap.size wr w2) := Lib.hid (((Below.refl w0.heap.size wr).alloc HS.out _).grown hgrow (by rw [World.size_alloc]; have := HS.out; omega) (fun g hg => (HO.out.lt g hg).1))
        have D0 := Lib.hid ((HW.out.block _ (by have := HG.out; omega)).trans C0.out)
        have D1 := Lib.hid ((HW.out.block _ HG.out).trans C1.out)
        have hz2 := cell_of_row w2 (w.heap.size + 1) 0 _ _ _ D1.out
        have hf2 := frozen_of_row w2 (w.heap.size + 1) 0 _ _ D1.out
        clear hown2 hgrow hz0
        go_wp2
        go_roundw
        case rel => exact ⟨k + 1, _, by have := HK.out; omega, by rw [← HQ1.out, Int.natCast_ediv]; first | rfl | (rw [x3]; rfl), Lib.hid ((HB.out.trans (HW.out.mono (by have := HG.out; omega))).setCell (Nat.le_succ _) _), Lib.hid ((heap_setCell_other _ _ _ _ (by simp)).trans D0.out), Lib.hid (heap_setCell_same _ _ 0 _ _ _ D1.out), Lib.hid (ownsRow_setCell_below HO2.out HG.out _), Lib.hid (by have := HW.out.size; have := HS.out; simp; omega)⟩
        case measure => have := HQ0.out; simp only [intOf]; omega
      · obtain rfl : k = (dl M).length := by omega
        have hq0 : M / 65536 ^ (dl M).length = 0 := Nat.eq_zero_of_not_pos (fun h => hlt (hiff.2 h))
        rw [hq0, show ((0 : Nat) : Int) = 0 from rfl]
        have hO := HO.out
        rw [List.take_length] at hO
        have hz1 := cell_of_row wr (w.heap.size + 1) 1 _ _ _ C1.out
        have y0 := cell_of_row wr w.heap.size 0 _ _ _ C0.out
        have y1 := cell_of_row wr w.heap.size 1 _ _ _ C0.out
        have f0 := frozen_of_row wr w.heap.size 0 _ _ C0.out
        have f1 := frozen_of_row wr w.heap.size 1 _ _ C0.out
        have HO2 := Lib.hid hO
        clear hO hq0 hiff hlt hk
        go_wp2
        refine ret_ref_set rfl rfl C0.out ⟨⟨_, rfl, ?_⟩, (HB.out.setCell (Nat.le_refl _) _).setCell (Nat.le_refl _) _⟩
        obtain ⟨A2, c2, he, hd, hcc⟩ := own_dl (ownsRow_setCell_below (ownsRow_setCell_below HO2.out (a := ⟨w.heap.size, 0, none⟩) (by have := HG.out; show w.heap.size < _; omega) (.slice A (dl M).length cap)) (a := ⟨w.heap.size, 1, none⟩) (by have := HG.out; show w.heap.size < _; omega) (.bool bb)) rfl
        refine ⟨A2, c2, ?_, ?_, ?_⟩
        · rw [← HMM.out, HBB.out, ← he]
        · rw [← HMM.out]; exact hd
        · rw [← HMM.out]; exact hcc
end Go.Proofs.Ytpjaijibkjmgiaa.TickW


/- The document's numbers: trim, digit, compare. -/
namespace Go.Proofs.Ytpjaijibkjmgiaa.TickW
open Go.RowKit
theorem val_take_zero (ds : List Nat) (k : Nat) (h : ds[k]? = some 0) : val (ds.take (k + 1)) = val (ds.take k) := by
  rw [List.take_add_one, h]
  show val (ds.take k ++ [0]) = _
  rw [val_append]; omega
def lenAt (g : Nat) (w : World) : Nat := match w.cell? ⟨g, 0, none⟩ with
  | some (.slice _ n _) => n
  | _ => 0
theorem lenAt_row {g : Nat} {w : World} {A : Option Addr} {n c : Nat} {y : Value} {t : TypeId} {fr : Nat × Nat} (h : w.heap[g]? = some (.cells #[.slice A n c, y] t fr)) : lenAt g w = n := by
  unfold lenAt
  rw [cell_of_row w g 0 _ _ _ h]
  rfl
set_option maxHeartbeats 2000000 in
set_option maxRecDepth 100000 in
theorem trim_any (A : Option Addr) (c : Nat) (ds : List Nat) (neg : Bool) (w : World) (hd : DL w A ds) (hx : ∀ d ∈ ds, d < 65536) (hc : ds.length ≤ c) (hl : ds.length ≤ 1000) :
    Calls Try.prog 50 #[.agg #[.slice A ds.length c, .bool neg]] w fun e w' =>
      e = .returned (.agg #[.slice A (dl (val ds)).length c, .bool (neg && decide (0 < val ds))]) ∧ DL w' A (dl (val ds)) ∧ (dl (val ds)).length ≤ c ∧ Below w.heap.size w w' := by
  have HD := Lib.hid hd
  have HX := Lib.hid hx
  have HC := Lib.hid hc
  have HLL := Lib.hid hl
  clear hd hx hc hl
  go_enter Try.func50, Try.ntmps50
  go_wp2_with fail
  have hb := al (al (Below.refl w.heap.size w) (Obj.cells #[.slice A ds.length c, .bool neg] 86)) (Obj.cells #[.slice none 0 0, .bool false] 86)
  have c0 := heap_alloc2_old w (Obj.cells #[.slice A ds.length c, .bool neg] 86) (Obj.cells #[.slice none 0 0, .bool false] 86)
  have c1 := heap_alloc2_new w (Obj.cells #[.slice A ds.length c, .bool neg] 86) (Obj.cells #[.slice none 0 0, .bool false] 86)
  generalize (w.alloc (Obj.cells #[.slice A ds.length c, .bool neg] 86)).alloc (Obj.cells #[.slice none 0 0, .bool false] 86) = W at *
  have HB := Lib.hid hb
  have C0 := Lib.hid c0
  have C1 := Lib.hid c1
  have HDW := Lib.hid (HD.out.below hb)
  clear hb c0 c1
  go_loopw [3] (fun _ wr => ∃ k : Nat, k ≤ ds.length ∧ Hid (val (ds.take k) = val ds) ∧ Hid (Below w.heap.size w wr) ∧ Hid (wr.heap[w.heap.size]? = some (.cells #[.slice A k c, .bool neg] 86 (0, 0))) ∧ Hid (wr.heap[w.heap.size + 1]? = some (.cells #[.slice none 0 0, .bool false] 86 (0, 0)))) (fun _ wr => lenAt w.heap.size wr)
  case atStart => exact ⟨ds.length, Nat.le_refl _, Lib.hid (by rw [List.take_length]), HB, C0, C1⟩
  case round =>
    clear HB C0 C1 HDW
    obtain ⟨k, hk, HV, HB, C0, C1⟩ := hrel
    have z0 : wr.cell? ⟨w.heap.size, 0, none⟩ = some (.slice A k c) := cell_of_row wr w.heap.size 0 _ _ _ C0.out
    have f0 := frozen_of_row wr w.heap.size 0 _ _ C0.out
    rcases Nat.eq_zero_or_pos k with rfl | hp
    · have hv0 : val ds = 0 := by rw [← HV.out]; rfl
      have z1 : wr.cell? ⟨w.heap.size, 1, none⟩ = some (.bool neg) := cell_of_row wr w.heap.size 1 _ _ _ C0.out
      have f1 := frozen_of_row wr w.heap.size 1 _ _ C0.out
      have y0 : wr.cell? ⟨w.heap.size + 1, 0, none⟩ = some (.slice none 0 0) := cell_of_row wr (w.heap.size + 1) 0 _ _ _ C1.out
      have y1 : wr.cell? ⟨w.heap.size + 1, 1, none⟩ = some (.bool false) := cell_of_row wr (w.heap.size + 1) 1 _ _ _ C1.out
      have g0 := frozen_of_row wr (w.heap.size + 1) 0 _ _ C1.out
      have g1 := frozen_of_row wr (w.heap.size + 1) 1 _ _ C1.out
      have HV0 := Lib.hid hv0
      clear hv0 hk
      go_wp2
      have hB := ((HB.out.setCell (p := ⟨w.heap.size, 1, none⟩) (Nat.le_refl _) (.bool false)).setCell (p := ⟨w.heap.size + 1, 0, none⟩) (Nat.le_succ _) (.slice A 0 c)).setCell (p := ⟨w.heap.size + 1, 1, none⟩) (Nat.le_succ _) (.bool false)
      refine ret_ref_set rfl rfl ((heap_setCell_other _ _ _ _ (by simp)).trans C1.out) ⟨?_, ?_, ?_, hB⟩
      · rw [HV0.out, dl_zero]; simp
      · rw [HV0.out, dl_zero]; exact fun k d h => by simp at h
      · rw [HV0.out, dl_zero]; exact Nat.zero_le _
    · obtain ⟨d, hdk⟩ : ∃ d, ds[k - 1]? = some d := ⟨_, List.getElem?_eq_getElem (by omega)⟩
      obtain ⟨a, rfl, hcell⟩ := (HD.out.below HB.out) (k - 1) d hdk
      have kp : (0 : Int) < (k : Int) := by omega
      have kw : wrap64 ((k : Int) - 1) = ((k - 1 : Nat) : Int) := by have := HLL.out; unfold wrap64; omega
      have q1 : ((k - 1 : Nat) : Int) < (k : Int) := by omega
      have q2 : k - 1 < k := by omega
      have q3 : ((k - 1 : Nat) : Int) ≤ (c : Int) := by have := HC.out; omega
      have q4 : k - 1 ≤ c := by have := HC.out; omega
      generalize hk1 : k - 1 = k1 at *
      by_cases hz : d = 0
      · subst hz
        have HN := Lib.hid (show val (ds.take k1) = val ds by rw [← HV.out, show k = k1 + 1 by omega, val_take_zero ds k1 hdk])
        have HK := Lib.hid (And.intro hk hk1)
        clear hdk hk hk1
        go_wp2
        exact ⟨⟨k1, by have := HK.out; omega, HN, Lib.hid (HB.out.setCell (Nat.le_refl _) _), Lib.hid (heap_setCell_same _ _ 0 _ _ _ C0.out), Lib.hid ((heap_setCell_other _ _ _ _ (by simp)).trans C1.out)⟩, by rw [lenAt_row C0.out, lenAt_row (heap_setCell_same _ _ 0 _ _ _ C0.out)]; exact q2⟩
      · have kz : ((d : Int) == 0) = false := by rw [beq_eq_false_iff_ne]; omega
        have HE := Lib.hid (show dl (val ds) = ds.take k by
          rw [← HV.out]
          refine dl_val _ (fun x hx => HX.out x (List.mem_of_mem_take hx)) ?_
          rw [List.getLast?_eq_getElem?, List.length_take, Nat.min_eq_left hk, hk1, List.getElem?_take_of_lt (by omega), hdk]
          simpa using hz)
        have HKL := Lib.hid hk
        have kl : ((k : Int) == 0) = false := by rw [beq_eq_false_iff_ne]; omega
        have kl2 : ¬ (k = 0) := by omega
        have z1 : wr.cell? ⟨w.heap.size, 1, none⟩ = some (.bool neg) := cell_of_row wr w.heap.size 1 _ _ _ C0.out
        have y0 : wr.cell? ⟨w.heap.size + 1, 0, none⟩ = some (.slice none 0 0) := cell_of_row wr (w.heap.size + 1) 0 _ _ _ C1.out
        have y1 : wr.cell? ⟨w.heap.size + 1, 1, none⟩ = some (.bool false) := cell_of_row wr (w.heap.size + 1) 1 _ _ _ C1.out
        have g0 := frozen_of_row wr (w.heap.size + 1) 0 _ _ C1.out
        have g1 := frozen_of_row wr (w.heap.size + 1) 1 _ _ C1.out
        clear hdk hk hk1 hz
        go_wp2
        have hB := (HB.out.setCell (p := ⟨w.heap.size + 1, 0, none⟩) (Nat.le_succ _) (.slice (some a) k c)).setCell (p := ⟨w.heap.size + 1, 1, none⟩) (Nat.le_succ _) (.bool neg)
        have hlen : (dl (val ds)).length = k := by rw [HE.out, List.length_take]; have := HKL.out; omega
        have hv : 0 < val ds := by
          rcases Nat.eq_zero_or_pos (val ds) with h | h
          · rw [h, dl_zero] at hlen; exact absurd hlen.symm kl2
          · exact h
        refine ret_ref_set rfl rfl C1.out ⟨?_, ?_, ?_, hB⟩
        · rw [hlen, decide_eq_true hv, Bool.and_true]
        · rw [HE.out]; exact (HD.out.below hB).take k
        · rw [hlen]; have := HKL.out; have := HC.out; omega
end Go.Proofs.Ytpjaijibkjmgiaa.TickW


/- The document's numbers: digit, compare, plus. -/
namespace Go.Proofs.Ytpjaijibkjmgiaa.TickW
open Go.RowKit
theorem digit_any (A : Option Addr) (c i : Nat) (ds : List Nat) (w : World) (hd : DL w A ds) : 
    Calls Try.prog 57 #[.slice A ds.length c, .int .i64 (i : Int)] w fun e w' => e = .returned (.int .u32 ((ds.getD i 0 : Nat) : Int)) ∧ w' = w := by
  by_cases h : i < ds.length
  · obtain ⟨a, rfl, hc⟩ := hd i (ds[i]) (List.getElem?_eq_getElem h)
    have e : ds.getD i 0 = ds[i] := by simp [List.getD, h]
    rw [e]
    generalize ds[i] = d at *
    have h1 : (i : Int) < (ds.length : Int) := by omega
    clear hd e
    go_enter Try.func57, Try.ntmps57
    go_wp2
    go_ret
    exact ⟨rfl, rfl⟩
  · have e : ds.getD i 0 = 0 := by simp [List.getD, Nat.le_of_not_lt h]
    rw [e]
    have h1 : ¬ (i : Int) < (ds.length : Int) := by omega
    clear hd e
    go_enter Try.func57, Try.ntmps57
    go_wp2
    go_ret
    exact ⟨rfl, rfl⟩
theorem dl_len_lt {x y : Nat} (h : (dl x).length < (dl y).length) : x < y := by
  have h1 := (dl_lt_length y (dl x).length).1 h
  have h2 : ¬ 0 < x / 65536 ^ (dl x).length := fun h3 => Nat.lt_irrefl _ ((dl_lt_length x _).2 h3)
  rcases Nat.lt_or_ge x y with h4 | h4
  · exact h4
  · exact absurd (Nat.lt_of_lt_of_le h1 (Nat.div_le_div_right h4)) h2
def cmpI (x y : Nat) : Int := if x < y then -1 else if y < x then 1 else 0
theorem pow_split (x k : Nat) : x / 65536 ^ k = x / 65536 ^ (k + 1) * 65536 + x / 65536 ^ k % 65536 := by
  rw [Nat.pow_succ, ← Nat.div_div_eq_div_mul]
  omega
theorem lt_of_div {x y p : Nat} (h : x / p < y / p) : x < y := by
  rcases Nat.lt_or_ge x y with h1 | h1
  · exact h1
  · exact absurd h (Nat.not_lt.2 (Nat.div_le_div_right h1))
set_option maxHeartbeats 2000000 in
set_option maxRecDepth 100000 in
theorem compare_any (A B : Option Addr) (c c2 x y : Nat) (w : World) (ha : DL w A (dl x)) (hb : DL w B (dl y)) (hl : (dl x).length ≤ 1000) :
    Calls Try.prog 52 #[.slice A (dl x).length c, .slice B (dl y).length c2] w fun e w' => e = .returned (.int .i64 (cmpI x y)) ∧ Below w.heap.size w w' := by
  have HA := Lib.hid ha
  have HB := Lib.hid hb
  clear ha hb
  rcases Nat.lt_trichotomy (dl x).length (dl y).length with h | h | h
  · have hxy := dl_len_lt h
    have e : cmpI x y = -1 := if_pos hxy
    have k1 : (((dl x).length : Int) != ((dl y).length : Int)) = true := by rw [bne_iff_ne]; omega
    have k2 : ((dl x).length : Int) < ((dl y).length : Int) := by omega
    rw [e]
    clear h hxy e hl
    go_enter Try.func52, Try.ntmps52
    go_wp2
    go_ret
    exact ⟨rfl, Below.refl _ _⟩
  · have HX : Hid ((dl y).length = (dl x).length) := Lib.hid h.symm
    rw [← h]
    have k1 : (((dl x).length : Int) != ((dl x).length : Int)) = false := by simp
    have e6 : wrap64 (((dl x).length : Int) - 1) = ((dl x).length : Int) - 1 := by unfold wrap64; omega
    have HL := Lib.hid hl
    clear h hl
    go_enter Try.func52, Try.ntmps52
    go_wp2_with fail
    go_loopw [5] (fun i wr => ∃ (k : Nat) (z : Int), k ≤ (dl x).length ∧ i = .int .i64 z ∧ Hid (z = (k : Int) - 1) ∧ Hid (x / 65536 ^ k = y / 65536 ^ k) ∧ Hid (Below w.heap.size w wr)) (fun i _ => (intOf i + 1).toNat)
    case atStart => 
      refine ⟨(dl x).length, _, Nat.le_refl _, rfl, Lib.hid e6, Lib.hid ?_, Lib.hid (Below.refl _ _)⟩
      have h1 : x / 65536 ^ (dl x).length = 0 := Nat.eq_zero_of_not_pos (fun h => Nat.lt_irrefl _ ((dl_lt_length x _).2 h))
      have h2 : y / 65536 ^ (dl y).length = 0 := Nat.eq_zero_of_not_pos (fun h => Nat.lt_irrefl _ ((dl_lt_length y _).2 h))
      rw [HX.out] at h2
      rw [h1, h2]
    case round =>
      clear e6
      obtain ⟨k, z, hk, rfl, HZ, HE, HW⟩ := hrel
      rcases Nat.eq_zero_or_pos k with rfl | hp
      · have hz : z = -1 := by have := HZ.out; omega
        subst hz
        have hxy : x = y := by have := HE.out; simpa using this
        have e : cmpI x y = 0 := by unfold cmpI; rw [if_neg (by omega), if_neg (by omega)]
        have HC := Lib.hid e
        clear hxy e
        go_wp2
        go_ret
        exact ⟨by rw [HC.out]; rfl, HW.out⟩
      · obtain ⟨q, hq⟩ : ∃ q, k = q + 1 := ⟨k - 1, by omega⟩
        subst hq
        have hz : z = (q : Int) := by have := HZ.out; omega
        subst hz
        have gx := dl_get x q
        rw [if_pos ((dl_lt_length x q).1 hk)] at gx
        have gy := dl_get y q
        rw [if_pos ((dl_lt_length y q).1 (by rw [HX.out]; exact hk))] at gy
        obtain ⟨a, rfl, hca⟩ := (HA.out.below HW.out) q _ gx
        obtain ⟨b, rfl, hcb⟩ := (HB.out.below HW.out) q _ gy
        have px := pow_split x q
        have py := pow_split y q
        rw [HE.out] at px
        generalize hdx : x / 65536 ^ q % 65536 = dx at *
        generalize hdy : y / 65536 ^ q % 65536 = dy at *
        have k2 : (q : Int) < ((dl x).length : Int) := by omega
        have k3 : q < (dl x).length := by omega
        have k4 : (0 : Int) ≤ (q : Int) := by omega
        have HKQ := Lib.hid hk
        rcases Nat.lt_trichotomy dx dy with hc | hc | hc
        · have hxy : x < y := lt_of_div (p := 65536 ^ q) (by omega)
          have HC := Lib.hid (show cmpI x y = -1 from if_pos hxy)
          have kc : (dx : Int) < (dy : Int) := by omega
          clear gx gy px py hdx hdy hp hk hxy hc
          go_wp2_with fail
          go_region
          go_wp2
          go_ret
          exact ⟨by rw [HC.out]; rfl, HW.out.drew⟩
        · have hqq : x / 65536 ^ q = y / 65536 ^ q := by omega
          have HQQ := Lib.hid hqq
          subst hc
          have kc : ¬ ((dx : Int) < (dx : Int)) := by omega
          have e7 : wrap64 ((q : Int) - 1) = (q : Int) - 1 := by have := HL.out; unfold wrap64; omega
          clear gx gy px py hdx hdy hp hk hqq
          go_wp2_with fail
          go_region
          go_wp2_with fail
          go_region
          go_wp2
          go_roundw
          case rel => exact ⟨q, (q : Int) - 1, by have := HKQ.out; omega, by first | rfl | rw [e7], Lib.hid rfl, HQQ, Lib.hid HW.out.drew.drew⟩
          case measure => simp only [intOf]; first | omega | (rw [e7]; omega)
        · have hxy : y < x := lt_of_div (p := 65536 ^ q) (by omega)
          have HC := Lib.hid (show cmpI x y = 1 by unfold cmpI; rw [if_neg (by omega), if_pos hxy])
          have kc : ¬ (dx : Int) < (dy : Int) := by omega
          have kc2 : (dy : Int) < (dx : Int) := by omega
          clear gx gy px py hdx hdy hp hk hxy hc
          go_wp2_with fail
          go_region
          go_wp2_with fail
          go_region
          go_wp2
          go_ret
          exact ⟨by rw [HC.out]; rfl, HW.out.drew.drew⟩
  · have hxy := dl_len_lt h
    have e : cmpI x y = 1 := by unfold cmpI; rw [if_neg (by omega), if_pos hxy]
    have k1 : (((dl x).length : Int) != ((dl y).length : Int)) = true := by rw [bne_iff_ne]; omega
    have k2 : ¬ ((dl x).length : Int) < ((dl y).length : Int) := by omega
    rw [e]
    clear h hxy e hl
    go_enter Try.func52, Try.ntmps52
    go_wp2
    go_ret
    exact ⟨rfl, Below.refl _ _⟩
end Go.Proofs.Ytpjaijibkjmgiaa.TickW


/- The document's numbers: plus. -/
namespace Go.Proofs.Ytpjaijibkjmgiaa.TickW
open Go.RowKit
theorem dl_getD (x k : Nat) : (dl x).getD k 0 = x / 65536 ^ k % 65536 := by
  have h := dl_get x k
  show ((dl x)[k]?).getD 0 = _
  rw [h]
  split
  · rfl
  · rename_i h0
    have : x / 65536 ^ k = 0 := Nat.eq_zero_of_not_pos h0
    rw [this]; rfl
theorem div_pow_succ (x k : Nat) : x / 65536 ^ (k + 1) = x / 65536 ^ k / 65536 := by rw [Nat.pow_succ, ← Nat.div_div_eq_div_mul]
theorem own_slice {w : World} {base k : Nat} {v : Value} {xs : List Value} {t : TypeId} (h : w.ownsRow base t 1 v k xs) : ∃ A cap, v = .slice A k cap := by
  rcases h.2 with ⟨hv, h0⟩ | ⟨g, cap, cur, hv, _⟩
  · subst h0; exact ⟨none, 0, hv⟩
  · exact ⟨_, cap, hv⟩
set_option maxHeartbeats 4000000 in
set_option maxRecDepth 100000 in
theorem refplus_any (A B : Option Addr) (c c2 x y : Nat) (w : World) (ha : DL w A (dl x)) (hb : DL w B (dl y)) (hl : (dl (x + y)).length ≤ 1000) :
    Calls Try.prog 51 #[.slice A (dl x).length c, .slice B (dl y).length c2] w fun e w' => (∃ A' c', e = .returned (.slice A' (dl (x + y)).length c') ∧ DL w' A' (dl (x + y)) ∧ (dl (x + y)).length ≤ c') ∧ Below w.heap.size w w' := by
  obtain ⟨i0, hi, hz0, hz1, hz2⟩ := u32_info
  have HI := Lib.hid hi
  have HZ0 := Lib.hid hz0
  have HZ1 := Lib.hid hz1
  have HZ2 := Lib.hid hz2
  have HA := Lib.hid ha
  have HB := Lib.hid hb
  have HL := Lib.hid hl
  have LX := Lib.hid (dl_lt_length x)
  have LY := Lib.hid (dl_lt_length y)
  have LS := Lib.hid (dl_lt_length (x + y))
  clear hi hz0 hz1 hz2 ha hb hl
  go_enter Try.func51, Try.ntmps51
  go_wp2_with fail
  go_loopw [5, 6, 7] (fun r cy i wr => ∃ (k b : Nat), k ≤ (dl (x + y)).length ∧ i = .int .i64 (k : Int) ∧ cy = .int .u32 (b : Int) ∧ Hid (x / 65536 ^ k + y / 65536 ^ k + b = (x + y) / 65536 ^ k ∧ b ≤ 1) ∧ Hid (Below w.heap.size w wr) ∧ Hid (wr.ownsRow w.heap.size 29 1 r k (u32s ((dl (x + y)).take k))) ∧ Hid (w.heap.size ≤ wr.heap.size)) (fun _ _ i _ => (dl (x + y)).length - (intOf i).toNat)
  case atStart => exact ⟨0, 0, Nat.zero_le _, rfl, rfl, Lib.hid (by simp), Lib.hid (Below.refl _ _), Lib.hid ⟨rfl, Or.inl ⟨rfl, rfl⟩⟩, Lib.hid (Nat.le_refl _)⟩
  case round =>
    obtain ⟨k, b, hk, rfl, rfl, HV, HW, HO, HS⟩ := hrel
    obtain ⟨R, cap, rfl⟩ := own_slice HO.out
    obtain ⟨hv, hb1⟩ := HV.out
    have lx := LX.out k
    have ly := LY.out k
    have ls := LS.out k
    have HQX := Lib.hid (div_pow_succ x k)
    have HQY := Lib.hid (div_pow_succ y k)
    have HQS := Lib.hid (div_pow_succ (x + y) k)
    have HT := Lib.hid (dl_take_succ (x + y) k)
    have DX := fun W (h : DL W A (dl x)) => digit_any A c k (dl x) W h
    have DY := fun W (h : DL W B (dl y)) => digit_any B c2 k (dl y) W h
    rw [dl_getD] at DX DY
    generalize hX : x / 65536 ^ k = X at *
    generalize hY : y / 65536 ^ k = Y at *
    generalize hS : (x + y) / 65536 ^ k = S at *
    obtain ⟨n, hn⟩ : ∃ n, n = (dl (x + y)).length := ⟨_, rfl⟩
    rw [← hn] at hk ls
    clear hX hY hS
    have HLX := Lib.hid lx
    have HLY := Lib.hid ly
    have HLS := Lib.hid ls
    clear lx ly ls
    have HLN := Lib.hid hn
    clear hn hv
    go_upto_region 4 with (fail)
    go_cut [22] (fun s22 wx => s22 = .bool (decide (0 < S)) ∧ wx = wr)
    case first =>
      clear DX DY
      by_cases h1 : k < (dl x).length
      · have HE := Lib.hid (show decide (0 < S) = true by have := HLX.out.1 h1; have := HV.out; exact decide_eq_true (by omega))
        have q1 : (k : Int) < ((dl x).length : Int) := by omega
        go_wp2
        go_meet
        exact ⟨by rw [HE.out], rfl⟩
      · have q1 : ¬ (k : Int) < ((dl x).length : Int) := by omega
        by_cases h2 : k < (dl y).length
        · have HE := Lib.hid (show decide (0 < S) = true by have := HLY.out.1 h2; have := HV.out; exact decide_eq_true (by omega))
          have q2 : (k : Int) < ((dl y).length : Int) := by omega
          go_wp2
          go_meet
          exact ⟨by rw [HE.out], rfl⟩
        · have q2 : ¬ (k : Int) < ((dl y).length : Int) := by omega
          have HE := Lib.hid (show decide (0 < S) = decide (0 < b) by
            have h3 := mt HLX.out.2 h1
            have h4 := mt HLY.out.2 h2
            have := HV.out
            exact decide_eq_decide.2 ⟨fun h => by omega, fun h => by omega⟩)
          go_wp2
          go_meet
          exact ⟨by rw [HE.out], rfl⟩
    case rest =>
      obtain ⟨rfl, rfl⟩ := hcut
      have hb1 := HV.out.2
      by_cases hS : 0 < S
      · have kS : decide (0 < S) = true := decide_eq_true hS
        rw [kS]
        have hlt := HLS.out.2 hS
        have HK := Lib.hid hlt
        have hT := HT.out (by rw [← HLN.out]; exact hlt)
        have HT2 := Lib.hid hT
        have HS0 := Lib.hid hS
        have hs : ((X % 65536 + Y % 65536 + b) % 65536) = S % 65536 := by have := HV.out; omega
        have hs2 : X / 65536 + Y / 65536 + (X % 65536 + Y % 65536 + b) / 65536 = S / 65536 := by have := HV.out; omega
        have hs3 : (X % 65536 + Y % 65536 + b) / 65536 ≤ 1 := by omega
        have HV2 := Lib.hid (And.intro hs2 hs3)
        have HD := Lib.hid hs
        have dx1 : X % 65536 < 65536 := Nat.mod_lt _ (by decide)
        have dy1 : Y % 65536 < 65536 := Nat.mod_lt _ (by decide)
        have HNL := Lib.hid (show n ≤ 1000 by rw [HLN.out]; exact HL.out)
        clear hT HT hS hs hs2 hs3 kS hlt hk
        generalize X % 65536 = dx at *
        generalize Y % 65536 = dy at *
        go_upto_region 7 with (first
          | (go_at_call 57; (with_reducible refine (DX _ (HA.out.below HW.out)).mono ?_); rintro e w2 ⟨rfl, rfl⟩)
          | (go_at_call 57; (with_reducible refine (DY _ (HB.out.below HW.out)).mono ?_); rintro e w2 ⟨rfl, rfl⟩))
        clear DX DY
        go_wp2_with (at_builtin; refine wpList_append_own _ rfl _ _ 58 rfl w.heap.size 29 i0 (.int .u32 0) 1 4 Try.underlying58 HI.out HZ0.out HZ1.out HZ2.out rfl (by decide) _ _ _ rfl (HO.out.alloc _) ⟨w2.heap.size, 0, none⟩ 1 1 [.int .u32 (((dx : Int) + (dy : Int) + (b : Int)) % 65536)] rfl rfl ?c1 ?c2 ?c3 ?c4 ?c5 ?_)
        case c1 => exact (cell_one_new _ _ _)
        case c2 => intro u hu; simp at hu; subst hu; rfl
        case c3 => have := HK.out; have := HNL.out; unfold maxLen; omega
        case c4 => have := HK.out; have := HNL.out; omega
        case c5 => rw [World.size_alloc]; have := HS.out; omega
        intro v' w3 hown2 hgrow _
        obtain ⟨A', cap', rfl⟩ := own_slice hown2
        have HO2 := Lib.hid (show w3.ownsRow w.heap.size 29 1 (.slice A' (k + 1) cap') (k + 1) (u32s ((dl (x + y)).take (k + 1))) by
          rw [HT2.out, ← HD.out]; unfold u32s; rw [List.map_append]
          have e : ((((dx + dy + b) % 65536 : Nat) : Int)) = ((dx : Int) + (dy : Int) + (b : Int)) % 65536 := by omega
          show w3.ownsRow w.heap.size 29 1 (.slice A' (k + 1) cap') (k + 1) (_ ++ [.int .u32 (((dx + dy + b) % 65536 : Nat) : Int)])
          rw [e]
          exact hown2)
        have HW2 : Hid (Below w.heap.size w2 w3) := Lib.hid (((Below.refl w.heap.size w2).alloc HS.out _).grown hgrow (by rw [World.size_alloc]; have := HS.out; omega) (fun g hg => (HO.out.lt g hg).1))
        have e2 : (((dx : Int) + (dy : Int) + (b : Int)) / 65536) = (((dx + dy + b) / 65536 : Nat) : Int) := by omega
        have HE2 := Lib.hid e2
        have kk : k ≤ 1000 := by have := HK.out; have := HNL.out; omega
        clear hown2 hgrow e2
        go_wp2
        go_roundw
        case rel => exact ⟨k + 1, (dx + dy + b) / 65536, by rw [← HLN.out]; exact HK.out, by first | rfl | go_num, by first | rfl | rw [HE2.out] | skip, Lib.hid (by rw [HQX.out, HQY.out, HQS.out]; exact HV2.out), Lib.hid (HW.out.trans HW2.out), HO2, Lib.hid (Nat.le_trans HS.out (by have := HW2.out.size; omega))⟩
        case measure => have := HK.out; have := HLN.out; simp only [intOf]; omega
      · have kS : decide (0 < S) = false := decide_eq_false hS
        rw [kS]
        obtain rfl : k = n := by have := HLS.out; omega
        have hO := HO.out
        rw [HLN.out, List.take_length, ← HLN.out] at hO
        have HO2 := Lib.hid hO
        clear hO kS hS hk DX DY
        go_wp2
        go_ret
        obtain ⟨A2, c3, he, hd, hcc⟩ := own_dl HO2.out HLN.out.symm
        exact ⟨⟨A2, c3, by rw [← HLN.out, ← he]; rfl, hd, by rw [← HLN.out]; exact hcc⟩, HW.out⟩
end Go.Proofs.Ytpjaijibkjmgiaa.TickW


/- The document's numbers: minus. -/
namespace Go.Proofs.Ytpjaijibkjmgiaa.TickW
open Go.RowKit
/-- The lowest digits. -/
def dg (m : Nat) : Nat → List Nat
  | 0 => []
  | k + 1 => dg m k ++ [m / 65536 ^ k % 65536]
theorem dg_length (m k : Nat) : (dg m k).length = k := by
  induction k with
  | zero => rfl
  | succ k ih => rw [dg, List.length_append, ih]; rfl
theorem dg_lt (m k : Nat) : ∀ d ∈ dg m k, d < 65536 := by
  induction k with
  | zero => intro d h; simp [dg] at h
  | succ k ih =>
    intro d h
    rw [dg, List.mem_append] at h
    rcases h with h | h
    · exact ih d h
    · simp only [List.mem_singleton] at h; subst h; exact Nat.mod_lt _ (by decide)
theorem val_dg (m k : Nat) : val (dg m k) = m % 65536 ^ k := by
  induction k with
  | zero => simp [dg, val, Nat.mod_one]
  | succ k ih =>
    rw [dg, val_append, dg_length, ih, Nat.pow_succ, Nat.mod_mul, Nat.mul_comm]
theorem val_dg_all {m k : Nat} (h : m < 65536 ^ k) : val (dg m k) = m := by rw [val_dg, Nat.mod_eq_of_lt h]
theorem lt_pow_len (x : Nat) : x < 65536 ^ (dl x).length := by
  have h : ¬ 0 < x / 65536 ^ (dl x).length := fun h => Nat.lt_irrefl _ ((dl_lt_length x _).2 h)
  rcases Nat.lt_or_ge x (65536 ^ (dl x).length) with h1 | h1
  · exact h1
  · exact absurd (Nat.div_pos h1 (Nat.pow_pos (by decide))) h
set_option maxHeartbeats 4000000 in
set_option maxRecDepth 100000 in
theorem refminus_any (A B : Option Addr) (c c2 x y : Nat) (w : World) (ha : DL w A (dl x)) (hb : DL w B (dl y)) (hxy : y ≤ x) (hl : (dl x).length ≤ 1000) :
    Calls Try.prog 53 #[.slice A (dl x).length c, .slice B (dl y).length c2] w fun e w' => (∃ A' c' ds, e = .returned (.slice A' ds.length c') ∧ DL w' A' ds ∧ ds.length ≤ c' ∧ ds.length ≤ 1000 ∧ (∀ d ∈ ds, d < 65536) ∧ val ds = x - y) ∧ Below w.heap.size w w' := by
  obtain ⟨i0, hi, hz0, hz1, hz2⟩ := u32_info
  have HI := Lib.hid hi
  have HZ0 := Lib.hid hz0
  have HZ1 := Lib.hid hz1
  have HZ2 := Lib.hid hz2
  have HA := Lib.hid ha
  have HB := Lib.hid hb
  obtain ⟨z, hz⟩ : ∃ z, x = y + z := ⟨x - y, by omega⟩
  have HXY := Lib.hid hz
  have HL := Lib.hid hl
  clear hi hz0 hz1 hz2 ha hb hl hxy hz
  go_enter Try.func53, Try.ntmps53
  go_wp2_with fail
  go_loopw [5, 6, 7] (fun r cy i wr => ∃ (k b : Nat), k ≤ (dl x).length ∧ i = .int .i64 (k : Int) ∧ cy = .int .u32 (b : Int) ∧ Hid (y / 65536 ^ k + z / 65536 ^ k + b = x / 65536 ^ k ∧ b ≤ 1) ∧ Hid (Below w.heap.size w wr) ∧ Hid (wr.ownsRow w.heap.size 29 1 r k (u32s (dg z k))) ∧ Hid (w.heap.size ≤ wr.heap.size)) (fun _ _ i _ => (dl x).length - (intOf i).toNat)
  case atStart => exact ⟨0, 0, Nat.zero_le _, rfl, rfl, Lib.hid (by have := HXY.out; simp; omega), Lib.hid (Below.refl _ _), Lib.hid ⟨rfl, Or.inl ⟨rfl, rfl⟩⟩, Lib.hid (Nat.le_refl _)⟩
  case round =>
    obtain ⟨k, b, hk, rfl, rfl, HV, HW, HO, HS⟩ := hrel
    obtain ⟨R, cap, rfl⟩ := own_slice HO.out
    have hb1 := HV.out.2
    by_cases hlt : k < (dl x).length
    · have gx := dl_get x k
      rw [if_pos ((dl_lt_length x k).1 hlt)] at gx
      obtain ⟨a, hae, hca⟩ := (HA.out.below HW.out) k _ gx
      have HQX := Lib.hid (div_pow_succ x k)
      have HQY := Lib.hid (div_pow_succ y k)
      have HQZ := Lib.hid (div_pow_succ z k)
      have DY := fun W (h : DL W B (dl y)) => digit_any B c2 k (dl y) W h
      rw [dl_getD] at DY
      obtain ⟨n, hn⟩ : ∃ n, n = (dl x).length := ⟨_, rfl⟩
      rw [← hn] at hlt hk ⊢
      have HDG := Lib.hid (show dg z (k + 1) = dg z k ++ [z / 65536 ^ k % 65536] from rfl)
      generalize hX : x / 65536 ^ k = X at *
      generalize hY : y / 65536 ^ k = Y at *
      generalize hZ : z / 65536 ^ k = Z at *
      have HLN := Lib.hid hn
      have HNL := Lib.hid (show n ≤ 1000 by rw [hn]; exact HL.out)
      have HK := Lib.hid hlt
      have dx1 : X % 65536 < 65536 := Nat.mod_lt _ (by decide)
      have dy1 : Y % 65536 < 65536 := Nat.mod_lt _ (by decide)
      have hs : ((65536 + X % 65536 - Y % 65536 - b) % 65536) = Z % 65536 := by have := HV.out; omega
      have hs2 : Y / 65536 + Z / 65536 + (1 - (65536 + X % 65536 - Y % 65536 - b) / 65536) = X / 65536 := by have := HV.out; omega
      have HV2 := Lib.hid hs2
      have HD := Lib.hid hs
      have q1 : (k : Int) < (n : Int) := by omega
      subst hae
      clear hX hY hZ hs hs2 hn gx hk
      generalize X % 65536 = dx at *
      generalize Y % 65536 = dy at *
      have q0 : (0 : Int) ≤ (k : Int) := by omega
      go_wp2_with fail
      go_region_held3 (fun w' => w'.cell? (a.add k) = some (.int .u32 (dx : Int))) (go_keep) (first | (go_at_call 57; (with_reducible refine (DY _ (HB.out.below HW.out.drew)).mono ?_); rintro e w2 ⟨rfl, hw2⟩; cases hw2))
      have e9 : IntKind.u32.wrap (IntKind.u32.wrap (IntKind.u32.wrap (65536 + (dx : Int)) - (dy : Int)) - (b : Int)) = 65536 + (dx : Int) - (dy : Int) - (b : Int) := by simp [IntKind.wrap, IntKind.bits, IntKind.signed]; omega
      rw [e9]
      have HWd := Lib.hid (show Below w.heap.size w wr.drew from HW.out.drew)
      have HOd := Lib.hid (show wr.drew.ownsRow w.heap.size 29 1 (Value.slice R k cap) k (u32s (dg z k)) from HO.out)
      have HSd := Lib.hid (show w.heap.size ≤ wr.drew.heap.size from HS.out)
      clear DY hca HW HO HS e9
      rename_i hHd
      clear hHd
      generalize wr.drew = w2 at *
      go_wp2_with (at_builtin; refine wpList_append_own _ rfl _ _ 58 rfl w.heap.size 29 i0 (.int .u32 0) 1 4 Try.underlying58 HI.out HZ0.out HZ1.out HZ2.out rfl (by decide) _ _ _ rfl (HOd.out.alloc _) ⟨w2.heap.size, 0, none⟩ 1 1 [.int .u32 ((65536 + (dx : Int) - (dy : Int) - (b : Int)) % 65536)] rfl rfl ?c1 ?c2 ?c3 ?c4 ?c5 ?_)
      case c1 => exact (cell_one_new _ _ _)
      case c2 => intro u hu; simp at hu; subst hu; rfl
      case c3 => have := HK.out; have := HNL.out; unfold maxLen; omega
      case c4 => have := HK.out; have := HNL.out; omega
      case c5 => rw [World.size_alloc]; have := HSd.out; omega
      intro v' w3 hown2 hgrow _
      obtain ⟨A', cap', rfl⟩ := own_slice hown2
      have HO2 := Lib.hid (show w3.ownsRow w.heap.size 29 1 (.slice A' (k + 1) cap') (k + 1) (u32s (dg z (k + 1))) by
        rw [HDG.out, ← HD.out]; unfold u32s; rw [List.map_append]
        have e : ((((65536 + dx - dy - b) % 65536 : Nat) : Int)) = (65536 + (dx : Int) - (dy : Int) - (b : Int)) % 65536 := by omega
        show w3.ownsRow w.heap.size 29 1 (.slice A' (k + 1) cap') (k + 1) (_ ++ [.int .u32 (((65536 + dx - dy - b) % 65536 : Nat) : Int)])
        rw [e]
        exact hown2)
      have HW2 : Hid (Below w.heap.size w2 w3) := Lib.hid (((Below.refl w.heap.size w2).alloc HSd.out _).grown hgrow (by rw [World.size_alloc]; have := HSd.out; omega) (fun g hg => (HOd.out.lt g hg).1))
      have HE2 := Lib.hid (show 1 - ((65536 + (dx : Int) - (dy : Int) - (b : Int)) / 65536) = ((1 - (65536 + dx - dy - b) / 65536 : Nat) : Int) by omega)
      have kk : k ≤ 1000 := by have := HK.out; have := HNL.out; omega
      clear hown2 hgrow
      go_wp2
      go_roundw
      case rel => exact ⟨k + 1, 1 - (65536 + dx - dy - b) / 65536, HK.out, by first | rfl | go_num, by first | rfl | rw [HE2.out], Lib.hid (by rw [HQX.out, HQY.out, HQZ.out]; exact ⟨HV2.out, by omega⟩), Lib.hid (HWd.out.trans HW2.out), HO2, Lib.hid (Nat.le_trans HSd.out (by have := HW2.out.size; omega))⟩
      case measure => have := HK.out; simp only [intOf]; omega
    · obtain rfl : k = (dl x).length := by omega
      have HO2 := Lib.hid HO.out
      have HV2 := Lib.hid (val_dg_all (m := z) (k := (dl x).length) (by have := lt_pow_len x; have := HXY.out; omega))
      clear hlt hk
      go_wp2
      go_ret
      obtain ⟨A2, c3, he, hd, hcc⟩ := own_dl HO2.out (dg_length z _)
      refine ⟨⟨A2, c3, dg z (dl x).length, ?_, hd, ?_, ?_, dg_lt _ _, ?_⟩, HW.out⟩
      · rw [dg_length, ← he]; rfl
      · rw [dg_length]; exact hcc
      · rw [dg_length]; exact HL.out
      · rw [HV2.out]; have := HXY.out; omega
end Go.Proofs.Ytpjaijibkjmgiaa.TickW


/- The document's numbers: Add, Turn. -/
namespace Go.Proofs.Ytpjaijibkjmgiaa.TickW
open Go.RowKit
theorem pow_mono {n k : Nat} (h : n ≤ k) : 65536 ^ n ≤ 65536 ^ k := Nat.pow_le_pow_right (by decide) h
theorem lt_pow_of_len {x n : Nat} (h : (dl x).length ≤ n) : x < 65536 ^ n := Nat.lt_of_lt_of_le (lt_pow_len x) (pow_mono h)
theorem dl_len_mono {x y : Nat} (h : x ≤ y) : (dl x).length ≤ (dl y).length := dl_length_le (Nat.lt_of_le_of_lt h (lt_pow_len y))
theorem dl_len_add {x y n : Nat} (hx : (dl x).length ≤ n) (hy : (dl y).length ≤ n) : (dl (x + y)).length ≤ n + 1 := by
  refine dl_length_le ?_
  have h1 := lt_pow_of_len hx
  have h2 := lt_pow_of_len hy
  rw [Nat.pow_succ]
  omega
theorem refplus_ans (A B : Option Addr) (c c2 x y : Nat) (w : World) (ha : DL w A (dl x)) (hb : DL w B (dl y)) (hl : (dl (x + y)).length ≤ 1000) :
    Calls Try.prog 51 #[.slice A (dl x).length c, .slice B (dl y).length c2] w fun e w' => (∃ A' c' ds, e = .returned (.slice A' ds.length c') ∧ DL w' A' ds ∧ ds.length ≤ c' ∧ ds.length ≤ 1000 ∧ (∀ d ∈ ds, d < 65536) ∧ val ds = x + y) ∧ Below w.heap.size w w' := by
  refine (refplus_any A B c c2 x y w ha hb hl).mono ?_
  rintro e w' ⟨⟨A', c', he, hd, hc⟩, hb⟩
  exact ⟨⟨A', c', dl (x + y), he, hd, hc, hl, dl_lt _, val_dl _⟩, hb⟩
theorem setRef_below {w W : World} {g : Nat} (h : Below w.heap.size w W) (hg : w.heap.size ≤ g) (x y : Value) : Below w.heap.size w ((W.setCell ⟨g, 0, none⟩ x).setCell ⟨g, 1, none⟩ y) := (h.setCell (p := ⟨g, 0, none⟩) hg x).setCell (p := ⟨g, 1, none⟩) hg y
theorem dl_store {w : World} {A : Option Addr} {ds : List Nat} {g : Nat} {A0 : Option Addr} {n0 c0 : Nat} {t : TypeId} {b : Bool} {fr : Nat × Nat} (h : DL w A ds) (hg : w.heap[g]? = some (.cells #[.slice A0 n0 c0, .bool b] t fr)) (x y : Value) : DL ((w.setCell ⟨g, 0, none⟩ x).setCell ⟨g, 1, none⟩ y) A ds := by
  intro k d hd
  obtain ⟨a, ha, hc⟩ := h k d hd
  refine ⟨a, ha, ?_⟩
  have z0 : w.cell? ⟨g, 0, none⟩ = some (.slice A0 n0 c0) := cell_of_row w g 0 _ _ _ hg
  have z1 : w.cell? ⟨g, 1, none⟩ = some (.bool b) := cell_of_row w g 1 _ _ _ hg
  rw [World.cell?_setCell_other, World.cell?_setCell_other]
  · exact hc
  · intro h1; rw [h1, hc] at z0; cases z0
  · intro h1; rw [h1, hc] at z1; cases z1
theorem alloc3 (w : World) (o1 o2 o3 : Obj) : ((((w.alloc o1).alloc o2).alloc o3).heap[w.heap.size]? = some o1 ∧ (((w.alloc o1).alloc o2).alloc o3).heap[w.heap.size + 1]? = some o2 ∧ (((w.alloc o1).alloc o2).alloc o3).heap[w.heap.size + 1 + 1]? = some o3) ∧ Below w.heap.size w (((w.alloc o1).alloc o2).alloc o3) := by
  have s2 : (w.alloc o1).heap.size = w.heap.size + 1 := World.size_alloc _ _
  have s3 : ((w.alloc o1).alloc o2).heap.size = w.heap.size + 1 + 1 := by rw [World.size_alloc, s2]
  exact ⟨⟨row_below (al (Below.refl _ _) _) (row_below (al (Below.refl _ _) _) (heap_alloc_new w o1)), row_below (al (Below.refl _ _) _) (heap_at s2 o2), heap_at s3 o3⟩, al (al (al (Below.refl _ _) _) _) _⟩
set_option maxHeartbeats 4000000 in
set_option maxRecDepth 100000 in
theorem refAdd_raw (A B : Option Addr) (c c2 x y : Nat) (p q : Bool) (w : World) (ha : DL w A (dl x)) (hb : DL w B (dl y)) (hl : (dl x).length ≤ 900) (hl2 : (dl y).length ≤ 900) :
    Calls Try.prog 44 #[.agg #[.slice A (dl x).length c, .bool p], .agg #[.slice B (dl y).length c2, .bool q]] w fun e w' => (∃ (A' : Option Addr) (c' m : Nat) (n : Bool), e = .returned (.agg #[.slice A' (dl m).length c', .bool (n && decide (0 < m))]) ∧ DL w' A' (dl m) ∧ (dl m).length ≤ c' ∧ ((p = q ∧ n = p ∧ m = x + y) ∨ (p ≠ q ∧ y ≤ x ∧ n = p ∧ m = x - y) ∨ (p ≠ q ∧ x < y ∧ n = q ∧ m = y - x))) ∧ Below w.heap.size w w' := by
  have HA := Lib.hid ha
  have HB := Lib.hid hb
  have HLS := Lib.hid (show (dl (x + y)).length ≤ 1000 by have := dl_len_add hl hl2; omega)
  have HLX := Lib.hid (show (dl x).length ≤ 1000 by omega)
  have HLY := Lib.hid (show (dl y).length ≤ 1000 by omega)
  clear ha hb hl hl2
  go_enter Try.func44, Try.ntmps44
  go_upto_region 1 with (fail)
  have h3 := alloc3 w (Obj.cells #[.slice A (dl x).length c, .bool p] 86) (Obj.cells #[.slice B (dl y).length c2, .bool q] 86) (Obj.cells #[.slice none 0 0, .bool false] 86)
  generalize ((w.alloc (Obj.cells #[.slice A (dl x).length c, .bool p] 86)).alloc (Obj.cells #[.slice B (dl y).length c2, .bool q] 86)).alloc (Obj.cells #[.slice none 0 0, .bool false] 86) = W0 at *
  obtain ⟨⟨h1, h2, h3⟩, hb0⟩ := h3
  have BW := Lib.hid hb0
  have R := Lib.hid h3
  have HA0 := Lib.hid (HA.out.below hb0)
  have HB0 := Lib.hid (HB.out.below hb0)
  have g0 : W0.cell? ⟨w.heap.size, 0, none⟩ = some (.slice A (dl x).length c) := cell_of_row W0 _ 0 _ _ _ h1
  have g1 : W0.cell? ⟨w.heap.size, 1, none⟩ = some (.bool p) := cell_of_row W0 _ 1 _ _ _ h1
  have g2 : W0.cell? ⟨w.heap.size + 1, 0, none⟩ = some (.slice B (dl y).length c2) := cell_of_row W0 _ 0 _ _ _ h2
  have g3 : W0.cell? ⟨w.heap.size + 1, 1, none⟩ = some (.bool q) := cell_of_row W0 _ 1 _ _ _ h2
  have a0 := Lib.hid g0
  have a1 := Lib.hid g1
  have a2 := Lib.hid g2
  have a3 := Lib.hid g3
  clear h1 h2 h3 hb0
  cases hpq : (p == q) with
  | true =>
    have hpq2 : p = q := by simpa using hpq
    have HPQ := Lib.hid hpq2
    go_wp2_with fail
    clear g0 g1 g2 g3 hpq hpq2
    have P := refplus_ans A B c c2 x y W0.drew (HA0.out.below (Below.refl _ W0).drew) (HB0.out.below (Below.refl _ W0).drew) HLS.out
    go_region_held3 (fun w' => w'.cell? ⟨w.heap.size, 0, none⟩ = some (.slice A (dl x).length c) ∧ w'.cell? ⟨w.heap.size, 1, none⟩ = some (.bool p) ∧ w'.cell? ⟨w.heap.size + 1, 0, none⟩ = some (.slice B (dl y).length c2) ∧ w'.cell? ⟨w.heap.size + 1, 1, none⟩ = some (.bool q)) (first | exact ⟨a0.out, a1.out, a2.out, a3.out⟩ | exact ⟨k0.out, k1.out, k2.out, k3.out⟩ | exact ⟨l0.out, l1.out, l2.out, l3.out⟩ | exact ⟨set2_keep l0.out (show w.heap.size < w.heap.size + 1 + 1 by omega) _ _, set2_keep l1.out (show w.heap.size < w.heap.size + 1 + 1 by omega) _ _, set2_keep l2.out (show w.heap.size + 1 < w.heap.size + 1 + 1 by omega) _ _, set2_keep l3.out (show w.heap.size + 1 < w.heap.size + 1 + 1 by omega) _ _⟩) (first
      | (go_at_call 51; (with_reducible refine P.mono ?_); rintro e w1 ⟨⟨A1, c1, ds, rfl, hd1, hc1, hl1, hx1, hv1⟩, b1⟩; have HD1 := Lib.hid hd1; have HC1 := Lib.hid hc1; have HL1 := Lib.hid hl1; have HX1 := Lib.hid hx1; have HV1 := Lib.hid hv1; have k0 := Lib.hid (cell_keep (show W0.drew.cell? _ = some _ from a0.out) b1); have k1 := Lib.hid (cell_keep (show W0.drew.cell? _ = some _ from a1.out) b1); have k2 := Lib.hid (cell_keep (show W0.drew.cell? _ = some _ from a2.out) b1); have k3 := Lib.hid (cell_keep (show W0.drew.cell? _ = some _ from a3.out) b1); have r1 := Lib.hid (row_below b1 (show W0.drew.heap[w.heap.size + 1 + 1]? = _ from R.out)); have B1 := Lib.hid (BW.out.trans ((of_drew b1).mono BW.out.size)); clear hd1 hc1 hl1 hx1 hv1 b1)
      | (go_at_call 50; (with_reducible refine (trim_any A1 c1 ds p _ HD1.out HX1.out HC1.out HL1.out).mono ?_); rintro e w2 ⟨rfl, hd2, hc2, b2⟩; have HD2 := Lib.hid hd2; have HC2 := Lib.hid hc2; have l0 := Lib.hid (cell_keep k0.out b2); have l1 := Lib.hid (cell_keep k1.out b2); have l2 := Lib.hid (cell_keep k2.out b2); have l3 := Lib.hid (cell_keep k3.out b2); have r2 := Lib.hid (row_below b2 r1.out); have B2 := Lib.hid (B1.out.trans (b2.mono B1.out.size)); have z0 : w2.cell? ⟨w.heap.size + 1 + 1, 0, none⟩ = some (.slice none 0 0) := cell_of_row w2 (w.heap.size + 1 + 1) 0 _ _ _ r2.out; have z1 : w2.cell? ⟨w.heap.size + 1 + 1, 1, none⟩ = some (.bool false) := cell_of_row w2 (w.heap.size + 1 + 1) 1 _ _ _ r2.out; have fr0 := frozen_of_row w2 (w.heap.size + 1 + 1) 0 _ _ r2.out; have fr1 := frozen_of_row w2 (w.heap.size + 1 + 1) 1 _ _ r2.out; rw [HV1.out] at *; clear hd2 hc2 b2))
    go_wp2
    refine ret_ref_set rfl rfl r2.out ⟨⟨A1, c1, _, p, rfl, dl_store HD2.out r2.out _ _, HC2.out, ?_⟩, setRef_below B2.out (by omega) _ _⟩
    exact Or.inl ⟨HPQ.out, rfl, rfl⟩
  | false =>
    have hpq2 : p ≠ q := by simpa using hpq
    have HPQ := Lib.hid hpq2
    have CM := compare_any A B c c2 x y W0 HA0.out HB0.out HLX.out
    obtain ⟨z, hz⟩ : ∃ z, z = cmpI x y := ⟨_, rfl⟩
    rw [← hz] at CM
    have HZ := Lib.hid hz
    clear hpq2 hz
    by_cases hyx : y ≤ x
    · have kz : z ≥ 0 := by rw [HZ.out]; unfold cmpI; rw [if_neg (by omega)]; split <;> omega
      have HYX := Lib.hid hyx
      clear hyx
      go_upto_region 4 with ((go_at_call 52; (with_reducible refine CM.mono ?_); rintro e w3 ⟨rfl, b3⟩))
      clear g0 g1 g2 g3 hpq kz CM
      have BW2 := Lib.hid (BW.out.trans (b3.mono BW.out.size))
      have R2 := Lib.hid (row_below b3 R.out)
      have HA2 := Lib.hid (HA.out.below BW2.out)
      have HB2 := Lib.hid (HB.out.below BW2.out)
      have c0 := Lib.hid (cell_keep a0.out b3)
      have c1 := Lib.hid (cell_keep a1.out b3)
      have c2' := Lib.hid (cell_keep a2.out b3)
      have c3 := Lib.hid (cell_keep a3.out b3)
      clear BW R HA0 HB0 a0 a1 a2 a3 b3
      clear W0
      obtain ⟨W0, hW0⟩ : ∃ W0, W0 = w3 := ⟨_, rfl⟩
      subst hW0
      have BW := BW2
      have R := R2
      have HA0 := HA2
      have HB0 := HB2
      have a0 := c0
      have a1 := c1
      have a2 := c2'
      have a3 := c3
      clear BW2 R2 HA2 HB2 c0 c1 c2' c3
      have P := refminus_any A B c c2 x y W0.drew (HA0.out.below (Below.refl _ W0).drew) (HB0.out.below (Below.refl _ W0).drew) HYX.out HLX.out
      go_region_held3 (fun w' => w'.cell? ⟨w.heap.size, 0, none⟩ = some (.slice A (dl x).length c) ∧ w'.cell? ⟨w.heap.size, 1, none⟩ = some (.bool p) ∧ w'.cell? ⟨w.heap.size + 1, 0, none⟩ = some (.slice B (dl y).length c2) ∧ w'.cell? ⟨w.heap.size + 1, 1, none⟩ = some (.bool q)) (first | exact ⟨a0.out, a1.out, a2.out, a3.out⟩ | exact ⟨k0.out, k1.out, k2.out, k3.out⟩ | exact ⟨l0.out, l1.out, l2.out, l3.out⟩ | exact ⟨set2_keep l0.out (show w.heap.size < w.heap.size + 1 + 1 by omega) _ _, set2_keep l1.out (show w.heap.size < w.heap.size + 1 + 1 by omega) _ _, set2_keep l2.out (show w.heap.size + 1 < w.heap.size + 1 + 1 by omega) _ _, set2_keep l3.out (show w.heap.size + 1 < w.heap.size + 1 + 1 by omega) _ _⟩) (first
        | (go_at_call 53; (with_reducible refine P.mono ?_); rintro e w1 ⟨⟨A1, c1, ds, rfl, hd1, hc1, hl1, hx1, hv1⟩, b1⟩; have HD1 := Lib.hid hd1; have HC1 := Lib.hid hc1; have HL1 := Lib.hid hl1; have HX1 := Lib.hid hx1; have HV1 := Lib.hid hv1; have k0 := Lib.hid (cell_keep (show W0.drew.cell? _ = some _ from a0.out) b1); have k1 := Lib.hid (cell_keep (show W0.drew.cell? _ = some _ from a1.out) b1); have k2 := Lib.hid (cell_keep (show W0.drew.cell? _ = some _ from a2.out) b1); have k3 := Lib.hid (cell_keep (show W0.drew.cell? _ = some _ from a3.out) b1); have r1 := Lib.hid (row_below b1 (show W0.drew.heap[w.heap.size + 1 + 1]? = _ from R.out)); have B1 := Lib.hid (BW.out.trans ((of_drew b1).mono BW.out.size)); clear hd1 hc1 hl1 hx1 hv1 b1)
        | (go_at_call 50; (with_reducible refine (trim_any A1 c1 ds p _ HD1.out HX1.out HC1.out HL1.out).mono ?_); rintro e w2 ⟨rfl, hd2, hc2, b2⟩; have HD2 := Lib.hid hd2; have HC2 := Lib.hid hc2; have l0 := Lib.hid (cell_keep k0.out b2); have l1 := Lib.hid (cell_keep k1.out b2); have l2 := Lib.hid (cell_keep k2.out b2); have l3 := Lib.hid (cell_keep k3.out b2); have r2 := Lib.hid (row_below b2 r1.out); have B2 := Lib.hid (B1.out.trans (b2.mono B1.out.size)); have z0 : w2.cell? ⟨w.heap.size + 1 + 1, 0, none⟩ = some (.slice none 0 0) := cell_of_row w2 (w.heap.size + 1 + 1) 0 _ _ _ r2.out; have z1 : w2.cell? ⟨w.heap.size + 1 + 1, 1, none⟩ = some (.bool false) := cell_of_row w2 (w.heap.size + 1 + 1) 1 _ _ _ r2.out; have fr0 := frozen_of_row w2 (w.heap.size + 1 + 1) 0 _ _ r2.out; have fr1 := frozen_of_row w2 (w.heap.size + 1 + 1) 1 _ _ r2.out; rw [HV1.out] at *; clear hd2 hc2 b2))
      go_wp2
      refine ret_ref_set rfl rfl r2.out ⟨⟨A1, c1, _, p, rfl, dl_store HD2.out r2.out _ _, HC2.out, ?_⟩, setRef_below B2.out (by omega) _ _⟩
      exact Or.inr (Or.inl ⟨HPQ.out, HYX.out, rfl, rfl⟩)
    · have kz : ¬ z ≥ 0 := by rw [HZ.out]; unfold cmpI; rw [if_pos (by omega)]; omega
      have HYX := Lib.hid (Nat.lt_of_not_le hyx)
      clear hyx
      go_upto_region 5 with ((go_at_call 52; (with_reducible refine CM.mono ?_); rintro e w3 ⟨rfl, b3⟩))
      clear g0 g1 g2 g3 hpq kz CM
      have BW2 := Lib.hid (BW.out.trans (b3.mono BW.out.size))
      have R2 := Lib.hid (row_below b3 R.out)
      have HA2 := Lib.hid (HA.out.below BW2.out)
      have HB2 := Lib.hid (HB.out.below BW2.out)
      have c0 := Lib.hid (cell_keep a0.out b3)
      have c1 := Lib.hid (cell_keep a1.out b3)
      have c2' := Lib.hid (cell_keep a2.out b3)
      have c3 := Lib.hid (cell_keep a3.out b3)
      clear BW R HA0 HB0 a0 a1 a2 a3 b3
      clear W0
      obtain ⟨W0, hW0⟩ : ∃ W0, W0 = w3 := ⟨_, rfl⟩
      subst hW0
      have BW := BW2
      have R := R2
      have HA0 := HA2
      have HB0 := HB2
      have a0 := c0
      have a1 := c1
      have a2 := c2'
      have a3 := c3
      clear BW2 R2 HA2 HB2 c0 c1 c2' c3
      have P := refminus_any B A c2 c y x W0.drew (HB0.out.below (Below.refl _ W0).drew) (HA0.out.below (Below.refl _ W0).drew) (Nat.le_of_lt HYX.out) HLY.out
      go_region_held3 (fun w' => w'.cell? ⟨w.heap.size, 0, none⟩ = some (.slice A (dl x).length c) ∧ w'.cell? ⟨w.heap.size, 1, none⟩ = some (.bool p) ∧ w'.cell? ⟨w.heap.size + 1, 0, none⟩ = some (.slice B (dl y).length c2) ∧ w'.cell? ⟨w.heap.size + 1, 1, none⟩ = some (.bool q)) (first | exact ⟨a0.out, a1.out, a2.out, a3.out⟩ | exact ⟨k0.out, k1.out, k2.out, k3.out⟩ | exact ⟨l0.out, l1.out, l2.out, l3.out⟩ | exact ⟨set2_keep l0.out (show w.heap.size < w.heap.size + 1 + 1 by omega) _ _, set2_keep l1.out (show w.heap.size < w.heap.size + 1 + 1 by omega) _ _, set2_keep l2.out (show w.heap.size + 1 < w.heap.size + 1 + 1 by omega) _ _, set2_keep l3.out (show w.heap.size + 1 < w.heap.size + 1 + 1 by omega) _ _⟩) (first
        | (go_at_call 53; (with_reducible refine P.mono ?_); rintro e w1 ⟨⟨A1, c1, ds, rfl, hd1, hc1, hl1, hx1, hv1⟩, b1⟩; have HD1 := Lib.hid hd1; have HC1 := Lib.hid hc1; have HL1 := Lib.hid hl1; have HX1 := Lib.hid hx1; have HV1 := Lib.hid hv1; have k0 := Lib.hid (cell_keep (show W0.drew.cell? _ = some _ from a0.out) b1); have k1 := Lib.hid (cell_keep (show W0.drew.cell? _ = some _ from a1.out) b1); have k2 := Lib.hid (cell_keep (show W0.drew.cell? _ = some _ from a2.out) b1); have k3 := Lib.hid (cell_keep (show W0.drew.cell? _ = some _ from a3.out) b1); have r1 := Lib.hid (row_below b1 (show W0.drew.heap[w.heap.size + 1 + 1]? = _ from R.out)); have B1 := Lib.hid (BW.out.trans ((of_drew b1).mono BW.out.size)); clear hd1 hc1 hl1 hx1 hv1 b1)
        | (go_at_call 50; (with_reducible refine (trim_any A1 c1 ds q _ HD1.out HX1.out HC1.out HL1.out).mono ?_); rintro e w2 ⟨rfl, hd2, hc2, b2⟩; have HD2 := Lib.hid hd2; have HC2 := Lib.hid hc2; have l0 := Lib.hid (cell_keep k0.out b2); have l1 := Lib.hid (cell_keep k1.out b2); have l2 := Lib.hid (cell_keep k2.out b2); have l3 := Lib.hid (cell_keep k3.out b2); have r2 := Lib.hid (row_below b2 r1.out); have B2 := Lib.hid (B1.out.trans (b2.mono B1.out.size)); have z0 : w2.cell? ⟨w.heap.size + 1 + 1, 0, none⟩ = some (.slice none 0 0) := cell_of_row w2 (w.heap.size + 1 + 1) 0 _ _ _ r2.out; have z1 : w2.cell? ⟨w.heap.size + 1 + 1, 1, none⟩ = some (.bool false) := cell_of_row w2 (w.heap.size + 1 + 1) 1 _ _ _ r2.out; have fr0 := frozen_of_row w2 (w.heap.size + 1 + 1) 0 _ _ r2.out; have fr1 := frozen_of_row w2 (w.heap.size + 1 + 1) 1 _ _ r2.out; rw [HV1.out] at *; clear hd2 hc2 b2))
      go_wp2
      refine ret_ref_set rfl rfl r2.out ⟨⟨A1, c1, _, q, rfl, dl_store HD2.out r2.out _ _, HC2.out, ?_⟩, setRef_below B2.out (by omega) _ _⟩
      exact Or.inr (Or.inr ⟨HPQ.out, HYX.out, rfl, rfl⟩)
end Go.Proofs.Ytpjaijibkjmgiaa.TickW


/- The document's numbers: Add, Turn, Int. -/
namespace Go.Proofs.Ytpjaijibkjmgiaa.TickW
open Go.RowKit
theorem refAdd_any (a b : Int) (va vb : Value) (w : World) (ha : WV w va a) (hb : WV w vb b) (la : (dl a.natAbs).length ≤ 900) (lb : (dl b.natAbs).length ≤ 900) :
    Calls Try.prog 44 #[va, vb] w fun e w' => (∃ v, e = .returned v ∧ WV w' v (a + b)) ∧ Below w.heap.size w w' := by
  obtain ⟨A, c, rfl, hA, _⟩ := ha
  obtain ⟨B, c2, rfl, hB, _⟩ := hb
  refine (refAdd_raw A B c c2 _ _ _ _ w hA hB la lb).mono ?_
  rintro e w' ⟨⟨A', c', m, n, rfl, hd, hc, h⟩, hw⟩
  have hk : m = (a + b).natAbs ∧ (n && decide (0 < m)) = decide (a + b < 0) := by
    rcases h with ⟨h1, h2, h3⟩ | ⟨h1, h2, h3, h4⟩ | ⟨h1, h2, h3, h4⟩
    · rw [decide_eq_decide] at h1
      subst h2; subst h3
      refine ⟨by omega, ?_⟩
      rw [← Bool.decide_and, decide_eq_decide]
      omega
    · rw [Ne, decide_eq_decide] at h1
      subst h3; subst h4
      refine ⟨by omega, ?_⟩
      rw [← Bool.decide_and, decide_eq_decide]
      omega
    · rw [Ne, decide_eq_decide] at h1
      subst h3; subst h4
      refine ⟨by omega, ?_⟩
      rw [← Bool.decide_and, decide_eq_decide]
      omega
  obtain ⟨h1, h2⟩ := hk
  subst h1
  exact ⟨⟨_, rfl, A', c', by rw [h2], hd, hc⟩, hw⟩
set_option maxHeartbeats 4000000 in
set_option maxRecDepth 100000 in
theorem refTurn_raw (A : Option Addr) (c x : Nat) (p : Bool) (w : World) (ha : DL w A (dl x)) (hc : (dl x).length ≤ c) (hl : (dl x).length ≤ 1000) :
    Calls Try.prog 54 #[.agg #[.slice A (dl x).length c, .bool p]] w fun e w' => (e = .returned (.agg #[.slice A (dl x).length c, .bool (!p && decide (0 < x))]) ∧ DL w' A (dl x)) ∧ Below w.heap.size w w' := by
  have HA := Lib.hid ha
  have HC := Lib.hid hc
  have HL := Lib.hid hl
  clear ha hc hl
  go_enter Try.func54, Try.ntmps54
  go_upto_region 1 with (fail)
  have hb0 := al (al (Below.refl w.heap.size w) (Obj.cells #[.slice A (dl x).length c, .bool p] 86)) (Obj.cells #[.slice none 0 0, .bool false] 86)
  have h1 := heap_alloc2_old w (Obj.cells #[.slice A (dl x).length c, .bool p] 86) (Obj.cells #[.slice none 0 0, .bool false] 86)
  have h2 := heap_alloc2_new w (Obj.cells #[.slice A (dl x).length c, .bool p] 86) (Obj.cells #[.slice none 0 0, .bool false] 86)
  generalize (w.alloc (Obj.cells #[.slice A (dl x).length c, .bool p] 86)).alloc (Obj.cells #[.slice none 0 0, .bool false] 86) = W0 at *
  have BW := Lib.hid hb0
  have R := Lib.hid h2
  have HA0 := Lib.hid (HA.out.below hb0)
  have g0 : W0.cell? ⟨w.heap.size, 0, none⟩ = some (.slice A (dl x).length c) := cell_of_row W0 _ 0 _ _ _ h1
  have g1 : W0.cell? ⟨w.heap.size, 1, none⟩ = some (.bool p) := cell_of_row W0 _ 1 _ _ _ h1
  clear h1 h2 hb0
  have T := trim_any A c (dl x) (!p) W0 HA0.out (dl_lt x) HC.out HL.out
  rw [val_dl] at T
  go_wp2_with (first | (go_at_call 50; (with_reducible refine T.mono ?_); rintro e w2 ⟨rfl, hd2, hc2, b2⟩; have HD2 := Lib.hid hd2; have r2 := Lib.hid (row_below b2 R.out); have B2 := Lib.hid (BW.out.trans (b2.mono BW.out.size)); have z0 : w2.cell? ⟨w.heap.size + 1, 0, none⟩ = some (.slice none 0 0) := cell_of_row w2 (w.heap.size + 1) 0 _ _ _ r2.out; have z1 : w2.cell? ⟨w.heap.size + 1, 1, none⟩ = some (.bool false) := cell_of_row w2 (w.heap.size + 1) 1 _ _ _ r2.out; have fr0 := frozen_of_row w2 (w.heap.size + 1) 0 _ _ r2.out; have fr1 := frozen_of_row w2 (w.heap.size + 1) 1 _ _ r2.out; clear hd2 hc2 b2))
  exact ret_ref_set rfl rfl r2.out ⟨⟨rfl, dl_store HD2.out r2.out _ _⟩, setRef_below B2.out (by omega) _ _⟩
theorem refTurn_any (a : Int) (va : Value) (w : World) (ha : WV w va a) (la : (dl a.natAbs).length ≤ 900) :
    Calls Try.prog 54 #[va] w fun e w' => (∃ v, e = .returned v ∧ WV w' v (-a)) ∧ Below w.heap.size w w' := by
  obtain ⟨A, c, rfl, hA, hc⟩ := ha
  refine (refTurn_raw A c _ _ w hA hc (by omega)).mono ?_
  rintro e w' ⟨⟨rfl, hd⟩, hw⟩
  refine ⟨⟨_, rfl, A, c, ?_, by rw [Int.natAbs_neg]; exact hd, by rw [Int.natAbs_neg]; exact hc⟩, hw⟩
  rw [Int.natAbs_neg]
  have e : (!decide (a < 0) && decide (0 < a.natAbs)) = decide (-a < 0) := by
    rw [← decide_not, ← Bool.decide_and, decide_eq_decide]
    omega
  rw [e]
end Go.Proofs.Ytpjaijibkjmgiaa.TickW


/- The document's numbers: Int. -/
namespace Go.Proofs.Ytpjaijibkjmgiaa.TickW
open Go.RowKit
theorem ansIn {z : Int} (h : -9223372036854775808 ≤ z ∧ z ≤ 9223372036854775807) : ansV z = .tuple #[.int .i64 z, .int .i64 0] := if_pos h
theorem ansOut {z : Int} (h : ¬ (-9223372036854775808 ≤ z ∧ z ≤ 9223372036854775807)) : ansV z = .tuple #[.int .i64 0, .int .i64 4] := if_neg h
theorem len4 (m : Nat) : 4 < (dl m).length ↔ 18446744073709551616 ≤ m := by
  rw [dl_lt_length]
  show 0 < m / 18446744073709551616 ↔ _
  omega
set_option maxHeartbeats 4000000 in
set_option maxRecDepth 100000 in
theorem refInt_raw (A : Option Addr) (c m : Nat) (p : Bool) (z : Int) (hm : m = z.natAbs) (hp : p = decide (z < 0)) (w : World) (ha : DL w A (dl m)) :
    Calls Try.prog 42 #[.agg #[.slice A (dl m).length c, .bool p]] w fun e w' => e = .returned (ansV z) ∧ Below w.heap.size w w' := by
  have HA := Lib.hid ha
  have HP := Lib.hid hp
  have HM := Lib.hid hm
  clear ha hp hm
  by_cases h4 : 4 < (dl m).length
  · have hm := (len4 m).1 h4
    have HZ := Lib.hid (ansOut (z := z) (by have := HM.out; omega))
    have k4 : ((dl m).length : Int) > 4 := by omega
    rw [HZ.out]
    clear h4 hm
    go_enter Try.func42, Try.ntmps42
    go_wp2
    go_ret2
    exact ⟨rfl, al (Below.refl _ _) _⟩
  · have hm : m < 18446744073709551616 := by have := mt (len4 m).2 h4; omega
    have HMB := Lib.hid hm
    have k4 : ¬ ((dl m).length : Int) > 4 := by omega
    have h40 : (dl m).length ≤ 4 := by omega
    have HL := Lib.hid h40
    have e6 : wrap64 (((dl m).length : Int) - 1) = ((dl m).length : Int) - 1 := by unfold wrap64; omega
    have HE6 := Lib.hid e6
    clear h4 hm e6
    go_enter Try.func42, Try.ntmps42
    go_upto_block 0 with (fail)
    have hb0 := al (Below.refl w.heap.size w) (Obj.cells #[.slice A (dl m).length c, .bool p] 86)
    have h1 := heap_alloc_new w (Obj.cells #[.slice A (dl m).length c, .bool p] 86)
    generalize w.alloc (Obj.cells #[.slice A (dl m).length c, .bool p] 86) = W0 at *
    have HB := Lib.hid hb0
    have HA0 := Lib.hid (HA.out.below hb0)
    have g0 := Lib.hid (show W0.cell? ⟨w.heap.size, 0, none⟩ = some (.slice A (dl m).length c) from cell_of_row W0 _ 0 _ _ _ h1)
    have g1 := Lib.hid (show W0.cell? ⟨w.heap.size, 1, none⟩ = some (.bool p) from cell_of_row W0 _ 1 _ _ _ h1)
    clear h1 hb0 k4 h40
    go_wp2_with fail
    go_loopw [4, 5] (fun s i wr => ∃ (k q : Nat) (y : Int), k ≤ (dl m).length ∧ i = .int .i64 y ∧ s = .int .u64 (q : Int) ∧ Hid (y = (k : Int) - 1) ∧ Hid (q = m / 65536 ^ k) ∧ wr = W0) (fun _ i _ => (intOf i + 1).toNat)
    case atStart =>
      refine ⟨(dl m).length, 0, _, Nat.le_refl _, rfl, rfl, ?_, Lib.hid ?_, rfl⟩
      · first | exact HE6 | exact Lib.hid rfl
      · exact (Nat.eq_zero_of_not_pos (fun h => Nat.lt_irrefl _ ((dl_lt_length m _).2 h))).symm
    case round =>
      obtain ⟨k, q, y, hk, rfl, rfl, HY, HQ, rfl⟩ := hrel
      clear HE6
      rcases Nat.eq_zero_or_pos k with rfl | hpos
      · have hy : y = -1 := by have := HY.out; omega
        subst hy
        have hq : q = m := by have := HQ.out; simpa using this
        subst hq
        have hqb : q < 18446744073709551616 := HMB.out
        cases hpp : p with
        | true =>
          have hz : z < 0 := by have := HP.out; rw [hpp] at this; exact of_decide_eq_true this.symm
          by_cases hle : q ≤ 9223372036854775808
          · have HZ := Lib.hid (ansIn (z := z) (by have := HM.out; omega))
            have ke : (q : Int) ≤ 9223372036854775808 := by omega
            have e1 : wrap64 (IntKind.u64.wrap (-(q : Int))) = z := by have := HM.out; rw [IntKind.wrap_u64]; unfold wrap64; omega
            have h0 := g0.out
            have h1 := g1.out
            rw [hpp] at h1
            have HE1 := Lib.hid e1
            clear hz e1 hle hpp hk
            go_wp2
            go_ret2
            exact ⟨by rw [HZ.out, ← HE1.out]; rfl, HB.out⟩
          · have HZ := Lib.hid (ansOut (z := z) (by have := HM.out; omega))
            have ke : ¬ (q : Int) ≤ 9223372036854775808 := by omega
            have h0 := g0.out
            have h1 := g1.out
            rw [hpp] at h1
            clear hz hle hpp hk
            go_wp2
            go_ret2
            exact ⟨by rw [HZ.out]; rfl, HB.out⟩
        | false =>
          have hz : ¬ z < 0 := by have := HP.out; rw [hpp] at this; exact of_decide_eq_false this.symm
          by_cases hle : q < 9223372036854775808
          · have HZ := Lib.hid (ansIn (z := z) (by have := HM.out; omega))
            have ke : (q : Int) < 9223372036854775808 := by omega
            have e1 : (q : Int) = z := by have := HM.out; omega
            have h0 := g0.out
            have h1 := g1.out
            rw [hpp] at h1
            have HE1 := Lib.hid e1
            clear hz e1 hle hpp hk
            go_wp2
            go_ret2
            exact ⟨by rw [HZ.out, ← HE1.out]; rfl, HB.out⟩
          · have HZ := Lib.hid (ansOut (z := z) (by have := HM.out; omega))
            have ke : ¬ (q : Int) < 9223372036854775808 := by omega
            have h0 := g0.out
            have h1 := g1.out
            rw [hpp] at h1
            clear hz hle hpp hk
            go_wp2
            go_ret2
            exact ⟨by rw [HZ.out]; rfl, HB.out⟩
      · obtain ⟨j, hj⟩ : ∃ j, k = j + 1 := ⟨k - 1, by omega⟩
        subst hj
        have hy : y = (j : Int) := by have := HY.out; omega
        subst hy
        have hlt := (dl_lt_length m j).1 hk
        have gx := dl_get m j
        rw [if_pos hlt] at gx
        obtain ⟨a, hae, hca⟩ := HA0.out j _ gx
        have px := pow_split m j
        rw [← HQ.out] at px
        have hle : m / 65536 ^ j ≤ m := Nat.div_le_self _ _
        have hmb := HMB.out
        generalize hX : m / 65536 ^ j = X at *
        have HX := Lib.hid hX
        have hd : X % 65536 < 65536 := Nat.mod_lt _ (by decide)
        have hx4 : q * 65536 + X % 65536 < 18446744073709551616 := by omega
        have q1 : (j : Int) < ((dl m).length : Int) := by omega
        have q2 : j < (dl m).length := by omega
        have HPX := Lib.hid px
        have HKJ := Lib.hid hk
        have h40 := HL.out
        subst hae
        clear hX hlt gx hle hmb hk px
        generalize X % 65536 = d at *
        have h0 := g0.out
        have r1 : q * 65536 < 18446744073709551616 := Nat.lt_of_le_of_lt (Nat.le_add_right _ _) hx4
        go_wp2
        go_roundw
        case rel => exact ⟨j, X, (j : Int) - 1, by have := HKJ.out; omega, by first | rfl | go_num, by first | rfl | (rw [HPX.out]; go_num), Lib.hid rfl, Lib.hid HX.out.symm, trivial⟩
        case measure => simp only [intOf]; omega
theorem refInt_any (z : Int) (v : Value) (w : World) (hv : WV w v z) :
    Calls Try.prog 42 #[v] w fun e w' => e = .returned (ansV z) ∧ Below w.heap.size w w' := by
  obtain ⟨A, c, rfl, hA, _⟩ := hv
  exact refInt_raw A c _ _ z rfl rfl w hA
end Go.Proofs.Ytpjaijibkjmgiaa.TickW


/- The document's numbers: Sum. -/
namespace Go.Proofs.Ytpjaijibkjmgiaa.TickW
open Go.RowKit
/-- The digits of a whole number, how many they are, and its sign. -/
def dd (z : Int) : List Nat := dl z.natAbs
def dn (z : Int) : Nat := (dl z.natAbs).length
def sg (z : Int) : Bool := decide (z < 0)
theorem dn_le {z : Int} {n : Nat} (h : z.natAbs < 65536 ^ n) : dn z ≤ n := dl_length_le h
def WD (w : World) (A : Option Addr) (c : Nat) (z : Int) : Prop := DL w A (dd z) ∧ dn z ≤ c
theorem WD.below {w w1 : World} {A : Option Addr} {c : Nat} {z : Int} (h : WD w A c z) (b : Below w.heap.size w w1) : WD w1 A c z := ⟨h.1.below b, h.2⟩
theorem wv_iff {w : World} {v : Value} {z : Int} (h : WV w v z) : ∃ A c, v = .agg #[.slice A (dn z) c, .bool (sg z)] ∧ WD w A c z := by
  obtain ⟨A, c, hv, hd, hc⟩ := h
  exact ⟨A, c, hv, hd, hc⟩
theorem wd_wv {w : World} {A : Option Addr} {c : Nat} {z : Int} (h : WD w A c z) : WV w (.agg #[.slice A (dn z) c, .bool (sg z)]) z := ⟨A, c, rfl, h.1, h.2⟩
theorem wd_store {w : World} {A : Option Addr} {c : Nat} {z : Int} {g : Nat} {A0 : Option Addr} {n0 c0 : Nat} {t : TypeId} {b : Bool} {fr : Nat × Nat} (h : WD w A c z) (hg : w.heap[g]? = some (.cells #[.slice A0 n0 c0, .bool b] t fr)) (x y : Value) : WD ((w.setCell ⟨g, 0, none⟩ x).setCell ⟨g, 1, none⟩ y) A c z := ⟨dl_store h.1 hg x y, h.2⟩
theorem of_agg (n : Int) (h0 : -9223372036854775808 ≤ n) (h1 : n ≤ 9223372036854775807) (w : World) :
    Calls Try.prog 45 #[.int .i64 n] w fun e w' => (∃ A c, e = .returned (.agg #[.slice A (dn n) c, .bool (sg n)]) ∧ WD w' A c n) ∧ Below w.heap.size w w' := by
  refine (of_any n h0 h1 w).mono ?_
  rintro e w' ⟨⟨v, rfl, hv⟩, b⟩
  obtain ⟨A, c, rfl, h⟩ := wv_iff hv
  exact ⟨⟨A, c, rfl, h⟩, b⟩
theorem refAdd_agg (a b : Int) (A B : Option Addr) (c c2 : Nat) (w : World) (ha : WD w A c a) (hb : WD w B c2 b) (la : dn a ≤ 900) (lb : dn b ≤ 900) :
    Calls Try.prog 44 #[.agg #[.slice A (dn a) c, .bool (sg a)], .agg #[.slice B (dn b) c2, .bool (sg b)]] w fun e w' => (∃ A' c', e = .returned (.agg #[.slice A' (dn (a + b)) c', .bool (sg (a + b))]) ∧ WD w' A' c' (a + b)) ∧ Below w.heap.size w w' := by
  refine (refAdd_any a b _ _ w (wd_wv ha) (wd_wv hb) la lb).mono ?_
  rintro e w' ⟨⟨v, rfl, hv⟩, b⟩
  obtain ⟨A, c, rfl, h⟩ := wv_iff hv
  exact ⟨⟨A, c, rfl, h⟩, b⟩
theorem refTurn_agg (a : Int) (A : Option Addr) (c : Nat) (w : World) (ha : WD w A c a) (la : dn a ≤ 900) :
    Calls Try.prog 54 #[.agg #[.slice A (dn a) c, .bool (sg a)]] w fun e w' => (∃ A' c', e = .returned (.agg #[.slice A' (dn (-a)) c', .bool (sg (-a))]) ∧ WD w' A' c' (-a)) ∧ Below w.heap.size w w' := by
  refine (refTurn_any a _ w (wd_wv ha) la).mono ?_
  rintro e w' ⟨⟨v, rfl, hv⟩, b⟩
  obtain ⟨A, c, rfl, h⟩ := wv_iff hv
  exact ⟨⟨A, c, rfl, h⟩, b⟩
theorem refInt_agg (z : Int) (A : Option Addr) (c : Nat) (w : World) (ha : WD w A c z) :
    Calls Try.prog 42 #[.agg #[.slice A (dn z) c, .bool (sg z)]] w fun e w' => e = .returned (ansV z) ∧ Below w.heap.size w w' := refInt_any z _ w (wd_wv ha)
end Go.Proofs.Ytpjaijibkjmgiaa.TickW


/- A slice of int64 that came in, opened: the numbers that it holds; a row of our own as such numbers. -/
namespace Go.Proofs.Ytpjaijibkjmgiaa.TickW
open Go.ChangeShapes Go.WideShapes Go.ChangeAt Go.RowKit
section
variable {P : Program} {H : Type} {enc : TypeId × Value → H}
theorem i64_wf {n : Int} (h : (Lit.int .i64 n).wf = true) : -9223372036854775808 ≤ n ∧ n ≤ 9223372036854775807 := by
  simp [Lit.wf] at h
  exact h
end
def i64s (l : List Int) : List Value := l.map (Value.int .i64)
theorem i64_info : ∃ i0 : TypeInfo, Try.prog.info? 2 = some i0 ∧ i0.zero = some (.int .i64 0) ∧ i0.size = 1 ∧ i0.bytes = 8 :=
  info_parts (show (Try.prog.info? 2).map (fun i => (i.zero, i.size, i.bytes)) = some (some (.int .i64 0), 1, 8) by kernel_rfl)
theorem own_il {w : World} {base n : Nat} {v : Value} {xs : List Int} (h : w.ownsRow base 2 1 v n (i64s xs)) (hn : xs.length = n) (hb : ∀ x ∈ xs, -9223372036854775808 ≤ x ∧ x ≤ 9223372036854775807) : ∃ A c, v = .slice A n c ∧ IL w A xs ∧ n ≤ c := by
  rcases h.2 with ⟨hv, h0⟩ | ⟨g, cap, cur, hv, _, hg, h5, h6, h7, htake⟩
  · have hd : xs = [] := List.eq_nil_of_length_eq_zero (by omega)
    subst hd; subst h0
    exact ⟨none, 0, hv, fun k d hk => by simp at hk, Nat.le_refl _⟩
  · refine ⟨_, cap, hv, fun j y hy => ⟨_, rfl, ?_, hb y (List.mem_of_getElem? hy)⟩, h5⟩
    have hj : j < xs.length := by
      rcases Nat.lt_or_ge j xs.length with h4 | h4
      · exact h4
      · rw [List.getElem?_eq_none h4] at hy; cases hy
    have ha : (⟨g, 0, none⟩ : Addr).add j = ⟨g, j, none⟩ := by unfold Addr.add; split <;> simp_all
    have h5 : (i64s xs)[j]? = some (.int .i64 y) := by unfold i64s; rw [List.getElem?_map, hy]; rfl
    rw [← htake, List.getElem?_take_of_lt (by omega), Array.getElem?_toList] at h5
    rw [ha]
    unfold World.cell?
    simp only [hg]
    exact h5
theorem IL.cells {w : World} {a : Addr} {xs : List Int} (h : IL w (some a) xs) (j : Nat) (u : Value) (hj : (i64s xs)[j]? = some u) : w.cell? (a.add j) = some u := by
  unfold i64s at hj
  rw [List.getElem?_map] at hj
  cases hx : xs[j]? with
  | none => rw [hx] at hj; cases hj
  | some x =>
    rw [hx] at hj
    obtain ⟨b, hb, hc, _⟩ := h j x hx
    cases hb
    cases hj
    exact hc
end Go.Proofs.Ytpjaijibkjmgiaa.TickW


/- The document's numbers: what Mul reckons with. -/
namespace Go.Proofs.Ytpjaijibkjmgiaa.TickW
open Go.RowKit
theorem row_get {w : World} {g : Nat} {rs : List Nat} (h : w.heap[g]? = some (.cells (u32s rs).toArray 29 (0, 0))) {k d : Nat} (hk : rs[k]? = some d) : w.cell? ⟨g, k, none⟩ = some (.int .u32 (d : Int)) := by
  rw [cell_of_row w g k _ _ _ h, List.getElem?_toArray]
  unfold u32s
  rw [List.getElem?_map, hk]
  rfl
theorem row_dl {w : World} {g : Nat} {rs : List Nat} (h : w.heap[g]? = some (.cells (u32s rs).toArray 29 (0, 0))) : DL w (some ⟨g, 0, none⟩) rs := by
  intro k d hk
  refine ⟨_, rfl, ?_⟩
  have ha : (⟨g, 0, none⟩ : Addr).add k = ⟨g, k, none⟩ := by unfold Addr.add; split <;> simp_all
  rw [ha]
  exact row_get h hk
end Go.Proofs.Ytpjaijibkjmgiaa.TickW


/- The document's numbers: Mul, of whole numbers. -/
namespace Go.Proofs.Ytpjaijibkjmgiaa.TickW
open Go.RowKit
theorem dn_small {z : Int} (h0 : -9223372036854775808 ≤ z) (h1 : z ≤ 9223372036854775807) : dn z ≤ 4 := by
  refine dn_le ?_
  show z.natAbs < 18446744073709551616
  omega
theorem dn_add {a b : Int} {n : Nat} (ha : dn a ≤ n) (hb : dn b ≤ n) : dn (a + b) ≤ n + 1 := by
  have h := dl_len_add ha hb
  exact Nat.le_trans (dl_len_mono (by omega)) h
end Go.Proofs.Ytpjaijibkjmgiaa.TickW


/- The document's numbers: what Floor reckons with. -/
namespace Go.Proofs.Ytpjaijibkjmgiaa.TickW
open Go.RowKit
theorem bit_eq (X d : Nat) : ∀ k, k < 16 → (X * 65536 + d) / 2 ^ k % 2 = d / 2 ^ k % 2 := by
  intro k hk
  obtain ⟨e, he⟩ : ∃ e, 65536 = 2 ^ k * (2 * e) := ⟨2 ^ (15 - k), by
    rw [← Nat.mul_assoc, Nat.mul_right_comm, ← Nat.pow_add, Nat.mul_comm, ← Nat.pow_succ']
    rw [show (k + (15 - k)).succ = 16 by omega]⟩
  rw [he, show X * (2 ^ k * (2 * e)) = 2 ^ k * (2 * (X * e)) by ac_rfl, Nat.mul_add_div (Nat.pow_pos (by decide))]
  generalize X * e = u
  generalize d / 2 ^ k = v
  omega
theorem half_step (Z n : Nat) : Z / 2 ^ n = 2 * (Z / 2 ^ (n + 1)) + Z / 2 ^ n % 2 := by
  rw [Nat.pow_succ, ← Nat.div_div_eq_div_mul]
  omega
theorem fl_step {P Q R y b : Nat} (h : P = Q * y + R) : 2 * P + b = (Q + Q) * y + (R + R + b) := by
  rw [Nat.add_mul]; omega
theorem trim_dl (A : Option Addr) (c m : Nat) (neg : Bool) (w : World) (hd : DL w A (dl m)) (hc : (dl m).length ≤ c) (hl : (dl m).length ≤ 1000) :
    Calls Try.prog 50 #[.agg #[.slice A (dl m).length c, .bool neg]] w fun e w' =>
      e = .returned (.agg #[.slice A (dl m).length c, .bool (neg && decide (0 < m))]) ∧ DL w' A (dl m) ∧ Below w.heap.size w w' := by
  have T := trim_any A c (dl m) neg w hd (dl_lt m) hc hl
  rw [val_dl] at T
  exact T.mono fun e w' h => ⟨h.1, h.2.1, h.2.2.2⟩
theorem dl_one : dl 1 = [1] := by rw [dl_pos (by decide), dl_zero]
set_option maxRecDepth 100000 in
theorem field_digits (A : Option Addr) (n c : Nat) (b : Bool) (w : World) : (Instr.field 86 (.agg #[.slice A n c, .bool b]) 0).run Try.prog w = .ok (.slice A n c) w := by
  rfl
theorem bit_val (d m : Nat) : ((d : Int) / 2 ^ m).tmod 2 = ((d / 2 ^ m % 2 : Nat) : Int) := by
  have e : (d : Int) / 2 ^ m = ((d / 2 ^ m : Nat) : Int) := by rw [Int.natCast_ediv, Int.natCast_pow]; rfl
  rw [e]
  generalize d / 2 ^ m = v
  rw [Int.tmod_eq_emod_of_nonneg (by omega)]
  omega
theorem one_dl {w : World} {g : Nat} (h : w.heap[g]? = some (.cells #[.int .u32 1] 29 (0, 0))) : DL w (some ⟨g, 0, none⟩) (dl 1) := by
  rw [dl_one]
  exact row_dl (rs := [1]) h
theorem len_one : (dl 1).length = 1 := by rw [dl_one]; rfl
theorem floor_eq {a q r y : Int} (h : a = q * y + r) (h0 : 0 ≤ r) (h1 : r < y) : a / y = q := by
  rw [h, Int.add_comm, Int.add_mul_ediv_right _ _ (by omega), Int.ediv_eq_zero_of_lt h0 h1, Int.zero_add]
theorem floor_pos {x y Q R : Nat} (h : x = Q * y + R) (hr : R < y) : (x : Int) / (y : Int) = (Q : Int) := by
  refine floor_eq (r := (R : Int)) ?_ (by omega) (by omega)
  rw [h, Int.natCast_add, Int.natCast_mul]
theorem floor_neg0 {x y Q : Nat} (h : x = Q * y + 0) (hy : 0 < y) : (-(x : Int)) / (y : Int) = -(Q : Int) := by
  refine floor_eq (r := 0) ?_ (by omega) (by omega)
  rw [h, Nat.add_zero, Int.natCast_mul, Int.neg_mul, Int.add_zero]
theorem floor_neg1 {x y Q R : Nat} (h : x = Q * y + R) (hr : R < y) (h0 : 0 < R) : (-(x : Int)) / (y : Int) = -((Q : Int) + 1) := by
  refine floor_eq (r := (y : Int) - (R : Int)) ?_ (by omega) (by omega)
  rw [h, Int.natCast_add, Int.natCast_mul, Int.neg_mul, Int.add_mul, Int.one_mul]
  omega
theorem sg_nat (n : Nat) : sg (n : Int) = false := decide_eq_false (by omega)
theorem trim_nat (A : Option Addr) (c m : Nat) (w : World) (hd : DL w A (dl m)) (hc : (dl m).length ≤ c) (hl : (dl m).length ≤ 1000) :
    Calls Try.prog 50 #[.agg #[.slice A (dl m).length c, .bool false]] w fun e w' =>
      e = .returned (.agg #[.slice A (dn (m : Int)) c, .bool (sg (m : Int))]) ∧ WD w' A c (m : Int) ∧ Below w.heap.size w w' := by
  refine (trim_dl A c m false w hd hc hl).mono ?_
  rintro e w' ⟨rfl, hd2, hb⟩
  exact ⟨by rw [sg_nat]; rfl, ⟨hd2, hc⟩, hb⟩
end Go.Proofs.Ytpjaijibkjmgiaa.TickW


/- The document's numbers: Floor. -/
namespace Go.Proofs.Ytpjaijibkjmgiaa.TickW
open Go.RowKit
set_option maxHeartbeats 8000000 in
set_option maxRecDepth 100000 in
theorem refFloor_raw (A B : Option Addr) (c c2 x y : Nat) (p q : Bool) (w : World) (ha : DL w A (dl x)) (hb : DL w B (dl y)) (hy : 0 < y) (hl : (dl x).length ≤ 800) (hl2 : (dl y).length ≤ 800) (a : Int) (hpa : p = sg a) (hxa : x = a.natAbs) :
    Calls Try.prog 43 #[.agg #[.slice A (dl x).length c, .bool p], .agg #[.slice B (dl y).length c2, .bool q]] w fun e w' => (∃ (A' : Option Addr) (c' : Nat), e = .returned (.agg #[.slice A' (dn (a / (y : Int))) c', .bool (sg (a / (y : Int)))]) ∧ WD w' A' c' (a / (y : Int))) ∧ Below w.heap.size w w' := by
  have hfd := field_digits
  have HA := Lib.hid ha
  have HB := Lib.hid hb
  have HY := Lib.hid hy
  have HLX := Lib.hid hl
  have HLY := Lib.hid hl2
  have HPA := Lib.hid hpa
  have HXA := Lib.hid hxa
  have l1 : (dl x).length ≤ 800 := hl
  have l2 : (dl y).length ≤ 800 := hl2
  have e6 : wrap64 (((dl x).length : Int) - 1) = ((dl x).length : Int) - 1 := by unfold wrap64; omega
  have HE6 := Lib.hid e6
  clear ha hb hy hl hl2 hpa hxa e6 l2
  go_enter Try.func43, Try.ntmps43
  go_upto_region 1 with (fail)
  have h3 := alloc3 w (Obj.cells #[.slice A (dl x).length c, .bool p] 86) (Obj.cells #[.slice B (dl y).length c2, .bool q] 86) (Obj.cells #[.slice none 0 0, .bool false] 86)
  generalize ((w.alloc (Obj.cells #[.slice A (dl x).length c, .bool p] 86)).alloc (Obj.cells #[.slice B (dl y).length c2, .bool q] 86)).alloc (Obj.cells #[.slice none 0 0, .bool false] 86) = W0 at *
  obtain ⟨⟨h1, h2, h3⟩, hb0⟩ := h3
  have g0 : W0.cell? ⟨w.heap.size, 0, none⟩ = some (.slice A (dl x).length c) := cell_of_row W0 _ 0 _ _ _ h1
  have R1 := Lib.hid h1
  have R2 := Lib.hid h2
  have R3 := Lib.hid h3
  have BW := Lib.hid hb0
  have HA0 := Lib.hid (HA.out.below hb0)
  have HB0 := Lib.hid (HB.out.below hb0)
  clear h1 h2 h3 hb0
  go_wp2_with fail
  clear g0
  go_loopw [5, 6, 7] (fun qv rv iv wr => ∃ (k Q R : Nat) (A1 A2 : Option Addr) (c1 c3 : Nat) (z : Int), k ≤ (dl x).length ∧ iv = .int .i64 z ∧ qv = .slice A1 (dl Q).length c1 ∧ rv = .slice A2 (dl R).length c3 ∧ Hid (z = (k : Int) - 1) ∧ Hid (x / 65536 ^ k = Q * y + R ∧ R < y) ∧ Hid (Below W0.heap.size W0 wr) ∧ Hid (DL wr A1 (dl Q) ∧ (dl Q).length ≤ c1) ∧ Hid (DL wr A2 (dl R) ∧ (dl R).length ≤ c3)) (fun _ _ iv _ => (intOf iv + 1).toNat)
  case atStart =>
    refine ⟨(dl x).length, 0, 0, none, none, 0, 0, _, Nat.le_refl _, rfl, by rw [dl_zero]; rfl, by rw [dl_zero]; rfl, ?_, Lib.hid ⟨?_, HY.out⟩, Lib.hid (Below.refl _ _), Lib.hid ⟨?_, ?_⟩, Lib.hid ⟨?_, ?_⟩⟩
    · first | exact HE6 | exact Lib.hid rfl
    · rw [Nat.zero_mul]; exact Nat.eq_zero_of_not_pos (fun h => Nat.lt_irrefl _ ((dl_lt_length x _).2 h))
    · rw [dl_zero]; exact fun k d h => by simp at h
    · rw [dl_zero]; exact Nat.le_refl _
    · rw [dl_zero]; exact fun k d h => by simp at h
    · rw [dl_zero]; exact Nat.le_refl _
  case round =>
    obtain ⟨k, Q, R, A1, A2, c1, c3, z, hk, rfl, rfl, rfl, HZ, HV, HW, HQ, HR⟩ := hrel
    clear HE6
    rcases Nat.eq_zero_or_pos k with rfl | hpos
    · have hz : z = -1 := by have := HZ.out; omega
      subst hz
      have hxv : x = Q * y + R := by have := HV.out.1; simpa using this
      have hRy := HV.out.2
      have hQx : Q ≤ x := by
        have h3 : Q ≤ Q * y := Nat.le_mul_of_pos_right _ HY.out
        omega
      have LQ := Lib.hid (show (dl Q).length ≤ 800 from Nat.le_trans (dl_len_mono hQx) HLX.out)
      have LR := Lib.hid (show (dl R).length ≤ 1000 from Nat.le_trans (dl_len_mono (Nat.le_of_lt hRy)) (Nat.le_trans HLY.out (by decide)))
      have HXV := Lib.hid (And.intro hxv hRy)
      have T1 := trim_nat A1 c1 Q wr HQ.out.1 HQ.out.2 (Nat.le_trans LQ.out (by decide))
      clear hxv hRy hQx hk HZ HV l1
      go_upto_region 16 with (first | (go_at_call 50; (with_reducible refine T1.mono ?_); rintro e w2 ⟨rfl, hd, b2⟩; have D2 := Lib.hid hd; have W2 := Lib.hid (HW.out.trans (b2.mono HW.out.size)); have D2R := Lib.hid (And.intro (HR.out.1.below b2) HR.out.2); clear hd b2 T1))
      have b3 := al (Below.refl w2.heap.size w2) (Obj.cells #[.slice A1 (dn (Q : Int)) c1, .bool (sg (Q : Int))] 86)
      have h3 := heap_alloc_new w2 (Obj.cells #[.slice A1 (dn (Q : Int)) c1, .bool (sg (Q : Int))] 86)
      generalize w2.alloc (Obj.cells #[.slice A1 (dn (Q : Int)) c1, .bool (sg (Q : Int))] 86) = w3 at *
      obtain ⟨G, hG⟩ : ∃ G, G = w2.heap.size := ⟨_, rfl⟩
      rw [← hG] at h3 ⊢
      have W3 := Lib.hid (W2.out.trans (b3.mono W2.out.size))
      have D3 := Lib.hid (D2.out.below b3)
      have D3R := Lib.hid (And.intro (D2R.out.1.below b3) D2R.out.2)
      have RG := Lib.hid h3
      have HG := Lib.hid (show W0.heap.size ≤ G by rw [hG]; exact W2.out.size)
      have HS3 := Lib.hid (show w.heap.size + 1 + 1 < W0.heap.size from row_lt0 R3.out)
      clear b3 h3 D2 D2R W2 hG
      have g1 : w3.cell? ⟨w.heap.size, 1, none⟩ = some (.bool p) := cell_of_row w3 _ 1 _ _ _ ((W3.out.block _ (row_lt0 R1.out)).trans R1.out)
      cases p with
      | false =>
        have hz : a / (y : Int) = (Q : Int) := by
          have h1 : ¬ a < 0 := of_decide_eq_false HPA.out.symm
          have h2 : a = (x : Int) := by have := HXA.out; omega
          rw [h2]; exact floor_pos HXV.out.1 HXV.out.2
        have HZ := Lib.hid hz
        have e0 : w3.cell? ⟨G, 0, none⟩ = some (.slice A1 (dn (Q : Int)) c1) := cell_of_row w3 _ 0 _ _ _ RG.out
        have e1 : w3.cell? ⟨G, 1, none⟩ = some (.bool (sg (Q : Int))) := cell_of_row w3 _ 1 _ _ _ RG.out
        have RR := Lib.hid ((W3.out.block _ HS3.out).trans R3.out)
        have z0 : w3.cell? ⟨w.heap.size + 1 + 1, 0, none⟩ = some (.slice none 0 0) := cell_of_row w3 _ 0 _ _ _ RR.out
        have z1 : w3.cell? ⟨w.heap.size + 1 + 1, 1, none⟩ = some (.bool false) := cell_of_row w3 _ 1 _ _ _ RR.out
        have f0 := frozen_of_row w3 (w.heap.size + 1 + 1) 0 _ _ RR.out
        have f1 := frozen_of_row w3 (w.heap.size + 1 + 1) 1 _ _ RR.out
        clear hz
        go_wp2
        exact ret_ref_set rfl rfl RR.out ⟨⟨A1, c1, by rw [HZ.out], by rw [HZ.out]; exact wd_store D3.out RR.out _ _⟩, setRef_below (BW.out.trans (W3.out.mono BW.out.size)) (by omega) _ _⟩
      | true =>
        have T2 := trim_dl A2 c3 R false w3 D3R.out.1 D3R.out.2 LR.out
        go_upto_if 72 with (first | (go_at_call 50; (with_reducible refine T2.mono ?_); rintro e w4 ⟨rfl, hd, b4⟩; have W4 := Lib.hid (W3.out.trans (b4.mono W3.out.size)); have D4 := Lib.hid (D3.out.below b4); have RG4 := Lib.hid (row_below b4 RG.out); clear hd b4 T2))
        clear g1
        go_cut [72] (fun _ wx => ∃ (A' : Option Addr) (c' : Nat) (zz : Int), Hid (a / (y : Int) = -zz) ∧ Hid (dn zz ≤ 900) ∧ Hid (Below W0.heap.size W0 wx) ∧ Hid (wx.heap[G]? = some (.cells #[.slice A' (dn zz) c', .bool (sg zz)] 86 (0, 0))) ∧ Hid (WD wx A' c' zz))
        case first =>
          have hneg : a = -(x : Int) := by
            have h1 : a < 0 := of_decide_eq_true HPA.out.symm
            have := HXA.out
            omega
          rcases Nat.eq_zero_or_pos R with h0 | h0
          · have hl0 : (dl R).length = 0 := by rw [h0, dl_zero]; rfl
            have hz : a / (y : Int) = -(Q : Int) := by
              rw [hneg]
              refine floor_neg0 ?_ HY.out
              rw [← h0]; exact HXV.out.1
            have HZ := Lib.hid hz
            have k1 : ¬ ((dl R).length : Int) > 0 := by omega
            have k2 : ¬ 0 < (dl R).length := by omega
            clear hz hneg h0 hl0
            go_wp2
            go_meet
            exact ⟨A1, c1, (Q : Int), HZ, Lib.hid (Nat.le_trans LQ.out (by decide)), W4, RG4, D4⟩
          · have hl0 : 0 < (dl R).length := by
              rcases Nat.eq_zero_or_pos (dl R).length with h | h
              · exact absurd (dl_nil.1 (List.eq_nil_of_length_eq_zero h)) (by omega)
              · exact h
            have hz : a / (y : Int) = -((Q : Int) + 1) := by
              rw [hneg]
              exact floor_neg1 HXV.out.1 HXV.out.2 h0
            have HZ := Lib.hid hz
            have LQ1 : dn (Q : Int) ≤ 900 := Nat.le_trans LQ.out (by decide)
            have LQ2 : dn ((Q : Int) + 1) ≤ 900 := by
              have h1 : dn (Q : Int) ≤ 800 := LQ.out
              have h2 : dn (1 : Int) ≤ 800 := Nat.le_trans (dn_small (by decide) (by decide)) (by decide)
              have := dn_add h1 h2
              omega
            have LQ3 := Lib.hid LQ2
            have Ox := fun W => of_agg 1 (by decide) (by decide) W
            have Ax := fun A2 c2 W (h1 : WD W A1 c1 (Q : Int)) (h2 : WD W A2 c2 1) => refAdd_agg (Q : Int) 1 A1 A2 c1 c2 W h1 h2 LQ1 (Nat.le_trans (dn_small (by decide) (by decide)) (by decide))
            have k1 : ((dl R).length : Int) > 0 := by omega
            clear hz hneg h0 LQ1 LQ2
            go_wp2_with fail
            have a0 : w4.cell? ⟨G, 0, none⟩ = some (.slice A1 (dn (Q : Int)) c1) := cell_of_row w4 G 0 _ _ _ RG4.out
            have a1 : w4.cell? ⟨G, 1, none⟩ = some (.bool (sg (Q : Int))) := cell_of_row w4 G 1 _ _ _ RG4.out
            have HDd := Lib.hid (show WD w4.drew A1 c1 (Q : Int) from D4.out)
            go_region_with (first
              | (go_at_call 45; (with_reducible refine (Ox _).mono ?_); rintro e w5 ⟨⟨A5, c5, rfl, hd2⟩, b2⟩; have t0 := cell_keep (show w4.drew.cell? _ = some _ from a0) b2; have t1 := cell_keep (show w4.drew.cell? _ = some _ from a1) b2; have HD2 := Lib.hid hd2; have B2 := Lib.hid b2; clear b2 hd2)
              | (go_at_call 44; (with_reducible refine (Ax A5 c5 _ (HDd.out.below B2.out) HD2.out).mono ?_); rintro e w6 ⟨⟨A6, c6, rfl, hd3⟩, b3⟩; have R6 := Lib.hid (row_below b3 (row_below B2.out (show w4.drew.heap[G]? = _ from RG4.out))); have z0 : w6.cell? ⟨G, 0, none⟩ = some (.slice A1 (dn (Q : Int)) c1) := cell_of_row w6 G 0 _ _ _ R6.out; have z1 : w6.cell? ⟨G, 1, none⟩ = some (.bool (sg (Q : Int))) := cell_of_row w6 G 1 _ _ _ R6.out; have fr0 := frozen_of_row w6 G 0 _ _ R6.out; have fr1 := frozen_of_row w6 G 1 _ _ R6.out; have HD3 := Lib.hid hd3; have B3 := Lib.hid b3; clear b3 hd3 t0 t1 a0 a1))
            all_goals
              have W6 := Lib.hid (W4.out.trans (((of_drew B2.out).trans (B3.out.mono (by have := B2.out.size; exact this))).mono W4.out.size))
              clear z0 z1 fr0 fr1
              go_wp2
              go_meet
              exact ⟨A6, c6, (Q : Int) + 1, HZ, LQ3, Lib.hid ((W6.out.setCell HG.out _).setCell HG.out _), Lib.hid (heap_setCell_same _ _ 1 _ _ _ (heap_setCell_same _ _ 0 _ _ _ R6.out)), Lib.hid (wd_store HD3.out R6.out _ _)⟩
        case rest =>
          obtain ⟨A5, c5, zz, HZ, HDN, W5, RG5, D5⟩ := hcut
          clear D4 RG4 W4 D3 D3R RG
          have a0 : wc.cell? ⟨G, 0, none⟩ = some (.slice A5 (dn zz) c5) := cell_of_row wc G 0 _ _ _ RG5.out
          have a1 : wc.cell? ⟨G, 1, none⟩ = some (.bool (sg zz)) := cell_of_row wc G 1 _ _ _ RG5.out
          have T := refTurn_agg zz A5 c5 wc D5.out HDN.out
          have RR := Lib.hid ((W5.out.block _ HS3.out).trans R3.out)
          go_upto_region 20 with (first | (go_at_call 54; (with_reducible refine T.mono ?_); rintro e w6 ⟨⟨A6, c6, rfl, hd⟩, b6⟩; have D6 := Lib.hid hd; have RG6 := Lib.hid (row_below b6 RG5.out); have RR6 := Lib.hid (row_below b6 RR.out); have W6 := Lib.hid (W5.out.trans (b6.mono W5.out.size)); have z0 : w6.cell? ⟨G, 0, none⟩ = some (.slice A5 (dn zz) c5) := cell_of_row w6 G 0 _ _ _ RG6.out; have z1 : w6.cell? ⟨G, 1, none⟩ = some (.bool (sg zz)) := cell_of_row w6 G 1 _ _ _ RG6.out; have fr0 := frozen_of_row w6 G 0 _ _ RG6.out; have fr1 := frozen_of_row w6 G 1 _ _ RG6.out; clear hd b6 T a0 a1))
          have RG7 := Lib.hid (heap_setCell_same _ _ 1 _ _ (.bool (sg (-zz))) (heap_setCell_same w6 G 0 _ _ (.slice A6 (dn (-zz)) c6) RG6.out))
          have hne : w.heap.size + 1 + 1 ≠ G := by have := HG.out; have := HS3.out; omega
          have RR7 := Lib.hid (((heap_setCell_other (w6.setCell ⟨G, 0, none⟩ (.slice A6 (dn (-zz)) c6)) ⟨G, 1, none⟩ _ (.bool (sg (-zz))) hne).trans (heap_setCell_other w6 ⟨G, 0, none⟩ _ (.slice A6 (dn (-zz)) c6) hne)).trans RR6.out)
          have D7 := Lib.hid (wd_store D6.out RG6.out (.slice A6 (dn (-zz)) c6) (.bool (sg (-zz))))
          have W7 := Lib.hid ((W6.out.setCell (p := ⟨G, 0, none⟩) HG.out (.slice A6 (dn (-zz)) c6)).setCell (p := ⟨G, 1, none⟩) HG.out (.bool (sg (-zz))))
          clear z0 z1 fr0 fr1 hne
          generalize (w6.setCell ⟨G, 0, none⟩ (.slice A6 (dn (-zz)) c6)).setCell ⟨G, 1, none⟩ (.bool (sg (-zz))) = w7 at *
          have e0 : w7.cell? ⟨G, 0, none⟩ = some (.slice A6 (dn (-zz)) c6) := cell_of_row w7 G 0 _ _ _ RG7.out
          have e1 : w7.cell? ⟨G, 1, none⟩ = some (.bool (sg (-zz))) := cell_of_row w7 G 1 _ _ _ RG7.out
          have z0 : w7.cell? ⟨w.heap.size + 1 + 1, 0, none⟩ = some (.slice none 0 0) := cell_of_row w7 _ 0 _ _ _ RR7.out
          have z1 : w7.cell? ⟨w.heap.size + 1 + 1, 1, none⟩ = some (.bool false) := cell_of_row w7 _ 1 _ _ _ RR7.out
          have f0 := frozen_of_row w7 (w.heap.size + 1 + 1) 0 _ _ RR7.out
          have f1 := frozen_of_row w7 (w.heap.size + 1 + 1) 1 _ _ RR7.out
          go_wp2
          exact ret_ref_set rfl rfl RR7.out ⟨⟨A6, c6, by rw [HZ.out], by rw [HZ.out]; exact wd_store D7.out RR7.out _ _⟩, setRef_below (BW.out.trans (W7.out.mono BW.out.size)) (by omega) _ _⟩
    · obtain ⟨j, hj⟩ : ∃ j, k = j + 1 := ⟨k - 1, by omega⟩
      subst hj
      have hz : z = (j : Int) := by have := HZ.out; omega
      subst hz
      have hgx := dl_get x j
      rw [if_pos ((dl_lt_length x j).1 hk)] at hgx
      have HGX := Lib.hid hgx
      have px := pow_split x j
      have HPX := Lib.hid px
      have hdb : x / 65536 ^ j % 65536 < 65536 := Nat.mod_lt _ (by decide)
      have HK := Lib.hid hk
      have jb : j < 800 := by omega
      clear hgx px hpos hk
      go_wp2_with fail
      obtain ⟨w0, hw0⟩ : ∃ w0, w0 = wr := ⟨_, rfl⟩
      subst hw0
      go_loopw [5, 6, 8] (fun qv rv kv wr => ∃ (n Q R : Nat) (A1 A2 : Option Addr) (c1 c3 : Nat) (z : Int), n ≤ 16 ∧ kv = .int .i64 z ∧ qv = .slice A1 (dl Q).length c1 ∧ rv = .slice A2 (dl R).length c3 ∧ Hid (z = (n : Int) - 1) ∧ Hid (x / 65536 ^ j / 2 ^ n = Q * y + R ∧ R < y) ∧ Hid (Below W0.heap.size W0 wr) ∧ Hid (DL wr A1 (dl Q) ∧ (dl Q).length ≤ c1) ∧ Hid (DL wr A2 (dl R) ∧ (dl R).length ≤ c3)) (fun _ _ kv _ => (intOf kv + 1).toNat)
      case atStart => exact ⟨16, Q, R, A1, A2, c1, c3, 15, Nat.le_refl _, rfl, rfl, rfl, Lib.hid rfl, Lib.hid ⟨by rw [← HV.out.1, div_pow_succ], HV.out.2⟩, HW, HQ, HR⟩
      case round =>
        clear HV HW HQ HR HZ
        obtain ⟨n, Q, R, A1, A2, c1, c3, z, hn, rfl, rfl, rfl, HZ, HV, HW, HQ, HR⟩ := hrel
        rcases Nat.eq_zero_or_pos n with rfl | hpos
        · have hz : z = -1 := by have := HZ.out; omega
          subst hz
          go_wp2_with fail
          go_roundw
          case rel => exact ⟨j, Q, R, A1, A2, c1, c3, (j : Int) - 1, by have := HK.out; omega, by first | rfl | go_num, rfl, rfl, Lib.hid rfl, Lib.hid ⟨by have := HV.out.1; simpa using this, HV.out.2⟩, HW, HQ, HR⟩
          case measure => simp only [intOf]; omega
        · obtain ⟨m, hm⟩ : ∃ m, n = m + 1 := ⟨n - 1, by omega⟩
          subst hm
          have hz : z = (m : Int) := by have := HZ.out; omega
          subst hz
          have hQx : Q ≤ x := by
            have h1 := HV.out.1
            have h2 : x / 65536 ^ j / 2 ^ (m + 1) ≤ x := Nat.le_trans (Nat.div_le_self _ _) (Nat.div_le_self _ _)
            have h3 : Q ≤ Q * y := Nat.le_mul_of_pos_right _ HY.out
            omega
          have lR : (dl R).length ≤ 800 := Nat.le_trans (dl_len_mono (Nat.le_of_lt HV.out.2)) HLY.out
          have lQ : (dl Q).length ≤ 800 := Nat.le_trans (dl_len_mono hQx) HLX.out
          have l1' : (dl 1).length ≤ 801 := by rw [dl_one]; decide
          have lR2 := dl_len_add lR lR
          have lQ2 := dl_len_add lQ lQ
          have LR2 := Lib.hid (show (dl (R + R)).length ≤ 1000 by omega)
          have LQ2 := Lib.hid (show (dl (Q + Q)).length ≤ 1000 by omega)
          have LR3 := Lib.hid (show (dl (R + R + 1)).length ≤ 1000 by have := dl_len_add lR2 l1'; omega)
          have LQ3 := Lib.hid (show (dl (Q + Q + 1)).length ≤ 1000 by have := dl_len_add lQ2 l1'; omega)
          have P1 := refplus_any A2 A2 c3 c3 R R wr HR.out.1 HR.out.1 LR2.out
          have HN := Lib.hid hn
          have mb : m < 16 := by omega
          clear hQx lR lQ l1' lR2 lQ2 hn hpos
          go_upto_region 9 with (first
            | (go_at_call 51; (with_reducible refine P1.mono ?_); rintro e w2 ⟨⟨A3, c4, rfl, hd, hc⟩, b2⟩; have D2 := Lib.hid (And.intro hd hc); have B2 := Lib.hid b2; clear hd hc b2 P1)
            | (go_at_call 50; (with_reducible refine (trim_dl A3 c4 (R + R) false _ D2.out.1 D2.out.2 LR2.out).mono ?_); rintro e w3 ⟨rfl, hd, b3⟩; have D3 := Lib.hid hd; have B3 := Lib.hid (B2.out.trans (b3.mono B2.out.size)); clear hd b3))
          have W3 := Lib.hid (HW.out.trans (B3.out.mono HW.out.size))
          have Q3 := Lib.hid (And.intro (HQ.out.1.below B3.out) HQ.out.2)
          have D4 := Lib.hid (And.intro D3.out D2.out.2)
          clear HW HQ HR B2 B3 D2 D3
          have g0 : w3.cell? ⟨w.heap.size, 0, none⟩ = some (.slice A (dl x).length c) := cell_of_row w3 _ 0 _ _ _ ((W3.out.block _ (row_lt0 R1.out)).trans R1.out)
          obtain ⟨ad, hae, hca⟩ := (HA0.out.below W3.out) j _ HGX.out
          subst hae
          generalize hdd : x / 65536 ^ j % 65536 = d at *
          have HDD := Lib.hid hdd
          have q1 : (j : Int) < ((dl x).length : Int) := by have := HK.out; omega
          clear hdd
          go_upto_if 37 with (fail)
          have hbv := bit_val d m
          obtain ⟨b, hb⟩ : ∃ b, b = d / 2 ^ m % 2 := ⟨_, rfl⟩
          rw [← hb] at hbv
          have hb2 : b < 2 := by rw [hb]; omega
          have HBV := Lib.hid hbv
          have HBB := Lib.hid hb
          clear hbv hb g0 hca q1
          go_cut [6] (fun s6 wx => ∃ (A5 : Option Addr) (c5 R1 : Nat), s6 = .slice A5 (dl R1).length c5 ∧ Hid (R1 = R + R + b) ∧ Hid (DL wx A5 (dl R1) ∧ (dl R1).length ≤ c5) ∧ Hid (Below W0.heap.size W0 wx) ∧ Hid (DL wx A1 (dl Q) ∧ (dl Q).length ≤ c1))
          case first =>
            rcases Nat.eq_zero_or_pos b with h0 | h0
            · subst h0
              rw [HBV.out]
              go_wp2
              go_meet
              exact ⟨A3, c4, R + R, rfl, Lib.hid rfl, D4, W3, Q3⟩
            · have h1 : b = 1 := by omega
              subst h1
              rw [HBV.out]
              have b4 := al (Below.refl w3.heap.size w3) (Obj.cells #[.int .u32 1] 29)
              have P2 := refplus_any A3 (some ⟨w3.heap.size, 0, none⟩) c4 1 (R + R) 1 (w3.alloc (Obj.cells #[.int .u32 1] 29)) (D4.out.1.below b4) (one_dl (heap_alloc_new w3 _)) LR3.out
              rw [len_one] at P2
              have W4 := Lib.hid (W3.out.trans (b4.mono W3.out.size))
              have Q4 := Lib.hid (And.intro (Q3.out.1.below b4) Q3.out.2)
              clear b4
              go_wp2_with (first | (go_at_call 51; (with_reducible refine P2.mono ?_); rintro e w5 ⟨⟨A5, c5, rfl, hd, hc⟩, b5⟩; have D5 := Lib.hid (And.intro hd hc); have B5 := Lib.hid b5; clear hd hc b5 P2))
              go_meet
              exact ⟨A5, c5, R + R + 1, rfl, Lib.hid rfl, D5, Lib.hid (W4.out.trans (B5.out.mono W4.out.size)), Lib.hid ⟨Q4.out.1.below B5.out, Q4.out.2⟩⟩
          case rest =>
            obtain ⟨A5, c5, R1', rfl, HR1, D5, W5, Q5⟩ := hcut
            have HCell := Lib.hid (show wc.cell? ⟨w.heap.size + 1, 0, none⟩ = some (.slice B (dl y).length c2) from cell_of_row wc _ 0 _ _ _ ((W5.out.block _ (row_lt0 R2.out)).trans R2.out))
            have hstep : x / 65536 ^ j / 2 ^ m = (Q + Q) * y + R1' := by
              have e1 := half_step (x / 65536 ^ j) m
              have e2 := bit_eq (x / 65536 ^ (j + 1)) d m mb
              have e3 := HPX.out
              rw [← e3, ← HBB.out] at e2
              rw [e1, e2, HR1.out, fl_step HV.out.1]
            have HST := Lib.hid hstep
            have LR1 := Lib.hid (show (dl R1').length ≤ 1000 from Nat.le_trans (dl_len_mono (by have := HR1.out; omega)) LR3.out)
            have HRY := Lib.hid (show R1' < y + y by have := HR1.out; have := HV.out.2; omega)
            have P3 := refplus_any A1 A1 c1 c1 Q Q wc Q5.out.1 Q5.out.1 LQ2.out
            obtain ⟨z, hz⟩ : ∃ z, z = cmpI R1' y := ⟨_, rfl⟩
            have HZZ := Lib.hid hz
            clear hstep hz
            go_upto_region 12 with (first | (go_at_call 51; (with_reducible refine P3.mono ?_); rintro e w6 ⟨⟨A6, c6, rfl, hd, hc⟩, b6⟩; have D6 := Lib.hid (And.intro hd hc); have W6 := Lib.hid (W5.out.trans (b6.mono W5.out.size)); have D5b := Lib.hid (And.intro (D5.out.1.below b6) D5.out.2); have g2 := Lib.hid (cell_keep HCell.out b6); clear hd hc b6 P3))
            clear D5 W5 Q5 HCell HV HZ Q3 W3 D4
            have D5d := Lib.hid (show DL w6.drew A5 (dl R1') from D5b.out.1)
            have HBd := Lib.hid (show DL w6.drew B (dl y) from HB0.out.below (W6.out.drew))
            have W6d := Lib.hid (show Below W0.heap.size W0 w6.drew from W6.out.drew)
            by_cases hle : y ≤ R1'
            · have kz : z ≥ 0 := by rw [HZZ.out]; unfold cmpI; rw [if_neg (by omega)]; split <;> omega
              have HLE := Lib.hid hle
              clear hle
              go_region_held3 (fun w' => w'.cell? ⟨w.heap.size + 1, 0, none⟩ = some (.slice B (dl y).length c2)) (first | exact g2.out | exact k2.out | exact l2.out) (first
                | (go_at_call 50; (with_reducible refine (trim_dl A5 c5 R1' false _ D5d.out D5b.out.2 LR1.out).mono ?_); rintro e w7 ⟨rfl, hd, b7⟩; have D7 := Lib.hid hd; have B7 := Lib.hid b7; have k2 := Lib.hid (cell_keep (show w6.drew.cell? _ = some _ from g2.out) b7); clear hd b7)
                | (go_at_call 52; (with_reducible refine (compare_any A5 B c5 c2 R1' y _ D7.out (HBd.out.below B7.out) LR1.out).mono ?_); rintro e w8 ⟨rfl, b8⟩; rw [← HZZ.out]; have B8 := Lib.hid (B7.out.trans (b8.mono B7.out.size)); have l2 := Lib.hid (cell_keep k2.out b8); clear b8))
              have W8 := Lib.hid (W6d.out.trans (B8.out.mono W6d.out.size))
              have D6b := Lib.hid (And.intro ((show DL w6.drew A6 (dl (Q + Q)) from D6.out.1).below B8.out) D6.out.2)
              have D5c := Lib.hid (And.intro (D5d.out.below B8.out) D5b.out.2)
              have HB8 := Lib.hid (HBd.out.below B8.out)
              have g8 := l2.out
              clear D6 D5b D5d HBd W6 W6d B7 B8 g2 k2 l2 D7
              rename_i hHd
              clear hHd
              have P4 := refminus_any A5 B c5 c2 R1' y w8 D5c.out.1 HB8.out HLE.out LR1.out
              go_upto_region 14 with (first
                | (go_at_call 53; (with_reducible refine P4.mono ?_); rintro e w9 ⟨⟨A7, c7, ds, rfl, hd1, hc1, hl1, hx1, hv1⟩, b9⟩; have D9 := Lib.hid (And.intro hd1 (And.intro hx1 (And.intro hc1 hl1))); have V9 := Lib.hid hv1; have B9 := Lib.hid b9; clear hd1 hc1 hl1 hx1 hv1 b9 P4)
                | (go_at_call 50; (with_reducible refine (trim_any A7 c7 ds false _ D9.out.1 D9.out.2.1 D9.out.2.2.1 D9.out.2.2.2).mono ?_); rintro e w10 ⟨rfl, hd2, hc2, b10⟩; rw [V9.out] at *; have D10 := Lib.hid (And.intro hd2 hc2); have B10 := Lib.hid (B9.out.trans (b10.mono B9.out.size)); clear hd2 hc2 b10))
              have W10 := Lib.hid (W8.out.trans (B10.out.mono W8.out.size))
              have b11 := al (Below.refl w10.heap.size w10) (Obj.cells #[.int .u32 1] 29)
              have P5 := refplus_any A6 (some ⟨w10.heap.size, 0, none⟩) c6 1 (Q + Q) 1 (w10.alloc (Obj.cells #[.int .u32 1] 29)) ((D6b.out.1.below B10.out).below b11) (one_dl (heap_alloc_new w10 _)) LQ3.out
              rw [len_one] at P5
              have W11 := Lib.hid (W10.out.trans (b11.mono W10.out.size))
              have D11 := Lib.hid (And.intro (D10.out.1.below b11) D10.out.2)
              clear b11 g8 kz
              go_wp2_with (first | (go_at_call 51; (with_reducible refine P5.mono ?_); rintro e w12 ⟨⟨A8, c8, rfl, hd, hc⟩, b12⟩; have D12 := Lib.hid (And.intro hd hc); have B12 := Lib.hid b12; clear hd hc b12 P5))
              go_roundw
              case rel =>
                refine ⟨m, Q + Q + 1, R1' - y, A8, A7, c8, c7, (m : Int) - 1, by omega, by first | rfl | go_num, rfl, rfl, Lib.hid rfl, Lib.hid ⟨?_, ?_⟩, Lib.hid (W11.out.trans (B12.out.mono W11.out.size)), D12, Lib.hid ⟨D11.out.1.below B12.out, D11.out.2⟩⟩
                · rw [HST.out, Nat.add_mul (Q + Q) 1 y, Nat.one_mul]; have := HLE.out; omega
                · have := HRY.out; have := HLE.out; omega
              case measure => simp only [intOf]; omega
            · have kz : ¬ z ≥ 0 := by rw [HZZ.out]; unfold cmpI; rw [if_pos (by omega)]; omega
              have HLE := Lib.hid (Nat.lt_of_not_le hle)
              clear hle
              go_region_held3 (fun w' => w'.cell? ⟨w.heap.size + 1, 0, none⟩ = some (.slice B (dl y).length c2)) (first | exact g2.out | exact k2.out | exact l2.out) (first
                | (go_at_call 50; (with_reducible refine (trim_dl A5 c5 R1' false _ D5d.out D5b.out.2 LR1.out).mono ?_); rintro e w7 ⟨rfl, hd, b7⟩; have D7 := Lib.hid hd; have B7 := Lib.hid b7; have k2 := Lib.hid (cell_keep (show w6.drew.cell? _ = some _ from g2.out) b7); clear hd b7)
                | (go_at_call 52; (with_reducible refine (compare_any A5 B c5 c2 R1' y _ D7.out (HBd.out.below B7.out) LR1.out).mono ?_); rintro e w8 ⟨rfl, b8⟩; rw [← HZZ.out]; have B8 := Lib.hid (B7.out.trans (b8.mono B7.out.size)); have l2 := Lib.hid (cell_keep k2.out b8); clear b8))
              have W8 := Lib.hid (W6d.out.trans (B8.out.mono W6d.out.size))
              have D6b := Lib.hid (And.intro ((show DL w6.drew A6 (dl (Q + Q)) from D6.out.1).below B8.out) D6.out.2)
              have D5c := Lib.hid (And.intro (D5d.out.below B8.out) D5b.out.2)
              have HB8 := Lib.hid (HBd.out.below B8.out)
              have g8 := l2.out
              clear D6 D5b D5d HBd W6 W6d B7 B8 g2 k2 l2 D7
              rename_i hHd
              clear hHd
              clear g8
              go_wp2_with fail
              go_roundw
              case rel => exact ⟨m, Q + Q, R1', A6, A5, c6, c5, (m : Int) - 1, by omega, by first | rfl | go_num, rfl, rfl, Lib.hid rfl, Lib.hid ⟨HST.out, HLE.out⟩, W8, D6b, D5c⟩
              case measure => simp only [intOf]; omega
theorem refFloor_agg (a b : Int) (A B : Option Addr) (c c2 : Nat) (w : World) (ha : WD w A c a) (hb : WD w B c2 b) (hp : 0 < b) (la : dn a ≤ 800) (lb : dn b ≤ 800) :
    Calls Try.prog 43 #[.agg #[.slice A (dn a) c, .bool (sg a)], .agg #[.slice B (dn b) c2, .bool (sg b)]] w fun e w' => (∃ A' c', e = .returned (.agg #[.slice A' (dn (a / b)) c', .bool (sg (a / b))]) ∧ WD w' A' c' (a / b)) ∧ Below w.heap.size w w' := by
  have h := refFloor_raw A B c c2 a.natAbs b.natAbs (sg a) (sg b) w ha.1 hb.1 (by omega) la lb a rfl rfl
  rw [show ((b.natAbs : Nat) : Int) = b by omega] at h
  exact h
end Go.Proofs.Ytpjaijibkjmgiaa.TickW


/- The document's numbers: MulDiv, Half. -/
namespace Go.Proofs.Ytpjaijibkjmgiaa.TickW
open Go.RowKit
theorem half_small {a b : Int} (a0 : -9223372036854775808 ≤ a) (a1 : a ≤ 9223372036854775807) (b0 : -9223372036854775808 ≤ b) (b1 : b ≤ 9223372036854775807) : -9223372036854775808 ≤ (a + b) / 2 ∧ (a + b) / 2 ≤ 9223372036854775807 := by omega
set_option maxHeartbeats 4000000 in
set_option maxRecDepth 100000 in
theorem refHalf_any (a b : Int) (a0 : -9223372036854775808 ≤ a) (a1 : a ≤ 9223372036854775807) (b0 : -9223372036854775808 ≤ b) (b1 : b ≤ 9223372036854775807) (w : World) :
    Calls Try.prog 36 #[.int .i64 a, .int .i64 b] w fun e w' => e = .returned (.int .i64 ((a + b) / 2)) ∧ Below w.heap.size w w' := by
  have OA := fun W => of_agg a a0 a1 W
  have OB := fun W => of_agg b b0 b1 W
  have OC := fun W => of_agg 2 (by decide) (by decide) W
  have da := dn_small a0 a1
  have db := dn_small b0 b1
  have DA := Lib.hid da
  have DB := Lib.hid db
  have DM := Lib.hid (dn_add da db)
  have HK := Lib.hid (ansIn (half_small a0 a1 b0 b1))
  clear a0 a1 b0 b1 da db
  go_enter Try.func36, Try.ntmps36
  go_wp2_with fail
  refine (OA _).mono ?_
  rintro e w1 ⟨⟨A1, c1, rfl, hd⟩, bb⟩
  have D1 := Lib.hid hd
  have B1 := Lib.hid bb
  clear hd bb
  go_wp2_with fail
  refine (OB _).mono ?_
  rintro e w2 ⟨⟨A2, c2, rfl, hd⟩, bb⟩
  have D2 := Lib.hid hd
  have E1 := Lib.hid (D1.out.below bb)
  have B2 := Lib.hid (B1.out.trans (bb.mono B1.out.size))
  clear hd bb
  go_wp2_with fail
  refine (refAdd_agg a b A1 A2 c1 c2 w2 E1.out D2.out (by have := DA.out; omega) (by have := DB.out; omega)).mono ?_
  rintro e w3 ⟨⟨A3, c3, rfl, hd⟩, bb⟩
  have D3 := Lib.hid hd
  have B3 := Lib.hid (B2.out.trans (bb.mono B2.out.size))
  clear hd bb
  go_wp2_with fail
  refine (OC _).mono ?_
  rintro e w4 ⟨⟨A4, c4, rfl, hd⟩, bb⟩
  have D4 := Lib.hid hd
  have E3 := Lib.hid (D3.out.below bb)
  have B4 := Lib.hid (B3.out.trans (bb.mono B3.out.size))
  clear hd bb
  go_wp2_with fail
  refine (refFloor_agg (a + b) 2 A3 A4 c3 c4 w4 E3.out D4.out (by decide) (by have := DM.out; omega) (Nat.le_trans (dn_small (by decide) (by decide)) (by decide))).mono ?_
  rintro e w5 ⟨⟨A5, c5, rfl, hd⟩, bb⟩
  have D5 := Lib.hid hd
  have B5 := Lib.hid (B4.out.trans (bb.mono B4.out.size))
  clear hd bb
  go_wp2_with fail
  refine (refInt_agg ((a + b) / 2) A5 c5 w5 D5.out).mono ?_
  rintro e w6 ⟨rfl, bb⟩
  have B6 := Lib.hid (B5.out.trans (bb.mono B5.out.size))
  clear bb
  rw [HK.out]
  go_wp2
  go_ret
  exact ⟨rfl, B6.out⟩
end Go.Proofs.Ytpjaijibkjmgiaa.TickW

