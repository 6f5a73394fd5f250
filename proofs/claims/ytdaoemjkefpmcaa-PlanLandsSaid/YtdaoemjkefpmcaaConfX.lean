/- Family. -/
import Derived.Test.YtdaoemjkefpmcaaConfV
import Derived.Test.YtdaoemjkefpmcaaConfQ
import Derived.Test.YtdaoemjkefpmcaaCrewB
namespace Go.Proofs.Ytdaoemjkefpmcaa.ConfW
open Go.RowKit Shell
/-- The hosts below k but one. -/
def othL (b : Nat) : Nat → List Int
  | 0 => []
  | k + 1 => if k = b then othL b k else othL b k ++ [(k : Int)]
theorem int_one : One Try.prog 65 3 .i64 8 := ⟨Try.underlying65, info_parts (show (Try.prog.info? 3).map (fun i => (i.zero, i.size, i.bytes)) = some (some (.int .i64 0), 1, 8) by kernel_rfl)⟩
theorem i64_lit {x : Int} (h1 : -9223372036854775808 ≤ x) (h2 : x ≤ 9223372036854775807) : (Lit.int .i64 x).wf = true := by
  simp [Lit.wf]
  exact ⟨h1, h2⟩
theorem one_cl (w : World) (x : Int) (h1 : -9223372036854775808 ≤ x) (h2 : x ≤ 9223372036854775807) (t : TypeId) : CL (w.alloc (.cells #[.int .i64 x] t)) .i64 (some ⟨w.heap.size, 0, none⟩) [x] :=
  new_cl w .i64 [x] t (by intro y hy; rw [List.mem_singleton] at hy; subst hy; exact i64_lit h1 h2)
/-- A family's entry. -/
def famE (h i : Nat) : R4 := ⟨((i % h : Nat) : Int), CrewW.of (othL (i % h) h), 10000 + 50000 * (i : Int), 64 + (i : Int)⟩
def zero4 : R4 := ⟨0, 0, 0, 0⟩
section
variable {w0 w w1 : World} {g : Nat} {l : List R4}
end
def famEs (h n : Nat) : List R4 := if h = 1 then [] else (List.range n).map (famE h)
theorem zero_info : ∃ (i : TypeInfo), Try.prog.info? 40 = some i ∧ i.zero = some (.agg #[.int .i64 0, .int .u32 0, .int .i64 0, .int .i64 0]) ∧ i.size = 4 ∧ i.bytes = 32 :=
  info_parts (show (Try.prog.info? 40).map (fun i => (i.zero, i.size, i.bytes)) = some (some (.agg #[.int .i64 0, .int .u32 0, .int .i64 0, .int .i64 0]), 4, 32) by kernel_rfl)
theorem tmod_nat (i h : Nat) : Int.tmod (i : Int) (h : Int) = ((i % h : Nat) : Int) := rfl
/-- A family's row of delays. -/
def famR (i : Nat) : List Int := [100 * ((i : Int) + 1) + 50 * 0, 100 * ((i : Int) + 1) + 50 * 1]
def famD (h : Nat) : List (List Int) := (List.range h).map famR
theorem or_up {w w' : World} {lo base : Nat} {e : TypeId} {q : IntKind} {v : Value} {xs : List Int} (h : OR w base e q v xs) (hb : lo ≤ base) (u : Up lo w w') : OR w' base e q v xs := ⟨own_up h.1 hb u, h.2⟩
theorem i64_one : One Try.prog 66 2 .i64 8 := ⟨Try.underlying66, info_parts (show (Try.prog.info? 2).map (fun i => (i.zero, i.size, i.bytes)) = some (some (.int .i64 0), 1, 8) by kernel_rfl)⟩
/-- A family's configuration. -/
def clampH (x : Int) : Nat := if x < 1 then 1 else if 6 < x then 6 else x.toNat
def clampN (x : Int) : Nat := if x < 0 then 0 else if 16 < x then 16 else x.toNat
def famC (x y : Int) : Cfg := { hosts := (clampH x : Nat), cycle := 2000000, delay := 2000, window := 1000, precision := 500, delays := famD (clampH x), entries := famEs (clampH x) (clampN y), links := [], queue := 8 }
theorem clampH_in (x : Int) : 1 ≤ clampH x ∧ clampH x ≤ 6 := by unfold clampH; split <;> (try split) <;> omega
theorem clampN_in (x : Int) : clampN x ≤ 16 := by unfold clampN; split <;> (try split) <;> omega
theorem clampH_cases (x : Int) : (x < 1 ∧ (1 : Int) = (clampH x : Nat)) ∨ (¬ x < 1 ∧ 6 < x ∧ (6 : Int) = (clampH x : Nat)) ∨ (¬ x < 1 ∧ x ≤ 6 ∧ x = (clampH x : Nat)) := by
  unfold clampH
  by_cases h1 : x < 1
  · left; simp [h1]
  · by_cases h2 : 6 < x
    · right; left; simp [h1, h2]
    · right; right; simp [h1, h2]; omega
theorem clampN_cases (x : Int) : (x < 0 ∧ (0 : Int) = (clampN x : Nat)) ∨ (¬ x < 0 ∧ 16 < x ∧ (16 : Int) = (clampN x : Nat)) ∨ (¬ x < 0 ∧ x ≤ 16 ∧ x = (clampN x : Nat)) := by
  unfold clampN
  by_cases h1 : x < 0
  · left; simp [h1]
  · by_cases h2 : 16 < x
    · right; left; simp [h1, h2]
    · right; right; simp [h1, h2]; omega
end Go.Proofs.Ytdaoemjkefpmcaa.ConfW

