/- Plain: a configuration, its times, what keeps it from being one. -/
import Derived.Test.YtdaoemjkefpmcaaCrewP
import Derived.ProofKit
namespace Go.Proofs.Ytdaoemjkefpmcaa.ConfW
open Go.RowKit
/-- Four numbers: an entry (From, To, Phase, Size) or a link (From, To, Gap, Size). -/
structure R4 where
  a : Int
  b : Nat
  c : Int
  d : Int
structure Cfg where
  hosts : Int
  cycle : Int
  delay : Int
  window : Int
  precision : Int
  delays : List (List Int)
  entries : List R4
  links : List R4
  queue : Int
/-- Between two numbers, both with it. -/
def btw (n l h : Int) : Bool := decide (l ≤ n) && decide (n ≤ h)
theorem btw_iff {n l h : Int} : btw n l h = true ↔ l ≤ n ∧ n ≤ h := by simp [btw]
/-- How long a frame is on a wire. -/
def tim (n : Int) : Int := if n < 64 then 512 else if n > 1518 then 12144 else n * 8
theorem tim_pos (n : Int) : 512 ≤ tim n ∧ tim n ≤ 12144 := by unfold tim; split <;> (try split) <;> omega
def spansT (c : Cfg) : Bool := btw c.delay 0 1048576 && btw c.window 0 1048576 && btw c.precision 0 1048576
def spans (c : Cfg) : Bool := btw c.cycle 1 1073741824 && spansT c
/-- May sender, receivers and size be, among so many hosts? -/
def way (h : Int) (f : Int) (t : Nat) (s : Int) : Bool := btw f 0 (h - 1) && !decide (t = 0) && decide (t < 2 ^ h.toNat) && !CrewW.has t f && btw s 64 1518
def wayE (h : Int) (e : R4) : Bool := way h e.a e.b e.d
def placed (c : Cfg) (e : R4) : Bool := spans c && wayE 6 e && btw e.c (-1125899906842624) 1125899906842624
def quiet (c : Cfg) : Int := if spans c then 2 * c.delay + c.window + 4 * c.precision else 0
def fwd (c : Cfg) (e : R4) : Int := if placed c e then e.c + tim e.d + c.delay + 2 * c.precision else 0
def ear (c : Cfg) (e : R4) : Int := if placed c e then e.c + tim e.d + c.delay + 2 * c.precision + tim e.d - c.precision else 0
def lat (c : Cfg) (e : R4) : Int := if placed c e then e.c + tim e.d + c.delay + 2 * c.precision + tim e.d + c.delay + c.precision else 0
def at0 (c : Cfg) (e : R4) : Int := if placed c e then e.c + tim e.d - c.precision else 0
def at1 (c : Cfg) (e : R4) : Int := if placed c e then e.c + tim e.d + c.delay + c.precision else 0
theorem spansT_iff {c : Cfg} : spansT c = true ↔ (0 ≤ c.delay ∧ c.delay ≤ 1048576) ∧ (0 ≤ c.window ∧ c.window ≤ 1048576) ∧ 0 ≤ c.precision ∧ c.precision ≤ 1048576 := by
  unfold spansT
  rw [Bool.and_eq_true, Bool.and_eq_true, btw_iff, btw_iff, btw_iff, and_assoc]
theorem spans_iff {c : Cfg} : spans c = true ↔ (1 ≤ c.cycle ∧ c.cycle ≤ 1073741824) ∧ spansT c = true := by
  unfold spans
  rw [Bool.and_eq_true, btw_iff]
theorem placed_iff {c : Cfg} {e : R4} : placed c e = true ↔ spans c = true ∧ wayE 6 e = true ∧ -1125899906842624 ≤ e.c ∧ e.c ≤ 1125899906842624 := by
  unfold placed
  rw [Bool.and_eq_true, Bool.and_eq_true, btw_iff, and_assoc]
theorem way_iff {h f : Int} {t : Nat} {s : Int} : way h f t s = true ↔ (0 ≤ f ∧ f ≤ h - 1) ∧ t ≠ 0 ∧ t < 2 ^ h.toNat ∧ CrewW.has t f = false ∧ 64 ≤ s ∧ s ≤ 1518 := by
  unfold way
  simp only [Bool.and_eq_true, btw_iff, Bool.not_eq_true', decide_eq_false_iff_not, decide_eq_true_eq, and_assoc, ne_eq]
end Go.Proofs.Ytdaoemjkefpmcaa.ConfW

