/- Plain mathematics of a host's machine: what is stronger, what may be, what is behind what happens. -/
import Derived.Test.YtigehmlfdbejaaaDoorCrewP
namespace Go.Proofs.YtigehmlfdbejaaaDoor.MachW
open CrewW
/-- A machine: its state, its crew, how many cycles it has heard nothing, how many it has listened. -/
structure Mc where
  s : Int
  c : Nat
  m : Int
  x : Int
/-- Stronger: more hosts, or as many and a lesser first. -/
def str (a b : Nat) : Bool := decide ((mem b).length < (mem a).length) || (decide ((mem a).length = (mem b).length) && decide (fst a < fst b))
def offB (a : Mc) : Bool := decide (a.s = 1 ∧ a.c = 0 ∧ a.m = 0 ∧ a.x = 0)
def lisB (h : Int) (a : Mc) : Bool := decide (a.s = 2 ∧ a.c = 0 ∧ a.m = 0 ∧ 0 ≤ a.x ∧ a.x ≤ h + 1)
def synB (a : Mc) : Bool := decide (a.s = 3 ∧ 0 < a.c ∧ a.c < 64 ∧ 0 ≤ a.m ∧ a.m ≤ 1 ∧ a.x = 0)
def hostB (h : Int) : Bool := decide (0 ≤ h) && decide (h < 6)
def may (h : Int) (a : Mc) : Bool := hostB h && (offB a || lisB h a || synB a)
def offM (a : Mc) (k : Int) : Mc × Int := if k = 1 then (⟨2, 0, 0, 0⟩, 1) else (a, 0)
def lisM (h : Int) (a : Mc) (k : Int) (e : Nat) : Mc × Int :=
  if k = 4 then (if e % 64 = 0 then (a, 0) else (⟨3, e % 64, 0, 0⟩, 3))
  else if k = 3 then (if a.x < 1 + h then (⟨2, 0, 0, a.x + 1⟩, 0) else (⟨3, only h, 0, 0⟩, 2))
  else (a, 0)
def synM (a : Mc) (k : Int) (e : Nat) : Mc × Int :=
  if k = 3 then (if e % 64 = 0 then (if a.m = 0 then (⟨3, a.c, 1, 0⟩, 0) else (⟨2, 0, 0, 0⟩, 4)) else (⟨3, e % 64, 0, 0⟩, 0))
  else if k = 4 then (if str e a.c then (⟨2, 0, 0, 0⟩, 4) else (a, 0))
  else (a, 0)
/-- The machine behind what happens, and what is done. -/
def stp (h : Int) (a : Mc) (k : Int) (e : Nat) : Mc × Int :=
  if may h a = false then (a, 0)
  else if a.s = 1 then offM a k
  else if k = 2 then (⟨1, 0, 0, 0⟩, 5)
  else if a.s = 2 then lisM h a k e
  else synM a k e
theorem str_mod (a b : Nat) : str (a % 64) b = str a b := by
  unfold str fst
  rw [mem_mod]
theorem str_mod2 (a b : Nat) : str a (b % 64) = str a b := by
  unfold str fst
  rw [mem_mod]
theorem mem_pos (c : Nat) : 0 < (mem c).length ↔ c % 64 ≠ 0 := by
  have H : ∀ c ∈ List.range 64, (0 < (mem c).length ↔ c ≠ 0) := by decide +kernel
  have := H (c % 64) (List.mem_range.2 (Nat.mod_lt _ (by decide)))
  rw [mem_mod] at this
  exact this
theorem fst_pos {c : Nat} (h : 0 < (mem c).length) : (mem c)[0]? = some (fst c) := by
  unfold fst
  rcases hm : mem c with _ | ⟨x, l⟩
  · rw [hm] at h; simp at h
  · rfl
theorem fst_zero {c : Nat} (h : (mem c).length = 0) : fst c = -1 := by
  unfold fst
  rw [List.length_eq_zero_iff.1 h]
  rfl
theorem hostB_iff {h : Int} : hostB h = true ↔ 0 ≤ h ∧ h < 6 := by unfold hostB; simp
theorem offB_iff {a : Mc} : offB a = true ↔ a.s = 1 ∧ a.c = 0 ∧ a.m = 0 ∧ a.x = 0 := by unfold offB; simp
theorem lisB_iff {h : Int} {a : Mc} : lisB h a = true ↔ a.s = 2 ∧ a.c = 0 ∧ a.m = 0 ∧ 0 ≤ a.x ∧ a.x ≤ h + 1 := by unfold lisB; simp
theorem synB_iff {a : Mc} : synB a = true ↔ a.s = 3 ∧ 0 < a.c ∧ a.c < 64 ∧ 0 ≤ a.m ∧ a.m ≤ 1 ∧ a.x = 0 := by unfold synB; simp
theorem may_iff {h : Int} {a : Mc} : may h a = true ↔ (0 ≤ h ∧ h < 6) ∧ ((a.s = 1 ∧ a.c = 0 ∧ a.m = 0 ∧ a.x = 0) ∨ (a.s = 2 ∧ a.c = 0 ∧ a.m = 0 ∧ 0 ≤ a.x ∧ a.x ≤ h + 1) ∨ (a.s = 3 ∧ 0 < a.c ∧ a.c < 64 ∧ 0 ≤ a.m ∧ a.m ≤ 1 ∧ a.x = 0)) := by
  unfold may
  rw [Bool.and_eq_true, Bool.or_eq_true, Bool.or_eq_true, hostB_iff, offB_iff, lisB_iff, synB_iff, or_assoc]
theorem only_pos {h : Int} (h0 : 0 ≤ h) (h6 : h < 6) : 0 < only h := by
  unfold only
  rw [if_pos ⟨h0, h6⟩]
  exact Nat.pow_pos (by decide)
/-- What may be leads to what may be. -/
theorem may_stp {h : Int} {a : Mc} (k : Int) (e : Nat) (hm : may h a = true) : may h (stp h a k e).1 = true := by
  have hm' := hm
  obtain ⟨⟨h0, h6⟩, ho⟩ := may_iff.1 hm
  have hl : e % 64 < 64 := Nat.mod_lt _ (by decide)
  unfold stp
  rw [if_neg (by rw [hm]; decide)]
  split
  · unfold offM
    split
    · rw [may_iff]; dsimp only; omega
    · exact hm'
  · split
    · rw [may_iff]; dsimp only; omega
    · split
      · unfold lisM
        split
        · split
          · exact hm'
          · rw [may_iff]; dsimp only; omega
        · split
          · split
            · rw [may_iff]; dsimp only; omega
            · rw [may_iff]; dsimp only
              have := only_pos h0 h6
              have := only_lt h
              omega
          · exact hm'
      · unfold synM
        split
        · split
          · split
            · rw [may_iff]; dsimp only; omega
            · rw [may_iff]; dsimp only; omega
          · rw [may_iff]; dsimp only; omega
        · split
          · split
            · rw [may_iff]; dsimp only; omega
            · exact hm'
          · exact hm'
/-- Any number of machines that may not be. -/
theorem stp_no {h : Int} {a : Mc} (k : Int) (e : Nat) (hm : may h a = false) : stp h a k e = (a, 0) := by
  unfold stp
  rw [if_pos hm]
/-- Crews are ordered by strength. -/
theorem str_asym (a b : Nat) : (str a b && str b a) = false := by
  unfold str
  generalize (mem a).length = m
  generalize (mem b).length = n
  generalize fst a = p
  generalize fst b = q
  rw [Bool.eq_false_iff]
  intro h
  simp at h
  omega
theorem str_irr (a : Nat) : str a a = false := by
  unfold str
  simp
theorem str_trans {a b c : Nat} (h : str a b = true) (k : str b c = true) : str a c = true := by
  unfold str at *
  generalize (mem a).length = m at *
  generalize (mem b).length = n at *
  generalize (mem c).length = o at *
  generalize fst a = p at *
  generalize fst b = q at *
  generalize fst c = r at *
  simp at *
  omega
theorem str_full (a : Nat) : str 63 a = decide (a % 64 ≠ 63) := by
  have H : ∀ c ∈ List.range 64, str 63 c = decide (c ≠ 63) := by decide +kernel
  rw [← str_mod2]
  exact H _ (List.mem_range.2 (Nat.mod_lt _ (by decide)))
theorem str_none {a b : Nat} (ha : a % 64 = 0) (hb : b % 64 ≠ 0) : str a b = false := by
  have h1 := mt (mem_pos a).1 (by omega)
  have h2 := (mem_pos b).2 hb
  unfold str
  simp
  omega
end Go.Proofs.YtigehmlfdbejaaaDoor.MachW
