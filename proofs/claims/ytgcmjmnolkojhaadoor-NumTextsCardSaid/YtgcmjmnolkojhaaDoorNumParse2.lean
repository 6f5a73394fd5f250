/- Plain mathematics: the number that small hexadecimal digits say, and back. -/
import Derived.Test.YtgcmjmnolkojhaaDoorNumParse
namespace Go.Proofs.YtgcmjmnolkojhaaDoor.NumP
/-- The document's digits: small letters alone. -/
def rdig (c : Nat) : Option Nat := if 48 ≤ c ∧ c ≤ 57 then some (c - 48) else if 97 ≤ c ∧ c ≤ 102 then some (c - 87) else none
def rp (acc : Nat) : List UInt8 → Option Nat
  | [] => some acc
  | c :: r => match rdig c.toNat with
    | some d => rp (acc * 16 + d) r
    | none => none
theorem rp_some {acc d : Nat} {c : UInt8} {r : List UInt8} (h : rdig c.toNat = some d) : rp acc (c :: r) = rp (acc * 16 + d) r := by
  show (match rdig c.toNat with | some d => rp (acc * 16 + d) r | none => none) = _
  rw [h]
theorem rp_none {acc : Nat} {c : UInt8} {r : List UInt8} (h : rdig c.toNat = none) : rp acc (c :: r) = none := by
  show (match rdig c.toNat with | some d => rp (acc * 16 + d) r | none => none) = _
  rw [h]
theorem rdig_hd {c d : Nat} (h : rdig c = some d) : hd c = some d ∧ d < 16 ∧ dg d = c := by
  unfold rdig at h
  by_cases h1 : 48 ≤ c ∧ c ≤ 57
  · rw [if_pos h1] at h
    cases h
    exact ⟨by unfold hd; rw [if_pos h1], by omega, by unfold dg; rw [if_pos (by omega)]; omega⟩
  · rw [if_neg h1] at h
    by_cases h2 : 97 ≤ c ∧ c ≤ 102
    · rw [if_pos h2] at h
      cases h
      have e : lw c = c := by
        have : ∀ c, c < 103 → 97 ≤ c → lw c = c := by decide
        exact this c (by omega) h2.1
      refine ⟨?_, by omega, by unfold dg; rw [if_neg (by omega)]; omega⟩
      unfold hd
      rw [if_neg h1, e, if_pos h2]
    · rw [if_neg h2] at h; cases h
theorem rp_pv (l : List UInt8) : ∀ acc n, rp acc l = some n → pv acc l = some n := by
  induction l with
  | nil => intro acc n h; exact h
  | cons c r ih =>
    intro acc n h
    cases hc : rdig c.toNat with
    | none => rw [rp_none hc] at h; cases h
    | some d =>
      rw [rp_some hc] at h
      show (match hd c.toNat with | some d => pv (acc * 16 + d) r | none => none) = _
      rw [(rdig_hd hc).1]
      exact ih _ _ h
theorem rp_hexF (l : List UInt8) : ∀ acc n, rp acc l = some n → n / 16 ^ l.length = acc ∧ hexF l.length n = l.map (fun c => (c.toNat : Int)) := by
  induction l with
  | nil => intro acc n h; cases h; exact ⟨by simp, rfl⟩
  | cons c r ih =>
    intro acc n h
    cases hc : rdig c.toNat with
    | none => rw [rp_none hc] at h; cases h
    | some d =>
      rw [rp_some hc] at h
      obtain ⟨_, hd16, hdg⟩ := rdig_hd hc
      obtain ⟨h1, h2⟩ := ih _ _ h
      constructor
      · rw [List.length_cons, Nat.pow_succ, ← Nat.div_div_eq_div_mul, h1]; omega
      · show dg (n / 16 ^ r.length % 16) :: hexF r.length n = _
        rw [h1, h2, show (acc * 16 + d) % 16 = d by omega, hdg]
        rfl
theorem dg_rdig (d : Nat) (h : d < 16) : rdig (dg d).toNat = some d ∧ (dg d).toNat < 256 := by
  have : ∀ d, d < 16 → rdig (dg d).toNat = some d ∧ (dg d).toNat < 256 := by decide
  exact this d h
theorem rp_of_hexF (u : Nat) : ∀ k acc, rp acc ((hexF k u).map fun n => UInt8.ofNat n.toNat) = some (acc * 16 ^ k + u % 16 ^ k) := by
  intro k
  induction k with
  | zero => intro acc; simp [hexF, rp, Nat.mod_one]
  | succ k ih =>
    intro acc
    have hd16 : u / 16 ^ k % 16 < 16 := Nat.mod_lt _ (by decide)
    obtain ⟨h1, h2⟩ := dg_rdig _ hd16
    show rp acc (UInt8.ofNat (dg (u / 16 ^ k % 16)).toNat :: (hexF k u).map fun n => UInt8.ofNat n.toNat) = _
    rw [rp_some (d := u / 16 ^ k % 16) (by rw [show (UInt8.ofNat (dg (u / 16 ^ k % 16)).toNat).toNat = (dg (u / 16 ^ k % 16)).toNat from Nat.mod_eq_of_lt h2]; exact h1), ih]
    congr 1
    have e : u % 16 ^ (k + 1) = u / 16 ^ k % 16 * 16 ^ k + u % 16 ^ k := by
      rw [Nat.pow_succ, Nat.mod_mul]
      rw [Nat.mul_comm, Nat.add_comm]
    rw [e, Nat.pow_succ, Nat.add_mul, Nat.mul_assoc, Nat.mul_comm 16 (16 ^ k)]
    omega
end Go.Proofs.YtgcmjmnolkojhaaDoor.NumP
