/- The sum, numbers as bytes, and frames, as plain functions of lists of bytes. -/
import Derived.Laws.BitsAllLaws
import Derived.Laws.BytesArg
import Derived.ProofKit
namespace Go.Proofs.YtmagjekmlnpfpaaGreat.FrameW
/-- One step of the sum's register. -/
def st (r : Nat) : Nat := (r / 2) ^^^ (r % 2 * 3988292384)
theorem st_lt {r : Nat} (h : r < 4294967296) : st r < 4294967296 := by
  have h1 : r / 2 < 2 ^ 32 := by omega
  have h2 : r % 2 * 3988292384 < 2 ^ 32 := by have := Nat.mod_lt r (show 2 > 0 by decide); omega
  exact Nat.xor_lt_two_pow h1 h2
def rep : Nat → Nat → Nat
  | 0, r => r
  | k + 1, r => st (rep k r)
theorem rep_lt {r : Nat} (h : r < 4294967296) : ∀ k, rep k r < 4294967296
  | 0 => h
  | k + 1 => st_lt (rep_lt h k)
def By (l : List Int) : Prop := ∀ x ∈ l, 0 ≤ x ∧ x < 256
def up (r : Nat) (b : Int) : Nat := rep 8 (r ^^^ b.toNat)
theorem xor_lt {r : Nat} {b : Int} (h : r < 4294967296) (hb : b < 256) : r ^^^ b.toNat < 4294967296 :=
  Nat.xor_lt_two_pow (n := 32) (by omega) (by omega)
theorem up_lt {r : Nat} {b : Int} (h : r < 4294967296) (hb : b < 256) : up r b < 4294967296 := rep_lt (xor_lt h hb) 8
def go (r : Nat) (l : List Int) : Nat := l.foldl up r
theorem go_lt {l : List Int} (hl : By l) : ∀ {r : Nat}, r < 4294967296 → go r l < 4294967296 := by
  induction l with
  | nil => intro r h; exact h
  | cons x l ih => intro r h; exact ih (fun y hy => hl y (List.mem_cons_of_mem _ hy)) (up_lt h (hl x (List.mem_cons_self)).2)
theorem go_snoc (r : Nat) (l : List Int) (x : Int) : go r (l ++ [x]) = up (go r l) x := by simp [go]
def crc (l : List Int) : Nat := 4294967295 - go 4294967295 l
theorem crc_lt (l : List Int) : crc l < 4294967296 := by unfold crc; omega
theorem By.append {a b : List Int} (ha : By a) (hb : By b) : By (a ++ b) := by
  intro x hx
  rcases List.mem_append.1 hx with h | h
  · exact ha x h
  · exact hb x h
theorem By.left {a b : List Int} (h : By (a ++ b)) : By a := fun x hx => h x (List.mem_append_left _ hx)
theorem By.right {a b : List Int} (h : By (a ++ b)) : By b := fun x hx => h x (List.mem_append_right _ hx)
theorem By.take {a : List Int} (h : By a) (n : Nat) : By (a.take n) := fun x hx => h x (List.mem_of_mem_take hx)
theorem By.drop {a : List Int} (h : By a) (n : Nat) : By (a.drop n) := fun x hx => h x (List.mem_of_mem_drop hx)
theorem By.get {a : List Int} (h : By a) {k : Nat} {x : Int} (hk : a[k]? = some x) : 0 ≤ x ∧ x < 256 := h x (List.mem_of_getElem? hk)
/-! ### Numbers as bytes -/
def be (k n : Nat) : List Int := (List.range k).map fun i => ((n / 256 ^ (k - 1 - i) % 256 : Nat) : Int)
theorem be_len (k n : Nat) : (be k n).length = k := by simp [be]
def val (l : List Int) : Nat := l.foldl (fun n b => n * 256 + b.toNat) 0
/-! ### Frames -/
def sealed (l : List Int) : List Int := l ++ be 4 (crc l)
def ctlB (k f cy cr cl : Int) : List Int := [137, 29] ++ be 1 k.toNat ++ be 1 f.toNat ++ be 8 cy.toNat ++ be 4 cr.toNat ++ be 8 cl.toNat ++ be 6 0
def ctl (k f cy cr cl : Int) : List Int := sealed (ctlB k f cy cr cl)
def rightC (k f cy cr cl : Int) : Prop := (k = 1 ∨ k = 2) ∧ 0 ≤ f ∧ f ≤ 7 ∧ 0 ≤ cy ∧ cy ≤ 1125899906842624 ∧ 0 ≤ cr ∧ cr < 64 ∧ 0 ≤ cl ∧ cl ≤ 1048576
instance (k f cy cr cl : Int) : Decidable (rightC k f cy cr cl) := by unfold rightC; infer_instance
def rightD (c l n : Int) (p : List Int) (s : Int) : Prop := (c = 1 ∨ c = 2 ∨ c = 3) ∧ 0 ≤ l ∧ l ≤ 255 ∧ 0 ≤ n ∧ n ≤ 2147483647 ∧ 64 ≤ s ∧ s ≤ 1518 ∧ (p.length : Int) ≤ s - 14
instance (c l n : Int) (p : List Int) (s : Int) : Decidable (rightD c l n p s) := by unfold rightD; infer_instance
/-- Bytes a to b. -/
def sl (l : List Int) (a b : Nat) : List Int := (l.drop a).take (b - a)
def wh (l : List Int) : Int := if 2 ≤ l.length then (if sl l 0 2 = [137, 29] then 1 else if sl l 0 2 = [8, 0] then 2 else 0) else 0
def chk (l : List Int) (kind least most : Int) : Int :=
  if (l.length : Int) < least ∨ (l.length : Int) > most ∨ wh l ≠ kind then 2 else if val (sl l (l.length - 4) l.length) ≠ crc (sl l 0 (l.length - 4)) then 8 else 0
theorem chk_ok {l : List Int} {kind least most : Int} : chk l kind least most = 0 ↔ (least ≤ l.length ∧ (l.length : Int) ≤ most ∧ wh l = kind ∧ val (sl l (l.length - 4) l.length) = crc (sl l 0 (l.length - 4))) := by
  unfold chk
  split
  · rename_i h
    constructor
    · intro h2; cases h2
    · rintro ⟨h1, h2, h3, h4⟩
      rcases h with h | h | h
      · omega
      · omega
      · exact absurd h3 h
  · rename_i h
    rw [not_or, not_or] at h
    obtain ⟨h1, h2, h3⟩ := h
    split
    · rename_i h4
      constructor
      · intro h2; cases h2
      · rintro ⟨_, _, _, h5⟩; exact absurd h5 h4
    · rename_i h4
      exact ⟨fun _ => ⟨by omega, by omega, Classical.not_not.1 h3, Classical.not_not.1 h4⟩, fun _ => rfl⟩
def kOf (l : List Int) : Int := (val (sl l 2 3) : Int)
def fOf (l : List Int) : Int := (val (sl l 3 4) : Int)
def cyOf (l : List Int) : Int := (val (sl l 4 12) : Int)
def crOf (l : List Int) : Int := (val (sl l 12 16) : Int)
def clOf (l : List Int) : Int := (val (sl l 16 24) : Int)
def blank (l : List Int) : Prop := ∀ x ∈ l, x = 0
instance (l : List Int) : Decidable (blank l) := by unfold blank; infer_instance
def okC (l : List Int) : Prop := chk l 1 34 34 = 0 ∧ rightC (kOf l) (fOf l) (cyOf l) (crOf l) (clOf l) ∧ blank (sl l 24 30)
instance (l : List Int) : Decidable (okC l) := by unfold okC; infer_instance
def cOf (l : List Int) : Int := (val (sl l 2 3) : Int)
def lOf (l : List Int) : Int := (val (sl l 3 4) : Int)
def nOf (l : List Int) : Int := (val (sl l 4 8) : Int)
def zOf (l : List Int) : Nat := val (sl l 8 10)
def pOf (l : List Int) : List Int := sl l 10 (10 + zOf l)
def fitD (l : List Int) : Prop := zOf l ≤ l.length - 14
instance (l : List Int) : Decidable (fitD l) := by unfold fitD; infer_instance
def okD (l : List Int) : Prop := chk l 2 64 1518 = 0 ∧ fitD l ∧ blank (sl l (10 + zOf l) (l.length - 4)) ∧ rightD (cOf l) (lOf l) (nOf l) (pOf l) l.length
instance (l : List Int) : Decidable (okD l) := by unfold okD; infer_instance
end Go.Proofs.YtmagjekmlnpfpaaGreat.FrameW


