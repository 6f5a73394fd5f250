/- The sum, numbers as bytes, and frames, as plain functions of lists of bytes. -/
import Derived.Laws.BitsAllLaws
import Derived.Laws.BytesArg
import Derived.ProofKit
namespace Go.Proofs.Ytnlimdlmhfnkiaa.FrameW
/-- One step of the sum's register. -/
def st (r : Nat) : Nat := (r / 2) ^^^ (r % 2 * 3988292384)
theorem st_lt {r : Nat} (h : r < 4294967296) : st r < 4294967296 := by
  have h1 : r / 2 < 2 ^ 32 := by omega
  have h2 : r % 2 * 3988292384 < 2 ^ 32 := by have := Nat.mod_lt r (show 2 > 0 by decide); omega
  exact Nat.xor_lt_two_pow h1 h2
def rep : Nat → Nat → Nat
  | 0, r => r
  | k + 1, r => st (rep k r)
theorem rep_lt {r : Nat} (h : r < 4294967296) : ∀ k, rep k r < 4294967296
  | 0 => h
  | k + 1 => st_lt (rep_lt h k)
def By (l : List Int) : Prop := ∀ x ∈ l, 0 ≤ x ∧ x < 256
def up (r : Nat) (b : Int) : Nat := rep 8 (r ^^^ b.toNat)
theorem xor_lt {r : Nat} {b : Int} (h : r < 4294967296) (hb : b < 256) : r ^^^ b.toNat < 4294967296 :=
  Nat.xor_lt_two_pow (n := 32) (by omega) (by omega)
theorem up_lt {r : Nat} {b : Int} (h : r < 4294967296) (hb : b < 256) : up r b < 4294967296 := rep_lt (xor_lt h hb) 8
def go (r : Nat) (l : List Int) : Nat := l.foldl up r
theorem go_lt {l : List Int} (hl : By l) : ∀ {r : Nat}, r < 4294967296 → go r l < 4294967296 := by
  induction l with
  | nil => intro r h; exact h
  | cons x l ih => intro r h; exact ih (fun y hy => hl y (List.mem_cons_of_mem _ hy)) (up_lt h (hl x (List.mem_cons_self)).2)
theorem go_snoc (r : Nat) (l : List Int) (x : Int) : go r (l ++ [x]) = up (go r l) x := by simp [go]
def crc (l : List Int) : Nat := 4294967295 - go 4294967295 l
theorem crc_lt (l : List Int) : crc l < 4294967296 := by unfold crc; omega
theorem By.append {a b : List Int} (ha : By a) (hb : By b) : By (a ++ b) := by
  intro x hx
  rcases List.mem_append.1 hx with h | h
  · exact ha x h
  · exact hb x h
theorem By.left {a b : List Int} (h : By (a ++ b)) : By a := fun x hx => h x (List.mem_append_left _ hx)
theorem By.right {a b : List Int} (h : By (a ++ b)) : By b := fun x hx => h x (List.mem_append_right _ hx)
theorem By.take {a : List Int} (h : By a) (n : Nat) : By (a.take n) := fun x hx => h x (List.mem_of_mem_take hx)
theorem By.drop {a : List Int} (h : By a) (n : Nat) : By (a.drop n) := fun x hx => h x (List.mem_of_mem_drop hx)
theorem By.get {a : List Int} (h : By a) {k : Nat} {x : Int} (hk : a[k]? = some x) : 0 ≤ x ∧ x < 256 := h x (List.mem_of_getElem? hk)
/-! ### Numbers as bytes -/
def be (k n : Nat) : List Int := (List.range k).map fun i => ((n / 256 ^ (k - 1 - i) % 256 : Nat) : Int)
theorem be_len (k n : Nat) : (be k n).length = k := by simp [be]
theorem be_by (k n : Nat) : By (be k n) := by
  intro x hx
  obtain ⟨i, -, rfl⟩ := List.mem_map.1 hx
  have := Nat.mod_lt (n / 256 ^ (k - 1 - i)) (show 256 > 0 by decide)
  omega
theorem be_succ (k n : Nat) : be (k + 1) n = be k (n / 256) ++ [((n % 256 : Nat) : Int)] := by
  unfold be
  rw [List.range_succ, List.map_append]
  congr 1
  · refine List.map_congr_left fun i hi => ?_
    have hi := List.mem_range.1 hi
    rw [show k + 1 - 1 - i = (k - 1 - i) + 1 by omega, Nat.pow_succ, Nat.mul_comm, Nat.div_div_eq_div_mul]
  · simp
def val (l : List Int) : Nat := l.foldl (fun n b => n * 256 + b.toNat) 0
theorem val_snoc (l : List Int) (x : Int) : val (l ++ [x]) = val l * 256 + x.toNat := by simp [val]
theorem val_be : ∀ (k n : Nat), n < 256 ^ k → val (be k n) = n
  | 0, n, h => by simp at h; subst h; rfl
  | k + 1, n, h => by
    rw [be_succ, val_snoc, val_be k (n / 256) (by rw [Nat.pow_succ] at h; exact Nat.div_lt_of_lt_mul (by omega))]
    simp only [Int.toNat_natCast]
    omega
theorem rev_ind {C : List Int → Prop} (h0 : C []) (h1 : ∀ l x, C l → C (l ++ [x])) (l : List Int) : C l := by
  have : ∀ n (l : List Int), l.length = n → C l := by
    intro n
    induction n with
    | zero => intro l h; rw [List.eq_nil_of_length_eq_zero h]; exact h0
    | succ n ih =>
      intro l h
      have hne : l ≠ [] := by intro h2; subst h2; simp at h
      rw [← List.dropLast_concat_getLast hne]
      exact h1 _ _ (ih _ (by simp; omega))
  exact this _ l rfl
theorem val_lt {l : List Int} (h : By l) : val l < 256 ^ l.length := by
  induction l using rev_ind with
  | h0 => decide
  | h1 l x ih =>
    have h2 := ih h.left
    have h3 := h.right x (by simp)
    rw [val_snoc, List.length_append, List.length_singleton, Nat.pow_succ]
    have : x.toNat < 256 := by omega
    omega
theorem be_val {l : List Int} (h : By l) : be l.length (val l) = l := by
  induction l using rev_ind with
  | h0 => rfl
  | h1 l x ih =>
    have h2 := ih h.left
    have h3 := h.right x (by simp)
    have : x.toNat < 256 := by omega
    rw [val_snoc, List.length_append, List.length_singleton, be_succ, show (val l * 256 + x.toNat) / 256 = val l by omega, h2,
      show (val l * 256 + x.toNat) % 256 = x.toNat by omega, Int.toNat_of_nonneg h3.1]
/-! ### Frames -/
def sealed (l : List Int) : List Int := l ++ be 4 (crc l)
theorem sealed_by {l : List Int} (h : By l) : By (sealed l) := h.append (be_by _ _)
theorem sealed_len (l : List Int) : (sealed l).length = l.length + 4 := by simp [sealed, be_len]
def rightC (k f cy cr cl : Int) : Prop := (k = 1 ∨ k = 2) ∧ 0 ≤ f ∧ f ≤ 7 ∧ 0 ≤ cy ∧ cy ≤ 1125899906842624 ∧ 0 ≤ cr ∧ cr < 64 ∧ 0 ≤ cl ∧ cl ≤ 1048576
instance (k f cy cr cl : Int) : Decidable (rightC k f cy cr cl) := by unfold rightC; infer_instance
def datB (c l n : Int) (p : List Int) (s : Int) : List Int := [8, 0] ++ be 1 c.toNat ++ be 1 l.toNat ++ be 4 n.toNat ++ be 2 p.length ++ p ++ List.replicate (s.toNat - 14 - p.length) 0
def dat (c l n : Int) (p : List Int) (s : Int) : List Int := sealed (datB c l n p s)
def rightD (c l n : Int) (p : List Int) (s : Int) : Prop := (c = 1 ∨ c = 2 ∨ c = 3) ∧ 0 ≤ l ∧ l ≤ 255 ∧ 0 ≤ n ∧ n ≤ 2147483647 ∧ 64 ≤ s ∧ s ≤ 1518 ∧ (p.length : Int) ≤ s - 14
instance (c l n : Int) (p : List Int) (s : Int) : Decidable (rightD c l n p s) := by unfold rightD; infer_instance
theorem datB_by (c l n : Int) {p : List Int} (hp : By p) (s : Int) : By (datB c l n p s) := by
  unfold datB
  refine ((((((?_ : By [8, 0]).append (be_by _ _)).append (be_by _ _)).append (be_by _ _)).append (be_by _ _)).append hp).append ?_
  · intro x hx
    simp at hx
    omega
  · intro x hx
    obtain rfl := (List.mem_replicate.1 hx).2
    omega
theorem datB_len {c l n : Int} {p : List Int} {s : Int} (h : rightD c l n p s) : (datB c l n p s).length = s.toNat - 4 := by
  obtain ⟨-, -, -, -, -, h1, h2, h3⟩ := h
  simp [datB, be_len]
  omega
theorem dat_len {c l n : Int} {p : List Int} {s : Int} (h : rightD c l n p s) : (dat c l n p s).length = s.toNat := by
  unfold dat
  rw [sealed_len, datB_len h]
  obtain ⟨-, -, -, -, -, h1, h2, h3⟩ := h
  omega
theorem dat_by (c l n : Int) {p : List Int} (hp : By p) (s : Int) : By (dat c l n p s) := sealed_by (datB_by c l n hp s)
/-- Bytes a to b. -/
def sl (l : List Int) (a b : Nat) : List Int := (l.drop a).take (b - a)
theorem sl_len {l : List Int} {a b : Nat} (h1 : a ≤ b) (h2 : b ≤ l.length) : (sl l a b).length = b - a := by simp [sl]; omega
theorem sl_by {l : List Int} (h : By l) (a b : Nat) : By (sl l a b) := (h.drop a).take _
theorem sl_join (l : List Int) {a b c : Nat} (h1 : a ≤ b) (h2 : b ≤ c) : sl l a b ++ sl l b c = sl l a c := by
  unfold sl
  have h3 : c - a = (b - a) + (c - b) := by omega
  have h4 : (l.drop a).take ((b - a) + (c - b)) = (l.drop a).take (b - a) ++ ((l.drop a).drop (b - a)).take (c - b) := List.take_add
  rw [h3, h4, List.drop_drop, show a + (b - a) = b by omega]
theorem sl_all (l : List Int) : sl l 0 l.length = l := by simp [sl]
def wh (l : List Int) : Int := if 2 ≤ l.length then (if sl l 0 2 = [137, 29] then 1 else if sl l 0 2 = [8, 0] then 2 else 0) else 0
def chk (l : List Int) (kind least most : Int) : Int :=
  if (l.length : Int) < least ∨ (l.length : Int) > most ∨ wh l ≠ kind then 2 else if val (sl l (l.length - 4) l.length) ≠ crc (sl l 0 (l.length - 4)) then 8 else 0
theorem chk_ok {l : List Int} {kind least most : Int} : chk l kind least most = 0 ↔ (least ≤ l.length ∧ (l.length : Int) ≤ most ∧ wh l = kind ∧ val (sl l (l.length - 4) l.length) = crc (sl l 0 (l.length - 4))) := by
  unfold chk
  split
  · rename_i h
    constructor
    · intro h2; cases h2
    · rintro ⟨h1, h2, h3, h4⟩
      rcases h with h | h | h
      · omega
      · omega
      · exact absurd h3 h
  · rename_i h
    rw [not_or, not_or] at h
    obtain ⟨h1, h2, h3⟩ := h
    split
    · rename_i h4
      constructor
      · intro h2; cases h2
      · rintro ⟨_, _, _, h5⟩; exact absurd h5 h4
    · rename_i h4
      exact ⟨fun _ => ⟨by omega, by omega, Classical.not_not.1 h3, Classical.not_not.1 h4⟩, fun _ => rfl⟩
/-- The tail that a right sum makes. -/
theorem sum_tail {l : List Int} (h : By l) (h4 : 4 ≤ l.length) (hs : val (sl l (l.length - 4) l.length) = crc (sl l 0 (l.length - 4))) : l = sealed (sl l 0 (l.length - 4)) := by
  have h1 := sl_join l (a := 0) (b := l.length - 4) (c := l.length) (by omega) (by omega)
  rw [sl_all] at h1
  have h2 := be_val (sl_by h (l.length - 4) l.length)
  rw [sl_len (by omega) (by omega), show l.length - (l.length - 4) = 4 by omega, hs] at h2
  unfold sealed
  rw [h2, h1]
theorem sealed_sl (l : List Int) : sl (sealed l) 0 ((sealed l).length - 4) = l ∧ sl (sealed l) ((sealed l).length - 4) (sealed l).length = be 4 (crc l) := by
  have h := sealed_len l
  constructor
  · unfold sl
    rw [h]
    unfold sealed
    simp
  · unfold sl
    rw [h]
    unfold sealed
    have h4 : (l ++ be 4 (crc l)).drop (l.length + 4 - 4) = be 4 (crc l) := by simp
    rw [h4, show l.length + 4 - (l.length + 4 - 4) = 4 by omega]
    exact List.take_of_length_le (by rw [be_len]; decide)
theorem sealed_sum (l : List Int) : val (sl (sealed l) ((sealed l).length - 4) (sealed l).length) = crc (sl (sealed l) 0 ((sealed l).length - 4)) := by
  rw [(sealed_sl l).1, (sealed_sl l).2]
  exact val_be 4 _ (Nat.lt_of_lt_of_le (crc_lt l) (by decide))
def kOf (l : List Int) : Int := (val (sl l 2 3) : Int)
def fOf (l : List Int) : Int := (val (sl l 3 4) : Int)
def cyOf (l : List Int) : Int := (val (sl l 4 12) : Int)
def crOf (l : List Int) : Int := (val (sl l 12 16) : Int)
def clOf (l : List Int) : Int := (val (sl l 16 24) : Int)
def blank (l : List Int) : Prop := ∀ x ∈ l, x = 0
instance (l : List Int) : Decidable (blank l) := by unfold blank; infer_instance
theorem blank_iff {l : List Int} : blank l ↔ l = List.replicate l.length 0 := by
  constructor
  · intro h
    exact List.eq_replicate_iff.2 ⟨rfl, h⟩
  · intro h x hx
    rw [h] at hx
    exact (List.mem_replicate.1 hx).2
def okC (l : List Int) : Prop := chk l 1 34 34 = 0 ∧ rightC (kOf l) (fOf l) (cyOf l) (crOf l) (clOf l) ∧ blank (sl l 24 30)
instance (l : List Int) : Decidable (okC l) := by unfold okC; infer_instance
theorem wh_two {l : List Int} (h : wh l = 2) : 2 ≤ l.length ∧ sl l 0 2 = [8, 0] := by
  unfold wh at h
  split at h
  · rename_i h2
    split at h
    · cases h
    · split at h
      · rename_i h3; exact ⟨h2, h3⟩
      · cases h
  · cases h
theorem be_sl {l : List Int} (h : By l) {a b : Nat} (h1 : a ≤ b) (h2 : b ≤ l.length) : be (b - a) (val (sl l a b)) = sl l a b := by
  have := be_val (sl_by h a b)
  rwa [sl_len h1 h2] at this
def cOf (l : List Int) : Int := (val (sl l 2 3) : Int)
def lOf (l : List Int) : Int := (val (sl l 3 4) : Int)
def nOf (l : List Int) : Int := (val (sl l 4 8) : Int)
def zOf (l : List Int) : Nat := val (sl l 8 10)
def pOf (l : List Int) : List Int := sl l 10 (10 + zOf l)
def fitD (l : List Int) : Prop := zOf l ≤ l.length - 14
instance (l : List Int) : Decidable (fitD l) := by unfold fitD; infer_instance
def okD (l : List Int) : Prop := chk l 2 64 1518 = 0 ∧ fitD l ∧ blank (sl l (10 + zOf l) (l.length - 4)) ∧ rightD (cOf l) (lOf l) (nOf l) (pOf l) l.length
instance (l : List Int) : Decidable (okD l) := by unfold okD; infer_instance
theorem pOf_len {l : List Int} (h : 14 ≤ l.length) (hf : fitD l) : (pOf l).length = zOf l := by
  unfold fitD at hf
  unfold pOf
  rw [sl_len (by omega) (by omega)]
  omega
theorem dat_back {l : List Int} (h : By l) (hc : chk l 2 64 1518 = 0) (hf : fitD l) : dat (cOf l) (lOf l) (nOf l) (pOf l) l.length = l ↔ blank (sl l (10 + zOf l) (l.length - 4)) := by
  obtain ⟨h1, h2, h3, h4⟩ := chk_ok.1 hc
  obtain ⟨-, h5⟩ := wh_two h3
  have ht := sum_tail h (by omega) h4
  have hp := pOf_len (by omega) hf
  unfold fitD at hf
  have e : sl l 0 (l.length - 4) = [8, 0] ++ sl l 2 3 ++ sl l 3 4 ++ sl l 4 8 ++ sl l 8 10 ++ pOf l ++ sl l (10 + zOf l) (l.length - 4) := by
    unfold pOf
    rw [← h5, sl_join l (by omega) (by omega), sl_join l (by omega) (by omega), sl_join l (by omega) (by omega), sl_join l (by omega) (by omega), sl_join l (by omega) (by omega), sl_join l (by omega) (by omega)]
  have b1 := be_sl h (a := 2) (b := 3) (by omega) (by omega)
  have b2 := be_sl h (a := 3) (b := 4) (by omega) (by omega)
  have b3 := be_sl h (a := 4) (b := 8) (by omega) (by omega)
  have b4 := be_sl h (a := 8) (b := 10) (by omega) (by omega)
  have eB : datB (cOf l) (lOf l) (nOf l) (pOf l) l.length = [8, 0] ++ sl l 2 3 ++ sl l 3 4 ++ sl l 4 8 ++ sl l 8 10 ++ pOf l ++ List.replicate (l.length - 14 - zOf l) 0 := by
    unfold datB
    rw [hp]
    unfold cOf lOf nOf zOf
    simp only [Int.toNat_natCast]
    rw [show be 1 (val (sl l 2 3)) = _ from b1, show be 1 (val (sl l 3 4)) = _ from b2, show be 4 (val (sl l 4 8)) = _ from b3, show be 2 (val (sl l 8 10)) = _ from b4]
  have n6 : (sl l (10 + zOf l) (l.length - 4)).length = l.length - 14 - zOf l := by rw [sl_len (by omega) (by omega)]; omega
  rw [blank_iff, n6]
  constructor
  · intro hq
    have hq1 : datB (cOf l) (lOf l) (nOf l) (pOf l) l.length = sl l 0 (l.length - 4) := by
      have h7 := (sealed_sl (datB (cOf l) (lOf l) (nOf l) (pOf l) l.length)).1
      rw [show sealed (datB (cOf l) (lOf l) (nOf l) (pOf l) l.length) = l from hq] at h7
      exact h7.symm
    rw [eB, e] at hq1
    exact (List.append_cancel_left hq1).symm
  · intro hq
    unfold dat
    rw [eB, ← hq, ← e, ← ht]
theorem dat_read {c l n : Int} {p : List Int} {s : Int} (hp : By p) (h : rightD c l n p s) : okD (dat c l n p s) ∧ cOf (dat c l n p s) = c ∧ lOf (dat c l n p s) = l ∧ nOf (dat c l n p s) = n ∧ pOf (dat c l n p s) = p ∧ ((dat c l n p s).length : Int) = s := by
  have hlen := dat_len h
  have hR := h
  obtain ⟨h1, h2, h3, h4, h5, h6, h7, h8⟩ := h
  have e1 : cOf (dat c l n p s) = c := by
    show ((val (be 1 c.toNat) : Nat) : Int) = c
    rw [val_be 1 _ (by omega)]; omega
  have e2 : lOf (dat c l n p s) = l := by
    show ((val (be 1 l.toNat) : Nat) : Int) = l
    rw [val_be 1 _ (by omega)]; omega
  have e3 : nOf (dat c l n p s) = n := by
    show ((val (be 4 n.toNat) : Nat) : Int) = n
    rw [val_be 4 _ (by omega)]; omega
  have e4 : zOf (dat c l n p s) = p.length := by
    show val (be 2 p.length) = p.length
    rw [val_be 2 _ (by omega)]
  have e6 : ((dat c l n p s).length : Int) = s := by omega
  have e5 : pOf (dat c l n p s) = p := by
    unfold pOf
    rw [e4]
    show (List.take (10 + p.length - 10) (([] ++ p ++ List.replicate (s.toNat - 14 - p.length) 0) ++ be 4 (crc (datB c l n p s)))) = p
    rw [show 10 + p.length - 10 = p.length by omega, List.nil_append, List.append_assoc]
    exact List.take_left
  have hf : fitD (dat c l n p s) := by unfold fitD; omega
  have hc : chk (dat c l n p s) 2 64 1518 = 0 := chk_ok.2 ⟨by omega, by omega, by
    have : sl (dat c l n p s) 0 2 = [8, 0] := rfl
    unfold wh; rw [if_pos (by omega), if_neg (by rw [this]; decide), if_pos this], sealed_sum _⟩
  refine ⟨⟨hc, hf, ?_, by rw [e1, e2, e3, e5, e6]; exact hR⟩, e1, e2, e3, e5, e6⟩
  exact (dat_back (dat_by c l n hp s) hc hf).1 (by rw [e1, e2, e3, e5, e6])
end Go.Proofs.Ytnlimdlmhfnkiaa.FrameW

