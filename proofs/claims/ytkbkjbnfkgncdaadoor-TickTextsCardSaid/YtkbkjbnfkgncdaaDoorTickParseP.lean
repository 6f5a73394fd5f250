/- Plain mathematics: the document's reading of decimal digits, and the library's. -/
import Derived.Test.YtkbkjbnfkgncdaaDoorTickText
import Derived.Lib.ParseIntBCases
namespace Go.Proofs.YtkbkjbnfkgncdaaDoor.TickW
open Go.RowKit
def digs (acc : Nat) : List UInt8 → Option Nat
  | [] => some acc
  | c :: r => if 48 ≤ c.toNat ∧ c.toNat ≤ 57 then digs (acc * 10 + (c.toNat - 48)) r else none
theorem digs_snoc (c : UInt8) : ∀ (l : List UInt8) (acc : Nat), digs acc (l ++ [c]) = (digs acc l).bind fun m => if 48 ≤ c.toNat ∧ c.toNat ≤ 57 then some (m * 10 + (c.toNat - 48)) else none := by
  intro l
  induction l with
  | nil => intro acc; simp [digs]
  | cons x l ih =>
    intro acc
    rw [List.cons_append, digs, digs]
    by_cases h : 48 ≤ x.toNat ∧ x.toNat ≤ 57
    · rw [if_pos h, if_pos h, ih]
    · rw [if_neg h, if_neg h]; rfl
theorem u8_digit (d : Nat) (h : d < 10) : (UInt8.ofNat (48 + d)).toNat = 48 + d := by
  rw [UInt8.toNat_ofNat']; omega
theorem digs_dec (m : Nat) : digs 0 (Lib.decDigits m) = some m := by
  induction m using Nat.strongRecOn with
  | _ m ih =>
    rw [Lib.decDigits]
    by_cases h : m < 10
    · rw [dif_pos h]
      simp only [digs]
      rw [u8_digit m h, if_pos (by omega)]
      congr 1; omega
    · rw [dif_neg h, digs_snoc, ih (m / 10) (by omega), Option.bind_some, u8_digit _ (by omega), if_pos (by omega)]
      congr 1; omega
theorem dec_of_digs (n : Nat) : ∀ (l : List UInt8) (m : Nat), l.length = n → l ≠ [] → digs 0 l = some m → (l.head? ≠ some 48 ∨ l.length = 1) → Lib.decDigits m = l := by
  induction n with
  | zero => intro l m hl hne; exact absurd (List.eq_nil_of_length_eq_zero hl) hne
  | succ n ih =>
    intro l m hl hne hd hh
    obtain ⟨l', c, rfl⟩ : ∃ l' c, l = l' ++ [c] := ⟨l.dropLast, l.getLast hne, (List.dropLast_concat_getLast hne).symm⟩
    rw [digs_snoc] at hd
    cases hp : digs 0 l' with
    | none => rw [hp] at hd; cases hd
    | some m' =>
      rw [hp, Option.bind_some] at hd
      by_cases hc : 48 ≤ c.toNat ∧ c.toNat ≤ 57
      · rw [if_pos hc] at hd
        have hm : m = m' * 10 + (c.toNat - 48) := (Option.some.inj hd).symm
        have hcc : UInt8.ofNat (48 + (c.toNat - 48)) = c := by
          apply UInt8.toNat_inj.1
          rw [u8_digit _ (by omega)]; omega
        cases hl' : l' with
        | nil =>
          rw [hl'] at hp
          have : m' = 0 := by simpa [digs] using hp.symm
          rw [Lib.decDigits, dif_pos (by omega), List.nil_append]
          rw [show m = c.toNat - 48 by omega, hcc]
        | cons x t =>
          rw [← hl']
          have hne' : l' ≠ [] := by rw [hl']; exact List.cons_ne_nil _ _
          have hlen : l'.length = n := by rw [List.length_append] at hl; simp at hl; exact hl
          have hhead : l'.head? ≠ some 48 := by
            rcases hh with h | h
            · rw [hl'] at h ⊢; simpa using h
            · rw [hl'] at h; simp at h
          have hdec := ih l' m' hlen hne' hp (Or.inl hhead)
          have hpos : m' ≠ 0 := by
            rintro rfl
            rw [Lib.decDigits_one (by omega)] at hdec
            rw [← hdec] at hhead
            exact hhead rfl
          rw [Lib.decDigits, dif_neg (by omega), show m / 10 = m' by omega, hdec, show m % 10 = c.toNat - 48 by omega, hcc]
      · rw [if_neg hc] at hd; cases hd
theorem digs_mono : ∀ (l : List UInt8) (acc m : Nat), digs acc l = some m → acc ≤ m := by
  intro l
  induction l with
  | nil => intro acc m h; have : acc = m := by simpa [digs] using h
           omega
  | cons x l ih =>
    intro acc m h
    rw [digs] at h
    by_cases hx : 48 ≤ x.toNat ∧ x.toNat ≤ 57
    · rw [if_pos hx] at h; have := ih _ _ h; omega
    · rw [if_neg hx] at h; cases h
theorem uint_of_digs : ∀ (l : List UInt8) (acc m : Nat), digs acc l = some m → m ≤ 18446744073709551615 → Lib.parseUintM 18446744073709551615 acc l = .ok m := by
  intro l
  induction l with
  | nil => intro acc m h _; have : acc = m := by simpa [digs] using h
           rw [this]; rfl
  | cons x l ih =>
    intro acc m h hm
    rw [digs] at h
    by_cases hx : 48 ≤ x.toNat ∧ x.toNat ≤ 57
    · rw [if_pos hx] at h
      have := digs_mono _ _ _ h
      rw [Lib.parseUintM, if_pos hx, if_neg (by omega), if_neg (by omega)]
      exact ih _ _ h hm
    · rw [if_neg hx] at h; cases h
theorem dec_zero : ∀ (m : Nat) (r : List UInt8), Lib.decDigits m = 48 :: r → m = 0 := by
  intro m
  induction m using Nat.strongRecOn with
  | _ m ih =>
    intro r h
    rw [Lib.decDigits] at h
    by_cases hm : m < 10
    · rw [dif_pos hm] at h
      have := congrArg (fun l : List UInt8 => (l.headD 0).toNat) h
      simp only [List.headD_cons] at this
      rw [u8_digit m hm] at this
      have : (48 : UInt8).toNat = 48 := rfl
      omega
    · rw [dif_neg hm] at h
      cases hl : Lib.decDigits (m / 10) with
      | nil => have h1 := Lib.decDigits_length (m / 10); rw [hl] at h1; have := Lib.nDigits_pos (m / 10); simp at h1; omega
      | cons c t =>
        rw [hl, List.cons_append] at h
        injection h with h1 _
        subst h1
        have := ih (m / 10) (by omega) t hl
        omega
theorem dec_head (m : Nat) : ∃ c r, Lib.decDigits m = c :: r ∧ 48 ≤ c.toNat ∧ c.toNat ≤ 57 ∧ (c = 48 → m = 0) := by
  have hd := digs_dec m
  cases hl : Lib.decDigits m with
  | nil => have := Lib.decDigits_length m; rw [hl] at this; have := Lib.nDigits_pos m; simp at *; omega
  | cons c r =>
    rw [hl] at hd
    refine ⟨c, r, rfl, ?_⟩
    rw [digs] at hd
    by_cases hx : 48 ≤ c.toNat ∧ c.toNat ≤ 57
    · refine ⟨hx.1, hx.2, ?_⟩
      rintro rfl
      exact dec_zero m r hl
    · rw [if_neg hx] at hd; cases hd
theorem parse_itoa (v : Int) (h0 : -9223372036854775808 ≤ v) (h1 : v ≤ 9223372036854775807) : Lib.parseIntB 64 (Lib.itoa v) = .ok v := by
  have hu : ∀ m : Nat, m < 18446744073709551616 → Lib.parseUintB 64 (Lib.decDigits m) = .ok m := by
    intro m hm
    obtain ⟨c, r, hl, _⟩ := dec_head m
    unfold Lib.parseUintB
    rw [if_neg (by rw [hl]; exact List.cons_ne_nil _ _)]
    exact uint_of_digs _ 0 m (digs_dec m) (by omega)
  rcases Int.lt_or_le v 0 with h | h
  · obtain ⟨m, hm⟩ : ∃ m : Nat, v = -(m : Int) := ⟨v.natAbs, by omega⟩
    subst hm
    rw [Lib.itoa_neg m (by omega), Lib.parseIntB_minus, hu m (by omega)]
    unfold Lib.signedC
    simp only
    rw [if_neg (by omega)]
  · obtain ⟨m, rfl⟩ := Int.eq_ofNat_of_zero_le h
    rw [Lib.itoa_nonneg]
    obtain ⟨c, r, hl, hc0, hc1, _⟩ := dec_head m
    rw [hl, Lib.parseIntB_plain _ _ _ (by omega) (by omega), ← hl, hu m (by omega)]
    unfold Lib.signlessC
    simp only
    rw [if_neg (by omega)]
/-- The document's reading. -/
def coreR (l : List UInt8) : Option Int :=
  if (if l.head? = some 45 then l.drop 1 else l).length < 1 ∨ 19 < (if l.head? = some 45 then l.drop 1 else l).length then none else
  match digs 0 (if l.head? = some 45 then l.drop 1 else l) with
  | none => none
  | some m => if ((if l.head? = some 45 then l.drop 1 else l).head? = some 48 ∧ 1 < l.length) ∨ (¬ l.head? = some 45 ∧ 9223372036854775808 ≤ m) ∨ (l.head? = some 45 ∧ 9223372036854775808 < m) then none else some (if l.head? = some 45 then -(m : Int) else (m : Int))
theorem nd19 (m : Nat) (h : m ≤ 9223372036854775808) : Lib.nDigits m ≤ 19 := by
  rcases Nat.lt_or_ge 19 (Lib.nDigits m) with h1 | h1
  · have h2 : ∀ (k u : Nat), k + 1 < Lib.nDigits u → 10 ^ (k + 1) ≤ u := by
      intro k
      induction k with
      | zero => intro u hu
                by_cases hs : u < 10
                · rw [Lib.nDigits_small hs] at hu; omega
                · omega
      | succ k ih =>
        intro u hu
        by_cases hs : u < 10
        · rw [Lib.nDigits_small hs] at hu; omega
        · rw [Lib.nDigits_big hs] at hu
          have := ih (u / 10) (by omega)
          rw [Nat.pow_succ]; omega
    have := h2 18 m h1
    omega
  · exact h1
theorem coreR_itoa (v : Int) (h0 : -9223372036854775808 ≤ v) (h1 : v ≤ 9223372036854775807) : coreR (Lib.itoa v) = some v := by
  rcases Int.lt_or_le v 0 with h | h
  · obtain ⟨m, hm⟩ : ∃ m : Nat, v = -(m : Int) := ⟨v.natAbs, by omega⟩
    subst hm
    rw [Lib.itoa_neg m (by omega)]
    obtain ⟨c, r, hl, hc0, hc1, hz⟩ := dec_head m
    have hlen := Lib.decDigits_length m
    have hp := Lib.nDigits_pos m
    have h19 := nd19 m (by omega)
    have hd := digs_dec m
    unfold coreR
    simp only [List.head?_cons, if_true, List.drop_succ_cons, List.drop_zero]
    rw [if_neg (by omega), hd]
    simp only
    rw [if_neg]
    rintro (⟨h2, _⟩ | ⟨h2, _⟩ | ⟨_, h2⟩)
    · rw [hl] at h2
      have : m = 0 := hz (by simpa using h2)
      omega
    · exact h2 trivial
    · omega
  · obtain ⟨m, rfl⟩ := Int.eq_ofNat_of_zero_le h
    rw [Lib.itoa_nonneg]
    obtain ⟨c, r, hl, hc0, hc1, hz⟩ := dec_head m
    have hlen := Lib.decDigits_length m
    have hp := Lib.nDigits_pos m
    have h19 := nd19 m (by omega)
    have hd := digs_dec m
    have hn : ¬ (Lib.decDigits m).head? = some 45 := by
      rw [hl]
      intro e
      have : c = 45 := by simpa using e
      rw [this] at hc0
      have : (45 : UInt8).toNat = 45 := rfl
      omega
    unfold coreR
    rw [if_neg hn, if_neg (by omega), hd]
    simp only
    rw [if_neg, if_neg hn]
    rintro (⟨h2, h3⟩ | ⟨_, h2⟩ | ⟨h2, _⟩)
    · rw [hl] at h2
      have : m = 0 := hz (by simpa using h2)
      subst this
      rw [Lib.decDigits_one (by omega)] at h3
      simp at h3
    · omega
    · exact hn h2
theorem itoa_of_coreR {l : List UInt8} {v : Int} (h : coreR l = some v) : Lib.itoa v = l ∧ -9223372036854775808 ≤ v ∧ v ≤ 9223372036854775807 := by
  unfold coreR at h
  by_cases hn : l.head? = some 45
  · simp only [if_pos hn] at h
    obtain ⟨t, rfl⟩ : ∃ t, l = 45 :: t := by
      cases l with
      | nil => simp at hn
      | cons c t => exact ⟨t, by rw [show c = 45 by simpa using hn]⟩
    simp only [List.drop_succ_cons, List.drop_zero] at h
    by_cases hlen : t.length < 1 ∨ 19 < t.length
    · rw [if_pos hlen] at h; cases h
    · rw [if_neg hlen] at h
      cases hd : digs 0 t with
      | none => rw [hd] at h; cases h
      | some m =>
        rw [hd] at h
        simp only at h
        split at h
        · cases h
        · rename_i hc
          have hv := Option.some.inj h
          have hne : t ≠ [] := by rintro rfl; simp at hlen
          have hh : t.head? ≠ some 48 := fun e => hc (Or.inl ⟨e, by simp; omega⟩)
          have hdec := dec_of_digs _ t m rfl hne hd (Or.inl hh)
          have hm : m ≤ 9223372036854775808 := by
            rcases Nat.lt_or_ge 9223372036854775808 m with h5 | h5
            · exact absurd (Or.inr (Or.inr ⟨rfl, h5⟩)) hc
            · exact h5
          have hm1 : 1 ≤ m := by
            rcases Nat.eq_zero_or_pos m with rfl | h5
            · rw [Lib.decDigits_one (by omega)] at hdec
              rw [← hdec] at hh
              exact absurd rfl hh
            · exact h5
          subst hv
          rw [Lib.itoa_neg m hm1, hdec]
          exact ⟨rfl, by omega, by omega⟩
  · simp only [if_neg hn] at h
    by_cases hlen : l.length < 1 ∨ 19 < l.length
    · rw [if_pos hlen] at h; cases h
    · rw [if_neg hlen] at h
      cases hd : digs 0 l with
      | none => rw [hd] at h; cases h
      | some m =>
        rw [hd] at h
        simp only at h
        split at h
        · cases h
        · rename_i hc
          have hv := Option.some.inj h
          have hne : l ≠ [] := by rintro rfl; simp at hlen
          have hh : l.head? ≠ some 48 ∨ l.length = 1 := by
            by_cases e : l.head? = some 48
            · right
              rcases Nat.lt_or_ge 1 l.length with h5 | h5
              · exact absurd (Or.inl ⟨e, h5⟩) hc
              · omega
            · exact Or.inl e
          have hdec := dec_of_digs _ l m rfl hne hd hh
          have hm : m < 9223372036854775808 := by
            rcases Nat.lt_or_ge m 9223372036854775808 with h5 | h5
            · exact h5
            · exact absurd (Or.inr (Or.inl ⟨hn, h5⟩)) hc
          subst hv
          rw [Lib.itoa_nonneg, hdec]
          exact ⟨rfl, by omega, by omega⟩
/-- The program's reading is the document's. -/
theorem parse_core (s : ByteArray) : parseN s = coreR s.data.toList := by
  cases h : coreR s.data.toList with
  | some v =>
    obtain ⟨h1, h2, h3⟩ := itoa_of_coreR h
    have hp := parse_itoa v h2 h3
    rw [h1] at hp
    unfold parseN
    rw [hp]
    simp only
    rw [if_pos]
    unfold itoaS
    rw [h1]
  | none =>
    unfold parseN
    cases hp : Lib.parseIntB 64 s.data.toList with
    | ok v =>
      simp only
      by_cases he : itoaS v = s
      · obtain ⟨v0, v1⟩ := Lib.parseIntB_bounds hp
        have := coreR_itoa v v0 (by have : v < 9223372036854775808 := v1; omega)
        rw [← he] at h
        rw [show (itoaS v).data.toList = Lib.itoa v from rfl, this] at h
        cases h
      · rw [if_neg he]
    | _ => rfl
end Go.Proofs.YtkbkjbnfkgncdaaDoor.TickW
