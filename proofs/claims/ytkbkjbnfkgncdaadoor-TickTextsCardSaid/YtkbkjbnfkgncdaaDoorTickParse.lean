/- The document's own Parse, walked. -/
import Derived.Test.YtkbkjbnfkgncdaaDoorTickParseP
import Derived.Test.YtkbkjbnfkgncdaaDoorTickPrint
namespace Go.Proofs.YtkbkjbnfkgncdaaDoor.TickW
open Go.RowKit
theorem byte_at (t : ByteArray) (k : Nat) (h : k < t.size) (n : Nat) (hn : (t.data.toList.getD k 0).toNat = n) (w : World) : (Instr.index 9 (.string t) (.int .i64 (k : Int))).run Tryd.prog w = .ok (.int .u8 (n : Int)) w := by
  rw [run_index_string w _ t .i64 k Tryd.underlying9, dif_pos ⟨by omega, by omega⟩]
  have e : t.data.toList.getD k 0 = t[k] := by
    rw [List.getD_eq_getElem?_getD, Array.getElem?_toList, Array.getElem?_eq_getElem (by exact h)]
    rfl
  rw [← hn, e]
  rfl
set_option maxHeartbeats 4000000 in
set_option maxRecDepth 100000 in
theorem refParse_pos (s : ByteArray) (c0 : UInt8) (t0 D : List UInt8) (hl : s.data.toList = c0 :: t0) (hc : c0 ≠ 45) (hD : D = c0 :: t0) (hsz : s.size ≤ 281474976710656) (w : World) :
    Calls Tryd.prog 27 #[.string s] w fun e w' => e = .returned (parseV (coreR (c0 :: t0))) ∧ w = w' := by
  have hL : s.size = t0.length + 1 := by rw [Lib.size_eq, hl]; rfl
  have k00 : 0 < s.size := by omega
  have hz : s[0]'k00 = c0 := by
    have e : s.data.toList[0]? = some c0 := by rw [hl]; rfl
    rw [Array.getElem?_toList, Array.getElem?_eq_getElem (by exact k00)] at e
    exact Option.some.inj e
  have kn : (((s[0]'k00).toNat : Int) == 45) = false := by rw [hz]; rw [beq_eq_false_iff_ne]; intro e; exact hc (UInt8.toNat_inj.1 (by have : (45 : UInt8).toNat = 45 := rfl; omega))
  have hh : ¬ ((c0 :: t0).head? = some (45 : UInt8)) := by intro e; exact hc (by simpa using e)
  have HC : Hid (coreR (c0 :: t0) = if D.length < 1 ∨ 19 < D.length then none else match digs 0 D with
    | none => none
    | some m => if (D.head? = some 48 ∧ 1 < s.size) ∨ 9223372036854775808 ≤ m then none else some ((m : Int))) := Lib.hid (by
    unfold coreR
    rw [if_neg hh, hD, hL]
    simp only [List.length_cons, hh, not_false_eq_true, true_and, false_and, or_false]
    rfl)
  have hDl : D.length + 0 = s.size := by rw [hD, hL]; simp
  have hDb : ∀ k, k < D.length → ∀ n, (D.getD k 0).toNat = n → ∀ w, (Instr.index 9 (.string s) (.int .i64 ((k + 0 : Nat) : Int))).run Tryd.prog w = .ok (.int .u8 (n : Int)) w := by
    intro k hk n hn w
    refine byte_at s (k + 0) (by omega) n ?_ w
    rw [← hn, hl, hD]; rfl
  have HZ48 : Hid (∀ h : 0 < s.size, (D.head? = some 48 ↔ (s[0]'h).toNat = 48)) := Lib.hid (by
    intro h
    have e : s.data.toList[0]? = D.head? := by rw [hl, hD]; cases t0 <;> rfl
    rw [Array.getElem?_toList, Array.getElem?_eq_getElem (by exact h)] at e
    rw [← e]
    constructor
    · intro h1
      have h2 : s.data[0]'h = 48 := Option.some.inj h1
      exact congrArg UInt8.toNat h2
    · intro h1
      exact congrArg some (UInt8.toNat_inj.1 h1))
  have HDL := Lib.hid hDl
  have HSZ := Lib.hid hsz
  have HDB := Lib.hid hDb
  have k0 : (0 : Int) < (s.size : Int) := by omega
  clear hsz hz hc hl hL hDb hDl hh hD
  by_cases hlen : D.length < 1 ∨ 19 < D.length
  · have HR := Lib.hid (HC.out.trans (if_pos hlen))
    rcases hlen with h1 | h1
    · exfalso; have := HDL.out; omega
    · have e1 : ¬ (wrap64 (s.size : Int) < 1) := by have := HDL.out; have := HSZ.out; unfold wrap64; omega
      have e3 : (19 : Int) < wrap64 (s.size : Int) := by have := HDL.out; have := HSZ.out; unfold wrap64; omega
      clear HC h1
      go_enter Tryd.func27, Tryd.ntmps27
      go_wp2
      go_ret2
      exact ⟨by rw [HR.out]; rfl, rfl⟩
  · have HR : Hid (coreR (c0 :: t0) = _) := Lib.hid (HC.out.trans (if_neg hlen))
    have e1 : ¬ (wrap64 (s.size : Int) < 1) := by have := HDL.out; have := HSZ.out; unfold wrap64; omega
    have e3 : ¬ ((19 : Int) < wrap64 (s.size : Int)) := by have := HDL.out; have := HSZ.out; unfold wrap64; omega
    have HS := Lib.hid (show 1 ≤ D.length ∧ D.length ≤ 19 by omega)
    clear HC hlen
    go_enter Tryd.func27, Tryd.ntmps27
    go_wp2
    go_loop [6, 7] (fun vn vi => ∃ (k i acc : Nat) (a : Int), vn = .int .u64 a ∧ vi = .int .i64 (i : Int) ∧ k ≤ D.length ∧ Hid (i = k + 0 ∧ a = (acc : Int) ∧ acc < 10 ^ k ∧ digs 0 D = digs acc (D.drop k)))
      (fun _ vi => 20 - (intOf vi).toNat)
    case atStart => exact ⟨0, 0, 0, 0, rfl, rfl, Nat.zero_le _, Lib.hid ⟨rfl, rfl, by decide, rfl⟩⟩
    case round =>
      obtain ⟨k, i, acc, a, rfl, rfl, hk, hh⟩ := hrel
      obtain ⟨hi, ha, hacc, hdec⟩ := hh.out
      clear hh
      have a0 : 0 ≤ a := by omega
      by_cases hkn : k < D.length
      · have hlen := HS.out
        have hdrop : D.drop k = D[k]'(by omega) :: D.drop (k + 1) := List.drop_eq_getElem_cons (by omega)
        have hget : D.getD k 0 = D[k]'(by omega) := by simp [List.getD, List.getElem?_eq_getElem (show k < D.length by omega)]
        rw [hdrop] at hdec
        have hacc15 : acc < 10 ^ 18 := Nat.lt_of_lt_of_le hacc (Nat.pow_le_pow_right (by decide) (by omega))
        have hstep : ∀ d, d < 10 → acc * 10 + d < 10 ^ (k + 1) := fun d hd => by rw [Nat.pow_succ]; omega
        have a1 : a < 1000000000000000000 := by omega
        generalize D[k]'(by omega) = c at hget hdec
        have hn : c.toNat < 256 := c.toNat_lt
        have ix := HDB.out k hkn c.toNat (by rw [hget])
        rw [← hi] at ix
        have hsl : (i : Int) < (s.size : Int) := by have := HDL.out; omega
        have HI := Lib.hid (And.intro hi HDL.out)
        have hi30 : (i : Int) < 30 := by omega
        have hd1 : digs acc (c :: D.drop (k + 1)) = if 48 ≤ c.toNat ∧ c.toNat ≤ 57 then digs (acc * 10 + (c.toNat - 48)) (D.drop (k + 1)) else none := by rw [digs]
        clear hdrop hget hacc15
        generalize c.toNat = n at *
        have HK := Lib.hid (And.intro hkn hlen)
        clear hlen
        by_cases hdig : 48 ≤ n ∧ n ≤ 57
        · have HN : Hid (a * 10 + ((n : Int) - 48) = ((acc * 10 + (n - 48) : Nat) : Int) ∧ acc * 10 + (n - 48) < 10 ^ (k + 1) ∧ digs 0 D = digs (acc * 10 + (n - 48)) (D.drop (k + 1))) := Lib.hid ⟨by omega, hstep _ (by omega), hdec.trans (by rw [hd1, if_pos hdig])⟩
          obtain ⟨hd0, hd2⟩ := hdig
          clear hd1 hdec hstep ha hacc hkn hk hi
          go_wp2
          exact ⟨⟨k + 1, i + 1, acc * 10 + (n - 48), a * 10 + ((n : Int) - 48), rfl, (by first | rfl | (congr 1; omega)), by have := HK.out; omega, Lib.hid ⟨by have := HI.out; omega, HN.out⟩⟩, by have := HK.out; have := HI.out; simp [intOf]; omega⟩
        · have HN := Lib.hid (show digs 0 D = none from hdec.trans (by rw [hd1, if_neg hdig]))
          have HF : Hid (coreR (c0 :: t0) = none) := Lib.hid (by rw [HR.out, HN.out])
          have ways : n < 48 ∨ 57 < n := by omega
          clear hd1 hdec hstep ha hacc hdig hkn hk hi
          rcases ways with u1 | u1
          · go_wp2
            go_ret2
            exact ⟨by rw [HF.out]; rfl, rfl⟩
          · go_wp2
            go_ret2
            exact ⟨by rw [HF.out]; rfl, rfl⟩
      · obtain rfl : k = D.length := by omega
        have hr : digs 0 D = some acc := by rw [hdec, List.drop_eq_nil_of_le (Nat.le_refl _)]; rfl
        have hlt : acc < 10 ^ 19 := Nat.lt_of_lt_of_le hacc (Nat.pow_le_pow_right (by decide) HS.out.2)
        have HN := HR.out
        rw [hr] at HN
        simp only at HN
        have hsl : ¬ ((i : Int) < (s.size : Int)) := by have := HDL.out; omega
        have HNF := Lib.hid HN
        have hat : 0 < s.size := by have := HDL.out; have := HS.out; omega
        have h48 := HZ48.out hat
        have hb : acc < 10000000000000000000 := hlt
        clear hk hacc hdec hkn hr hlt HN hi
        subst ha
        skip
        by_cases hA : (s[0]'hat).toNat = 48
        · have kz : (((s[0]'hat).toNat : Int) == 48) = true := by rw [beq_iff_eq]; omega
          have hA2 := h48.2 hA
          by_cases hB : (1 : Int) < (s.size : Int)
          · have HF : Hid (coreR (c0 :: t0) = none) := Lib.hid (by rw [HNF.out, if_pos (Or.inl ⟨hA2, by omega⟩)])
            clear hA hA2 h48 hb
            go_wp2
            go_ret2
            exact ⟨by rw [HF.out]; rfl, rfl⟩
          · by_cases hC : (9223372036854775808 : Int) ≤ (acc : Int)
            · have HF : Hid (coreR (c0 :: t0) = none) := Lib.hid (by rw [HNF.out, if_pos (Or.inr (by omega))])
              clear hA hA2 h48 hb
              go_wp2
              go_ret2
              exact ⟨by rw [HF.out]; rfl, rfl⟩
            · have HF : Hid (coreR (c0 :: t0) = some ((acc : Int))) := Lib.hid (by rw [HNF.out, if_neg (by rintro (⟨_, h⟩ | h) <;> omega)])
              have ew : wrap64 (acc : Int) = (acc : Int) := by unfold wrap64; omega
              clear hA hA2 h48 hb
              go_wp2
              go_ret2
              exact ⟨by rw [HF.out]; rfl, rfl⟩
        · have kz : (((s[0]'hat).toNat : Int) == 48) = false := by rw [beq_eq_false_iff_ne]; omega
          by_cases hC : (9223372036854775808 : Int) ≤ (acc : Int)
          · have HF : Hid (coreR (c0 :: t0) = none) := Lib.hid (by rw [HNF.out, if_pos (Or.inr (by omega))])
            clear hA h48 hb
            go_wp2
            go_ret2
            exact ⟨by rw [HF.out]; rfl, rfl⟩
          · have HF : Hid (coreR (c0 :: t0) = some ((acc : Int))) := Lib.hid (by rw [HNF.out, if_neg (by rintro (⟨h, _⟩ | h); exact hA (h48.1 h); omega)])
            have ew : wrap64 (acc : Int) = (acc : Int) := by unfold wrap64; omega
            clear hA h48 hb
            go_wp2
            go_ret2
            exact ⟨by rw [HF.out]; rfl, rfl⟩
set_option maxHeartbeats 4000000 in
set_option maxRecDepth 100000 in
theorem refParse_neg (s : ByteArray) (c0 : UInt8) (t0 D : List UInt8) (hl : s.data.toList = c0 :: t0) (hc : c0 = 45) (hD : D = t0) (hsz : s.size ≤ 281474976710656) (w : World) :
    Calls Tryd.prog 27 #[.string s] w fun e w' => e = .returned (parseV (coreR (c0 :: t0))) ∧ w = w' := by
  have hL : s.size = t0.length + 1 := by rw [Lib.size_eq, hl]; rfl
  have k00 : 0 < s.size := by omega
  have hz : s[0]'k00 = c0 := by
    have e : s.data.toList[0]? = some c0 := by rw [hl]; rfl
    rw [Array.getElem?_toList, Array.getElem?_eq_getElem (by exact k00)] at e
    exact Option.some.inj e
  have kn : (((s[0]'k00).toNat : Int) == 45) = true := by rw [hz]; first | (rw [hc]; done) | (rw [hc]; rfl)
  have hh : ((c0 :: t0).head? = some (45 : UInt8)) := by first | (rw [hc]; done) | (rw [hc]; rfl)
  have HC : Hid (coreR (c0 :: t0) = if D.length < 1 ∨ 19 < D.length then none else match digs 0 D with
    | none => none
    | some m => if (D.head? = some 48 ∧ 1 < s.size) ∨ 9223372036854775808 < m then none else some (-(m : Int))) := Lib.hid (by
    unfold coreR
    rw [if_pos hh, hD, hL]
    simp only [List.length_cons, List.drop_succ_cons, List.drop_zero, hh, not_true_eq_false, false_and, true_and, false_or]
    rfl)
  have hDl : D.length + 1 = s.size := by rw [hD, hL]
  have hDb : ∀ k, k < D.length → ∀ n, (D.getD k 0).toNat = n → ∀ w, (Instr.index 9 (.string s) (.int .i64 ((k + 1 : Nat) : Int))).run Tryd.prog w = .ok (.int .u8 (n : Int)) w := by
    intro k hk n hn w
    refine byte_at s (k + 1) (by omega) n ?_ w
    rw [← hn, hl, hD]; rfl
  have HZ48 : Hid (∀ h : 1 < s.size, (D.head? = some 48 ↔ (s[1]'h).toNat = 48)) := Lib.hid (by
    intro h
    have e : s.data.toList[1]? = D.head? := by rw [hl, hD]; cases t0 <;> rfl
    rw [Array.getElem?_toList, Array.getElem?_eq_getElem (by exact h)] at e
    rw [← e]
    constructor
    · intro h1
      have h2 : s.data[1]'h = 48 := Option.some.inj h1
      exact congrArg UInt8.toNat h2
    · intro h1
      exact congrArg some (UInt8.toNat_inj.1 h1))
  have HDL := Lib.hid hDl
  have HSZ := Lib.hid hsz
  have HDB := Lib.hid hDb
  have k0 : (0 : Int) < (s.size : Int) := by omega
  clear hsz hz hc hl hL hDb hDl hh hD
  by_cases hlen : D.length < 1 ∨ 19 < D.length
  · have HR := Lib.hid (HC.out.trans (if_pos hlen))
    rcases hlen with h1 | h1
    · have e1 : wrap64 ((s.size : Int) - 1) < 1 := by have := HDL.out; have := HSZ.out; unfold wrap64; omega
      clear HC h1
      go_enter Tryd.func27, Tryd.ntmps27
      go_wp2
      go_ret2
      exact ⟨by rw [HR.out]; rfl, rfl⟩
    · have e1 : ¬ (wrap64 ((s.size : Int) - 1) < 1) := by have := HDL.out; have := HSZ.out; unfold wrap64; omega
      have e3 : (19 : Int) < wrap64 ((s.size : Int) - 1) := by have := HDL.out; have := HSZ.out; unfold wrap64; omega
      clear HC h1
      go_enter Tryd.func27, Tryd.ntmps27
      go_wp2
      go_ret2
      exact ⟨by rw [HR.out]; rfl, rfl⟩
  · have HR : Hid (coreR (c0 :: t0) = _) := Lib.hid (HC.out.trans (if_neg hlen))
    have e1 : ¬ (wrap64 ((s.size : Int) - 1) < 1) := by have := HDL.out; have := HSZ.out; unfold wrap64; omega
    have e3 : ¬ ((19 : Int) < wrap64 ((s.size : Int) - 1)) := by have := HDL.out; have := HSZ.out; unfold wrap64; omega
    have HS := Lib.hid (show 1 ≤ D.length ∧ D.length ≤ 19 by omega)
    clear HC hlen
    go_enter Tryd.func27, Tryd.ntmps27
    go_wp2
    go_loop [6, 7] (fun vn vi => ∃ (k i acc : Nat) (a : Int), vn = .int .u64 a ∧ vi = .int .i64 (i : Int) ∧ k ≤ D.length ∧ Hid (i = k + 1 ∧ a = (acc : Int) ∧ acc < 10 ^ k ∧ digs 0 D = digs acc (D.drop k)))
      (fun _ vi => 20 - (intOf vi).toNat)
    case atStart => exact ⟨0, 1, 0, 0, rfl, rfl, Nat.zero_le _, Lib.hid ⟨rfl, rfl, by decide, rfl⟩⟩
    case round =>
      obtain ⟨k, i, acc, a, rfl, rfl, hk, hh⟩ := hrel
      obtain ⟨hi, ha, hacc, hdec⟩ := hh.out
      clear hh
      have a0 : 0 ≤ a := by omega
      by_cases hkn : k < D.length
      · have hlen := HS.out
        have hdrop : D.drop k = D[k]'(by omega) :: D.drop (k + 1) := List.drop_eq_getElem_cons (by omega)
        have hget : D.getD k 0 = D[k]'(by omega) := by simp [List.getD, List.getElem?_eq_getElem (show k < D.length by omega)]
        rw [hdrop] at hdec
        have hacc15 : acc < 10 ^ 18 := Nat.lt_of_lt_of_le hacc (Nat.pow_le_pow_right (by decide) (by omega))
        have hstep : ∀ d, d < 10 → acc * 10 + d < 10 ^ (k + 1) := fun d hd => by rw [Nat.pow_succ]; omega
        have a1 : a < 1000000000000000000 := by omega
        generalize D[k]'(by omega) = c at hget hdec
        have hn : c.toNat < 256 := c.toNat_lt
        have ix := HDB.out k hkn c.toNat (by rw [hget])
        rw [← hi] at ix
        have hsl : (i : Int) < (s.size : Int) := by have := HDL.out; omega
        have HI := Lib.hid (And.intro hi HDL.out)
        have hi30 : (i : Int) < 30 := by omega
        have hd1 : digs acc (c :: D.drop (k + 1)) = if 48 ≤ c.toNat ∧ c.toNat ≤ 57 then digs (acc * 10 + (c.toNat - 48)) (D.drop (k + 1)) else none := by rw [digs]
        clear hdrop hget hacc15
        generalize c.toNat = n at *
        have HK := Lib.hid (And.intro hkn hlen)
        clear hlen
        by_cases hdig : 48 ≤ n ∧ n ≤ 57
        · have HN : Hid (a * 10 + ((n : Int) - 48) = ((acc * 10 + (n - 48) : Nat) : Int) ∧ acc * 10 + (n - 48) < 10 ^ (k + 1) ∧ digs 0 D = digs (acc * 10 + (n - 48)) (D.drop (k + 1))) := Lib.hid ⟨by omega, hstep _ (by omega), hdec.trans (by rw [hd1, if_pos hdig])⟩
          obtain ⟨hd0, hd2⟩ := hdig
          clear hd1 hdec hstep ha hacc hkn hk hi
          go_wp2
          exact ⟨⟨k + 1, i + 1, acc * 10 + (n - 48), a * 10 + ((n : Int) - 48), rfl, (by first | rfl | (congr 1; omega)), by have := HK.out; omega, Lib.hid ⟨by have := HI.out; omega, HN.out⟩⟩, by have := HK.out; have := HI.out; simp [intOf]; omega⟩
        · have HN := Lib.hid (show digs 0 D = none from hdec.trans (by rw [hd1, if_neg hdig]))
          have HF : Hid (coreR (c0 :: t0) = none) := Lib.hid (by rw [HR.out, HN.out])
          have ways : n < 48 ∨ 57 < n := by omega
          clear hd1 hdec hstep ha hacc hdig hkn hk hi
          rcases ways with u1 | u1
          · go_wp2
            go_ret2
            exact ⟨by rw [HF.out]; rfl, rfl⟩
          · go_wp2
            go_ret2
            exact ⟨by rw [HF.out]; rfl, rfl⟩
      · obtain rfl : k = D.length := by omega
        have hr : digs 0 D = some acc := by rw [hdec, List.drop_eq_nil_of_le (Nat.le_refl _)]; rfl
        have hlt : acc < 10 ^ 19 := Nat.lt_of_lt_of_le hacc (Nat.pow_le_pow_right (by decide) HS.out.2)
        have HN := HR.out
        rw [hr] at HN
        simp only at HN
        have hsl : ¬ ((i : Int) < (s.size : Int)) := by have := HDL.out; omega
        have HNF := Lib.hid HN
        have hat : 1 < s.size := by have := HDL.out; have := HS.out; omega
        have h48 := HZ48.out hat
        have hb : acc < 10000000000000000000 := hlt
        clear hk hacc hdec hkn hr hlt HN hi
        subst ha
        obtain ⟨x, hx⟩ : ∃ x : Int, IntKind.u64.wrap (-(acc : Int)) = x := ⟨_, rfl⟩
        by_cases hA : (s[1]'hat).toNat = 48
        · have kz : (((s[1]'hat).toNat : Int) == 48) = true := by rw [beq_iff_eq]; omega
          have hA2 := h48.2 hA
          by_cases hB : (1 : Int) < (s.size : Int)
          · have HF : Hid (coreR (c0 :: t0) = none) := Lib.hid (by rw [HNF.out, if_pos (Or.inl ⟨hA2, by omega⟩)])
            clear hA hA2 h48 hb
            go_wp2
            go_ret2
            exact ⟨by rw [HF.out]; rfl, rfl⟩
          · exfalso; omega
        · have kz : (((s[1]'hat).toNat : Int) == 48) = false := by rw [beq_eq_false_iff_ne]; omega
          by_cases hC : (9223372036854775808 : Int) < (acc : Int)
          · have HF : Hid (coreR (c0 :: t0) = none) := Lib.hid (by rw [HNF.out, if_pos (Or.inr (by omega))])
            clear hA h48 hb
            go_wp2
            go_ret2
            exact ⟨by rw [HF.out]; rfl, rfl⟩
          · have HF : Hid (coreR (c0 :: t0) = some (-(acc : Int))) := Lib.hid (by rw [HNF.out, if_neg (by rintro (⟨h, _⟩ | h); exact hA (h48.1 h); omega)])
            have ew : wrap64 x = -(acc : Int) := by rw [← hx, IntKind.wrap_u64]; unfold wrap64; omega
            clear hA h48 hb
            go_wp2
            go_ret2
            exact ⟨by rw [HF.out]; show Ending.returned (.tuple #[.int .i64 (wrap64 x), .int .i64 0]) = _; rw [ew]; rfl, rfl⟩
/-- The document's own reading of a text. -/
theorem refParse_any (s : ByteArray) (hsz : s.size ≤ 281474976710656) (w : World) :
    Calls Tryd.prog 27 #[.string s] w fun e w' => e = .returned (parseV (coreR s.data.toList)) ∧ w = w' := by
  cases hl : s.data.toList with
  | nil =>
    have hs : s.size = 0 := by rw [Lib.size_eq, hl]; rfl
    have k0 : ¬ ((0 : Int) < (s.size : Int)) := by omega
    have k1 : (s.size : Int) = 0 := by omega
    have k2 : wrap64 ((s.size : Int) - 0) < 1 := by rw [k1]; unfold wrap64; omega
    have k3 : wrap64 (s.size : Int) < 1 := by rw [k1]; unfold wrap64; omega
    clear hs k1 hsz
    go_enter Tryd.func27, Tryd.ntmps27
    go_wp2
    go_ret2
    exact ⟨rfl, rfl⟩
  | cons c t =>
    by_cases hc : c = 45
    · exact refParse_neg s c t t hl hc rfl hsz w
    · exact refParse_pos s c t (c :: t) hl hc rfl hsz w
end Go.Proofs.YtkbkjbnfkgncdaaDoor.TickW
