/- Walk of tocsinref01.Least and tocsinref01.Greatest. -/
import Derived.Test.YtgcmjmnolkojhaaDoorNumWalk15
import Derived.Test.YtgcmjmnolkojhaaDoorNumEnds
namespace Go.Proofs.YtgcmjmnolkojhaaDoor.NumW
open Go.RowKit NumP
def LeastEnd (xs : List Nat) (w : World) (e : Ending) (w' : World) : Prop := e = .returned (.int .u64 (outN (-1) xs : Nat)) ∧ Below w.heap.size w w'
set_option maxHeartbeats 1000000 in
set_option maxRecDepth 100000 in
theorem refLeast_any (A : Option Addr) (c : Nat) (xs : List Nat) (w : World) (hf : FL w A xs) (hl : xs.length * 8 ≤ 140737488351232) (hc : xs.length ≤ c) : Calls Tryd.prog 23 #[.slice A xs.length c] w (LeastEnd xs w) := by
  have hxl : ∀ x ∈ xs, x < 18446744073709551616 := fun x hm => by
    obtain ⟨j, hj⟩ := List.getElem?_of_mem hm
    exact (hf j x hj).choose_spec.2.2
  have HX := Lib.hid hxl
  have HF := Lib.hid hf
  have HL := Lib.hid hl
  clear hxl hf hl
  go_enter Tryd.func23, Tryd.ntmps23
  go_wp2_with fail
  refine (refSort_any _ _ _ _ HF.out HL.out hc).mono ?_
  rintro e w1 ⟨v, ys, rfl, hs, ho, hb⟩
  have HE := Lib.hid (least_eq HX.out hs)
  have HB := Lib.hid hb
  have HO := Lib.hid ho
  clear hs ho hb
  cases ys with
  | nil =>
    have hv : v = .slice none 0 0 ∨ ∃ g cap, v = .slice (some ⟨g, 0, none⟩) 0 cap := by
      rcases HO.out.2 with ⟨h1, _⟩ | ⟨g, cap, _, h1, _⟩
      · exact Or.inl h1
      · exact Or.inr ⟨g, cap, h1⟩
    have ho : outN (-1) xs = 9221120237041090561 := HE.out
    have HE2 := Lib.hid ho
    clear ho HE
    rcases hv with rfl | ⟨g, cap, rfl⟩
    · go_wp2
      go_ret
      exact ⟨by rw [HE2.out]; rfl, HB.out⟩
    · go_wp2
      go_ret
      exact ⟨by rw [HE2.out]; rfl, HB.out⟩
  | cons y ys =>
    obtain ⟨g, cap, rfl, _, _, hu⟩ := own_u64s HO.out (Nat.succ_pos _)
    have hcell := hu 0 y rfl
    have HE2 : Hid (outN (-1) xs = y) := Lib.hid HE.out
    clear hu HE HO
    have hlen : ((y :: ys).length : Int) = (ys.length : Int) + 1 := by simp
    generalize hm : (y :: ys).length = m at *
    have m0 : (0 : Int) < (m : Int) := by omega
    have m1 : ((m : Int) == 0) = false := by rw [beq_eq_false_iff_ne]; omega
    have m2 : m ≠ 0 := by omega
    clear hlen hm
    by_cases hy : y = 9221120237041090561
    · subst hy
      go_wp2
      go_ret
      exact ⟨by rw [HE2.out]; rfl, HB.out⟩
    · have e1 : ((y : Int) == 9221120237041090561) = false := by rw [beq_eq_false_iff_ne]; omega
      go_wp2
      go_ret
      exact ⟨by rw [HE2.out]; rfl, HB.out⟩
/-- What the document's own Greatest answers. -/
def GreatestEnd (xs : List Nat) (w : World) (e : Ending) (w' : World) : Prop := e = .returned (.int .u64 (outN 1 xs : Nat)) ∧ Below w.heap.size w w'
/-- The words from k on are the NaN's. -/
def Tail (ys : List Nat) (k : Nat) : Prop := ∀ (j y : Nat), k ≤ j → ys[j]? = some y → y = 9221120237041090561
theorem Tail.start (ys : List Nat) : Tail ys ys.length := fun j y h hy => by rw [List.getElem?_eq_none h] at hy; cases hy
theorem Tail.next {ys : List Nat} {k : Nat} (h : Tail ys (k + 1)) (hk : ys[k]? = some 9221120237041090561) : Tail ys k := fun j y hj hy => by
  rcases Nat.lt_or_ge k j with h1 | h1
  · exact h j y h1 hy
  · obtain rfl : j = k := by omega
    rw [hk] at hy; cases hy; rfl
theorem Tail.none_ {ys : List Nat} (h : Tail ys 0) : LastN ys 9221120237041090561 := Or.inl ⟨rfl, fun y hy => by
  obtain ⟨j, hj⟩ := List.getElem?_of_mem hy
  exact h j y (Nat.zero_le _) hj⟩
theorem Tail.some_ {xs ys : List Nat} (hs : IsSort xs ys) {k y : Nat} (h : Tail ys (k + 1)) (hk : ys[k]? = some y) (hy : y ≠ 9221120237041090561) : LastN ys y := Or.inr ⟨List.mem_of_getElem? hk, hy, fun z hz hn => by
  obtain ⟨j, hj⟩ := List.getElem?_of_mem hz
  rcases Nat.lt_or_ge j k with h1 | h1
  · obtain ⟨l1, e1⟩ := List.getElem?_eq_some_iff.1 hj
    obtain ⟨l2, e2⟩ := List.getElem?_eq_some_iff.1 hk
    have := List.pairwise_iff_getElem.1 hs.2 j k l1 l2 h1
    rw [e1, e2] at this
    exact this
  · rcases Nat.lt_or_ge k j with h2 | h2
    · exact absurd (h j z h2 hj) hn
    · obtain rfl : j = k := by omega
      rw [hk] at hj; cases hj; exact Nat.le_refl _⟩
set_option maxHeartbeats 1000000 in
set_option maxRecDepth 100000 in
theorem refGreatest_any (A : Option Addr) (c : Nat) (xs : List Nat) (w : World) (hf : FL w A xs) (hl : xs.length * 8 ≤ 140737488351232) (hc : xs.length ≤ c) : Calls Tryd.prog 25 #[.slice A xs.length c] w (GreatestEnd xs w) := by
  have hxl : ∀ x ∈ xs, x < 18446744073709551616 := fun x hm => by
    obtain ⟨j, hj⟩ := List.getElem?_of_mem hm
    exact (hf j x hj).choose_spec.2.2
  have HX := Lib.hid hxl
  have HF := Lib.hid hf
  have hl2 : (xs.length : Int) ≤ 17592186043904 := by omega
  have HL := Lib.hid hl
  clear hxl hf hl
  go_enter Tryd.func25, Tryd.ntmps25
  go_wp2_with fail
  refine (refSort_any _ _ _ _ HF.out HL.out hc).mono ?_
  rintro e w1 ⟨v, ys, rfl, hs, ho, hb⟩
  have hys : ys.length = xs.length := by have := hs.1.length_eq; rw [List.length_map] at this; exact this
  have HE : Hid (∀ r, LastN ys r → outN 1 xs = r) := Lib.hid (fun r hr => greatest_eq HX.out hs hr)
  have HB := Lib.hid hb
  have HS := Lib.hid hs
  have HU : ∃ A g, Hid (v = .slice A ys.length g) ∧ Hid (∀ (j y : Nat), ys[j]? = some y → ∃ b, A = some ⟨b, 0, none⟩ ∧ w1.cell? ⟨b, j, none⟩ = some (.int .u64 (y : Int))) := by
    rcases Nat.eq_zero_or_pos ys.length with h0 | h0
    · have hn : ys = [] := List.eq_nil_of_length_eq_zero h0
      subst hn
      rcases ho.2 with ⟨h1, _⟩ | ⟨g, cap, _, h1, _⟩
      · exact ⟨none, 0, Lib.hid h1, Lib.hid (fun (j y : Nat) h => by cases h)⟩
      · exact ⟨_, cap, Lib.hid h1, Lib.hid (fun (j y : Nat) h => by cases h)⟩
    · obtain ⟨g, cap, h1, _, _, hu⟩ := own_u64s ho h0
      exact ⟨_, cap, Lib.hid h1, Lib.hid (fun (j y : Nat) h => ⟨g, rfl, hu j y h⟩)⟩
  clear hs ho hb
  obtain ⟨A2, c2, HV, HU⟩ := HU
  have hv := HV.out
  subst hv
  have hl3 : (ys.length : Int) ≤ 17592186043904 := by omega
  clear hys hl2 HV
  go_wp2_with fail
  go_loop [4] (fun i => ∃ (k : Nat) (z : Int), k ≤ ys.length ∧ i = .int .i64 z ∧ Hid (z = (k : Int) - 1) ∧ Hid (Tail ys k)) (fun i => (intOf i + 1).toNat)
  case atStart => exact ⟨ys.length, _, Nat.le_refl _, rfl, Lib.hid rfl, Lib.hid (Tail.start ys)⟩
  case round =>
    obtain ⟨k, z, hk, rfl, hz, hT⟩ := hrel
    cases k with
    | zero =>
      have HE2 : Hid (outN 1 xs = 9221120237041090561) := Lib.hid (HE.out _ (Tail.none_ hT.out))
      have z1 : ¬ (0 ≤ z) := by have := hz.out; omega
      clear hz hT hk HE
      go_wp2
      go_ret
      exact ⟨by rw [HE2.out]; rfl, HB.out⟩
    | succ k =>
      have e0 : z = (k : Int) := by have := hz.out; omega
      subst e0
      obtain ⟨y, hy⟩ := at_ (show k < ys.length by omega)
      obtain ⟨b, hA, hcell⟩ := HU.out k y hy
      subst hA
      have hk2 : k < ys.length := by omega
      by_cases hn : y = 9221120237041090561
      · subst hn
        have HT2 := Lib.hid (hT.out.next hy)
        clear hT hy hz hk
        go_wp2
        exact ⟨⟨k, _, by omega, rfl, Lib.hid rfl, HT2⟩, by simp [intOf]⟩
      · have HE2 : Hid (outN 1 xs = y) := Lib.hid (HE.out _ (hT.out.some_ HS.out hy hn))
        have e1 : ((y : Int) == 9221120237041090561) = false := by rw [beq_eq_false_iff_ne]; omega
        clear hT hy hz hk HE
        go_wp2
        go_ret
        exact ⟨by rw [HE2.out]; rfl, HB.out⟩
end Go.Proofs.YtgcmjmnolkojhaaDoor.NumW
