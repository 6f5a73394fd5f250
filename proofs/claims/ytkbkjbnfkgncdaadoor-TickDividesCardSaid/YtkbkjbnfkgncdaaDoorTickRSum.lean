/- The document's numbers: Sum. -/
import Derived.Test.YtkbkjbnfkgncdaaDoorTickInt2
import Derived.Test.YtkbkjbnfkgncdaaDoorTickSum
import Derived.Test.YtkbkjbnfkgncdaaDoorTickOf
namespace Go.Proofs.YtkbkjbnfkgncdaaDoor.TickW
open Go.RowKit
/-- The digits of a whole number, how many they are, and its sign. -/
def dd (z : Int) : List Nat := dl z.natAbs
def dn (z : Int) : Nat := (dl z.natAbs).length
def sg (z : Int) : Bool := decide (z < 0)
theorem dd_zero : dd 0 = [] := dl_zero
theorem dn_zero : dn 0 = 0 := by unfold dn; rw [show (0 : Int).natAbs = 0 from rfl, dl_zero]; rfl
theorem sg_zero : sg 0 = false := rfl
theorem dn_le {z : Int} {n : Nat} (h : z.natAbs < 65536 ^ n) : dn z ≤ n := dl_length_le h
theorem dn_le8 {z : Int} (h0 : -170141183460469231731687303715884105728 ≤ z) (h1 : z ≤ 170141183460469231731687303715884105728) : dn z ≤ 900 := by
  refine Nat.le_trans (dn_le (n := 8) ?_) (by decide)
  show z.natAbs < 340282366920938463463374607431768211456
  omega
def WD (w : World) (A : Option Addr) (c : Nat) (z : Int) : Prop := DL w A (dd z) ∧ dn z ≤ c
theorem WD.below {w w1 : World} {A : Option Addr} {c : Nat} {z : Int} (h : WD w A c z) (b : Below w.heap.size w w1) : WD w1 A c z := ⟨h.1.below b, h.2⟩
theorem wv_iff {w : World} {v : Value} {z : Int} (h : WV w v z) : ∃ A c, v = .agg #[.slice A (dn z) c, .bool (sg z)] ∧ WD w A c z := by
  obtain ⟨A, c, hv, hd, hc⟩ := h
  exact ⟨A, c, hv, hd, hc⟩
theorem wd_wv {w : World} {A : Option Addr} {c : Nat} {z : Int} (h : WD w A c z) : WV w (.agg #[.slice A (dn z) c, .bool (sg z)]) z := ⟨A, c, rfl, h.1, h.2⟩
theorem wd_store {w : World} {A : Option Addr} {c : Nat} {z : Int} {g : Nat} {A0 : Option Addr} {n0 c0 : Nat} {t : TypeId} {b : Bool} {fr : Nat × Nat} (h : WD w A c z) (hg : w.heap[g]? = some (.cells #[.slice A0 n0 c0, .bool b] t fr)) (x y : Value) : WD ((w.setCell ⟨g, 0, none⟩ x).setCell ⟨g, 1, none⟩ y) A c z := ⟨dl_store h.1 hg x y, h.2⟩
theorem of_agg (n : Int) (h0 : -9223372036854775808 ≤ n) (h1 : n ≤ 9223372036854775807) (w : World) :
    Calls Tryd.prog 14 #[.int .i64 n] w fun e w' => (∃ A c, e = .returned (.agg #[.slice A (dn n) c, .bool (sg n)]) ∧ WD w' A c n) ∧ Below w.heap.size w w' := by
  refine (of_any n h0 h1 w).mono ?_
  rintro e w' ⟨⟨v, rfl, hv⟩, b⟩
  obtain ⟨A, c, rfl, h⟩ := wv_iff hv
  exact ⟨⟨A, c, rfl, h⟩, b⟩
theorem refAdd_agg (a b : Int) (A B : Option Addr) (c c2 : Nat) (w : World) (ha : WD w A c a) (hb : WD w B c2 b) (la : dn a ≤ 900) (lb : dn b ≤ 900) :
    Calls Tryd.prog 16 #[.agg #[.slice A (dn a) c, .bool (sg a)], .agg #[.slice B (dn b) c2, .bool (sg b)]] w fun e w' => (∃ A' c', e = .returned (.agg #[.slice A' (dn (a + b)) c', .bool (sg (a + b))]) ∧ WD w' A' c' (a + b)) ∧ Below w.heap.size w w' := by
  refine (refAdd_any a b _ _ w (wd_wv ha) (wd_wv hb) la lb).mono ?_
  rintro e w' ⟨⟨v, rfl, hv⟩, b⟩
  obtain ⟨A, c, rfl, h⟩ := wv_iff hv
  exact ⟨⟨A, c, rfl, h⟩, b⟩
theorem refTurn_agg (a : Int) (A : Option Addr) (c : Nat) (w : World) (ha : WD w A c a) (la : dn a ≤ 900) :
    Calls Tryd.prog 17 #[.agg #[.slice A (dn a) c, .bool (sg a)]] w fun e w' => (∃ A' c', e = .returned (.agg #[.slice A' (dn (-a)) c', .bool (sg (-a))]) ∧ WD w' A' c' (-a)) ∧ Below w.heap.size w w' := by
  refine (refTurn_any a _ w (wd_wv ha) la).mono ?_
  rintro e w' ⟨⟨v, rfl, hv⟩, b⟩
  obtain ⟨A, c, rfl, h⟩ := wv_iff hv
  exact ⟨⟨A, c, rfl, h⟩, b⟩
theorem refInt_agg (z : Int) (A : Option Addr) (c : Nat) (w : World) (ha : WD w A c z) :
    Calls Tryd.prog 15 #[.agg #[.slice A (dn z) c, .bool (sg z)]] w fun e w' => e = .returned (ansV z) ∧ Below w.heap.size w w' := refInt_any z _ w (wd_wv ha)
set_option maxHeartbeats 4000000 in
set_option maxRecDepth 100000 in
theorem refSum_any (A : Option Addr) (c : Nat) (xs : List Int) (w : World) (h : IL w A xs) (hl : xs.length ≤ 9223372036854775807) :
    Calls Tryd.prog 24 #[.slice A xs.length c] w fun e w' => e = .returned (ansV xs.sum) ∧ Below w.heap.size w w' := by
  have LS := Lib.hid (show ∀ k, dn (xs.take k).sum ≤ 900 from fun k => by
    have bd := sum_bounds (xs.take k) (fun x hx => h.bound x (List.mem_of_mem_take hx))
    have hk : (xs.take k).length ≤ xs.length := by rw [List.length_take]; omega
    generalize (xs.take k).length = n at *
    generalize xs.length = n2 at *
    have hn : n ≤ 9223372036854775807 := Nat.le_trans hk hl
    exact dn_le8 (by generalize (xs.take k).sum = s at *; omega) (by generalize (xs.take k).sum = s at *; omega))
  have H := Lib.hid h
  have HL := Lib.hid hl
  clear h hl
  go_enter Tryd.func24, Tryd.ntmps24
  go_upto_block 0 with (fail)
  have hb := al (Below.refl w.heap.size w) (Obj.cells #[.slice none 0 0, .bool false] 28)
  have c0 := heap_alloc_new w (Obj.cells #[.slice none 0 0, .bool false] 28)
  generalize w.alloc (Obj.cells #[.slice none 0 0, .bool false] 28) = W0 at *
  have HB0 := Lib.hid hb
  have R0 := Lib.hid c0
  clear hb c0
  go_wp2_with fail
  go_loopw [5] (fun i wr => ∃ (k : Nat) (A1 : Option Addr) (c1 : Nat) (s : Int), k ≤ xs.length ∧ i = .int .i64 (k : Int) ∧ Hid (s = (xs.take k).sum) ∧ Hid (Below w.heap.size w wr) ∧ Hid (wr.heap[w.heap.size]? = some (.cells #[.slice A1 (dn s) c1, .bool (sg s)] 28 (0, 0))) ∧ Hid (WD wr A1 c1 s)) (fun i _ => xs.length - (intOf i).toNat)
  case atStart => exact ⟨0, none, 0, 0, Nat.zero_le _, rfl, Lib.hid (by simp), HB0, Lib.hid (by rw [dn_zero, sg_zero]; exact R0.out), Lib.hid ⟨by rw [dd_zero]; exact fun k d h => by simp at h, by rw [dn_zero]; exact Nat.le_refl _⟩⟩
  case round =>
    obtain ⟨k, A1, c1, s, hk, rfl, HSm, HB, R, HD⟩ := hrel
    have hll := HL.out
    clear HB0 R0
    have ls := LS.out k
    rw [← HSm.out] at ls
    by_cases hlt : k < xs.length
    · obtain ⟨x, hx⟩ : ∃ x, xs[k]? = some x := ⟨_, List.getElem?_eq_getElem hlt⟩
      obtain ⟨ad, hae, hc, q0, q1⟩ := (H.out.below HB.out) k x hx
      subst hae
      have HT := Lib.hid (show s + x = (xs.take (k + 1)).sum by rw [HSm.out, List.take_add_one, hx]; simp)
      have Ox := fun W => of_agg x q0 q1 W
      have lx : dn x ≤ 900 := dn_le8 (by omega) (by omega)
      have Ax := fun A2 c2 W (h1 : WD W A1 c1 s) (h2 : WD W A2 c2 x) => refAdd_agg s x A1 A2 c1 c2 W h1 h2 ls lx
      clear hx q0 q1 ls lx
      go_wp2_with fail
      have a0 : wr.cell? ⟨w.heap.size, 0, none⟩ = some (.slice A1 (dn s) c1) := cell_of_row wr w.heap.size 0 _ _ _ R.out
      have a1 : wr.cell? ⟨w.heap.size, 1, none⟩ = some (.bool (sg s)) := cell_of_row wr w.heap.size 1 _ _ _ R.out
      have HK := Lib.hid (And.intro hlt hll)
      have q0 : (0 : Int) ≤ (k : Int) := by omega
      have q1 : (k : Int) < (xs.length : Int) := by omega
      have HDd := Lib.hid (show WD wr.drew A1 c1 s from HD.out)
      clear hlt hk hll
      go_region_with (first
        | (go_at_call 14; (with_reducible refine (Ox _).mono ?_); rintro e w2 ⟨⟨A2, c2, rfl, hd2⟩, b2⟩; have t0 := cell_keep (show wr.drew.cell? _ = some _ from a0) b2; have t1 := cell_keep (show wr.drew.cell? _ = some _ from a1) b2; have HD2 := Lib.hid hd2; have B2 := Lib.hid b2; clear b2 hd2 hc)
        | (go_at_call 16; (with_reducible refine (Ax A2 c2 _ (HDd.out.below B2.out) HD2.out).mono ?_); rintro e w3 ⟨⟨A3, c3, rfl, hd3⟩, b3⟩; have R3 := Lib.hid (row_below b3 (row_below B2.out (show wr.drew.heap[w.heap.size]? = _ from R.out))); have z0 : w3.cell? ⟨w.heap.size, 0, none⟩ = some (.slice A1 (dn s) c1) := cell_of_row w3 w.heap.size 0 _ _ _ R3.out; have z1 : w3.cell? ⟨w.heap.size, 1, none⟩ = some (.bool (sg s)) := cell_of_row w3 w.heap.size 1 _ _ _ R3.out; have fr0 := frozen_of_row w3 w.heap.size 0 _ _ R3.out; have fr1 := frozen_of_row w3 w.heap.size 1 _ _ R3.out; have HD3 := Lib.hid hd3; have B3 := Lib.hid b3; clear b3 hd3 t0 t1 a0 a1))
      all_goals
        obtain ⟨hlt, hll⟩ := HK.out
        have h3 := Lib.hid (HB.out.trans (((of_drew B2.out).trans (B3.out.mono (by have := B2.out.size; exact this))).mono HB.out.size))
        clear z0 z1 fr0 fr1
        go_wp2
        go_roundw
        case rel =>
          exact ⟨k + 1, A3, c3, s + x, by omega, by go_num, HT, Lib.hid ((h3.out.setCell (Nat.le_refl _) _).setCell (Nat.le_refl _) _),
            Lib.hid (heap_setCell_same _ _ 1 _ _ _ (heap_setCell_same _ _ 0 _ _ _ R3.out)), Lib.hid (wd_store HD3.out R3.out _ _)⟩
        case measure => simp [intOf]; omega
    · obtain rfl : k = xs.length := by omega
      have hs := HSm.out
      rw [List.take_length] at hs
      have HS2 := Lib.hid hs
      have I := refInt_agg s A1 c1 wr HD.out
      obtain ⟨n, k, hnk⟩ := ansV_tuple s
      rw [hnk] at I
      have HNK := Lib.hid hnk
      have a0 : wr.cell? ⟨w.heap.size, 0, none⟩ = some (.slice A1 (dn s) c1) := cell_of_row wr w.heap.size 0 _ _ _ R.out
      have a1 : wr.cell? ⟨w.heap.size, 1, none⟩ = some (.bool (sg s)) := cell_of_row wr w.heap.size 1 _ _ _ R.out
      clear hs hnk ls
      go_wp2_with (first | (go_at_call 15; (with_reducible refine I.mono ?_); rintro e w2 ⟨rfl, b2⟩))
      go_ret2
      exact ⟨by rw [← HS2.out, HNK.out]; rfl, HB.out.trans (b2.mono HB.out.size)⟩
end Go.Proofs.YtkbkjbnfkgncdaaDoor.TickW
