/- The document's numbers: Sum. -/
import Derived.Test.YtelfbjldfdlpnaaTickInt2
import Derived.Test.YtelfbjldfdlpnaaTickSum
import Derived.Test.YtelfbjldfdlpnaaTickOf
namespace Go.Proofs.Ytelfbjldfdlpnaa.TickW
open Go.RowKit
/-- The digits of a whole number, how many they are, and its sign. -/
def dd (z : Int) : List Nat := dl z.natAbs
def dn (z : Int) : Nat := (dl z.natAbs).length
def sg (z : Int) : Bool := decide (z < 0)
theorem dn_le {z : Int} {n : Nat} (h : z.natAbs < 65536 ^ n) : dn z ≤ n := dl_length_le h
def WD (w : World) (A : Option Addr) (c : Nat) (z : Int) : Prop := DL w A (dd z) ∧ dn z ≤ c
theorem WD.below {w w1 : World} {A : Option Addr} {c : Nat} {z : Int} (h : WD w A c z) (b : Below w.heap.size w w1) : WD w1 A c z := ⟨h.1.below b, h.2⟩
theorem wv_iff {w : World} {v : Value} {z : Int} (h : WV w v z) : ∃ A c, v = .agg #[.slice A (dn z) c, .bool (sg z)] ∧ WD w A c z := by
  obtain ⟨A, c, hv, hd, hc⟩ := h
  exact ⟨A, c, hv, hd, hc⟩
theorem wd_wv {w : World} {A : Option Addr} {c : Nat} {z : Int} (h : WD w A c z) : WV w (.agg #[.slice A (dn z) c, .bool (sg z)]) z := ⟨A, c, rfl, h.1, h.2⟩
theorem wd_store {w : World} {A : Option Addr} {c : Nat} {z : Int} {g : Nat} {A0 : Option Addr} {n0 c0 : Nat} {t : TypeId} {b : Bool} {fr : Nat × Nat} (h : WD w A c z) (hg : w.heap[g]? = some (.cells #[.slice A0 n0 c0, .bool b] t fr)) (x y : Value) : WD ((w.setCell ⟨g, 0, none⟩ x).setCell ⟨g, 1, none⟩ y) A c z := ⟨dl_store h.1 hg x y, h.2⟩
theorem of_agg (n : Int) (h0 : -9223372036854775808 ≤ n) (h1 : n ≤ 9223372036854775807) (w : World) :
    Calls Try.prog 42 #[.int .i64 n] w fun e w' => (∃ A c, e = .returned (.agg #[.slice A (dn n) c, .bool (sg n)]) ∧ WD w' A c n) ∧ Below w.heap.size w w' := by
  refine (of_any n h0 h1 w).mono ?_
  rintro e w' ⟨⟨v, rfl, hv⟩, b⟩
  obtain ⟨A, c, rfl, h⟩ := wv_iff hv
  exact ⟨⟨A, c, rfl, h⟩, b⟩
theorem refAdd_agg (a b : Int) (A B : Option Addr) (c c2 : Nat) (w : World) (ha : WD w A c a) (hb : WD w B c2 b) (la : dn a ≤ 900) (lb : dn b ≤ 900) :
    Calls Try.prog 41 #[.agg #[.slice A (dn a) c, .bool (sg a)], .agg #[.slice B (dn b) c2, .bool (sg b)]] w fun e w' => (∃ A' c', e = .returned (.agg #[.slice A' (dn (a + b)) c', .bool (sg (a + b))]) ∧ WD w' A' c' (a + b)) ∧ Below w.heap.size w w' := by
  refine (refAdd_any a b _ _ w (wd_wv ha) (wd_wv hb) la lb).mono ?_
  rintro e w' ⟨⟨v, rfl, hv⟩, b⟩
  obtain ⟨A, c, rfl, h⟩ := wv_iff hv
  exact ⟨⟨A, c, rfl, h⟩, b⟩
theorem refTurn_agg (a : Int) (A : Option Addr) (c : Nat) (w : World) (ha : WD w A c a) (la : dn a ≤ 900) :
    Calls Try.prog 51 #[.agg #[.slice A (dn a) c, .bool (sg a)]] w fun e w' => (∃ A' c', e = .returned (.agg #[.slice A' (dn (-a)) c', .bool (sg (-a))]) ∧ WD w' A' c' (-a)) ∧ Below w.heap.size w w' := by
  refine (refTurn_any a _ w (wd_wv ha) la).mono ?_
  rintro e w' ⟨⟨v, rfl, hv⟩, b⟩
  obtain ⟨A, c, rfl, h⟩ := wv_iff hv
  exact ⟨⟨A, c, rfl, h⟩, b⟩
theorem refInt_agg (z : Int) (A : Option Addr) (c : Nat) (w : World) (ha : WD w A c z) :
    Calls Try.prog 39 #[.agg #[.slice A (dn z) c, .bool (sg z)]] w fun e w' => e = .returned (ansV z) ∧ Below w.heap.size w w' := refInt_any z _ w (wd_wv ha)
end Go.Proofs.Ytelfbjldfdlpnaa.TickW

