/- Walks of the document's own Tolerant, Middle, Spread. -/
import Derived.Test.YtpjaijibkjmgiaaMeanSorted
import Derived.Test.YtpjaijibkjmgiaaTickAll
namespace Go.Proofs.Ytpjaijibkjmgiaa.MeanW
open Go.RowKit TickW
theorem own_i64c {w : World} {base n : Nat} {v : Value} {ys : List Int} (h : w.ownsRow base 2 1 v n (i64s ys)) (hp : 0 < n) : ∃ g cap, v = .slice (some ⟨g, 0, none⟩) n cap ∧ n ≤ cap ∧ UI w g ys ∧ ys.length = n := by
  obtain ⟨g, cap, cur, rfl, _, _, _, hu, hl⟩ := own_i64s h hp
  rcases h.2 with ⟨h0, _⟩ | ⟨g2, cap2, cur2, hv, _, _, hc, _⟩
  · cases h0
  · cases hv
    exact ⟨g, cap, rfl, hc, hu, hl⟩
theorem half_calls {a b : Int} (ha : B64 a) (hb : B64 b) : ∀ W : World, Calls Try.prog 36 #[.int .i64 a, .int .i64 b] W fun e w' => e = .returned (.int .i64 ((a + b) / 2)) ∧ RowKit.Below W.heap.size W w' :=
  fun W => refHalf_any a b ha.1 ha.2 hb.1 hb.2 W
theorem own_nil {w : World} {base : Nat} {v : Value} {ys : List Int} (h : w.ownsRow base 2 1 v 0 (i64s ys)) : ∃ A c, v = .slice A 0 c := by
  rcases h.2 with ⟨h0, _⟩ | ⟨g2, cap2, cur2, hv, _⟩
  · exact ⟨_, _, h0⟩
  · exact ⟨_, _, hv⟩
set_option maxRecDepth 100000 in
set_option maxHeartbeats 1000000 in
theorem refTolerant_any (A : Option Addr) (c : Nat) (xs : List Int) (w : World) (h : IL w A xs) (hl : xs.length * 8 ≤ 140737488355328) (hc : xs.length ≤ c) :
    Calls Try.prog 28 #[.slice A xs.length c] w fun e w' => e = .returned (ansM xs (tolK xs)) ∧ RowKit.Below w.heap.size w w' := by
  have HS := Lib.hid (refSorted_any A c xs w h hl hc)
  have HB := Lib.hid (srt_bounds (IL.bounds h))
  have HLL := Lib.hid hl
  clear h hc hl
  rcases Nat.eq_zero_or_pos xs.length with hn | hn
  · obtain rfl := List.eq_nil_of_length_eq_zero hn
    clear hn
    go_enter Try.func28, Try.ntmps28
    go_wp2_with fail
    refine HS.out.mono ?_
    rintro e w1 ⟨v, rfl, ho, hb⟩
    obtain ⟨A1, c1, rfl⟩ := own_nil ho
    have HW := Lib.hid hb
    clear ho hb
    go_wp2_with fail
    go_ret2
    exact ⟨rfl, HW.out⟩
  · have HT := Lib.hid (ansM_some hn (tolK xs))
    have HN := Lib.hid hn
    go_enter Try.func28, Try.ntmps28
    go_wp2_with fail
    refine HS.out.mono ?_
    rintro e w1 ⟨v, rfl, ho, hb⟩
    obtain ⟨g, cap, rfl, hcap, hu, -⟩ := own_i64c ho HN.out
    have HW := Lib.hid hb
    have h1 := hu (tolK xs) _ (getD_at (by rw [srt_len]; unfold tolK; omega))
    have h2 := hu (xs.length - 1 - tolK xs) _ (getD_at (by rw [srt_len]; omega))
    have b1 : B64 _ := HB.out _ (getD_mem (l := srt xs) (i := tolK xs) (by rw [srt_len]; unfold tolK; omega))
    have b2 : B64 _ := HB.out _ (getD_mem (l := srt xs) (i := xs.length - 1 - tolK xs) (by rw [srt_len]; omega))
    have HH : ∀ W : World, Calls Try.prog 36 #[.int .i64 ((srt xs).getD (tolK xs) 0), .int .i64 ((srt xs).getD (xs.length - 1 - tolK xs) 0)] W fun e w' => e = .returned (.int .i64 (halfAt xs (tolK xs))) ∧ RowKit.Below W.heap.size W w' := half_calls b1 b2
    have n0 : ¬ xs.length = 0 := by omega
    have hl2 : (xs.length : Int) ≤ 17592186044416 := by have := HLL.out; omega
    obtain ⟨r, hr⟩ : ∃ r, r = halfAt xs (tolK xs) := ⟨_, rfl⟩
    have HR := Lib.hid hr
    rw [← hr] at HH
    generalize (srt xs).getD (tolK xs) 0 = v1 at *
    generalize (srt xs).getD (xs.length - 1 - tolK xs) 0 = v2 at *
    clear ho hb hr hn b1 b2
    by_cases h3 : 2 < xs.length
    · have hk : tolK xs = 1 := by unfold tolK; omega
      rw [hk] at h1 h2
      have hc1 : ¬ cap = 1 := by omega
      have e1 : IntKind.i64.wrap ((xs.length : Int) - 1) = ((xs.length - 1 : Nat) : Int) := by rw [IntWalk.i64_in _ (by omega)]; omega
      have q1 : (1 : Int) ≤ ((xs.length - 1 : Nat) : Int) := by omega
      have q2 : ((xs.length - 1 : Nat) : Int) ≤ (cap : Int) := by omega
      have HK := Lib.hid (show tolK xs = 1 from hk)
      go_wp2_with fail
      have h4 : w1.cell? ⟨g, 1 + (xs.length - 1 - 1 - 1), none⟩ = some (.int .i64 v2) := by rw [show 1 + (xs.length - 1 - 1 - 1) = xs.length - 1 - 1 by omega]; exact h2
      have hm : 0 < xs.length - 1 - 1 := by omega
      have e2 : IntKind.i64.wrap (((xs.length - 1 - 1 : Nat) : Int) - 1) = ((xs.length - 1 - 1 - 1 : Nat) : Int) := by rw [IntWalk.i64_in _ (by omega)]; omega
      have q3 : xs.length - 1 - 1 - 1 < xs.length - 1 - 1 := by omega
      clear hk h2 h3 q1 q2 e1 hcap hc1 hl2 hu
      generalize xs.length - 1 - 1 - 1 = m1 at *
      generalize xs.length - 1 - 1 = m at *
      have H1 := Lib.hid h1
      have H4 := Lib.hid h4
      clear h1 h4
      go_region_held3 (fun w' => w'.cell? ⟨g, 1, none⟩ = some (.int .i64 v1) ∧ w'.cell? ⟨g, 1 + m1, none⟩ = some (.int .i64 v2)) (first | exact ⟨H1.out, H4.out⟩ | exact ⟨K1.out, K4.out⟩) (first
        | (go_at_call 36; (with_reducible refine (HH _).mono ?_); rintro e w2 ⟨rfl, b2⟩; have K1 := Lib.hid (cell_keep (show w1.drew.cell? _ = some _ from H1.out) b2); have K4 := Lib.hid (cell_keep (show w1.drew.cell? _ = some _ from H4.out) b2); have HW2 := Lib.hid (HW.out.trans (Below.mono (show RowKit.Below w1.heap.size w1 w2 from ⟨b2.os, b2.tape, b2.output, b2.size, b2.block⟩) HW.out.size)); clear b2))
      go_wp2_with fail
      go_ret2
      exact ⟨by rw [HT.out, ← HR.out]; rfl, HW2.out⟩
    · have hk : tolK xs = 0 := by unfold tolK; omega
      rw [hk] at h1 h2
      have h3i : ¬ 2 < (xs.length : Int) := by omega
      have e1 : IntKind.i64.wrap ((xs.length : Int) - 1) = ((xs.length - 1 : Nat) : Int) := by rw [IntWalk.i64_in _ (by omega)]; omega
      have h4 : w1.cell? ⟨g, xs.length - 1, none⟩ = some (.int .i64 v2) := h2
      have q3 : xs.length - 1 < xs.length := by omega
      have q0 : 0 < xs.length := by omega
      have HK := Lib.hid hk
      clear hk h2 h3 hl2 hcap hu
      generalize xs.length - 1 = m1 at *
      go_wp2_with fail
      have H1 := Lib.hid h1
      have H4 := Lib.hid h4
      clear h1 h4
      go_region_held3 (fun w' => w'.cell? ⟨g, 0, none⟩ = some (.int .i64 v1) ∧ w'.cell? ⟨g, m1, none⟩ = some (.int .i64 v2)) (first | exact ⟨H1.out, H4.out⟩ | exact ⟨K1.out, K4.out⟩) (first
        | (go_at_call 36; (with_reducible refine (HH _).mono ?_); rintro e w2 ⟨rfl, b2⟩; have K1 := Lib.hid (cell_keep (show w1.drew.cell? _ = some _ from H1.out) b2); have K4 := Lib.hid (cell_keep (show w1.drew.cell? _ = some _ from H4.out) b2); have HW2 := Lib.hid (HW.out.trans (Below.mono (show RowKit.Below w1.heap.size w1 w2 from ⟨b2.os, b2.tape, b2.output, b2.size, b2.block⟩) HW.out.size)); clear b2))
      go_wp2_with fail
      go_ret2
      exact ⟨by rw [HT.out, ← HR.out]; rfl, HW2.out⟩
end Go.Proofs.Ytpjaijibkjmgiaa.MeanW

