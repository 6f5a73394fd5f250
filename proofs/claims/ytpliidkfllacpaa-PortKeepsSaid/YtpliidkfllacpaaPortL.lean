/- The landed port: Clear; it is as asked. -/
import Derived.Test.YtpliidkfllacpaaPortH
namespace Go.Proofs.Ytpliidkfllacpaa.PortW
open Go.RowKit Shell
section
variable {W0 W W1 : World} {lo g m l : Nat} {r e : List Da} {X : Nat → Prop}
theorem pi_turn (h : PI lo X g m r e l W) (b : Below W.heap.size W W1) : ∃ X', PI lo X' g m r e l W1 ∧ Turn X X' W W1 := by
  obtain ⟨vr, ve, h1, rfl⟩ := h
  exact ⟨_, ⟨vr, ve, h1.below b, rfl⟩, Turn.of b⟩
theorem take_pi (h : PI lo X g m r e l W) : Calls Try.prog 13 #[.pointer (some ⟨g, 0, none⟩)] W fun v W' => v = .returned (nxV r e) ∧ ∃ X', PI lo X' g m (tR r) (tE r e) l W' ∧ Turn X X' W W' := by
  obtain ⟨vr, ve, h1, rfl⟩ := h
  rcases r with _ | ⟨x, r⟩
  · rcases e with _ | ⟨y, e⟩
    · refine (take_none h1).mono ?_
      rintro v w1 ⟨rfl, b1⟩
      exact ⟨rfl, _, ⟨vr, ve, h1.below b1, rfl⟩, Turn.of b1⟩
    · refine (take_e h1).mono ?_
      rintro v w1 ⟨rfl, v3, h3, t3⟩
      exact ⟨rfl, _, ⟨vr, v3, h3, rfl⟩, t3⟩
  · refine (take_r h1).mono ?_
    rintro v w1 ⟨rfl, v3, h3, t3⟩
    refine ⟨rfl, _, ⟨v3, ve, ?_, rfl⟩, t3⟩
    show PM lo g m r (tE (x :: r) e) l v3 ve w1
    unfold tE
    rw [if_neg (List.cons_ne_nil x r)]
    exact h3
theorem len_pi (h : PI lo X g m r e l W) : Calls Try.prog 17 #[.pointer (some ⟨g, 0, none⟩)] W fun v W' => v = .returned (.int .i64 ((r.length + e.length : Nat) : Int)) ∧ ∃ X', PI lo X' g m r e l W' ∧ Turn X X' W W' := by
  have h' := h
  obtain ⟨vr, ve, h1, -⟩ := h'
  refine (len_m h1).mono ?_
  rintro v w1 ⟨rfl, b1⟩
  exact ⟨rfl, pi_turn h b1⟩
theorem PI.lt (h : PI lo X g m r e l W) : ∀ j, X j → lo ≤ j ∧ j < W.heap.size := by
  obtain ⟨vr, ve, h1, rfl⟩ := h
  exact h1.lt
theorem PI.keep (h : PI lo X g m r e l W) (hs : W.heap.size ≤ W1.heap.size) (hk : ∀ j, X j → W1.heap[j]? = W.heap[j]?) : PI lo X g m r e l W1 := by
  obtain ⟨vr, ve, h1, rfl⟩ := h
  exact ⟨vr, ve, h1.keep hs hk, rfl⟩
/-- A row beside the port has grown. -/
theorem row_turn {W2 W3 : World} {v v' : Value} {o : Obj} (h : PI lo X g m r e l W) (b : Below W.heap.size W W2) (s : Step (W2.alloc o) v W3 v') (hv : ∀ k, v.ownBlock = some k → ¬ X k) : PI lo X g m r e l W3 ∧ (∀ k, v'.ownBlock = some k → ¬ X k) ∧ ∀ B, (∀ k, v.ownBlock = some k → B ≤ k) → B ≤ W.heap.size → Below B W W3 := by
  have b2 := b.alloc b.size o
  refine ⟨h.keep (Nat.le_trans b2.size s.g.size) (fun j hj => ?_), fun k hk hx => ?_, fun B hB hs => ⟨s.g.os.trans b2.os, s.g.tape.trans b2.tape, s.g.output.trans b2.output, Nat.le_trans b2.size s.g.size, fun j hj => ?_⟩⟩
  · have hl := (h.lt j hj).2
    exact (s.g.block j (Nat.lt_of_lt_of_le hl b2.size) (fun e => hv j e.symm hj)).trans (b2.block j hl)
  · rcases s.m with h1 | ⟨j, h1, h2⟩
    · exact hv k (h1 ▸ hk) hx
    · rw [h1] at hk
      cases hk
      have := (h.lt _ hx).2
      have := b2.size
      omega
  · exact (s.g.block j (by have := b2.size; omega) (fun e => by have := hB j e.symm; omega)).trans (b2.block j (by omega))
theorem Turn.more {X0 : Nat → Prop} {W2 : World} (t : Turn X0 X W0 W) (b : Below W0.heap.size W W2) : Turn X0 X W0 W2 :=
  ⟨b.os.trans t.os, b.tape.trans t.tape, b.output.trans t.output, Nat.le_trans t.size b.size, fun j hj hx => (b.block j hj).trans (t.block j hj hx), t.foot⟩
def slen : Value → Nat
  | .slice _ n _ => n
  | _ => 0
theorem rest_of {x : Da} {t : List Da} (h : r ++ e = x :: t) : nxV r e = .tuple #[dv x, .bool true] ∧ tR r ++ tE r e = t := by
  constructor
  · unfold nxV; rw [h]
  · unfold tR tE
    rcases r with _ | ⟨y, r⟩
    · rw [List.nil_append] at h
      exact congrArg List.tail h
    · have h2 : r ++ e = t := congrArg List.tail h
      rw [if_neg (List.cons_ne_nil y r)]
      exact h2
theorem clear_n (W : World) : Calls Try.prog 16 #[.pointer none] W fun v W' => ∃ A c, v = .returned (.slice A 0 c) ∧ Below W.heap.size W W' := by
  go_enter Try.func16, Try.ntmps16
  go_wp2
  go_loopw [3] (fun iv wr => iv = .slice none 0 0 ∧ Hid (Below W.heap.size W wr)) (fun _ _ => 0)
  case atStart => exact ⟨rfl, Lib.hid (Below.refl _ _)⟩
  case round =>
    obtain ⟨rfl, HB⟩ := hrel
    go_wp2_with fail
    refine (len_n _).mono ?_
    rintro v w1 ⟨rfl, b1⟩
    have B1 := Lib.hid (HB.out.trans (b1.mono HB.out.size))
    clear b1
    go_wp2
    go_ret
    exact ⟨_, _, rfl, B1.out⟩
set_option maxHeartbeats 4000000 in
theorem clear_pi2 (h : PI lo X g m r e l W0) : Calls Try.prog 16 #[.pointer (some ⟨g, 0, none⟩)] W0 fun v W' => ∃ A n c, v = .returned (.slice A n c) ∧ (n = r.length + e.length ∧ n ≤ c ∧ (A = none → c = 0) ∧ SG FD W' A (r ++ e)) ∧ ∃ X', PI lo X' g m [] [] l W' ∧ Turn X X' W0 W' ∧ ∀ a, A = some a → a.spot = none ∧ lo ≤ a.block ∧ ¬ X' a.block := by
  have HP0 := Lib.hid h
  obtain ⟨L0, hL0⟩ : ∃ L0, r ++ e = L0 := ⟨_, rfl⟩
  have HT0 := Lib.hid (show ([] : List Da) ++ (r ++ e) = L0 by rw [List.nil_append]; exact hL0)
  have HN := Lib.hid (show r.length + e.length = L0.length by rw [← hL0, List.length_append])
  have HM := Lib.hid (show L0.length ≤ 64 by
    obtain ⟨vr, ve, h1, -⟩ := h
    have := h1.len; have := h1.m64
    rw [← hL0, List.length_append]; omega)
  have LO := Lib.hid (show lo ≤ W0.heap.size by
    obtain ⟨vr, ve, h1, -⟩ := h
    have := h1.lw; have := lt_of_heap h1.b
    omega)
  rw [HN.out, hL0]
  clear h hL0
  go_enter Try.func16, Try.ntmps16
  go_wp2
  go_loopw [3] (fun iv wr => ∃ (X1 : Nat → Prop) (r1 e1 T : List Da), Hid (PI lo X1 g m r1 e1 l wr) ∧ Hid (Turn X X1 W0 wr) ∧ Hid (OG FD wr W0.heap.size 30 iv T) ∧ Hid (∀ k, iv.ownBlock = some k → ¬ X1 k) ∧ Hid (T ++ (r1 ++ e1) = L0)) (fun iv _ => L0.length - slen iv)
  case atStart => exact ⟨X, r, e, [], HP0, Lib.hid (Turn.of (Below.refl _ _)), Lib.hid (OG.nil _ _ _), Lib.hid (fun k hk => by cases hk), HT0⟩
  case round =>
    clear HP0 HT0
    obtain ⟨X1, r1, e1, T, HP, HT, HO, HX, HL⟩ := hrel
    obtain ⟨B, c, rfl, -, -, -, -⟩ := HO.out.form
    generalize hTn : T.length = n at *
    have HTN := Lib.hid hTn
    clear hTn
    rcases hre : r1 ++ e1 with _ | ⟨x, t⟩
    · obtain ⟨rfl, rfl⟩ := List.append_eq_nil_iff.1 hre
      have HL2 := Lib.hid (show T = L0 by have := HL.out; rwa [hre, List.append_nil] at this)
      clear hre
      go_wp2_with fail
      refine (len_pi HP.out).mono ?_
      rintro v w1 ⟨hv, X2, p2, t2⟩
      obtain rfl : v = .returned (.int .i64 0) := hv
      have P2 := Lib.hid p2
      have O2 := Lib.hid (t2.row HO.out HX.out)
      have T2 := Lib.hid (HT.out.trans t2)
      clear p2 t2
      go_wp2
      go_ret
      obtain ⟨B', c', hv, sg, g1, g2, g3⟩ := O2.out.1.form
      rw [HTN.out] at hv g1
      cases hv
      refine ⟨_, _, _, rfl, ⟨by rw [← HTN.out, HL2.out], g1, g2, by rw [← HL2.out]; exact sg⟩, X2, P2.out, T2.out, fun a ha => ⟨(g3 a ha).2.1, by have := (g3 a ha).2.2.1; have := LO.out; omega, ?_⟩⟩
      obtain ⟨h1, h2, h3, h4⟩ := g3 a ha
      subst ha
      exact O2.out.2 a.block rfl
    · obtain ⟨n1, n2⟩ := rest_of hre
      have HL2 := Lib.hid (show (T ++ [x]) ++ (tR r1 ++ tE r1 e1) = L0 by rw [n2, ← HL.out, hre]; simp)
      obtain ⟨K, hK⟩ : ∃ K, r1.length + e1.length = K := ⟨_, rfl⟩
      have q1 : (0 : Int) < (K : Int) := by
        have := congrArg List.length hre
        rw [List.length_append] at this
        simp at this
        omega
      have LT := Lib.hid (show n + 1 ≤ L0.length by
        rw [← HL.out, hre, List.length_append, HTN.out]; simp)
      have KT := Lib.hid (fun Z X (hz : PI lo X g m r1 e1 l Z) => n1 ▸ take_pi hz)
      have KL := Lib.hid (fun Z X (hz : PI lo X g m r1 e1 l Z) => hK ▸ len_pi hz)
      clear hre n1 n2 hK
      go_wp2_with fail
      refine (KL.out _ _ HP.out).mono ?_
      rintro v w1 ⟨rfl, X2, p2, t2⟩
      have P2 := Lib.hid p2
      have O2 := Lib.hid (t2.row HO.out HX.out)
      have T2 := Lib.hid (HT.out.trans t2)
      clear p2 t2 HO HX HT HP
      go_wp2_with fail
      refine (KT.out _ _ P2.out).mono ?_
      rintro v w2 ⟨rfl, X3, p3, t3⟩
      have P3 := Lib.hid p3
      have O3 := Lib.hid (t3.row O2.out.1 O2.out.2)
      have T3 := Lib.hid (T2.out.trans t3)
      have D3 := Lib.hid (heap_alloc_new w2 (dbx x))
      have B3 := Lib.hid (al (Below.refl w2.heap.size w2) (dbx x))
      have O4 := Lib.hid (O3.out.1.below B3.out)
      obtain ⟨d0, d1, d2, d3, d4⟩ := cells5 D3.out
      clear p3 t3 P2 O2 T2
      go_wp2_with (at_builtin; refine wpList_append_one oneD _ rfl _ _ rfl W0.heap.size _ T rfl (O4.out.alloc _) x _ rfl (heap_at (World.size_alloc _ _) _) ?c1 (by decide) ?c2 ?_)
      case c1 =>
        have := HTN.out; have := HM.out; have := LT.out
        omega
      case c2 => rw [World.size_alloc, World.size_alloc]; have := T3.out.size; omega
      intro v5 w5 o5 s5
      obtain ⟨p5, n5, b5⟩ := row_turn P3.out B3.out s5 O3.out.2
      have P5 := Lib.hid p5
      have N5 := Lib.hid n5
      have T5 := Lib.hid (T3.out.more (b5 W0.heap.size (fun k hk => (O3.out.1.lt k hk).1) T3.out.size))
      clear p5 n5 b5
      have O5 := Lib.hid o5
      obtain ⟨A5, c5, rfl, -⟩ := o5.form
      clear s5 o5
      go_wp2
      go_roundw
      case rel => exact ⟨X3, _, _, _, P5, T5, O5, N5, HL2⟩
      case measure => have := LT.out; have := HTN.out; simp [slen]; omega
theorem clear_pi (h : PI lo X g m r e l W0) : Calls Try.prog 16 #[.pointer (some ⟨g, 0, none⟩)] W0 fun v W' => ∃ A n c, v = .returned (.slice A n c) ∧ (n = r.length + e.length ∧ n ≤ c ∧ (A = none → c = 0) ∧ SG FD W' A (r ++ e)) ∧ ∃ X', PI lo X' g m [] [] l W' ∧ Turn X X' W0 W' ∧ ∀ a, A = some a → lo ≤ a.block ∧ ¬ X' a.block := by
  refine (clear_pi2 h).mono ?_
  rintro v W' ⟨A, n, c, h1, h2, X', h3, h4, h5⟩
  exact ⟨A, n, c, h1, h2, X', h3, h4, fun a ha => (h5 a ha).2⟩
end
/-- The landed port is as asked. -/
theorem landed : Spec PI where
  frame h hs hk := h.keep hs hk
  foot h := h.lt
  lower := by
    rintro lo lo' X g m r e l W ⟨vr, ve, h1, rfl⟩ hl
    exact ⟨vr, ve, h1.lower hl, rfl⟩
  new_no n W h := new_bad n W h
  new_ok n W h0 h1 := by
    refine (new_good n W h0 h1).mono ?_
    rintro v w1 ⟨rfl, rfl⟩
    exact ⟨_, _, rfl, ⟨_, _, ⟨heap_alloc_new _ _, Nat.le_refl _, LS.nil _ _, LS.nil _ _, (fun h => by cases h), (fun h => by cases h), (fun j h => by cases h), Nat.zero_le _, h1⟩, rfl⟩, al (Below.refl _ _) _⟩
  offer_arg x h hp ok := by
    have h' := h
    obtain ⟨vr, ve, h1, -⟩ := h'
    refine (offer_no x h1 hp ok).mono ?_
    rintro v w1 ⟨rfl, b1⟩
    exact ⟨rfl, pi_turn h b1⟩
  offer_full x h hp ok hl hb := by
    obtain ⟨vr, ve, h1, rfl⟩ := h
    refine (offer_lost x h1 ok hl hb).mono ?_
    rintro v w1 ⟨rfl, p1, t1⟩
    exact ⟨rfl, _, ⟨vr, ve, p1, rfl⟩, t1⟩
  offer_ok x h hp ok hl := by
    obtain ⟨vr, ve, h1, rfl⟩ := h
    by_cases hc : x.c = 2
    · have hr : rat x = true := decide_eq_true hc
      rw [hr]
      refine (offer_in2 x h1 ok hl hc).mono ?_
      rintro v w1 ⟨rfl, v3, p1, t1⟩
      exact ⟨rfl, _, ⟨v3, ve, p1, rfl⟩, t1⟩
    · have hr : rat x = false := decide_eq_false hc
      rw [hr]
      refine (offer_in3 x h1 ok hl hc).mono ?_
      rintro v w1 ⟨rfl, v3, p1, t1⟩
      exact ⟨rfl, _, ⟨vr, v3, p1, rfl⟩, t1⟩
  peek h := by
    have h' := h
    obtain ⟨vr, ve, h1, -⟩ := h'
    refine (peek_m h1).mono ?_
    rintro v w1 ⟨rfl, b1⟩
    exact ⟨rfl, pi_turn h b1⟩
  take h := take_pi h
  len h := len_pi h
  lost h := by
    have h' := h
    obtain ⟨vr, ve, h1, -⟩ := h'
    refine (lost_m h1).mono ?_
    rintro v w1 ⟨rfl, b1⟩
    exact ⟨rfl, pi_turn h b1⟩
  clear h := clear_pi h
  offer_nil x W hp := offer_n x W hp
  peek_nil W := peek_n W
  take_nil W := take_n W
  len_nil W := len_n W
  lost_nil W := lost_n W
  clear_nil W := clear_n W
end Go.Proofs.Ytpliidkfllacpaa.PortW
