/- Package perm's Give and Take. -/
import Derived.Test.YtmkgnkbcdkcboaaPermB
namespace Go.Proofs.Ytmkgnkbcdkcboaa.PermW
open Go.RowKit Shell
open QueueW hiding al cell_keep
open ClockW (CK CI tell tell_iff sh wh)
open FrameW (CV rightC)
theorem give_nil (t : Int) (w : World) : Calls Try.prog 13 #[.pointer none, .int .i64 t] w fun e w' => e = .returned (.tuple #[CV 0 0 0 0 0, .int .i64 0, .bool false]) ∧ Below w.heap.size w w' := by
  go_enter Try.func13, Try.ntmps13
  go_wp2_with (go_at_call 18; refine (next_nil _).mono ?_; rintro e w' ⟨rfl, rfl⟩)
  exact ret_pk rfl rfl (heap_alloc_new w (cbx 0 0 0 0 0)) ⟨rfl, al (Below.refl _ _) _⟩
theorem give_none {w : World} {h k : Nat} {d n : Int} {v : Value} (H : HK w h k d n v []) (t : Int) : Calls Try.prog 13 #[.pointer (some ⟨h, 0, none⟩), .int .i64 t] w fun e w' => e = .returned (.tuple #[CV 0 0 0 0 0, .int .i64 0, .bool false]) ∧ Below w.heap.size w w' := by
  have N := next_any (H.below (al (Below.refl _ _) (cbx 0 0 0 0 0)))
  dsimp only [nxt] at N
  have N := Lib.hid N
  clear H
  go_enter Try.func13, Try.ntmps13
  go_wp2_with (go_at_call 18; refine N.out.mono ?_; rintro e w1 ⟨rfl, b1⟩; have B1 := Lib.hid b1; have X1 := Lib.hid (row_below b1 (heap_alloc_new w (cbx 0 0 0 0 0))); clear b1; obtain ⟨f0, f1, f2, f3, f4⟩ := frozen5 X1.out; obtain ⟨d0, d1, d2, d3, d4⟩ := cells5 X1.out)
  exact ret_pk rfl rfl (put5 X1.out) ⟨rfl, ((al (Below.refl _ _) _).trans (B1.out.mono (by simp))).trans ((kept5 w1 w.heap.size _ _ _ _ _).below (Nat.le_refl _) (Nat.le_of_lt (lt_heap X1.out)))⟩
theorem give_later {w : World} {h k : Nat} {d n : Int} {v : Value} {x : It} {S : List It} (H : HK w h k d n v (x :: S)) (t : Int) (hx : t < x.time) : Calls Try.prog 13 #[.pointer (some ⟨h, 0, none⟩), .int .i64 t] w fun e w' => e = .returned (.tuple #[CV 0 0 0 0 0, .int .i64 0, .bool false]) ∧ Below w.heap.size w w' := by
  have N := next_any (H.below (al (Below.refl _ _) (cbx 0 0 0 0 0)))
  dsimp only [nxt] at N
  have N := Lib.hid N
  clear H
  generalize x.time = xt at *
  go_enter Try.func13, Try.ntmps13
  go_wp2_with (go_at_call 18; refine N.out.mono ?_; rintro e w1 ⟨rfl, b1⟩; have B1 := Lib.hid b1; have X1 := Lib.hid (row_below b1 (heap_alloc_new w (cbx 0 0 0 0 0))); clear b1; obtain ⟨f0, f1, f2, f3, f4⟩ := frozen5 X1.out; obtain ⟨d0, d1, d2, d3, d4⟩ := cells5 X1.out)
  exact ret_pk rfl rfl (put5 X1.out) ⟨rfl, ((al (Below.refl _ _) _).trans (B1.out.mono (by simp))).trans ((kept5 w1 w.heap.size _ _ _ _ _).below (Nat.le_refl _) (Nat.le_of_lt (lt_heap X1.out)))⟩
set_option maxHeartbeats 2000000 in
theorem give_some {w : World} {h k : Nat} {d n : Int} {v : Value} {x : It} {S : List It} (H : HK w h k d n v (x :: S)) (t : Int) (hx : x.time ≤ t) : Calls Try.prog 13 #[.pointer (some ⟨h, 0, none⟩), .int .i64 t] w fun e w' => e = .returned (.tuple #[x.thing, .int .i64 x.time, .bool true]) ∧
    ∃ v', HK w' h k d n v' S ∧ v'.ownBlock = v.ownBlock ∧ Chg (fun j => j = k ∨ v.ownBlock = some j) w w' := by
  obtain ⟨x0, x1, x2, x3, x4, x5, x6, x7, x8⟩ := x
  dsimp only [It.thing] at hx ⊢
  have hx' : ¬ t < x0 := by omega
  have HH := Lib.hid H
  clear H
  go_enter Try.func13, Try.ntmps13
  go_wp2_with fail
  have B := Lib.hid (al (Below.refl w.heap.size w) (cbx 0 0 0 0 0))
  have X0 := Lib.hid (heap_alloc_new w (cbx 0 0 0 0 0))
  generalize w.alloc (.cells #[.int .i64 0, .int .i64 0, .int .i64 0, .int .u32 0, .int .i64 0] 37 (0, 0)) = W at *
  have HW := Lib.hid (HH.out.below B.out)
  have LT := Lib.hid HH.out.q.lt
  have lh := lt_heap HH.out.box
  have N := next_any HW.out
  dsimp only [nxt] at N
  have N := Lib.hid N
  clear HH
  go_wp2_with (go_at_call 18; refine N.out.mono ?_; rintro e w1 ⟨rfl, b1⟩; have B1 := Lib.hid b1; obtain ⟨c0, c1⟩ := (HW.out.below b1).cells; clear b1)
  clear c0 c1
  have X1 := Lib.hid (row_below B1.out X0.out)
  have H1 := Lib.hid (HW.out.below B1.out)
  have P := popC_some k 64 n v _ S w1 H1.out.q
  dsimp only [It.thing] at P
  refine P.mono ?_
  rintro e w2 ⟨rfl, v', q2, o2, g2⟩
  have X2 := Lib.hid (g2.heap X1.out (fun e => e.elim (fun e => by have := LT.out.1; omega) (fun e => by have := LT.out.2 _ e; omega)))
  have HB := Lib.hid (show w2.heap[h]? = some (hbx d k) from g2.heap H1.out.box (fun e => e.elim H1.out.hk H1.out.ho))
  have Q2 := Lib.hid q2
  have O2 := Lib.hid o2
  have G2 := Lib.hid g2
  clear q2 o2 g2 P N
  obtain ⟨f0, f1, f2, f3, f4⟩ := frozen5 X2.out
  obtain ⟨d0, d1, d2, d3, d4⟩ := cells5 X2.out
  go_wp2
  have cg := chg5 w2 w.heap.size (.int .i64 x4) (.int .i64 x5) (.int .i64 x6) (.int .u32 x7) (.int .i64 x8)
  refine ret_pk rfl rfl (put5 X2.out) ⟨rfl, v', ?_, O2.out, ?_⟩
  · have HK2 : HK w2 h k d n v' S := ⟨HB.out, Q2.out, H1.out.hk, fun e => H1.out.ho (O2.out ▸ e)⟩
    exact HK2.frame cg (by omega) (fun e => by have := LT.out.1; exact absurd (show k = w.heap.size from e) (by omega)) (fun j hj e => by have := LT.out.2 j (O2.out ▸ hj); exact absurd (show j = w.heap.size from e) (by omega))
  · have c0 : Chg (fun j => j = k ∨ v.ownBlock = some j) w w2 := ((Chg.of B.out).trans (Chg.of B1.out) (fun _ _ e => e)).trans G2.out (fun j _ e => e)
    exact c0.trans cg (fun j hj e => absurd (show j = w.heap.size from e) (by omega))
end Go.Proofs.Ytmkgnkbcdkcboaa.PermW
