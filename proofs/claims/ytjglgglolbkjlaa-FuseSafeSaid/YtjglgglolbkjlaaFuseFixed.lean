/- The chapter's examples, of any fuse, Play and Safe that are as asked. -/
import Derived.Test.YtjglgglolbkjlaaFuseJ
namespace Go.Proofs.Ytjglgglolbkjlaa.FuseW
open Go.RowKit Shell
theorem fent1 : Ent 27 := enters_of Try.func27 (by kernel_rfl) rfl
theorem fent2 : Ent 28 := enters_of Try.func28 (by kernel_rfl) rfl
theorem fent3 : Ent 29 := enters_of Try.func29 (by kernel_rfl) rfl
theorem fx1 (W : World) : Calls Try.prog 27 #[] W fun e W2 => e = .returned (.tuple #[]) ∧ W = W2 := by
  go_enter Try.func27, Try.ntmps27
  go_wp2
  go_end0
  exact ⟨rfl, rfl⟩
theorem fx2 (W : World) : Calls Try.prog 28 #[] W fun e W2 => e = .panicked [{ v := .iface 9 (.string ⟨#[120]⟩), recovered := false }] ∧ W = W2 := by
  go_enter Try.func28, Try.ntmps28
  go_wp2
  exact ⟨rfl, rfl, rfl⟩
theorem fx3 (W : World) : Calls Try.prog 29 #[] W fun e W2 => e = .returned (.float .f64 4611686018427387904) ∧ Below W.heap.size W W2 := by
  go_enter Try.func29, Try.ntmps29
  go_wp2
  go_ret
  exact ⟨rfl, Below.refl _ _⟩
section
variable {FI : FIT} {T : TT} {w0 W : World} {X : Nat → Prop} {g : Nat} {m c : Int} {t : ByteArray} {B : List (Nat × Obj)}
theorem fdo1 (S : Spec FI T) (h : FS FI w0 X g m c t B W) (h0 : 0 ≤ c) (hc : c ≤ m) (hm : m ≤ 4096) : Calls Try.prog 13 #[.pointer (some ⟨g, 0, none⟩), .func (.func 27) #[] #[]] W fun v W' => v = .returned (.bool true) ∧ ∃ X', FS FI w0 X' g m c t B W' := by
  refine (S.run 27 _ (fun o X2 c2 t2 W2 => o = none ∧ c2 = c ∧ t2 = t ∧ FS FI w0 X2 g m c t B W2) h.p hc fent1 (fun W1 X1 q1 u1 => ?_)).mono ?_
  · refine (fx1 W1).mono ?_
    rintro e W2 ⟨rfl, rfl⟩
    have h1 := h.turn S q1 u1
    exact ⟨none, X1, c, t, .ok, h1.p, ⟨h0, by omega⟩, fun j _ _ hx => ⟨rfl, hx⟩, Nat.le_refl _, rfl, rfl, rfl, h1⟩
  · rintro v W' ⟨o, X2, c2, t2, W2, X3, ⟨rfl, rfl, rfl, h2⟩, rfl, q3, u3⟩
    exact ⟨rfl, X3, h2.turn S q3 u3⟩
theorem fdo2 (S : Spec FI T) (h : FS FI w0 X g m c t B W) (h0 : 0 ≤ c) (hc : c ≤ m) (hm : m ≤ 4096) : Calls Try.prog 13 #[.pointer (some ⟨g, 0, none⟩), .func (.func 28) #[] #[]] W fun v W' => v = .returned (.bool false) ∧ ∃ X', FS FI w0 X' g m (c + 1) ⟨#[120]⟩ B W' := by
  refine (S.run 28 _ (fun o X2 c2 t2 W2 => o = some ⟨#[120]⟩ ∧ c2 = c ∧ t2 = t ∧ FS FI w0 X2 g m c t B W2) h.p hc fent2 (fun W1 X1 q1 u1 => ?_)).mono ?_
  · refine (fx2 W1).mono ?_
    rintro e W2 ⟨rfl, rfl⟩
    have h1 := h.turn S q1 u1
    exact ⟨some ⟨#[120]⟩, X1, c, t, .bad (S.str _ _ _), h1.p, ⟨h0, by omega⟩, fun j _ _ hx => ⟨rfl, hx⟩, Nat.le_refl _, rfl, rfl, rfl, h1⟩
  · rintro v W' ⟨o, X2, c2, t2, W2, X3, ⟨rfl, rfl, rfl, h2⟩, rfl, q3, u3⟩
    exact ⟨rfl, X3, h2.turn S q3 u3⟩
end
theorem float_two (w : World) : (binOp .eql 36 (.float .f64 4611686018427387904) (.float .f64 4611686018427387904)).run Try.prog w = .ok (.bool true) w := by kernel_rfl
abbrev scr : List Int := [0, 1, 2, 1, 0, 6, 0]
section
variable {FI : FIT} {T : TT}
set_option maxHeartbeats 8000000 in
set_option maxRecDepth 100000 in
theorem fixed_any (S : Spec FI T) (Q : SafeS) (P : PlayS) (w : World) : Calls Try.prog 7 #[] w fun r w' => r = .returned (.bool true) ∧ Below w.heap.size w w' := by
  have SH := Lib.hid S
  have HQ := Lib.hid Q
  have FT := float_two
  have B0 := Lib.hid (al (Below.refl w.heap.size w) (.cells (nums .i64 scr).toArray 3))
  have C0 := Lib.hid (new_cl w .i64 scr 3 (by intro x hx; simp only [List.mem_cons, List.not_mem_nil, or_false] at hx; rcases hx with rfl | rfl | rfl | rfl | rfl | rfl | rfl <;> decide))
  have HP := Lib.hid (P.play 1 (some ⟨w.heap.size, 0, none⟩) scr 7 7 _ C0.out rfl (by decide))
  clear S Q P
  go_enter Try.func7, Try.ntmps7
  go_wp2_with fail
  refine HP.out.mono ?_
  rintro v w1 ⟨s, vl, rfl, hs, ho, b1⟩
  obtain rfl : s = ⟨#[121, 110, 110, 110, 110, 45, 121]⟩ := by
    rw [← str_bs s, hs]
    decide +kernel
  obtain ⟨D, d, rfl, cl, -, -, hD⟩ := ho.form
  rw [show (caus (bear 1) 0 scr).length = 7 by decide]
  have HC := Lib.hid cl
  have B1 := Lib.hid (B0.out.trans (b1.mono B0.out.size))
  clear hs ho b1 B0 C0 HP cl
  go_wp2_with fail
  refine (SH.out.new 0 _).mono ?_
  rintro v w2 ⟨g, X0, rfl, p1, b2⟩
  have S2 := Lib.hid (show FS FI w X0 g 0 0 ⟨#[]⟩ [] w2 from ⟨SH.out.lower p1 B1.out.size, B1.out.trans (b2.mono B1.out.size), fun b hb => by cases hb⟩)
  obtain ⟨a2, rfl, k2, -⟩ := (HC.out.below b2) 2 2 (by decide)
  obtain ⟨a6, ha6, k6, -⟩ := (HC.out.below b2) 6 0 (by decide)
  cases ha6
  obtain ⟨b9, o9, s9⟩ := a2
  obtain ⟨rfl, rfl, -⟩ := hD _ rfl
  rw [Addr.add_lit, Nat.zero_add] at k2 k6
  clear p1 b2 B1 HC
  go_wp2_with fail
  refine (fdo1 SH.out S2.out (by decide) (by decide) (by decide)).mono ?_
  rintro v w3 ⟨rfl, X3, q3⟩
  have S3 := Lib.hid q3
  clear q3 S2 k2 k6
  go_wp2_with fail
  refine (fdo2 SH.out S3.out (by decide) (by decide) (by decide)).mono ?_
  rintro v w4 ⟨rfl, X4, q4⟩
  have S4 := Lib.hid (show FS FI w X4 g 0 1 ⟨#[120]⟩ [] w4 from q4)
  clear q4 S3
  go_wp2_with fail
  refine (SH.out.caught S4.out.p).mono ?_
  rintro v w5 ⟨rfl, X5, q5, z5⟩
  have S5 := Lib.hid (S4.out.turn SH.out q5 z5)
  clear q5 z5 S4
  go_wp2_with fail
  refine (SH.out.blown S5.out.p).mono ?_
  rintro v w6 ⟨hv, X6, q6, z6⟩
  obtain rfl : v = .returned (.bool true) := hv
  have S6 := Lib.hid (S5.out.turn SH.out q6 z6)
  clear q6 z6 S5
  go_wp2_with fail
  refine (SH.out.last S6.out.p).mono ?_
  rintro v w7 ⟨rfl, X7, q7, z7⟩
  have S7 := Lib.hid (S6.out.turn SH.out q7 z7)
  clear q7 z7 S6
  go_wp2_with fail
  refine (HQ.out.good 29 #[] 4611686018427387904 _ (by decide) fent3 (fun W1 _ => fx3 W1)).mono ?_
  rintro v w8 ⟨hv, b8⟩
  obtain rfl : v = .returned (.float .f64 4611686018427387904) := hv
  have B8 := Lib.hid (S7.out.next SH.out b8).b
  clear b8 S7
  go_wp2
  go_ret
  exact ⟨rfl, B8.out⟩
end
end Go.Proofs.Ytjglgglolbkjlaa.FuseW
