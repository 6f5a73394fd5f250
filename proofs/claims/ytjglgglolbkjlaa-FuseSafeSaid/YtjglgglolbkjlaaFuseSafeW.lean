/- The law FuseSafe, of any fuse and any Safe that are as asked. -/
import Derived.Test.YtjglgglolbkjlaaFuseJ
import Derived.Test.YtjglgglolbkjlaaNumWalk2
import Derived.Shelf.Abstract
namespace Go.Proofs.Ytjglgglolbkjlaa.FuseW.FuseSafe
open Go.RowKit FuseW Shell
abbrev xb (x : Nat) : Obj := .cells #[.float .f64 x] 36 (0, 0)
abbrev bb (b : Bool) : Obj := .cells #[.bool b] 4 (0, 0)
theorem ent1 : Ent 19 := enters_of Try.func19 (by kernel_rfl) rfl
theorem nan_any (w : World) : Calls Try.prog 21 #[] w fun e w' => e = .returned (.float .f64 9221120237041090561) ∧ w = w' := by
  go_enter Try.func21, Try.ntmps21
  go_wp2
  go_ret
  exact ⟨rfl, rfl⟩
theorem work_good (p q x : Nat) (W : World) (h1 : W.heap[p]? = some (bb false)) (h2 : W.heap[q]? = some (xb x)) : Calls Try.prog 19 #[.pointer (some ⟨p, 0, Option.none⟩), .pointer (some ⟨q, 0, Option.none⟩)] W fun e W2 => e = .returned (.float .f64 x) ∧ Below W.heap.size W W2 := by
  have c1 := cell_of_row W p 0 _ _ _ h1
  have c2 := cell_of_row W q 0 _ _ _ h2
  go_enter Try.func19, Try.ntmps19
  go_wp2
  go_ret
  exact ⟨rfl, Below.refl _ _⟩
theorem work_bad (p : Nat) (qv : Value) (W : World) (h1 : W.heap[p]? = some (bb true)) : Calls Try.prog 19 #[.pointer (some ⟨p, 0, Option.none⟩), qv] W fun e W2 => e = .panicked [{ v := .iface 9 (.string ⟨#[110, 111]⟩), recovered := false }] ∧ Below W.heap.size W W2 := by
  have c1 := cell_of_row W p 0 _ _ _ h1
  go_enter Try.func19, Try.ntmps19
  go_wp2
  exact ⟨rfl, rfl, Below.refl _ _⟩
section
variable {FI : FIT} {T : TT}
set_option maxHeartbeats 16000000 in
set_option maxRecDepth 100000 in
theorem walkS (S : Spec FI T) (Q : SafeS) (KF : ∀ w : World, Calls Try.prog 7 #[] w fun r w' => r = .returned (.bool true) ∧ Below w.heap.size w w') (x : Nat) (bad : Bool) (w : World) (hx : x < 18446744073709551616) : Calls Try.prog 5 #[.float .f64 x, .bool bad] w fun r w' => r = .returned (.bool true) ∧ Below w.heap.size w w' := by
  have SH := Lib.hid S
  have HK := Lib.hid KF
  have HQ := Lib.hid Q
  have HX := Lib.hid hx
  have hmf : ∀ (fn : Fn) (first cap : Array Value) (w : World), (Instr.makeFunc fn first cap).run Try.prog w = .ok (.func fn first cap) w := fun _ _ _ _ => rfl
  have S0 := Lib.hid (show Stay w [(w.heap.size + 1, bb bad), (w.heap.size, xb x)] ((w.alloc (xb x)).alloc (bb bad)) by
    have h := ((Stay.start w).alloc (xb x)).alloc (bb bad)
    rwa [World.size_alloc] at h)
  clear S KF Q hx
  have HN := Lib.hid (show ∀ w : World, Calls Try.prog 20 #[.float .f64 9221120237041090561] w fun e w' => e = .returned (.int .u64 9221120237041090561) ∧ w = w' from fun w => NumW.refOne_any 9221120237041090561 (by decide) w)
  cases bad with
  | false =>
    go_enter Try.func5, Try.ntmps5
    go_wp2_with fail
    generalize (w.alloc _).alloc _ = wa at *
    refine (HK.out _).mono ?_
    rintro v w1 ⟨rfl, b1⟩
    have S1 := Lib.hid (S0.out.next b1)
    clear b1 S0
    go_wp2_with fail
    refine (HQ.out.good 19 _ x w1 HX.out ent1 (fun W1 b => work_good _ _ x W1 ((S1.out.next b).at 0 rfl) ((S1.out.next b).at 1 rfl))).mono ?_
    rintro v w2 ⟨rfl, b2⟩
    have S2 := Lib.hid (S1.out.next b2)
    clear b2 S1
    have c0 := cell_of_row w2 _ 0 _ _ _ (S2.out.at 0 rfl)
    have c1 := cell_of_row w2 _ 0 _ _ _ (S2.out.at 1 rfl)
    go_wp2_with fail
    refine (NumW.refOne_any x HX.out _).mono ?_
    rintro v w3 ⟨rfl, hw⟩
    obtain rfl := hw
    go_wp2_with fail
    refine (SH.out.mend_nil _).mono ?_
    rintro v w4 ⟨rfl, b4⟩
    have B4 := Lib.hid (S2.out.next b4).b
    clear b4 S2 c0 c1
    go_wp2_with fail
    refine (HQ.out.none _).mono ?_
    rintro v w5 ⟨rfl, b5⟩
    have B5 := Lib.hid (B4.out.trans (b5.mono B4.out.size))
    clear b5 B4
    go_wp2_with fail
    refine (nan_any _).mono ?_
    rintro v w3 ⟨rfl, hw⟩
    obtain rfl := hw
    go_wp2_with fail
    refine (HN.out _).mono ?_
    rintro v w3 ⟨rfl, hw⟩
    obtain rfl := hw
    go_wp2_with fail
    refine (SH.out.do_nil _ _ _).mono ?_
    rintro v w6 ⟨rfl, b6⟩
    have B6 := Lib.hid (B5.out.trans (b6.mono B5.out.size))
    clear b6 B5
    go_wp2_with fail
    refine (SH.out.caught_nil _).mono ?_
    rintro v w7 ⟨rfl, b7⟩
    have B7 := Lib.hid (B6.out.trans (b7.mono B6.out.size))
    clear b7 B6
    go_wp2_with fail
    refine (SH.out.blown_nil _).mono ?_
    rintro v w8 ⟨rfl, b8⟩
    have B8 := Lib.hid (B7.out.trans (b8.mono B7.out.size))
    clear b8 B7
    go_wp2_with fail
    refine (SH.out.last_nil _).mono ?_
    rintro v w9 ⟨rfl, b9⟩
    have B9 := Lib.hid (B8.out.trans (b9.mono B8.out.size))
    clear b9 B8
    go_wp2
    go_ret
    exact ⟨rfl, B9.out⟩
  | true =>
    go_enter Try.func5, Try.ntmps5
    go_wp2_with fail
    generalize (w.alloc _).alloc _ = wa at *
    refine (HK.out _).mono ?_
    rintro v w1 ⟨rfl, b1⟩
    have S1 := Lib.hid (S0.out.next b1)
    clear b1 S0
    go_wp2_with fail
    refine (HQ.out.bad 19 _ 9 (.string ⟨#[110, 111]⟩) w1 ent1 (fun W1 b => work_bad _ _ W1 ((S1.out.next b).at 0 rfl))).mono ?_
    rintro v w2 ⟨rfl, b2⟩
    have S2 := Lib.hid (S1.out.next b2)
    clear b2 S1
    have c0 := cell_of_row w2 _ 0 _ _ _ (S2.out.at 0 rfl)
    have c1 := cell_of_row w2 _ 0 _ _ _ (S2.out.at 1 rfl)
    go_wp2_with fail
    refine (NumW.refOne_any x HX.out _).mono ?_
    rintro v w3 ⟨rfl, hw⟩
    obtain rfl := hw
    go_wp2_with fail
    refine (nan_any _).mono ?_
    rintro v w3 ⟨rfl, hw⟩
    obtain rfl := hw
    go_wp2_with fail
    refine (HN.out _).mono ?_
    rintro v w3 ⟨rfl, hw⟩
    obtain rfl := hw
    go_wp2_with fail
    refine (SH.out.mend_nil _).mono ?_
    rintro v w4 ⟨rfl, b4⟩
    have B4 := Lib.hid (S2.out.next b4).b
    clear b4 S2 c0 c1
    go_wp2_with fail
    refine (HQ.out.none _).mono ?_
    rintro v w5 ⟨rfl, b5⟩
    have B5 := Lib.hid (B4.out.trans (b5.mono B4.out.size))
    clear b5 B4
    go_wp2_with fail
    refine (nan_any _).mono ?_
    rintro v w3 ⟨rfl, hw⟩
    obtain rfl := hw
    go_wp2_with fail
    refine (HN.out _).mono ?_
    rintro v w3 ⟨rfl, hw⟩
    obtain rfl := hw
    go_wp2_with fail
    refine (SH.out.do_nil _ _ _).mono ?_
    rintro v w6 ⟨rfl, b6⟩
    have B6 := Lib.hid (B5.out.trans (b6.mono B5.out.size))
    clear b6 B5
    go_wp2_with fail
    refine (SH.out.caught_nil _).mono ?_
    rintro v w7 ⟨rfl, b7⟩
    have B7 := Lib.hid (B6.out.trans (b7.mono B6.out.size))
    clear b7 B6
    go_wp2_with fail
    refine (SH.out.blown_nil _).mono ?_
    rintro v w8 ⟨rfl, b8⟩
    have B8 := Lib.hid (B7.out.trans (b8.mono B7.out.size))
    clear b8 B7
    go_wp2_with fail
    refine (SH.out.last_nil _).mono ?_
    rintro v w9 ⟨rfl, b9⟩
    have B9 := Lib.hid (B8.out.trans (b9.mono B8.out.size))
    clear b9 B8
    go_wp2
    go_ret
    exact ⟨rfl, B9.out⟩
end
end Go.Proofs.Ytjglgglolbkjlaa.FuseW.FuseSafe
