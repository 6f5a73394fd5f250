/- The landed Safe is as asked. -/
import Derived.Test.YtjglgglolbkjlaaFuseU
import Derived.Test.YtjglgglolbkjlaaFuseJ
import Derived.Test.YtjglgglolbkjlaaNumWalk2
import Derived.Shelf.Abstract
namespace Go.Proofs.Ytjglgglolbkjlaa.FuseW
open Go.RowKit Shell
theorem sNan (w : World) : Calls Try.prog 21 #[] w fun e w' => e = .returned (.float .f64 9221120237041090561) ∧ w = w' := by
  go_enter Try.func21, Try.ntmps21
  go_wp2
  go_ret
  exact ⟨rfl, rfl⟩
theorem sOne (w : World) : Calls Try.prog 33 #[.float .f64 9221120237041090561] w fun e w' => e = .returned (.float .f64 9221120237041090561) ∧ w = w' := NumW.one_any 9221120237041090561 (by decide) w
theorem scatch_no (W : World) : CallsD Try.prog 34 #[] .returning W fun e u' w' => e = .returned (.tuple #[]) ∧ u' = .returning ∧ w' = W := by
  refine callsD_of_wpS Try.func34 rfl fun c₀ cs hu => ?_
  apply wpS_region
  simp [wpOpsS, go_sem, recoverD, hu, Try.ntmps34]
  exact ⟨rfl, .returning, by cases c₀; simp_all, .tuple #[], results_none rfl _ _ _, rfl, rfl, rfl⟩
theorem scatch_yes (ty : TypeId) (v : Value) (older : List PanicEntry) (W : World) :
    CallsD Try.prog 34 #[] (.panicking ({ v := .iface ty v, recovered := false } :: older)) W fun e u' w' =>
      e = .returned (.tuple #[]) ∧ u' = .panicking ({ v := .iface ty v, recovered := true } :: older) ∧ w' = W := by
  refine callsD_of_wpS Try.func34 rfl fun c₀ cs hu => ?_
  apply wpS_region
  simp [wpOpsS, go_sem, recoverD, hu, Try.ntmps34]
  exact ⟨rfl, _, rfl, .tuple #[], results_none rfl _ _ _, rfl, rfl, rfl⟩
set_option maxHeartbeats 4000000 in
theorem safe_good (fn : FuncId) (caps : Array Value) (x : Nat) (W : World) (hx : x < 18446744073709551616) (hent : Ent fn) (hw : ∀ W1, Below W.heap.size W W1 → Calls Try.prog fn caps W1 fun e W2 => e = .returned (.float .f64 x) ∧ Below W1.heap.size W1 W2) :
    Calls Try.prog 18 #[.func (.func fn) #[] caps] W fun v W' => v = .returned (.float .f64 (NumP.oneN x)) ∧ Below W.heap.size W W' := by
  unfold Ent at hent
  have hnf : ∀ w, (binOp .eql 38 (.func (.func fn) #[] caps) .nilFunc).run Try.prog w = .ok (.bool false) w := fun _ => by kernel_rfl
  have HW := Lib.hid hw
  have HX := Lib.hid (NumW.one_any x hx)
  clear hw hx
  go_enter_defers Try.func18, Try.ntmps18
  go_wp2_with fail
  refine (sNan _).mono ?_
  rintro e w1 ⟨rfl, hq⟩
  obtain rfl := hq.symm
  go_wp2_with fail
  refine (sOne _).mono ?_
  rintro e w1 ⟨rfl, hq⟩
  obtain rfl := hq.symm
  go_wp2_with fail
  refine (HW.out _ (Below.refl _ _)).mono ?_
  rintro e w2 ⟨rfl, b2⟩
  have B2 := Lib.hid b2
  clear b2
  go_wp2_with fail
  refine (HX.out _).mono ?_
  rintro e w3 ⟨rfl, hq⟩
  obtain rfl := hq.symm
  go_wp2
  refine leaves_cons (f := 34) (args := #[]) (by simp) (by simp [go_sem]) ?_
  refine (scatch_no _).mono ?_
  rintro e u' w3 ⟨rfl, rfl, rfl⟩
  exact ⟨_, results_tmp rfl _ _ _, rfl, B2.out⟩
set_option maxHeartbeats 4000000 in
theorem safe_bad (fn : FuncId) (caps : Array Value) (ty : TypeId) (u : Value) (W : World) (hent : Ent fn) (hw : ∀ W1, Below W.heap.size W W1 → Calls Try.prog fn caps W1 fun e W2 => e = .panicked [{ v := .iface ty u, recovered := false }] ∧ Below W1.heap.size W1 W2) :
    Calls Try.prog 18 #[.func (.func fn) #[] caps] W fun v W' => v = .returned (.float .f64 9221120237041090561) ∧ Below W.heap.size W W' := by
  unfold Ent at hent
  have hnf : ∀ w, (binOp .eql 38 (.func (.func fn) #[] caps) .nilFunc).run Try.prog w = .ok (.bool false) w := fun _ => by kernel_rfl
  have HW := Lib.hid hw
  clear hw
  go_enter_defers Try.func18, Try.ntmps18
  go_wp2_with fail
  refine (sNan _).mono ?_
  rintro e w1 ⟨rfl, hq⟩
  obtain rfl := hq.symm
  go_wp2_with fail
  refine (sOne _).mono ?_
  rintro e w1 ⟨rfl, hq⟩
  obtain rfl := hq.symm
  go_wp2_with fail
  refine (HW.out _ (Below.refl _ _)).mono ?_
  rintro e w2 ⟨rfl, b2⟩
  have B2 := Lib.hid b2
  clear b2
  refine leaves_cons (f := 34) (args := #[]) (by simp) (by simp [go_sem]) ?_
  refine (scatch_yes ty u _ _).mono ?_
  rintro e u' w3 ⟨rfl, rfl, rfl⟩
  exact ⟨_, results_tmp rfl _ _ _, rfl, B2.out⟩
set_option maxHeartbeats 4000000 in
theorem safe_none (W : World) : Calls Try.prog 18 #[.nilFunc] W fun v W' => v = .returned (.float .f64 9221120237041090561) ∧ Below W.heap.size W W' := by
  have hnf : ∀ w, (binOp .eql 38 .nilFunc .nilFunc).run Try.prog w = .ok (.bool true) w := fun _ => by kernel_rfl
  go_enter_defers Try.func18, Try.ntmps18
  go_wp2_with fail
  refine (sNan _).mono ?_
  rintro e w1 ⟨rfl, hq⟩
  obtain rfl := hq.symm
  go_wp2_with fail
  refine (sOne _).mono ?_
  rintro e w1 ⟨rfl, hq⟩
  obtain rfl := hq.symm
  go_wp2
  exact ⟨_, results_tmp rfl _ _ _, rfl, Below.refl _ _⟩
theorem landedS : SafeS where
  good := safe_good
  bad := safe_bad
  none := safe_none
end Go.Proofs.Ytjglgglolbkjlaa.FuseW
