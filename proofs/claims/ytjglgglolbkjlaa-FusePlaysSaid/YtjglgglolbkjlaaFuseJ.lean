/- What is asked of Safe and Play. -/
import Derived.Test.YtjglgglolbkjlaaFuseI
import Derived.Test.YtjglgglolbkjlaaNumPlain
import Derived.Shelf.Abstract
namespace Go.Proofs.Ytjglgglolbkjlaa.FuseW
open Go.RowKit Shell
/-- What is asked of Safe, of works that turn nothing that was there. -/
structure SafeS : Prop where
  good : ∀ (fn : FuncId) (caps : Array Value) (x : Nat) (W : World), x < 18446744073709551616 → Ent fn → (∀ W1, Below W.heap.size W W1 → Calls Try.prog fn caps W1 fun e W2 => e = .returned (.float .f64 x) ∧ Below W1.heap.size W1 W2) →
    Calls Try.prog 18 #[.func (.func fn) #[] caps] W fun v W' => v = .returned (.float .f64 (NumP.oneN x)) ∧ Below W.heap.size W W'
  bad : ∀ (fn : FuncId) (caps : Array Value) (ty : TypeId) (u : Value) (W : World), Ent fn → (∀ W1, Below W.heap.size W W1 → Calls Try.prog fn caps W1 fun e W2 => e = .panicked [{ v := .iface ty u, recovered := false }] ∧ Below W1.heap.size W1 W2) →
    Calls Try.prog 18 #[.func (.func fn) #[] caps] W fun v W' => v = .returned (.float .f64 9221120237041090561) ∧ Below W.heap.size W W'
  none : ∀ (W : World), Calls Try.prog 18 #[.nilFunc] W fun v W' => v = .returned (.float .f64 9221120237041090561) ∧ Below W.heap.size W W'
/-- What is asked of Play. -/
structure PlayS : Prop where
  play : ∀ (most : Int) (A : Option Addr) (xs : List Int) (n cp : Nat) (W : World), CL W .i64 A xs → xs.length = n → n * 8 ≤ 140737488351232 → Calls Try.prog 8 #[.int .i64 most, .slice A n cp] W fun v W' => ∃ (s : ByteArray) (vl : Value), v = .returned (.tuple #[.string s, vl]) ∧ bs s = letts (bear most) 0 xs ∧ OR W' W.heap.size 3 .i64 vl (caus (bear most) 0 xs) ∧ Below W.heap.size W W'
end Go.Proofs.Ytjglgglolbkjlaa.FuseW
