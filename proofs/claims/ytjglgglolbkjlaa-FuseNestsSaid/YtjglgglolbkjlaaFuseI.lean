/- What is asked of a fuse, whatever it is made of: the laws are walked by this alone. -/
import Derived.Test.YtjglgglolbkjlaaFuseP
import Derived.Test.YtjglgglolbkjlaaTurn
import Derived.Test.YtjglgglolbkjlaaStr1
import Derived.Test.YtjglgglolbkjlaaProg
import Derived.Deep.RegionHeld3
import Derived.Deep.RegionLaw
import Derived.Deep.RegionWith
import Derived.Deep.AppendLies
import Derived.Deep.DeepCutAuto
import Derived.Deep.CutBlock
import Derived.OneCell
import Derived.Laws.Unary
import Derived.IntWalk
import Derived.Laws.Cover2
import Derived.Laws.Pointers
import Derived.Laws.NewBlocks
import Derived.WalkKit
import Derived.WalkLawsBesides
namespace Go.Proofs.Ytjglgglolbkjlaa.FuseW
open Go.RowKit Shell
/-- Which value tells what, in a world in which nothing but the fuse's blocks (X) will turn ahead of the telling. -/
abbrev TT := (Nat → Prop) → World → Value → ByteArray → Prop
/-- What a work ends with: it comes back, or panics with a value that tells t. -/
inductive En (T : TT) (X : Nat → Prop) (W : World) : Ending → Option ByteArray → Prop where
  | ok : En T X W (.returned (.tuple #[])) none
  | bad {v : Value} {t : ByteArray} : T X W v t → En T X W (.panicked [{ v := v, recovered := false }]) (some t)
/-- What Do tells, and what is caught then. -/
def dn (o : Option ByteArray) : Bool := o.isNone
def dc (c : Int) (o : Option ByteArray) : Int := if o.isNone then c else c + 1
def dt (t : ByteArray) (o : Option ByteArray) : ByteArray := o.getD t
/-- A function value that is entered by its number. -/
def Ent (fn : FuncId) : Prop := ∀ (args : Array Value) (w : World), (callFunc fn args).run Try.prog w = .ok (.enter fn args) w
abbrev FIT := Nat → (Nat → Prop) → Nat → Int → Int → ByteArray → World → Prop
/-- A fuse in memory: lo (its blocks lie behind it), X (its blocks), g (where it is), m (what it bears), c (what it caught), t (what the last panic told). -/
structure Spec (FI : FIT) (T : TT) : Prop where
  frame : ∀ {lo : Nat} {X : Nat → Prop} {g : Nat} {m c : Int} {t : ByteArray} {W W1 : World}, FI lo X g m c t W → W.heap.size ≤ W1.heap.size → (∀ j, X j → W1.heap[j]? = W.heap[j]?) → FI lo X g m c t W1
  foot : ∀ {lo : Nat} {X : Nat → Prop} {g : Nat} {m c : Int} {t : ByteArray} {W : World}, FI lo X g m c t W → ∀ j, X j → lo ≤ j ∧ j < W.heap.size
  lower : ∀ {lo lo' : Nat} {X : Nat → Prop} {g : Nat} {m c : Int} {t : ByteArray} {W : World}, FI lo X g m c t W → lo' ≤ lo → FI lo' X g m c t W
  str : ∀ (X : Nat → Prop) (W : World) (s : ByteArray), T X W (.iface 9 (.string s)) s
  int : ∀ (X : Nat → Prop) (W : World) (n : Int), T X W (.iface 3 (.int .i64 n)) ⟨#[111, 116, 104, 101, 114]⟩
  new : ∀ (n : Int) (W : World), Calls Try.prog 11 #[.int .i64 n] W fun r W' => ∃ g X, r = .returned (.pointer (some ⟨g, 0, none⟩)) ∧ FI W.heap.size X g (bear n) 0 ⟨#[]⟩ W' ∧ Below W.heap.size W W'
  caught : ∀ {lo : Nat} {X : Nat → Prop} {g : Nat} {m c : Int} {t : ByteArray} {W : World}, FI lo X g m c t W → Calls Try.prog 15 #[.pointer (some ⟨g, 0, none⟩)] W fun v W' => v = .returned (.int .i64 c) ∧ ∃ X', FI lo X' g m c t W' ∧ Turn X X' W W'
  blown : ∀ {lo : Nat} {X : Nat → Prop} {g : Nat} {m c : Int} {t : ByteArray} {W : World}, FI lo X g m c t W → Calls Try.prog 16 #[.pointer (some ⟨g, 0, none⟩)] W fun v W' => v = .returned (.bool (decide (m < c))) ∧ ∃ X', FI lo X' g m c t W' ∧ Turn X X' W W'
  last : ∀ {lo : Nat} {X : Nat → Prop} {g : Nat} {m c : Int} {t : ByteArray} {W : World}, FI lo X g m c t W → Calls Try.prog 25 #[.pointer (some ⟨g, 0, none⟩)] W fun v W' => v = .returned (.string t) ∧ ∃ X', FI lo X' g m c t W' ∧ Turn X X' W W'
  mend : ∀ {lo : Nat} {X : Nat → Prop} {g : Nat} {m c : Int} {t : ByteArray} {W : World}, FI lo X g m c t W → Calls Try.prog 22 #[.pointer (some ⟨g, 0, none⟩)] W fun v W' => v = .returned (.tuple #[]) ∧ ∃ X', FI lo X' g m 0 ⟨#[]⟩ W' ∧ Turn X X' W W'
  refused : ∀ {lo : Nat} {X : Nat → Prop} {g : Nat} {m c : Int} {t : ByteArray} {W : World} (fn : FuncId) (caps : Array Value), FI lo X g m c t W → m < c → Calls Try.prog 13 #[.pointer (some ⟨g, 0, none⟩), .func (.func fn) #[] caps] W fun v W' => v = .returned (.bool false) ∧ ∃ X', FI lo X' g m c t W' ∧ Turn X X' W W'
  nothing : ∀ {lo : Nat} {X : Nat → Prop} {g : Nat} {m c : Int} {t : ByteArray} {W : World}, FI lo X g m c t W → Calls Try.prog 13 #[.pointer (some ⟨g, 0, none⟩), .nilFunc] W fun v W' => v = .returned (.bool false) ∧ ∃ X', FI lo X' g m c t W' ∧ Turn X X' W W'
  run : ∀ {lo : Nat} {X : Nat → Prop} {g : Nat} {m c : Int} {t : ByteArray} {W : World} (fn : FuncId) (caps : Array Value) (R : Option ByteArray → (Nat → Prop) → Int → ByteArray → World → Prop), FI lo X g m c t W → c ≤ m → Ent fn →
    (∀ (W1 : World) (X1 : Nat → Prop), FI lo X1 g m c t W1 → Turn X X1 W W1 → Calls Try.prog fn caps W1 fun e W2 => ∃ o X2 c2 t2, En T X2 W2 e o ∧ FI lo X2 g m c2 t2 W2 ∧ (0 ≤ c2 ∧ c2 ≤ 1048576) ∧ (∀ j, W.heap.size ≤ j → j < W1.heap.size → ¬ X1 j → W2.heap[j]? = W1.heap[j]? ∧ ¬ X2 j) ∧ W1.heap.size ≤ W2.heap.size ∧ R o X2 c2 t2 W2) →
    Calls Try.prog 13 #[.pointer (some ⟨g, 0, none⟩), .func (.func fn) #[] caps] W fun v W' => ∃ o X2 c2 t2 W2 X3, R o X2 c2 t2 W2 ∧ v = .returned (.bool (dn o)) ∧ FI lo X3 g m (dc c2 o) (dt t2 o) W' ∧ Turn X2 X3 W2 W'
  do_nil : ∀ (fn : FuncId) (caps : Array Value) (W : World), Calls Try.prog 13 #[.pointer none, .func (.func fn) #[] caps] W fun v W' => v = .returned (.bool false) ∧ Below W.heap.size W W'
  caught_nil : ∀ (W : World), Calls Try.prog 15 #[.pointer none] W fun v W' => v = .returned (.int .i64 0) ∧ Below W.heap.size W W'
  blown_nil : ∀ (W : World), Calls Try.prog 16 #[.pointer none] W fun v W' => v = .returned (.bool true) ∧ Below W.heap.size W W'
  last_nil : ∀ (W : World), Calls Try.prog 25 #[.pointer none] W fun v W' => v = .returned (.string ⟨#[]⟩) ∧ Below W.heap.size W W'
  mend_nil : ∀ (W : World), Calls Try.prog 22 #[.pointer none] W fun v W' => v = .returned (.tuple #[]) ∧ Below W.heap.size W W'
section
variable {FI : FIT} {T : TT}
/-- A fuse from w0 on, beside boxes of the call's own. -/
structure FS (FI : FIT) (w0 : World) (X : Nat → Prop) (g : Nat) (m c : Int) (t : ByteArray) (B : List (Nat × Obj)) (W : World) : Prop where
  p : FI w0.heap.size X g m c t W
  b : Below w0.heap.size w0 W
  bx : ∀ b ∈ B, W.heap[b.1]? = some b.2 ∧ ¬ X b.1 ∧ w0.heap.size ≤ b.1
variable {w0 W W1 : World} {X X' : Nat → Prop} {g j : Nat} {m c c' : Int} {t t' : ByteArray} {B B' : List (Nat × Obj)} {ob ob' : Obj}
theorem FS.next (S : Spec FI T) (h : FS FI w0 X g m c t B W) (b : Below W.heap.size W W1) : FS FI w0 X g m c t B W1 :=
  ⟨S.frame h.p b.size (fun j hj => b.block j (S.foot h.p j hj).2), h.b.trans (b.mono h.b.size), fun y hy => ⟨row_below b (h.bx y hy).1, (h.bx y hy).2⟩⟩
theorem FS.turn (S : Spec FI T) (h : FS FI w0 X g m c t B W) (q : FI w0.heap.size X' g m c' t' W1) (u : Turn X X' W W1) : FS FI w0 X' g m c' t' B W1 :=
  ⟨q, h.b.trans (u.below (fun j hj => (S.foot h.p j hj).1) h.b.size), fun y hy => ⟨(u.bx (h.bx y hy).1 (h.bx y hy).2.1).1, (u.bx (h.bx y hy).1 (h.bx y hy).2.1).2, (h.bx y hy).2.2⟩⟩
theorem FS.box (S : Spec FI T) (h : FS FI w0 X g m c t B W) (ob : Obj) : FS FI w0 X g m c t ((W.heap.size, ob) :: B) (W.alloc ob) := by
  have h1 := h.next S (al (Below.refl W.heap.size W) ob)
  refine ⟨h1.p, h1.b, fun y hy => ?_⟩
  rcases List.mem_cons.1 hy with rfl | hy
  · exact ⟨heap_alloc_new _ _, fun hX => absurd (S.foot h.p _ hX).2 (Nat.lt_irrefl _), h.b.size⟩
  · exact h1.bx y hy
theorem FS.at (h : FS FI w0 X g m c t B W) (i : Nat) (hi : B[i]? = some (j, ob)) : W.heap[j]? = some ob := (h.bx (j, ob) (List.mem_of_getElem? hi)).1
theorem FS.sub (h : FS FI w0 X g m c t B W) (hB : ∀ x ∈ B', x ∈ B) : FS FI w0 X g m c t B' W := ⟨h.p, h.b, fun y hy => h.bx y (hB y hy)⟩
/-- A box written over. -/
theorem FS.put (S : Spec FI T) (h : FS FI w0 X g m c t ((j, ob) :: B) W) (kp : Kept j W W1) (hn : W1.heap[j]? = some ob') (hB : ∀ b ∈ B, b.1 ≠ j) : FS FI w0 X g m c t ((j, ob') :: B) W1 := by
  obtain ⟨h1, h2, h3⟩ := h.bx _ List.mem_cons_self
  refine ⟨S.frame h.p kp.size (fun i hi => kp.block i (fun e => h2 (e ▸ hi)) (S.foot h.p i hi).2), h.b.trans (kp.below h3 h.b.size), fun b hb => ?_⟩
  rcases List.mem_cons.1 hb with rfl | hb
  · exact ⟨hn, h2, h3⟩
  · obtain ⟨g1, g2, g3⟩ := h.bx b (List.mem_cons_of_mem _ hb)
    exact ⟨(kp.block b.1 (hB b hb) (lt_of_heap g1)).trans g1, g2, g3⟩
end
end Go.Proofs.Ytjglgglolbkjlaa.FuseW
