/- A hold in memory; package perm's New, Len, Next and Give. -/
import Derived.Test.YtmkgnkbcdkcboaaPermA
namespace Go.Proofs.Ytmkgnkbcdkcboaa.PermW
open Go.RowKit Shell
open QueueW hiding al cell_keep
abbrev hbx (d : Int) (k : Nat) : Obj := .cells #[.int .i64 d, .pointer (some ⟨k, 0, none⟩)] 69 (0, 0)
/-- A hold at block h, its queue at block k, that holds S in order. -/
structure HK (w : World) (h k : Nat) (d n : Int) (v : Value) (S : List It) : Prop where
  box : w.heap[h]? = some (hbx d k)
  q : QSC w k 64 n v S
  hk : ¬ h = k
  ho : v.ownBlock ≠ some h
section
variable {w w1 : World} {h k : Nat} {d n : Int} {v : Value} {S : List It}
theorem HK.below (H : HK w h k d n v S) (b : Below w.heap.size w w1) : HK w1 h k d n v S := ⟨row_below b H.box, H.q.below b, H.hk, H.ho⟩
theorem HK.cells (H : HK w h k d n v S) : w.cell? ⟨h, 0, none⟩ = some (.int .i64 d) ∧ w.cell? ⟨h, 1, none⟩ = some (.pointer (some ⟨k, 0, none⟩)) :=
  ⟨cell_of_row w h 0 _ _ _ H.box, cell_of_row w h 1 _ _ _ H.box⟩
theorem HK.frame (H : HK w h k d n v S) {X : Nat → Prop} (c : Chg X w w1) (h0 : ¬ X h) (h1 : ¬ X k) (h2 : ∀ j, v.ownBlock = some j → ¬ X j) : HK w1 h k d n v S :=
  ⟨c.heap H.box h0, H.q.frame c h1 h2, H.hk, H.ho⟩
end
theorem new_bad (d : Int) (h : okD d = false) (w : World) : Calls Try.prog 9 #[.int .i64 d] w fun e w' => e = .returned (.tuple #[.pointer none, .int .i64 1]) ∧ w = w' := by
  go_enter Try.func9, Try.ntmps9
  go_wp2_with (go_at_call 21; refine (isDelay_any _ _).mono ?_; rintro e w' ⟨rfl, rfl⟩; rw [h])
  go_ret2
  exact ⟨rfl, rfl⟩
theorem new_ok (d : Int) (h : okD d = true) (w : World) : Calls Try.prog 9 #[.int .i64 d] w fun e w' => ∃ g, e = .returned (.tuple #[.pointer (some ⟨g, 0, none⟩), .int .i64 0]) ∧ w.heap.size ≤ g ∧ HK w' g w.heap.size d 0 (.slice none 0 0) [] ∧ Below w.heap.size w w' := by
  go_enter Try.func9, Try.ntmps9
  go_wp2_with (first
    | (go_at_call 21; refine (isDelay_any _ _).mono ?_; rintro e w' ⟨rfl, rfl⟩; rw [h])
    | (go_at_call 22; refine (newC_any 64 _).mono ?_; rintro e w1 ⟨rfl, q1, b1⟩; have Q1 := Lib.hid q1; have B1 := Lib.hid b1; have L1 := Lib.hid (lt_heap q1.blk); clear q1 b1))
  go_ret2
  have hs := L1.out
  refine ⟨_, rfl, by omega, ⟨heap_alloc_new _ _, Q1.out.below (al (Below.refl _ _) _), by omega, fun e => by cases e⟩, B1.out.alloc B1.out.size _⟩
theorem len_any {w : World} {h k : Nat} {d n : Int} {v : Value} {S : List It} (H : HK w h k d n v S) : Calls Try.prog 19 #[.pointer (some ⟨h, 0, none⟩)] w fun e w' => e = .returned (.int .i64 (S.length : Nat)) ∧ w = w' := by
  have L := Lib.hid (lenqC_any k 64 n v S w H.q)
  obtain ⟨c0, c1⟩ := H.cells
  clear H
  go_enter Try.func19, Try.ntmps19
  go_wp2_with (go_at_call 38; refine L.out.mono ?_; rintro e w' ⟨rfl, rfl⟩)
  go_ret
  exact ⟨rfl, rfl⟩
theorem len_nil (w : World) : Calls Try.prog 19 #[.pointer none] w fun e w' => e = .returned (.int .i64 0) ∧ w = w' := by
  go_enter Try.func19, Try.ntmps19
  go_wp2
  go_ret
  exact ⟨rfl, rfl⟩
theorem next_nil (w : World) : Calls Try.prog 18 #[.pointer none] w fun e w' => e = .returned (.tuple #[.int .i64 0, .bool false]) ∧ w = w' := by
  go_enter Try.func18, Try.ntmps18
  go_wp2
  go_ret2
  exact ⟨rfl, rfl⟩
/-- What Next answers. -/
def nxt : List It → Value
  | [] => .tuple #[.int .i64 0, .bool false]
  | x :: _ => .tuple #[.int .i64 x.time, .bool true]
theorem next_any {w : World} {h k : Nat} {d n : Int} {v : Value} {S : List It} (H : HK w h k d n v S) : Calls Try.prog 18 #[.pointer (some ⟨h, 0, none⟩)] w fun e w' => e = .returned (nxt S) ∧ Below w.heap.size w w' := by
  obtain ⟨c0, c1⟩ := H.cells
  cases S with
  | nil =>
    have L := peekC_none k 64 n v w H.q
    dsimp only [zC, It.thing] at L
    have L := Lib.hid L
    clear H
    go_enter Try.func18, Try.ntmps18
    go_wp2_with (go_at_call 37; refine L.out.mono ?_; rintro e w1 ⟨rfl, b1⟩; have B1 := Lib.hid b1; clear b1)
    go_ret2
    exact ⟨rfl, al B1.out _⟩
  | cons x S =>
    obtain ⟨x0, x1, x2, x3, x4, x5, x6, x7, x8⟩ := x
    have L := peekC_some k 64 n v _ S w H.q
    dsimp only [It.thing] at L
    have L := Lib.hid L
    clear H
    go_enter Try.func18, Try.ntmps18
    go_wp2_with (go_at_call 37; refine L.out.mono ?_; rintro e w1 ⟨rfl, b1⟩; have B1 := Lib.hid b1; clear b1)
    go_ret2
    exact ⟨rfl, al B1.out _⟩
end Go.Proofs.Ytmkgnkbcdkcboaa.PermW
