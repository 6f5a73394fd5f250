/- A bucket in memory beside other boxes; the chapter's examples. -/
import Derived.Test.YtokddpialnkckaaBucketA
namespace Go.Proofs.Ytokddpialnkckaa.BucketW
open Go.RowKit Shell
/-- How many passed, the last of them, the mark, how many did not. -/
structure Bk where
  n : Nat
  l : Int
  m : Int
  r : Nat
def b0 : Bk := ⟨0, 0, 0, 0⟩
/-- Does a frame pass? -/
def pas (j : Int) (s : Bk) (t : Int) : Bool := okB j s.n s.l s.m t
/-- The bucket behind a frame. -/
def tk (g j : Int) (s : Bk) (t : Int) : Bk := if pas j s t then ⟨s.n + 1, t, mk g s.n s.m t, s.r⟩ else ⟨s.n, s.l, s.m, s.r + 1⟩
def nxt (j : Int) (s : Bk) (t : Int) : Int := nx j s.n s.l s.m t
def fit (g j : Int) (s : Bk) : Prop := Fit g j s.n s.l s.m
theorem tk_yes {g j t : Int} {s : Bk} (h : pas j s t = true) : tk g j s t = ⟨s.n + 1, t, mk g s.n s.m t, s.r⟩ := by unfold tk; rw [if_pos h]
theorem tk_no {g j t : Int} {s : Bk} (h : pas j s t = false) : tk g j s t = ⟨s.n, s.l, s.m, s.r + 1⟩ := by unfold tk; rw [h, if_neg (by decide)]
theorem tk_fit {g j t : Int} {s : Bk} (hj : 0 ≤ j) (h : fit g j s) : fit g j (tk g j s t) := by
  cases hp : pas j s t with
  | true => rw [tk_yes hp]; exact fit_take hj hp
  | false => rw [tk_no hp]; exact h
theorem tk_sum (g j t : Int) (s : Bk) : (tk g j s t).n + (tk g j s t).r = s.n + s.r + 1 := by
  cases hp : pas j s t with
  | true => rw [tk_yes hp]; dsimp only; omega
  | false => rw [tk_no hp]; dsimp only; omega
abbrev bb (g j : Int) (s : Bk) : Obj := B g j s.n s.l s.m s.r
/-- A bucket in memory, beside other boxes. -/
structure PB (w0 : World) (L : List (Nat × Obj)) (k : Nat) (g j : Int) (s : Bk) (w : World) : Prop where
  st : Stay w0 ((k, bb g j s) :: L) w
  ge : w0.heap.size ≤ k
  ne : ∀ x ∈ L, x.1 ≠ k
  rg : rgt g j = true
  ft : fit g j s
section
variable {w0 w w1 : World} {L : List (Nat × Obj)} {k : Nat} {g j : Int} {s : Bk}
theorem PB.next (h : PB w0 L k g j s w) (b : Below w.heap.size w w1) : PB w0 L k g j s w1 := ⟨h.st.next b, h.ge, h.ne, h.rg, h.ft⟩
theorem PB.drew (h : PB w0 L k g j s w) : PB w0 L k g j s w.drew := ⟨h.st.drew, h.ge, h.ne, h.rg, h.ft⟩
theorem PB.box (h : PB w0 L k g j s w) : w.heap[k]? = some (bb g j s) := h.st.at 0 rfl
theorem PB.lt (h : PB w0 L k g j s w) : k < w.heap.size := lt_of_heap h.box
theorem PB.take (h : PB w0 L k g j s w) (t : Int) (hs : s.n + s.r < 4611686018427387904) :
    Calls Try.prog 15 #[.pointer (some ⟨k, 0, none⟩), .int .i64 t] w fun e w' => e = .returned (.bool (pas j s t)) ∧ PB w0 L k g j (tk g j s t) w' ∧ Kept k w w' := by
  have j0 := (rgt_iff.1 h.rg).2.1
  have F := tk_fit (t := t) j0 h.ft
  cases hp : pas j s t with
  | true =>
    rw [tk_yes hp] at F ⊢
    refine (take_ok k g j s.n s.l s.m s.r t w h.rg h.ft h.box (by omega) hp).mono ?_
    rintro e w' ⟨rfl, hb, kp⟩
    exact ⟨rfl, ⟨h.st.turn kp hb h.ge h.ne, h.ge, h.ne, h.rg, F⟩, kp⟩
  | false =>
    rw [tk_no hp] at F ⊢
    refine (take_no k g j s.n s.l s.m s.r t w h.rg h.ft h.box (by omega) hp).mono ?_
    rintro e w' ⟨rfl, hb, kp⟩
    exact ⟨rfl, ⟨h.st.turn kp hb h.ge h.ne, h.ge, h.ne, h.rg, F⟩, kp⟩
theorem PB.nextT (h : PB w0 L k g j s w) (t : Int) :
    Calls Try.prog 12 #[.pointer (some ⟨k, 0, none⟩), .int .i64 t] w fun e w' => e = .returned (.int .i64 (nxt j s t)) ∧ Below w.heap.size w w' :=
  next_any k g j s.n s.l s.m s.r t w h.rg h.ft h.box
theorem PB.passed (h : PB w0 L k g j s w) : Calls Try.prog 16 #[.pointer (some ⟨k, 0, none⟩)] w fun e w' => e = .returned (.int .i64 (s.n : Int)) ∧ w = w' := passed_any k g j _ _ _ _ w h.box
theorem PB.refused (h : PB w0 L k g j s w) : Calls Try.prog 17 #[.pointer (some ⟨k, 0, none⟩)] w fun e w' => e = .returned (.int .i64 (s.r : Int)) ∧ w = w' := refused_any k g j _ _ _ _ w h.box
end
theorem fit0 (g j : Int) : fit g j b0 := Or.inl rfl
theorem pb_new {w0 w : World} {L : List (Nat × Obj)} (S : Stay w0 L w) (g j : Int) (h : rgt g j = true) :
    Calls Try.prog 10 #[.int .i64 g, .int .i64 j] w fun e w' => e = .returned (.tuple #[.pointer (some ⟨w.heap.size, 0, none⟩), .int .i64 0]) ∧ PB w0 L w.heap.size g j b0 w' ∧ w' = w.alloc (bb g j b0) := by
  refine (new_ok g j h w).mono ?_
  rintro e w' ⟨rfl, rfl⟩
  exact ⟨rfl, ⟨S.alloc _, S.b.size, fun x hx => by have := lt_of_heap (S.h x hx); omega, h, fit0 g j⟩, rfl⟩
theorem take_lit {w0 w : World} {L : List (Nat × Obj)} {k : Nat} {s : Bk} (t : Int) (p : Bool) (s' : Bk) (h : PB w0 L k 100 10 s w) (hs : s.n + s.r < 4611686018427387904) (hp : pas 10 s t = p) (hq : tk 100 10 s t = s') :
    Calls Try.prog 15 #[.pointer (some ⟨k, 0, none⟩), .int .i64 t] w fun e w' => e = .returned (.bool p) ∧ PB w0 L k 100 10 s' w' := by
  subst hp; subst hq
  exact (h.take t hs).mono fun e w' ⟨h1, h2, _⟩ => ⟨h1, h2⟩
set_option maxHeartbeats 2000000 in
set_option maxRecDepth 100000 in
theorem fixed_any (w : World) : Calls Try.prog 9 #[] w fun e w' => e = .returned (.bool true) ∧ Below w.heap.size w w' := by
  have H5 := Lib.hid (show nxt 10 ⟨3, 190, 300, 1⟩ 195 = 290 by decide)
  have H6 := Lib.hid (show bud 100 10 190 = 3 by decide)
  go_enter Try.func9, Try.ntmps9
  go_wp2_with fail
  refine (pb_new (Stay.start w) 100 10 (by decide)).mono ?_
  rintro e w1 ⟨rfl, p1, -⟩
  have P1 := Lib.hid p1
  generalize hk : w.heap.size = k at *
  clear p1
  go_wp2_with fail
  refine (new_bad 0 0 (by decide) _).mono ?_
  rintro e w' ⟨rfl, rfl⟩
  go_wp2_with fail
  refine (take_lit 0 true ⟨1, 0, 100, 0⟩ P1.out (by decide) (by decide) (by kernel_rfl)).mono ?_
  rintro e w2 ⟨rfl, p2⟩
  have P2 := Lib.hid p2
  clear p2 P1
  go_wp2_with fail
  refine (take_lit 90 true ⟨2, 90, 200, 0⟩ P2.out (by decide) (by decide) (by kernel_rfl)).mono ?_
  rintro e w3 ⟨rfl, p3⟩
  have P3 := Lib.hid p3
  clear p3 P2
  go_wp2_with fail
  refine (take_lit 170 false ⟨2, 90, 200, 1⟩ P3.out (by decide) (by decide) (by kernel_rfl)).mono ?_
  rintro e w4 ⟨rfl, p4⟩
  have P4 := Lib.hid p4
  clear p4 P3
  go_wp2_with fail
  refine (take_lit 190 true ⟨3, 190, 300, 1⟩ P4.out (by decide) (by decide) (by kernel_rfl)).mono ?_
  rintro e w5 ⟨rfl, p5⟩
  have P5 := Lib.hid p5
  clear p5 P4
  go_wp2_with fail
  refine (P5.out.nextT 195).mono ?_
  rintro e w6 ⟨rfl, b6⟩
  rw [H5.out]
  have P6 := Lib.hid (P5.out.next b6)
  clear b6 P5
  go_wp2_with fail
  refine P6.out.passed.mono ?_
  rintro e w' ⟨rfl, rfl⟩
  go_wp2_with fail
  refine P6.out.refused.mono ?_
  rintro e w' ⟨rfl, rfl⟩
  go_wp2_with fail
  refine (budget_any 100 10 190 _).mono ?_
  rintro e w' ⟨rfl, rfl⟩
  rw [H6.out]
  go_wp2
  go_ret
  exact ⟨rfl, by rw [hk]; exact hk ▸ P6.out.st.b⟩
end Go.Proofs.Ytokddpialnkckaa.BucketW
