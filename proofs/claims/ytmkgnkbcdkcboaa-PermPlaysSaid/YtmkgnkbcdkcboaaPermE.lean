/- The document's own Due; rows of held frames in memory. -/
import Derived.Test.YtmkgnkbcdkcboaaPermD
import Derived.Laws.AppendOwn
import Derived.Laws.OwnMore
import Derived.OwnWalk
namespace Go.Proofs.Ytmkgnkbcdkcboaa.PermW
open Go.RowKit Shell
open QueueW hiding al cell_keep
open ClockW (CK CI RV tell tell_iff sh wh sh_range refNow_ok refNow_bad refWhen_none refWhen_ok)
open FrameW (CV rightC)
theorem refNow_any (m b r t : Int) (hi : CI m b r) (w : World) : Calls Try.prog 44 #[RV m b r, .int .i64 t] w fun e w' => ∃ x y : Int, e = .returned (.tuple #[.int .i64 x, .int .i64 y]) ∧ Below w.heap.size w w' := by
  cases ht : tell m t with
  | false => exact (refNow_bad m b r t w ht).mono fun e w' h => ⟨_, _, h⟩
  | true => exact (refNow_ok m b r t w hi ht).mono fun e w' h => ⟨_, _, h⟩
theorem refDue_bad (m b r t cl d : Int) (hi : CI m b r) (h : d < 0 ∨ 1048576 < d ∨ cl < 0 ∨ d < cl) (w : World) :
    Calls Try.prog 29 #[RV m b r, .int .i64 t, .int .i64 cl, .int .i64 d] w fun e w' => e = .returned (.tuple #[.int .i64 0, .int .i64 1]) ∧ Below w.heap.size w w' := by
  have N := fun W => refNow_any m b r t hi W
  unfold RV at *
  have N := Lib.hid N
  clear hi
  by_cases h1 : d < 0
  · clear h
    go_enter Try.func29, Try.ntmps29
    go_wp2_with (go_at_call 44; refine (N.out _).mono ?_; rintro e w1 ⟨x, y, rfl, b1⟩; have B1 := Lib.hid b1; clear b1)
    go_ret2
    exact ⟨rfl, (al (Below.refl _ _) _).trans (B1.out.mono (by simp))⟩
  · by_cases h2 : 1048576 < d
    · clear h
      go_enter Try.func29, Try.ntmps29
      go_wp2_with (go_at_call 44; refine (N.out _).mono ?_; rintro e w1 ⟨x, y, rfl, b1⟩; have B1 := Lib.hid b1; clear b1)
      go_ret2
      exact ⟨rfl, (al (Below.refl _ _) _).trans (B1.out.mono (by simp))⟩
    · by_cases h3 : cl < 0
      · clear h
        go_enter Try.func29, Try.ntmps29
        go_wp2_with (go_at_call 44; refine (N.out _).mono ?_; rintro e w1 ⟨x, y, rfl, b1⟩; have B1 := Lib.hid b1; clear b1)
        go_ret2
        exact ⟨rfl, (al (Below.refl _ _) _).trans (B1.out.mono (by simp))⟩
      · have h4 : d < cl := by omega
        clear h
        go_enter Try.func29, Try.ntmps29
        go_wp2_with (go_at_call 44; refine (N.out _).mono ?_; rintro e w1 ⟨x, y, rfl, b1⟩; have B1 := Lib.hid b1; clear b1)
        go_ret2
        exact ⟨rfl, (al (Below.refl _ _) _).trans (B1.out.mono (by simp))⟩
theorem refDue_any (m b r t cl d : Int) (hi : CI m b r) (w : World) :
    Calls Try.prog 29 #[RV m b r, .int .i64 t, .int .i64 cl, .int .i64 d] w fun e w' => e = .returned (duT (du m b r t cl d (tell m t))) ∧ Below w.heap.size w w' := by
  by_cases h : d < 0 ∨ 1048576 < d ∨ cl < 0 ∨ d < cl
  · refine (refDue_bad m b r t cl d hi h w).mono ?_
    rintro e w' ⟨rfl, h2⟩
    exact ⟨by unfold du; rw [if_neg (by omega)], h2⟩
  · have h1 : ¬ d < 0 := by omega
    have h2 : ¬ 1048576 < d := by omega
    have h3 : ¬ cl < 0 := by omega
    have h4 : ¬ d < cl := by omega
    clear h
    cases ht : tell m t with
    | false =>
      have D : du m b r t cl d false = (0, 1) := by unfold du; rw [if_neg (by simp)]
      have N := fun W => refNow_bad m b r t W ht
      rw [D]
      unfold RV at *
      have N := Lib.hid N
      clear D hi
      go_enter Try.func29, Try.ntmps29
      go_wp2_with (go_at_call 44; refine (N.out _).mono ?_; rintro e w1 ⟨rfl, b1⟩; have B1 := Lib.hid b1; clear b1)
      go_ret2
      exact ⟨rfl, (al (Below.refl _ _) _).trans (B1.out.mono (by simp))⟩
    | true =>
      have HT := tell_iff.1 ht
      have hr := sh_range hi HT.2 HT.1.2
      have D : du m b r t cl d true = (if sh m b r 1125899906842624 < sh m b r t + d - cl then (0, 5) else (wh m b r (sh m b r t + d - cl), 0)) := if_pos ⟨by omega, by omega, by omega, rfl⟩
      have N := fun W => refNow_ok m b r t W hi ht
      by_cases no : sh m b r 1125899906842624 < sh m b r t + d - cl
      · rw [D, if_pos no]
        have U := fun W => refWhen_none m b r (sh m b r t + d - cl) W hi no
        have X0 := Lib.hid (heap_alloc_new w (.cells #[.int .i64 m, .int .i64 b, .int .i64 r] 33 (0, 0)))
        unfold RV at *
        have N := Lib.hid N
        have U := Lib.hid U
        clear D no hi HT
        generalize sh m b r t = z at *
        go_enter Try.func29, Try.ntmps29
        go_wp2_with (first
          | (go_at_call 44; refine (N.out _).mono ?_; rintro e w1 ⟨rfl, b1⟩; have B1 := Lib.hid b1; obtain ⟨c0, c1, c2⟩ := cells3 (row_below b1 X0.out); clear b1)
          | (go_at_call 45; refine (U.out _).mono ?_; rintro e w2 ⟨rfl, b2⟩; have B2 := Lib.hid b2; clear b2))
        go_ret2
        exact ⟨rfl, ((al (Below.refl _ _) _).trans (B1.out.mono (by simp))).trans (B2.out.mono (Nat.le_trans (by simp) B1.out.size))⟩
      · rw [D, if_neg no]
        have U := fun W => refWhen_ok m b r (sh m b r t + d - cl) W hi no
        have X0 := Lib.hid (heap_alloc_new w (.cells #[.int .i64 m, .int .i64 b, .int .i64 r] 33 (0, 0)))
        unfold RV at *
        have N := Lib.hid N
        have U := Lib.hid U
        clear D no hi HT
        generalize sh m b r t = z at *
        go_enter Try.func29, Try.ntmps29
        go_wp2_with (first
          | (go_at_call 44; refine (N.out _).mono ?_; rintro e w1 ⟨rfl, b1⟩; have B1 := Lib.hid b1; obtain ⟨c0, c1, c2⟩ := cells3 (row_below b1 X0.out); clear b1)
          | (go_at_call 45; refine (U.out _).mono ?_; rintro e w2 ⟨rfl, b2⟩; have B2 := Lib.hid b2; clear b2))
        go_ret2
        exact ⟨rfl, ((al (Below.refl _ _) _).trans (B1.out.mono (by simp))).trans (B2.out.mono (Nat.le_trans (by simp) B1.out.size))⟩
def cs6 (x : It) : List Value := [.int .i64 x.k, .int .i64 x.f, .int .i64 x.y, .int .u32 x.c, .int .i64 x.l, .int .i64 x.time]
def fl6 : List It → List Value
  | [] => []
  | x :: L => cs6 x ++ fl6 L
theorem fl6_len : ∀ L, (fl6 L).length = L.length * 6
  | [] => rfl
  | x :: L => by simp only [fl6, List.length_append, fl6_len L, List.length_cons]; simp only [cs6, List.length_cons, List.length_nil]; omega
theorem fl6_app : ∀ L M, fl6 (L ++ M) = fl6 L ++ fl6 M
  | [], _ => rfl
  | x :: L, M => by simp only [List.cons_append, fl6, fl6_app L M, List.append_assoc]
theorem fl6_at : ∀ (L : List It) (i c : Nat) (x : It), L[i]? = some x → c < 6 → (fl6 L)[i * 6 + c]? = (cs6 x)[c]?
  | y :: L, 0, c, x, h, hc => by
    simp only [List.getElem?_cons_zero, Option.some.injEq] at h
    subst h
    rw [fl6, Nat.zero_mul, Nat.zero_add, List.getElem?_append_left (by simp only [cs6, List.length_cons, List.length_nil]; omega)]
  | y :: L, i + 1, c, x, h, hc => by
    simp only [List.getElem?_cons_succ] at h
    rw [fl6, List.getElem?_append_right (by simp only [cs6, List.length_cons, List.length_nil]; omega)]
    rw [show (i + 1) * 6 + c - (cs6 y).length = i * 6 + c by simp only [cs6, List.length_cons, List.length_nil]; omega]
    exact fl6_at L i c x h hc
/-- The six cells of a held frame at a place. -/
def At6 (w : World) (g o : Nat) (x : It) : Prop :=
  w.cell? ⟨g, o, none⟩ = some (.int .i64 x.k) ∧ w.cell? ⟨g, o + 1, none⟩ = some (.int .i64 x.f) ∧ w.cell? ⟨g, o + 2, none⟩ = some (.int .i64 x.y) ∧ w.cell? ⟨g, o + 3, none⟩ = some (.int .u32 x.c) ∧ w.cell? ⟨g, o + 4, none⟩ = some (.int .i64 x.l) ∧ w.cell? ⟨g, o + 5, none⟩ = some (.int .i64 x.time)
/-- A slice's cells are these held frames. -/
def HL (w : World) (A : Option Addr) (L : List It) : Prop := L = [] ∨ ∃ g off, A = some ⟨g, off, none⟩ ∧ g < w.heap.size ∧ ∀ (k : Nat) (x : It), L[k]? = some x → At6 w g (off + k * 6) x
theorem At6.block {w w1 : World} {g o : Nat} {x : It} (h : At6 w g o x) (b : w1.heap[g]? = w.heap[g]?) : At6 w1 g o x := by
  obtain ⟨h0, h1, h2, h3, h4, h5⟩ := h
  exact ⟨(World.cell?_of_block b).trans h0, (World.cell?_of_block b).trans h1, (World.cell?_of_block b).trans h2, (World.cell?_of_block b).trans h3, (World.cell?_of_block b).trans h4, (World.cell?_of_block b).trans h5⟩
theorem HL.block {w w1 : World} {A : Option Addr} {L : List It} (h : HL w A L) (hs : w.heap.size ≤ w1.heap.size) (b : ∀ a, A = some a → w1.heap[a.block]? = w.heap[a.block]?) : HL w1 A L := by
  rcases h with h | ⟨g, off, rfl, hg, h⟩
  · exact Or.inl h
  · exact Or.inr ⟨g, off, rfl, by omega, fun k x hk => (h k x hk).block (b _ rfl)⟩
theorem HL.below {w w1 : World} {A : Option Addr} {L : List It} (h : HL w A L) (b : Below w.heap.size w w1) : HL w1 A L := by
  rcases h with h | ⟨g, off, rfl, hg, h⟩
  · exact Or.inl h
  · exact Or.inr ⟨g, off, rfl, Nat.lt_of_lt_of_le hg b.size, fun k x hk => (h k x hk).block (b.block g hg)⟩
theorem HL.tail {w : World} {A : Option Addr} {x : It} {L : List It} (h : HL w A (x :: L)) : ∃ g off, A = some ⟨g, off, none⟩ ∧ g < w.heap.size ∧ At6 w g off x ∧ HL w (some ⟨g, off + 6, none⟩) L := by
  rcases h with h | ⟨g, off, rfl, hg, h⟩
  · cases h
  · refine ⟨g, off, rfl, hg, ?_, Or.inr ⟨g, off + 6, rfl, hg, fun k y hk => ?_⟩⟩
    · have := h 0 x rfl
      rwa [Nat.zero_mul, Nat.add_zero] at this
    · have := h (k + 1) y hk
      rwa [show off + (k + 1) * 6 = off + 6 + k * 6 by omega] at this
/-- A row of held frames that the call owns. -/
def OL (w : World) (base : Nat) (v : Value) (L : List It) : Prop := w.ownsRow base 47 6 v L.length (fl6 L)
theorem OL.form {w : World} {base : Nat} {v : Value} {L : List It} (h : OL w base v L) : ∃ A c, v = .slice A L.length c ∧ HL w A L ∧ (∀ a, A = some a → base ≤ a.block ∧ a.block < w.heap.size) ∧ L.length ≤ c := by
  rcases h.2 with ⟨rfl, h2⟩ | ⟨g, cap, cur, rfl, hb, hg, hr⟩
  · have : L = [] := List.eq_nil_of_length_eq_zero h2
    subst this
    exact ⟨none, 0, rfl, Or.inl rfl, fun a ha => (by cases ha), Nat.le_refl _⟩
  · refine ⟨_, cap, rfl, Or.inr ⟨g, 0, rfl, lt_heap hg, fun k x hk => ?_⟩, fun a ha => ?_, hr.1⟩
    · have c := World.ownsRow.cells h (g := g) rfl
      have e : ∀ j, (⟨g, 0, none⟩ : Addr).add j = ⟨g, j, none⟩ := fun j => by unfold Addr.add; split <;> simp_all
      have f := fun c hc => fl6_at L k c x hk hc
      have z : ∀ j u, j < 6 → (cs6 x)[j]? = some u → w.cell? ⟨g, 0 + k * 6 + j, none⟩ = some u := fun j u hc hu => by
        have := c (k * 6 + j) u ((f j hc).trans hu)
        rw [e] at this
        rwa [Nat.zero_add]
      exact ⟨z 0 _ (by omega) rfl, z 1 _ (by omega) rfl, z 2 _ (by omega) rfl, z 3 _ (by omega) rfl, z 4 _ (by omega) rfl, z 5 _ (by omega) rfl⟩
    · injection ha with ha
      subst ha
      exact ⟨hb, lt_heap hg⟩
theorem info6 : (Try.prog.info? 47).map (fun i => (i.zero.map (fun z => z.cells.size), i.size, i.bytes)) = some (some 6, 6, 48) := by kernel_rfl
theorem info6_parts : ∃ (i : TypeInfo) (z : Value), Try.prog.info? 47 = some i ∧ i.zero = some z ∧ i.size = 6 ∧ i.bytes = 48 ∧ z.cells.size = 6 := by
  have h := info6
  revert h
  cases Try.prog.info? 47 with
  | none => intro h; cases h
  | some i =>
    intro h
    simp only [Option.map_some, Option.some.injEq, Prod.mk.injEq] at h
    obtain ⟨h1, h2, h3⟩ := h
    cases hz : i.zero with
    | none => rw [hz] at h1; cases h1
    | some z =>
      rw [hz] at h1
      simp only [Option.map_some, Option.some.injEq] at h1
      exact ⟨i, z, rfl, hz, h2, h3, h1⟩
end Go.Proofs.Ytmkgnkbcdkcboaa.PermW
