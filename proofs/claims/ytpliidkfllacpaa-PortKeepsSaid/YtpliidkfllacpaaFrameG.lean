/- Control; the document's own. -/
import Derived.Test.YtpliidkfllacpaaFrameE
import Derived.Test.YtpliidkfllacpaaFrameF
import Derived.Test.YtpliidkfllacpaaFrameA
import Derived.Laws.MakeOwn
import Derived.Lib.AppendStr
namespace Go.Proofs.Ytpliidkfllacpaa.FrameW
open Go.RowKit
theorem OB.mono {w : World} {base b' : Nat} {v : Value} {xs : List Int} (h : OB w base v xs) (hb : b' ≤ base) : OB w b' v xs :=
  ⟨⟨h.1.1, h.1.2.imp id (fun ⟨g, cap, cur, hv, hg, rest⟩ => ⟨g, cap, cur, hv, by omega, rest⟩)⟩, h.2⟩
/-- A row that grows beside a kept block. -/
structure Grow (w0 : World) (g : Nat) (box : Obj) (w : World) (v : Value) (xs : List Int) : Prop where
  o : OB w (g + 1) v xs
  b : Below w0.heap.size w0 w
  x : w.heap[g]? = some box
  s : w0.heap.size ≤ g
theorem Grow.room {w0 w : World} {g : Nat} {box : Obj} {v : Value} {xs : List Int} (h : Grow w0 g box w v xs) : g + 1 ≤ w.heap.size := row_lt h.x
theorem Grow.next {w0 w w' : World} {g : Nat} {box : Obj} {v : Value} {xs : List Int} (h : Grow w0 g box w v xs) (b : Below w.heap.size w w') : Grow w0 g box w' v xs :=
  ⟨h.o.below b, h.b.trans (b.mono h.b.size), row_below b h.x, h.s⟩
theorem Grow.step {w0 w w' : World} {g : Nat} {box : Obj} {v v' : Value} {xs ys : List Int} (h : Grow w0 g box w v xs) (o : OB w' (g + 1) v' ys) (b : Below (g + 1) w w') : Grow w0 g box w' v' ys :=
  ⟨o, h.b.trans (b.mono (by have := h.s; omega)), (b.block g (by omega)).trans h.x, h.s⟩
theorem Grow.form {w0 w : World} {g : Nat} {box : Obj} {v : Value} {xs : List Int} (h : Grow w0 g box w v xs) : ∃ A c, v = .slice A xs.length c := by
  obtain ⟨A, c, hv, -⟩ := h.o.form
  exact ⟨A, c, hv⟩
theorem put_g {w0 w : World} {g : Nat} {box : Obj} {v : Value} {xs : List Int} (h : Grow w0 g box w v xs) (n size : Nat) {N S : Int} (hN : N = (n : Int)) (hS : S = (size : Int)) (hn : n < 18446744073709551616) (hs : size ≤ 4096) (hx : xs.length ≤ 70368744177664) :
    Calls Try.prog 26 #[v, .int .u64 N, .int .i64 S] w fun e w' => ∃ v', e = .returned v' ∧ Grow w0 g box w' v' (xs ++ be size n) := by
  subst hN; subst hS
  refine (put_any v xs n size (g + 1) w h.o hn hs hx h.room).mono ?_
  rintro e w' ⟨v', rfl, o, s⟩
  exact ⟨v', rfl, h.step o (s.below h.o h.room)⟩
theorem seal_g {w0 w : World} {g : Nat} {box : Obj} {v : Value} {xs : List Int} (h : Grow w0 g box w v xs) (hx : xs.length ≤ 70368744177664) :
    Calls Try.prog 27 #[v] w fun e w' => ∃ v', e = .returned v' ∧ Grow w0 g box w' v' (sealed xs) := by
  refine (seal_any v xs (g + 1) w h.o hx h.room).mono ?_
  rintro e w' ⟨v', rfl, o, s⟩
  exact ⟨v', rfl, h.step o (s.below h.o h.room)⟩
theorem make_ob (n : Nat) (hn : n ≤ 281474976710656) (w : World) : (Instr.makeSlice 54 (.int .i64 0) (.int .i64 (n : Int))).run Try.prog w = .ok (.slice (some ⟨w.heap.size, 0, none⟩) 0 n) (w.alloc (.cells (u8s (List.replicate n 0)).toArray 5)) := by
  obtain ⟨i0, hi, hz0, hz1, hz2⟩ := u8_info
  have hr := run_make (P := Try.prog) w 54 5 i0 (.int .u8 0) Try.underlying54 hi hz0 .i64 .i64 0 n (by omega) (by omega) (by rw [hz2]; omega) (by omega)
  rw [hz1, Int.toNat_natCast, Nat.mul_one, show (Value.int IntKind.u8 0).cells = #[.int .u8 0] from rfl, made_u8] at hr
  exact hr
theorem made_ob (w : World) (base n : Nat) (hb : base ≤ w.heap.size) (hn : n ≤ 9223372036854775807) : OB (w.alloc (.cells (u8s (List.replicate n 0)).toArray 5)) base (.slice (some ⟨w.heap.size, 0, none⟩) 0 n) [] :=
  ⟨World.ownsRow_made w _ n hb (by simp only [maxLen]; omega) (by simp [u8s_len]), fun x hx => by cases hx⟩
theorem cells5 {w : World} {j : Nat} {x y z u v : Value} {t : TypeId} {fr : Nat × Nat} (h : w.heap[j]? = some (.cells #[x, y, z, u, v] t fr)) : w.cell? ⟨j, 0, none⟩ = some x ∧ w.cell? ⟨j, 1, none⟩ = some y ∧ w.cell? ⟨j, 2, none⟩ = some z ∧ w.cell? ⟨j, 3, none⟩ = some u ∧ w.cell? ⟨j, 4, none⟩ = some v :=
  ⟨cell_of_row w j 0 _ _ _ h, cell_of_row w j 1 _ _ _ h, cell_of_row w j 2 _ _ _ h, cell_of_row w j 3 _ _ _ h, cell_of_row w j 4 _ _ _ h⟩
theorem u64_same {x : Int} (h0 : 0 ≤ x) (h1 : x < 18446744073709551616) : IntKind.u64.wrap x = x := by rw [IntKind.wrap_u64]; omega
end Go.Proofs.Ytpliidkfllacpaa.FrameW

