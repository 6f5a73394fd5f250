/- seal; the document's own rows: number, lay. -/
import Derived.Test.YtmagjekmlnpfpaaGreatFrameD
import Derived.Deep.OwnRows
import Derived.Test.YtmagjekmlnpfpaaGreatFrameF
import Derived.Test.YtmagjekmlnpfpaaGreatFrameAJa
import Derived.Laws.MakeOwn
import Derived.Lib.AppendStr
namespace Go.Proofs.YtmagjekmlnpfpaaGreat.FrameW
open Go.RowKit
theorem seal_any (v : Value) (xs : List Int) (base : Nat) (w : World) (h : OB w base v xs) (hx : xs.length ≤ 70368744177664) (hb : base ≤ w.heap.size) :
    Calls Tryz.prog 203 #[v] w fun e w' => ∃ v', e = .returned v' ∧ OB w' base v' (sealed xs) ∧ Step w v w' v' := by
  obtain ⟨A, c, rfl, hbl, -⟩ := h.form
  have S := Lib.hid (sum_any A c xs w hbl (by omega))
  have P := Lib.hid (put_any (.slice A xs.length c) xs (crc xs) 4 base w h (Nat.lt_of_lt_of_le (crc_lt xs) (by decide)) (by decide) hx hb)
  have hc := crc_lt xs
  have eW : IntKind.u64.wrap ((crc xs : Nat) : Int) = ((crc xs : Nat) : Int) := by rw [IntKind.wrap_u64]; omega
  have HS := Lib.hid (show sealed xs = xs ++ be 4 (crc xs) from rfl)
  generalize crc xs = s at *
  clear h hbl hx hb hc
  go_enter Tryz.func203, Tryz.ntmps203
  go_wp2_with (first
    | (go_at_call 213; refine S.out.mono ?_; rintro e w' ⟨rfl, rfl⟩)
    | (go_at_call 202; refine P.out.mono ?_; rintro e w2 ⟨v2, rfl, o2, s2⟩; have O2 := Lib.hid o2; have S2 := Lib.hid s2; clear o2 s2))
  go_ret
  exact ⟨_, rfl, by rw [HS.out]; exact O2.out, S2.out⟩
theorem made_u8 (n : Nat) : madeCells #[.int .u8 0] n = (u8s (List.replicate n 0)).toArray := by
  apply Array.toList_inj.1
  rw [toList_madeCells_one]
  unfold u8s
  simp
theorem row_get {w : World} {g : Nat} {rs : List Int} {t : TypeId} (h : w.heap[g]? = some (.cells (u8s rs).toArray t (0, 0))) {k : Nat} {d : Int} (hk : rs[k]? = some d) : w.cell? ⟨g, k, none⟩ = some (.int .u8 d) := by
  rw [cell_of_row w g k _ _ _ h, List.getElem?_toArray]
  unfold u8s
  rw [List.getElem?_map, hk]
  rfl
end Go.Proofs.YtmagjekmlnpfpaaGreat.FrameW



/- Control; the document's own. -/
namespace Go.Proofs.YtmagjekmlnpfpaaGreat.FrameW
open Go.RowKit
theorem OB.mono {w : World} {base b' : Nat} {v : Value} {xs : List Int} (h : OB w base v xs) (hb : b' ≤ base) : OB w b' v xs :=
  ⟨⟨h.1.1, h.1.2.imp id (fun ⟨g, cap, cur, hv, hg, rest⟩ => ⟨g, cap, cur, hv, by omega, rest⟩)⟩, h.2⟩
/-- A row that grows beside a kept block. -/
structure Grow (w0 : World) (g : Nat) (box : Obj) (w : World) (v : Value) (xs : List Int) : Prop where
  o : OB w (g + 1) v xs
  b : Below w0.heap.size w0 w
  x : w.heap[g]? = some box
  s : w0.heap.size ≤ g
theorem Grow.room {w0 w : World} {g : Nat} {box : Obj} {v : Value} {xs : List Int} (h : Grow w0 g box w v xs) : g + 1 ≤ w.heap.size := row_lt h.x
theorem Grow.next {w0 w w' : World} {g : Nat} {box : Obj} {v : Value} {xs : List Int} (h : Grow w0 g box w v xs) (b : Below w.heap.size w w') : Grow w0 g box w' v xs :=
  ⟨h.o.below b, h.b.trans (b.mono h.b.size), row_below b h.x, h.s⟩
theorem Grow.step {w0 w w' : World} {g : Nat} {box : Obj} {v v' : Value} {xs ys : List Int} (h : Grow w0 g box w v xs) (o : OB w' (g + 1) v' ys) (b : Below (g + 1) w w') : Grow w0 g box w' v' ys :=
  ⟨o, h.b.trans (b.mono (by have := h.s; omega)), (b.block g (by omega)).trans h.x, h.s⟩
theorem Grow.form {w0 w : World} {g : Nat} {box : Obj} {v : Value} {xs : List Int} (h : Grow w0 g box w v xs) : ∃ A c, v = .slice A xs.length c := by
  obtain ⟨A, c, hv, -⟩ := h.o.form
  exact ⟨A, c, hv⟩
theorem put_g {w0 w : World} {g : Nat} {box : Obj} {v : Value} {xs : List Int} (h : Grow w0 g box w v xs) (n size : Nat) {N S : Int} (hN : N = (n : Int)) (hS : S = (size : Int)) (hn : n < 18446744073709551616) (hs : size ≤ 4096) (hx : xs.length ≤ 70368744177664) :
    Calls Tryz.prog 202 #[v, .int .u64 N, .int .i64 S] w fun e w' => ∃ v', e = .returned v' ∧ Grow w0 g box w' v' (xs ++ be size n) := by
  subst hN; subst hS
  refine (put_any v xs n size (g + 1) w h.o hn hs hx h.room).mono ?_
  rintro e w' ⟨v', rfl, o, s⟩
  exact ⟨v', rfl, h.step o (s.below h.o h.room)⟩
theorem seal_g {w0 w : World} {g : Nat} {box : Obj} {v : Value} {xs : List Int} (h : Grow w0 g box w v xs) (hx : xs.length ≤ 70368744177664) :
    Calls Tryz.prog 203 #[v] w fun e w' => ∃ v', e = .returned v' ∧ Grow w0 g box w' v' (sealed xs) := by
  refine (seal_any v xs (g + 1) w h.o hx h.room).mono ?_
  rintro e w' ⟨v', rfl, o, s⟩
  exact ⟨v', rfl, h.step o (s.below h.o h.room)⟩
theorem make_ob (n : Nat) (hn : n ≤ 281474976710656) (w : World) : (Instr.makeSlice 236 (.int .i64 0) (.int .i64 (n : Int))).run Tryz.prog w = .ok (.slice (some ⟨w.heap.size, 0, none⟩) 0 n) (w.alloc (.cells (u8s (List.replicate n 0)).toArray 5)) := by
  obtain ⟨i0, hi, hz0, hz1, hz2⟩ := u8_info
  have hr := run_make (P := Tryz.prog) w 236 5 i0 (.int .u8 0) Tryz.underlying236 hi hz0 .i64 .i64 0 n (by omega) (by omega) (by rw [hz2]; omega) (by omega)
  rw [hz1, Int.toNat_natCast, Nat.mul_one, show (Value.int IntKind.u8 0).cells = #[.int .u8 0] from rfl, made_u8] at hr
  exact hr
theorem made_ob (w : World) (base n : Nat) (hb : base ≤ w.heap.size) (hn : n ≤ 9223372036854775807) : OB (w.alloc (.cells (u8s (List.replicate n 0)).toArray 5)) base (.slice (some ⟨w.heap.size, 0, none⟩) 0 n) [] :=
  ⟨World.ownsRow_made w _ n hb (by simp only [maxLen]; omega) (by simp [u8s_len]), fun x hx => by cases hx⟩
theorem cells5 {w : World} {j : Nat} {x y z u v : Value} {t : TypeId} {fr : Nat × Nat} (h : w.heap[j]? = some (.cells #[x, y, z, u, v] t fr)) : w.cell? ⟨j, 0, none⟩ = some x ∧ w.cell? ⟨j, 1, none⟩ = some y ∧ w.cell? ⟨j, 2, none⟩ = some z ∧ w.cell? ⟨j, 3, none⟩ = some u ∧ w.cell? ⟨j, 4, none⟩ = some v :=
  ⟨cell_of_row w j 0 _ _ _ h, cell_of_row w j 1 _ _ _ h, cell_of_row w j 2 _ _ _ h, cell_of_row w j 3 _ _ _ h, cell_of_row w j 4 _ _ _ h⟩
abbrev cbox (k f cy cr cl : Int) : Obj := .cells #[.int .i64 k, .int .i64 f, .int .i64 cy, .int .u32 cr, .int .i64 cl] 157
theorem be_mark : be 2 35101 = [137, 29] := by decide +kernel
theorem u64_same {x : Int} (h0 : 0 ≤ x) (h1 : x < 18446744073709551616) : IntKind.u64.wrap x = x := by rw [IntKind.wrap_u64]; omega
theorem control_bad (k f cy cr cl : Int) (w : World) (h : ¬ rightC k f cy cr cl) (hcr : 0 ≤ cr) :
    Calls Tryz.prog 175 #[CV k f cy cr cl] w fun e w' => e = .returned (.tuple #[.slice none 0 0, .int .i64 1]) ∧ Below w.heap.size w w' := by
  have R := fun W => rightControl_any k f cy cr cl W hcr
  rw [decide_eq_false h] at R
  have HR := Lib.hid R
  clear R h
  go_enter Tryz.func175, Tryz.ntmps175
  go_wp2_with (go_at_call 201; refine (HR.out _).mono ?_; rintro e w1 ⟨rfl, b1⟩; have B1 := Lib.hid b1; clear b1)
  go_ret2
  exact ⟨rfl, (al (Below.refl _ _) _).trans (B1.out.mono (by simp))⟩
set_option maxHeartbeats 8000000 in
theorem control_ok (k f cy cr cl : Int) (w : World) (h : rightC k f cy cr cl) :
    Calls Tryz.prog 175 #[CV k f cy cr cl] w fun e w' => ∃ v, e = .returned (.tuple #[v, .int .i64 0]) ∧ OB w' w.heap.size v (ctl k f cy cr cl) ∧ Below w.heap.size w w' := by
  have R := fun W => rightControl_any k f cy cr cl W h.2.2.2.2.2.1
  rw [decide_eq_true h] at R
  have HR := Lib.hid R
  have hmk : ∀ w : World, (Instr.makeSlice 236 (.int .i64 0) (.int .i64 34)).run Tryz.prog w = .ok (.slice (some ⟨w.heap.size, 0, none⟩) 0 34) (w.alloc (.cells (u8s (List.replicate 34 0)).toArray 5)) := fun w => make_ob 34 (by decide) w
  obtain ⟨Z, hZ⟩ : ∃ Z, Z = (u8s (List.replicate 34 0)).toArray := ⟨_, rfl⟩
  rw [← hZ] at hmk
  have HZ := Lib.hid hZ
  obtain ⟨h1, h2, h3, h4, h5, h6, h7, h8, h9⟩ := h
  have eK := u64_same (x := k) (by omega) (by omega)
  have eF := u64_same (x := f) (by omega) (by omega)
  have eY := u64_same (x := cy) (by omega) (by omega)
  have eR := u64_same (x := cr) (by omega) (by omega)
  have eL := u64_same (x := cl) (by omega) (by omega)
  have HT := Lib.hid (show k = (k.toNat : Int) ∧ f = (f.toNat : Int) ∧ cy = (cy.toNat : Int) ∧ cr = (cr.toNat : Int) ∧ cl = (cl.toNat : Int) by omega)
  have HB := Lib.hid (show k.toNat < 18446744073709551616 ∧ f.toNat < 18446744073709551616 ∧ cy.toNat < 18446744073709551616 ∧ cr.toNat < 18446744073709551616 ∧ cl.toNat < 18446744073709551616 by omega)
  have HC := Lib.hid (show ctl k f cy cr cl = sealed (ctlB k f cy cr cl) from rfl)
  have HD := Lib.hid (show ctlB k f cy cr cl = [] ++ be 2 35101 ++ be 1 k.toNat ++ be 1 f.toNat ++ be 8 cy.toNat ++ be 4 cr.toNat ++ be 8 cl.toNat ++ be 6 0 by rw [be_mark]; rfl)
  clear R hZ h1 h2 h3 h4 h5 h6 h7 h8 h9
  go_enter Tryz.func175, Tryz.ntmps175
  go_wp2_with fail
  refine (HR.out _).mono ?_
  rintro e w1 ⟨rfl, b1⟩
  have X1 := Lib.hid (show w1.heap[w.heap.size]? = some (cbox k f cy cr cl) from row_below b1 (heap_alloc_new w _))
  have B1 := Lib.hid ((al (Below.refl w.heap.size w) _).trans (b1.mono (by simp)))
  clear b1
  go_wp2_with fail
  have O := made_ob w1 (w.heap.size + 1) 34 (row_lt X1.out) (by decide)
  rw [← HZ.out] at O
  have G1 := Lib.hid (show Grow w w.heap.size (cbox k f cy cr cl) _ _ _ from ⟨O, B1.out.alloc B1.out.size _, row_below (al (Below.refl _ _) _) X1.out, Nat.le_refl _⟩)
  clear O hmk
  refine (put_g G1.out 35101 2 (by omega) (by omega) (by decide) (by decide) (by simp)).mono ?_
  rintro e w2 ⟨v2, rfl, g2⟩
  have G2 := Lib.hid g2
  obtain ⟨A2, d2, rfl⟩ := G2.out.form
  obtain ⟨c0, c1, c2, c3, c4⟩ := cells5 G2.out.x
  clear g2 G1
  go_wp2_with fail
  clear c0 c1 c2 c3 c4
  refine (put_g G2.out k.toNat 1 HT.out.1 (by omega) HB.out.1 (by decide) (by simp [be_len])).mono ?_
  rintro e w3 ⟨v3, rfl, g3⟩
  have G3 := Lib.hid g3
  obtain ⟨A3, d3, rfl⟩ := G3.out.form
  obtain ⟨c0, c1, c2, c3, c4⟩ := cells5 G3.out.x
  clear g3 G2
  go_wp2_with fail
  clear c0 c1 c2 c3 c4
  refine (put_g G3.out f.toNat 1 HT.out.2.1 (by omega) HB.out.2.1 (by decide) (by simp [be_len])).mono ?_
  rintro e w4 ⟨v4, rfl, g4⟩
  have G4 := Lib.hid g4
  obtain ⟨A4, d4, rfl⟩ := G4.out.form
  obtain ⟨c0, c1, c2, c3, c4⟩ := cells5 G4.out.x
  clear g4 G3
  go_wp2_with fail
  clear c0 c1 c2 c3 c4
  refine (put_g G4.out cy.toNat 8 HT.out.2.2.1 (by omega) HB.out.2.2.1 (by decide) (by simp [be_len])).mono ?_
  rintro e w5 ⟨v5, rfl, g5⟩
  have G5 := Lib.hid g5
  obtain ⟨A5, d5, rfl⟩ := G5.out.form
  obtain ⟨c0, c1, c2, c3, c4⟩ := cells5 G5.out.x
  clear g5 G4
  go_wp2_with fail
  clear c0 c1 c2 c3 c4
  refine (put_g G5.out cr.toNat 4 HT.out.2.2.2.1 (by omega) HB.out.2.2.2.1 (by decide) (by simp [be_len])).mono ?_
  rintro e w6 ⟨v6, rfl, g6⟩
  have G6 := Lib.hid g6
  obtain ⟨A6, d6, rfl⟩ := G6.out.form
  obtain ⟨c0, c1, c2, c3, c4⟩ := cells5 G6.out.x
  clear g6 G5
  go_wp2_with fail
  clear c0 c1 c2 c3 c4
  refine (put_g G6.out cl.toNat 8 HT.out.2.2.2.2 (by omega) HB.out.2.2.2.2 (by decide) (by simp [be_len])).mono ?_
  rintro e w7 ⟨v7, rfl, g7⟩
  have G7 := Lib.hid g7
  obtain ⟨A7, d7, rfl⟩ := G7.out.form
  obtain ⟨c0, c1, c2, c3, c4⟩ := cells5 G7.out.x
  clear g7 G6
  go_wp2_with fail
  clear c0 c1 c2 c3 c4
  refine (put_g G7.out 0 6 (by omega) (by omega) (by decide) (by decide) (by simp [be_len])).mono ?_
  rintro e w8 ⟨v8, rfl, g8⟩
  have G8 := Lib.hid g8
  obtain ⟨A8, d8, rfl⟩ := G8.out.form
  obtain ⟨c0, c1, c2, c3, c4⟩ := cells5 G8.out.x
  clear g8 G7
  go_wp2_with fail
  clear c0 c1 c2 c3 c4
  refine (seal_g G8.out (by simp [be_len])).mono ?_
  rintro e w9 ⟨v9, rfl, g9⟩
  have G9 := Lib.hid g9
  clear g9 G8
  go_wp2_with fail
  go_ret2
  exact ⟨_, rfl, by rw [HC.out, HD.out]; exact G9.out.o.mono (by omega), G9.out.b⟩
end Go.Proofs.YtmagjekmlnpfpaaGreat.FrameW



/- The document's own control frame. -/
namespace Go.Proofs.YtmagjekmlnpfpaaGreat.FrameW
open Go.RowKit
theorem heap_at {w : World} {g : Nat} (h : w.heap.size = g) (o : Obj) : (w.alloc o).heap[g]? = some o := by subst h; exact heap_alloc_new w o
theorem Grow.len {w0 w : World} {g : Nat} {box : Obj} {v : Value} {xs : List Int} (h : Grow w0 g box w v xs) : ∃ A m c, v = .slice A m c ∧ m = xs.length := by
  obtain ⟨A, c, hv, -⟩ := h.o.form
  exact ⟨A, _, c, hv, rfl⟩
end Go.Proofs.YtmagjekmlnpfpaaGreat.FrameW



/- Time; the chapter's examples. -/
namespace Go.Proofs.YtmagjekmlnpfpaaGreat.FrameW
open Go.RowKit
def tim (n : Int) : Int := if n < 64 then 512 else if n > 1518 then 12144 else n * 8
theorem time_any (n : Int) (w : World) : Calls Tryz.prog 192 #[.int .i64 n] w fun e w' => e = .returned (.int .i64 (tim n)) ∧ w' = w := by
  unfold tim
  by_cases h1 : n < 64
  · rw [if_pos h1]
    go_enter Tryz.func192, Tryz.ntmps192
    go_wp2
    go_ret
    exact ⟨rfl, rfl⟩
  · rw [if_neg h1]
    by_cases h2 : n > 1518
    · rw [if_pos h2]
      go_enter Tryz.func192, Tryz.ntmps192
      go_wp2
      go_ret
      exact ⟨rfl, rfl⟩
    · rw [if_neg h2]
      have e : 8 * n = n * 8 := Int.mul_comm _ _
      go_enter Tryz.func192, Tryz.ntmps192
      go_wp2
      go_ret
      exact ⟨by rw [← e]; rfl, rfl⟩
theorem refTime_any (n : Int) (w : World) : Calls Tryz.prog 105 #[.int .i64 n] w fun e w' => e = .returned (.int .i64 (tim n)) ∧ w' = w := by
  unfold tim
  by_cases h1 : n < 64
  · rw [if_pos h1]
    go_enter Tryz.func105, Tryz.ntmps105
    go_wp2
    go_ret
    exact ⟨rfl, rfl⟩
  · rw [if_neg h1]
    by_cases h2 : n > 1518
    · rw [if_pos h2]
      go_enter Tryz.func105, Tryz.ntmps105
      go_wp2
      go_ret
      exact ⟨rfl, rfl⟩
    · rw [if_neg h2]
      go_enter Tryz.func105, Tryz.ntmps105
      go_wp2
      go_ret
      exact ⟨rfl, rfl⟩
end Go.Proofs.YtmagjekmlnpfpaaGreat.FrameW



/- The chapter's examples. -/
namespace Go.Proofs.YtmagjekmlnpfpaaGreat.FrameW
open Go.RowKit
/-- "ab". -/
abbrev ab : ByteArray := ⟨#[97, 98]⟩
def nine : List Int := [49, 50, 51, 52, 53, 54, 55, 56, 57]
theorem exC : rightC 1 2 7 5 0 := by decide
end Go.Proofs.YtmagjekmlnpfpaaGreat.FrameW


