/- Data. -/
import Derived.Test.YtpliidkfllacpaaFrameH
namespace Go.Proofs.Ytpliidkfllacpaa.FrameW
open Go.RowKit Go.Lib
abbrev dbox (c l n : Int) (p : ByteArray) (s : Int) : Obj := .cells #[.int .i64 c, .int .i64 l, .int .i64 n, .string p, .int .i64 s] 30
theorem u8s_bs (s : ByteArray) : u8s (bs s) = strCells s := by unfold u8s bs strCells; rw [List.map_map]; rfl
/-- A string's bytes laid behind a row that grows. -/
theorem wpList_append_str {w0 w : World} {g : Nat} {box : Obj} {v : Value} {xs : List Int} (h : Grow w0 g box w v xs) {ops : Array Oper} {rest : List Oper} {o : Oper} {a : Act} {Q : Exit → Act → World → Prop} (hgd : o.guard = none) (s x : Operand)
    (ho : o.op = .call { callee := .builtin .append, args := #[s, x], argTypes := #[54, 9] })
    (hs : a.eval s = v) (p : ByteArray) (hx : a.eval x = .string p) (h63 : xs.length + p.size ≤ 140737488355328)
    (hk : ∀ v' w', Grow w0 g box w' v' (xs ++ bs p) → wpList Try.prog ops Q rest (a.put o.dst v') w') : wpList Try.prog ops Q (o :: rest) a w := by
  obtain ⟨i0, hi, hz0, hz1, hz2⟩ := u8_info
  obtain ⟨v', w', hr, h2, h3, -⟩ := run_append_own_string (P := Try.prog) w (g + 1) 54 9 o.type 5 i0 Try.underlying54 Try.underlying9 hi hz0 hz1 hz2 v xs.length (u8s xs) h.o.1 p (by simp only [maxLen]; omega) (by omega) h.room
  refine wpList_plain hgd fun _ hK => ?_
  unfold Oper.wp execOp
  simp only [ho, resolve, invoke, builtin, Sem.run_bind, Sem.run_pure, Result.andThen_ok, List.map_toArray, List.map_cons, List.map_nil, hs, hx, hr]
  refine hK _ _ (hk v' w' (h.step ⟨?_, h.o.2.append (bs_by p)⟩ ⟨h3.os, h3.tape, h3.output, h3.size, fun k hk' => h3.block k (by have := h.room; omega) (fun e => by have := (h.o.lt k e.symm).1; omega)⟩))
  rw [List.length_append, bs_len, u8s_app, u8s_bs]
  exact h2
theorem data_bad (c l n : Int) (p : ByteArray) (s : Int) (w : World) (h : ¬ rightD c l n (bs p) s) (hp : p.size ≤ 9223372036854775807) :
    Calls Try.prog 24 #[DV c l n p s] w fun e w' => e = .returned (.tuple #[.slice none 0 0, .int .i64 1]) ∧ Below w.heap.size w w' := by
  have R := fun W => rightData_any c l n p s W hp
  rw [decide_eq_false h] at R
  have HR := Lib.hid R
  clear R h
  go_enter Try.func24, Try.ntmps24
  go_wp2_with (go_at_call 25; refine (HR.out _).mono ?_; rintro e w1 ⟨rfl, b1⟩; have B1 := Lib.hid b1; clear b1)
  go_ret2
  exact ⟨rfl, (al (Below.refl _ _) _).trans (B1.out.mono (by simp))⟩
theorem be_mark2 : be 2 2048 = [8, 0] := by decide +kernel
set_option maxHeartbeats 4000000 in
theorem data_ok (c l n : Int) (p : ByteArray) (s : Int) (w : World) (h : rightD c l n (bs p) s) :
    Calls Try.prog 24 #[DV c l n p s] w fun e w' => ∃ v, e = .returned (.tuple #[v, .int .i64 0]) ∧ OB w' w.heap.size v (dat c l n (bs p) s) ∧ Below w.heap.size w w' := by
  obtain ⟨h1, h2, h3, h4, h5, h6, h7, h8⟩ := id h
  rw [bs_len] at h8
  obtain ⟨N, rfl⟩ : ∃ N : Nat, s = (N : Int) := ⟨s.toNat, by omega⟩
  have R := fun W => rightData_any c l n p (N : Int) W (by omega)
  rw [decide_eq_true h] at R
  have HR := Lib.hid R
  have hmk := make_ob N (by omega)
  obtain ⟨Z, hZ⟩ : ∃ Z, Z = (u8s (List.replicate N 0)).toArray := ⟨_, rfl⟩
  rw [← hZ] at hmk
  have HZ := Lib.hid hZ
  have eC := u64_same (x := c) (by omega) (by omega)
  have eL := u64_same (x := l) (by omega) (by omega)
  have eN := u64_same (x := n) (by omega) (by omega)
  have eP := u64_same (x := (p.size : Int)) (by omega) (by omega)
  have HT := Lib.hid (show c = (c.toNat : Int) ∧ l = (l.toNat : Int) ∧ n = (n.toNat : Int) by omega)
  have HB := Lib.hid (show c.toNat < 18446744073709551616 ∧ l.toNat < 18446744073709551616 ∧ n.toNat < 18446744073709551616 ∧ p.size < 18446744073709551616 by omega)
  have HN := Lib.hid (show 64 ≤ N ∧ N ≤ 1518 ∧ p.size + 14 ≤ N by omega)
  have HC := Lib.hid (show dat c l n (bs p) N = sealed (datB c l n (bs p) N) from rfl)
  have HD := Lib.hid (show datB c l n (bs p) N = [] ++ be 2 2048 ++ be 1 c.toNat ++ be 1 l.toNat ++ be 4 n.toNat ++ be 2 p.size ++ bs p ++ be (N - 14 - p.size) 0 by
    unfold datB
    rw [be_mark2, be_nought, bs_len, Int.toNat_natCast]; rfl)
  clear R hZ h1 h2 h3 h4 h5 h6 h7 h8 h
  go_enter Try.func24, Try.ntmps24
  go_wp2_with fail
  refine (HR.out _).mono ?_
  rintro e w1 ⟨rfl, b1⟩
  have X1 := Lib.hid (show w1.heap[w.heap.size]? = some (dbox c l n p N) from row_below b1 (heap_alloc_new w _))
  have B1 := Lib.hid ((al (Below.refl w.heap.size w) _).trans (b1.mono (by simp)))
  obtain ⟨c0, c1, c2, c3, c4⟩ := cells5 X1.out
  clear b1
  go_wp2_with fail
  clear c0 c1 c2 c3 c4
  have O := made_ob w1 (w.heap.size + 1) N (row_lt X1.out) (by have := HN.out; omega)
  rw [← HZ.out] at O
  have G1 := Lib.hid (show Grow w w.heap.size (dbox c l n p N) _ _ _ from ⟨O, B1.out.alloc B1.out.size _, row_below (al (Below.refl _ _) _) X1.out, Nat.le_refl _⟩)
  clear O hmk
  refine (put_g G1.out 2048 2 (by omega) (by omega) (by decide) (by decide) (by simp)).mono ?_
  rintro e w2 ⟨v2, rfl, g2⟩
  have G2 := Lib.hid g2
  obtain ⟨A2, m2, d2, rfl, hm2⟩ := G2.out.len
  have M2 := Lib.hid hm2
  obtain ⟨c0, c1, c2, c3, c4⟩ := cells5 G2.out.x
  clear g2 hm2 G1
  go_wp2_with fail
  clear c0 c1 c2 c3 c4
  refine (put_g G2.out c.toNat 1 HT.out.1 (by omega) HB.out.1 (by decide) (by simp [be_len])).mono ?_
  rintro e w3 ⟨v3, rfl, g3⟩
  have G3 := Lib.hid g3
  obtain ⟨A3, m3, d3, rfl, hm3⟩ := G3.out.len
  have M3 := Lib.hid hm3
  obtain ⟨c0, c1, c2, c3, c4⟩ := cells5 G3.out.x
  clear g3 hm3 G2
  go_wp2_with fail
  clear c0 c1 c2 c3 c4
  refine (put_g G3.out l.toNat 1 HT.out.2.1 (by omega) HB.out.2.1 (by decide) (by simp [be_len])).mono ?_
  rintro e w4 ⟨v4, rfl, g4⟩
  have G4 := Lib.hid g4
  obtain ⟨A4, m4, d4, rfl, hm4⟩ := G4.out.len
  have M4 := Lib.hid hm4
  obtain ⟨c0, c1, c2, c3, c4⟩ := cells5 G4.out.x
  clear g4 hm4 G3
  go_wp2_with fail
  clear c0 c1 c2 c3 c4
  refine (put_g G4.out n.toNat 4 HT.out.2.2 (by omega) HB.out.2.2.1 (by decide) (by simp [be_len])).mono ?_
  rintro e w5 ⟨v5, rfl, g5⟩
  have G5 := Lib.hid g5
  obtain ⟨A5, m5, d5, rfl, hm5⟩ := G5.out.len
  have M5 := Lib.hid hm5
  obtain ⟨c0, c1, c2, c3, c4⟩ := cells5 G5.out.x
  clear g5 hm5 G4
  go_wp2_with fail
  clear c0 c1 c2 c3 c4
  refine (put_g G5.out p.size 2 rfl (by omega) HB.out.2.2.2 (by decide) (by simp [be_len])).mono ?_
  rintro e w6 ⟨v6, rfl, g6⟩
  have G6 := Lib.hid g6
  obtain ⟨A6, m6, d6, rfl, hm6⟩ := G6.out.len
  obtain ⟨c0, c1, c2, c3, c4⟩ := cells5 G6.out.x
  clear g6 hm6 G5
  go_wp2_with (at_builtin; refine wpList_append_str G6.out rfl _ _ rfl rfl p rfl ?c1 ?_)
  case c1 => have := HN.out; simp [be_len]; omega
  intro v7 w7 g7
  have G7 := Lib.hid g7
  obtain ⟨A7, m7, d7, rfl, hm7⟩ := G7.out.len
  have M7 := Lib.hid (show m7 = 10 + p.size by rw [hm7]; simp [be_len, bs_len]; omega)
  clear c0 c1 c2 c3 c4
  obtain ⟨c0, c1, c2, c3, c4⟩ := cells5 G7.out.x
  clear g7 hm7 G6
  go_wp2_with fail
  clear c0 c1 c2 c3 c4
  refine (put_g G7.out 0 (N - 14 - p.size) (by omega) (by have := HN.out; have := M7.out; first | omega | (rw [IntKind.wrap_i64]; omega) | (unfold wrap64; omega)) (by decide) (by have := HN.out; omega) (by have := HN.out; simp [be_len, bs_len]; omega)).mono ?_
  rintro e w8 ⟨v8, rfl, g8⟩
  have G8 := Lib.hid g8
  obtain ⟨A8, m8, d8, rfl, hm8⟩ := G8.out.len
  clear g8 hm8 G7
  go_wp2_with fail
  refine (seal_g G8.out (by have := HN.out; simp [be_len, bs_len]; omega)).mono ?_
  rintro e w9 ⟨v9, rfl, g9⟩
  have G9 := Lib.hid g9
  clear g9 G8
  go_wp2_with fail
  go_ret2
  exact ⟨_, rfl, by rw [HC.out, HD.out]; exact G9.out.o.mono (by omega), G9.out.b⟩
end Go.Proofs.Ytpliidkfllacpaa.FrameW

