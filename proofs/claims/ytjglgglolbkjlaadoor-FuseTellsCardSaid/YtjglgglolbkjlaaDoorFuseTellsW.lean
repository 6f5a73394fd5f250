/- The law FuseTells, of any fuse that is as asked: what a panic's value tells. -/
import Derived.Test.YtjglgglolbkjlaaDoorFuseFixed
import Derived.Test.YtjglgglolbkjlaaDoorBools
import Derived.Laws.Panics
import Derived.Lib.BoundsPanic
import Derived.Lib.ItoaNum
namespace Go.Proofs.YtjglgglolbkjlaaDoor.FuseW.FuseTells
open Go.RowKit FuseW Shell
theorem bounds_run {α : Type} (P : Program) (w : World) (x y : Int) (h : 0 ≤ x) (hx : x ≤ 9223372036854775807) : ∃ s w', Below w.heap.size w w' ∧ (boundsPanic .i64 x y .index : Sem α).run P w = .halt (.panic (.iface P.rt.boundsError (.agg #[.int .i64 x, .int .i64 y, .bool s, .int .u8 0]))) w' := by
  by_cases h1 : x ≤ 31
  · exact ⟨_, w.drew, (Below.refl _ _).drew, Lib.run_boundsPanic_index P x y w h h1⟩
  · have hw : IntKind.i64.wrap x = x := by rw [IntKind.wrap_i64]; omega
    refine ⟨true, w, Below.refl _ _, ?_⟩
    simp [boundsPanic, runtimePanic, goPanic, h1, hw]
    rfl
abbrev sb (s : ByteArray) : Obj := .cells #[.string s] 9 (0, 0)
abbrev nb (n : Int) : Obj := .cells #[.int .i64 n] 3 (0, 0)
abbrev lb : Obj := .cells #[.slice none 0 0] 25 (0, 0)
theorem w1_any (p : Nat) (s : ByteArray) (W : World) (h : W.heap[p]? = some (sb s)) : Calls Tryd.prog 8 #[.pointer (some ⟨p, 0, none⟩)] W fun e W2 => e = .panicked [{ v := .iface 9 (.string s), recovered := false }] ∧ W = W2 := by
  have c0 := cell_of_row W p 0 _ _ _ h
  go_enter Tryd.func8, Tryd.ntmps8
  go_wp2
  exact ⟨rfl, rfl, rfl⟩
theorem w2_any (p : Nat) (n : Int) (W : World) (h : W.heap[p]? = some (nb n)) : Calls Tryd.prog 9 #[.pointer (some ⟨p, 0, none⟩)] W fun e W2 => e = .panicked [{ v := .iface 28 (.int .i64 n), recovered := false }] ∧ W = W2 := by
  have c0 := cell_of_row W p 0 _ _ _ h
  go_enter Tryd.func9, Tryd.ntmps9
  go_wp2
  exact ⟨rfl, rfl, rfl⟩
theorem w4_any (p : Nat) (n : Int) (W : World) (h : W.heap[p]? = some (nb n)) : Calls Tryd.prog 13 #[.pointer (some ⟨p, 0, none⟩)] W fun e W2 => e = .panicked [{ v := .iface 3 (.int .i64 n), recovered := false }] ∧ W = W2 := by
  have c0 := cell_of_row W p 0 _ _ _ h
  go_enter Tryd.func13, Tryd.ntmps13
  go_wp2
  exact ⟨rfl, rfl, rfl⟩
theorem w3_any (p q : Nat) (s : ByteArray) (W : World) (h : W.heap[p]? = some lb) (h2 : W.heap[q]? = some (sb s)) (hs : s.size ≤ 9223372036854775807) : Calls Tryd.prog 11 #[.pointer (some ⟨p, 0, none⟩), .pointer (some ⟨q, 0, none⟩)] W fun e W2 => (∃ b, e = .panicked [{ v := .iface 8 (.agg #[.int .i64 (s.size : Int), .int .i64 0, .bool b, .int .u8 0]), recovered := false }]) ∧ Below W.heap.size W W2 := by
  have c0 := cell_of_row W p 0 _ _ _ h
  have c1 := cell_of_row W q 0 _ _ _ h2
  obtain ⟨bl, w2, hb, hr⟩ := bounds_run (α := Value) Tryd.prog W (s.size : Int) 0 (by omega) (by omega)
  have HB := Lib.hid hb
  have hi : (Instr.indexAt 25 (.slice none 0 0) (.int .i64 (s.size : Int))).run Tryd.prog W = .halt (.panic (.iface 8 (.agg #[.int .i64 (s.size : Int), .int .i64 0, .bool bl, .int .u8 0]))) w2 := by
    rw [Lib.run_indexAt_nil W 25 3 0 0 .i64 _ Tryd.underlying25]
    exact hr
  clear h h2 hr hb
  go_enter Tryd.func11, Tryd.ntmps11
  go_wp2
  exact ⟨rfl, ⟨bl, rfl⟩, HB.out⟩
abbrev err : ByteArray := ⟨#[101, 114, 114, 111, 114, 32]⟩
abbrev oth : ByteArray := ⟨#[111, 116, 104, 101, 114]⟩
/-- What an error of the document's tells of itself. -/
def eN (n : Int) : ByteArray := ⟨#[101, 114, 114, 110, 111, 32]⟩ ++ ⟨(Lib.itoa n).toArray⟩
/-- What is asked of errors, from w0 on. -/
structure TellS (T : TT) (w0 : World) : Prop where
  errno : ∀ (X : Nat → Prop) (W : World) (n : Int), Below w0.heap.size w0 W → (∀ j, X j → w0.heap.size ≤ j) → -9223372036854775808 ≤ n → n ≤ 9223372036854775807 → T X W (.iface 28 (.int .i64 n)) (err ++ eN n)
  bounds : ∀ (x : Int) (b : Bool), 0 ≤ x → x ≤ 9223372036854775807 → ∃ tx : ByteArray, (0 < tx.size ∧ tx.size ≤ 1000000) ∧ ∀ (X : Nat → Prop) (W : World), T X W (.iface 8 (.agg #[.int .i64 x, .int .i64 0, .bool b, .int .u8 0])) (err ++ tx)
  call : ∀ (n : Int) (W : World), Below w0.heap.size w0 W → -9223372036854775808 ≤ n → n ≤ 9223372036854775807 → Calls Tryd.prog 10 #[.int .i64 n] W fun v W' => v = .returned (.string (eN n)) ∧ Below W.heap.size W W'
theorem tent1 : Ent 8 := enters_of Tryd.func8 (by kernel_rfl) rfl
theorem tent2 : Ent 9 := enters_of Tryd.func9 (by kernel_rfl) rfl
theorem tent3 : Ent 11 := enters_of Tryd.func11 (by kernel_rfl) rfl
theorem tent4 : Ent 13 := enters_of Tryd.func13 (by kernel_rfl) rfl
theorem tent5 : Ent 17 := enters_of Tryd.func17 (by kernel_rfl) rfl
theorem w5_any (W : World) : Calls Tryd.prog 17 #[] W fun e W2 => e = .returned (.tuple #[]) ∧ W = W2 := by
  go_enter Tryd.func17, Tryd.ntmps17
  go_wp2
  go_end0
  exact ⟨rfl, rfl⟩
section
variable {FI : FIT} {T : TT} {w0 W : World} {X : Nat → Prop} {g : Nat} {m c : Int} {t : ByteArray} {B : List (Nat × Obj)}
/-- Do of a work that panics. -/
theorem do_bad (S : Spec FI T) {fn : FuncId} {caps : Array Value} (he : Ent fn) (Pt : ByteArray → Prop) (h : FS FI w0 X g m c t B W) (h0 : 0 ≤ c) (hc : c ≤ m) (hm : m ≤ 4096)
    (hw : ∀ W1, (∀ b ∈ B, W1.heap[b.1]? = some b.2) → Calls Tryd.prog fn caps W1 fun e W2 => (∃ v tx, e = .panicked [{ v := v, recovered := false }] ∧ Pt tx ∧ ∀ (X2 : Nat → Prop) (W2 : World), Below w0.heap.size w0 W2 → (∀ j, X2 j → w0.heap.size ≤ j) → T X2 W2 v tx) ∧ Below W1.heap.size W1 W2) :
    Calls Tryd.prog 7 #[.pointer (some ⟨g, 0, none⟩), .func (.func fn) #[] caps] W fun r W' => r = .returned (.bool false) ∧ ∃ tx X', Pt tx ∧ FS FI w0 X' g m (c + 1) tx B W' := by
  refine (S.run fn caps (fun o X2 c2 t2 W2 => (∃ tx, o = some tx ∧ Pt tx) ∧ c2 = c ∧ FS FI w0 X2 g m c t2 B W2) h.p hc he (fun W1 X1 q1 u1 => ?_)).mono ?_
  · have h1 := h.turn S q1 u1
    refine (hw W1 (fun b hb => (h1.bx b hb).1)).mono ?_
    rintro e W2 ⟨⟨v, tx, rfl, hp, hT⟩, b2⟩
    have h2 := h1.next S b2
    exact ⟨some tx, X1, c, t, .bad (hT X1 W2 h2.b (fun j hj => (S.foot h2.p j hj).1)), h2.p, ⟨h0, by omega⟩, fun j _ hj hx => ⟨b2.block j hj, hx⟩, b2.size, ⟨tx, rfl, hp⟩, rfl, h2⟩
  · rintro v W' ⟨o, X2, c2, t2, W2, X3, ⟨⟨tx, rfl, hp⟩, rfl, h2⟩, rfl, q3, u3⟩
    exact ⟨rfl, tx, X3, hp, h2.turn S q3 u3⟩
theorem do_good (S : Spec FI T) (h : FS FI w0 X g m c t B W) (h0 : 0 ≤ c) (hc : c ≤ m) (hm : m ≤ 4096) : Calls Tryd.prog 7 #[.pointer (some ⟨g, 0, none⟩), .func (.func 17) #[] #[]] W fun v W' => v = .returned (.bool true) ∧ ∃ X', FS FI w0 X' g m c t B W' := by
  refine (S.run 17 _ (fun o X2 c2 t2 W2 => o = none ∧ c2 = c ∧ t2 = t ∧ FS FI w0 X2 g m c t B W2) h.p hc tent5 (fun W1 X1 q1 u1 => ?_)).mono ?_
  · refine (w5_any W1).mono ?_
    rintro e W2 ⟨rfl, rfl⟩
    have h1 := h.turn S q1 u1
    exact ⟨none, X1, c, t, .ok, h1.p, ⟨h0, by omega⟩, fun j _ _ hx => ⟨rfl, hx⟩, Nat.le_refl _, rfl, rfl, rfl, h1⟩
  · rintro v W' ⟨o, X2, c2, t2, W2, X3, ⟨rfl, rfl, rfl, h2⟩, rfl, q3, u3⟩
    exact ⟨rfl, X3, h2.turn S q3 u3⟩
end
/-- The prefix of an error's text. -/
theorem prefix_any (tx : ByteArray) (h : tx.size ≤ 1000000) (W : World) : Calls Tryd.prog 12 #[.string (err ++ tx), .string err] W fun v W' => v = .returned (.bool true) ∧ W = W' := by
  have hsz : (err ++ tx).size = 6 + tx.size := by rw [ByteArray.size_append]; rfl
  have hex : (err ++ tx).extract 0 6 = err := by
    rw [show (6 : Nat) = err.size from rfl]
    exact ByteArray.extract_append_eq_left rfl
  have hq := str_eq (rfl : err = err)
  have h1 : (6 : Int) ≤ 6 + (tx.size : Int) := by omega
  have h2 : (6 : Int) ≤ ((err ++ tx).size : Int) := by rw [hsz]; omega
  have h3 : 6 ≤ (err ++ tx).size := by omega
  generalize err ++ tx = s at *
  clear h hsz h1
  go_enter Tryd.func12, Tryd.ntmps12
  go_wp2
  all_goals first | (go_ret; exact ⟨rfl, rfl⟩) | trace_state
theorem boxes3 {FI : FIT} {w0 W : World} {X : Nat → Prop} {g p6 p3 p2 : Nat} {m c n : Int} {t text : ByteArray} (h : FS FI w0 X g m c t [(p6, lb), (p3, nb n), (p2, sb text)] W) : W.cell? ⟨p6, 0, none⟩ = some (.slice none 0 0) ∧ W.cell? ⟨p3, 0, none⟩ = some (.int .i64 n) ∧ W.cell? ⟨p2, 0, none⟩ = some (.string text) :=
  ⟨cell_of_row W p6 0 _ _ _ (h.at 0 rfl), cell_of_row W p3 0 _ _ _ (h.at 1 rfl), cell_of_row W p2 0 _ _ _ (h.at 2 rfl)⟩
section
variable {FI : FIT} {T : TT}
set_option maxHeartbeats 32000000 in
set_option maxRecDepth 100000 in
theorem walkS (S : Spec FI T) (KF : ∀ w : World, Calls Tryd.prog 4 #[] w fun r w' => r = .returned (.bool true) ∧ Below w.heap.size w w') (text : ByteArray) (n : Int) (w : World) (HT0 : TellS T w) (hs : text.size ≤ 9223372036854775807) (hn : -9223372036854775808 ≤ n ∧ n ≤ 9223372036854775807) (he : (eN n).size ≤ 1000000) : Calls Tryd.prog 3 #[.string text, .int .i64 n] w fun r w' => r = .returned (.bool true) ∧ Below w.heap.size w w' := by
  have SH := Lib.hid S
  have HK := Lib.hid KF
  have HT := Lib.hid HT0
  have HS := Lib.hid hs
  have HN := Lib.hid hn
  have hmf : ∀ (fn : Fn) (first cap : Array Value) (w : World), (Instr.makeFunc fn first cap).run Tryd.prog w = .ok (.func fn first cap) w := fun _ _ _ _ => rfl
  have hcat : ¬ 9223372036854775807 < 6 + (eN n).size := by omega
  have hq1 := str_eq (rfl : text = text)
  have hq2 := str_eq (rfl : err ++ eN n = err ++ eN n)
  have S0 := Lib.hid (show Stay w [(w.heap.size + 1, nb n), (w.heap.size, sb text)] ((w.alloc (sb text)).alloc (nb n)) by
    have h := ((Stay.start w).alloc (sb text)).alloc (nb n)
    rwa [World.size_alloc] at h)
  clear S KF HT0 hs hn he
  go_enter Tryd.func3, Tryd.ntmps3
  go_wp2_with fail
  generalize (w.alloc _).alloc _ = wa at *
  refine (HK.out _).mono ?_
  rintro v w1 ⟨rfl, b1⟩
  have S1 := Lib.hid (S0.out.next b1)
  have G0 := Lib.hid (show w.heap.size ≤ w.heap.size + 1 by omega)
  clear b1 S0
  go_wp2_with fail
  refine (SH.out.new 99 _).mono ?_
  rintro v w2 ⟨g, X0, rfl, p1, b2⟩
  have Q2 := S1.out.next b2
  have P1 := Lib.hid (show FS FI w X0 g 99 0 ⟨#[]⟩ [(w.heap.size + 1, nb n), (w.heap.size, sb text)] w2 from ⟨SH.out.lower p1 S1.out.b.size, Q2.b, fun b hb => ⟨Q2.h b hb, fun hx => by
    have h1 := (SH.out.foot p1 _ hx).1
    have h2 := lt_of_heap (S1.out.h b hb)
    omega, by
    simp only [List.mem_cons, List.not_mem_nil, or_false] at hb
    rcases hb with rfl | rfl <;> simp⟩⟩)
  have P2 := Lib.hid (P1.out.box SH.out lb)
  clear p1 b2 S1 Q2 P1 G0
  go_wp2_with fail
  generalize w2.heap.size = p6 at *
  generalize w2.alloc _ = w4 at *
  generalize w.heap.size + 1 = p3 at *
  generalize hp2 : w.heap.size = p2 at *
  have D5 := Lib.hid (P2.out.next SH.out (Below.refl _ _).drew)
  clear P2
  refine wp_region_held_drew (S := fun W : World => ∃ X c t, FS FI w X g 99 c t [(p6, lb), (p3, nb n), (p2, sb text)] W) (by kernel_rfl) (⟨_, _, _, D5.out⟩) (fun hHeld => ?_)
  refine wpAnyH_take (i := 0) (oi := ⟨some 10, _, _, _, _, _⟩) (v := ?_) rfl (by kernel_rfl) (by kernel_rfl) (by kernel_rfl) (fun _ _ _ h => h) (Or.inl ⟨by kernel_rfl, ?_⟩) (by assumption) ?_; rotate_left; (focus (intro w hSw; (try dsimp only at hSw); go_simp; (try with_reducible rfl)))
  simp only [Act.put, List.setIfInBounds_toArray, List.set_cons_zero, List.set_cons_succ]
  refine wpAnyH_ready (rs := [1]) (by kernel_rfl) (by simp) ?_
  refine AllReadyH.cons (o := ⟨some 11, _, _, _, _, _⟩) rfl (fun K hK => ?_) AllReadyH.nil
  rw [if_pos (by kernel_rfl)]
  go_simp
  refine (SH.out.last D5.out.p).mono ?_
  rintro v w5 ⟨rfl, X5, q5, z5⟩
  have S5 := Lib.hid (D5.out.turn SH.out q5 z5)
  have hS5 : ∃ X c t, FS FI w X g 99 c t [(p6, lb), (p3, nb n), (p2, sb text)] w5 := ⟨_, _, _, S5.out⟩
  clear q5 z5 D5
  go_simp
  refine hK.out _ _ (by assumption) (fun hHeld => ?_)
  clear hK K
  refine wpAnyH_take (i := 2) (oi := ⟨some 12, _, _, _, _, _⟩) (v := ?_) rfl (by kernel_rfl) (by kernel_rfl) (by kernel_rfl) (fun _ _ _ h => h) (Or.inl ⟨by kernel_rfl, ?_⟩) (by assumption) ?_; rotate_left; (focus (intro w hSw; (try dsimp only at hSw); go_simp; (try with_reducible rfl)))
  simp only [Act.put, List.setIfInBounds_toArray, List.set_cons_zero, List.set_cons_succ]
  refine wpAnyH_take (i := 3) (oi := ⟨some 13, _, _, _, _, _⟩) (v := ?_) rfl (by kernel_rfl) (by kernel_rfl) (by kernel_rfl) (fun _ _ _ h => h) (Or.inl ⟨by kernel_rfl, ?_⟩) (by assumption) ?_; rotate_left; (focus (intro w hSw; (try dsimp only at hSw); go_simp; (try with_reducible rfl)))
  simp only [Act.put, List.setIfInBounds_toArray, List.set_cons_zero, List.set_cons_succ]
  refine wpAnyH_take (i := 4) (oi := ⟨some 14, _, _, _, _, _⟩) (v := ?_) rfl (by kernel_rfl) (by kernel_rfl) (by kernel_rfl) (fun _ _ _ h => h) (Or.inl ⟨by kernel_rfl, ?_⟩) (by assumption) ?_; rotate_left; (focus (intro w hSw; (try dsimp only at hSw); go_simp; (try with_reducible rfl)))
  simp only [Act.put, List.setIfInBounds_toArray, List.set_cons_zero, List.set_cons_succ]
  refine wpAnyH_take (i := 5) (oi := ⟨some 15, _, _, _, _, _⟩) (v := ?_) rfl (by kernel_rfl) (by kernel_rfl) (by kernel_rfl) (fun _ _ _ h => h) (Or.inl ⟨by kernel_rfl, ?_⟩) (by assumption) ?_; rotate_left; (focus (intro w hSw; (try dsimp only at hSw); go_simp; (try with_reducible rfl)))
  simp only [Act.put, List.setIfInBounds_toArray, List.set_cons_zero, List.set_cons_succ]
  refine wpAnyH_ready (rs := [6]) (by kernel_rfl) (by simp) ?_
  refine AllReadyH.cons (o := ⟨some 16, _, _, _, _, _⟩) rfl (fun K hK => ?_) AllReadyH.nil
  rw [if_pos (by kernel_rfl)]
  go_simp
  refine (do_bad SH.out tent1 (fun t => t = text) S5.out (by decide) (by decide) (by decide) (fun W1 hB => (w1_any p2 text W1 (hB (p2, sb text) (by simp))).mono (by rintro e W2 ⟨rfl, rfl⟩; exact ⟨⟨_, text, rfl, rfl, fun X2 W2 _ _ => SH.out.str X2 W2 text⟩, Below.refl _ _⟩))).mono ?_
  rintro v w6 ⟨rfl, t6, X6, hp6, q6⟩
  replace hp6 := hp6.symm
  subst hp6
  have S6 := Lib.hid (show FS FI w X6 g 99 1 _ [(p6, lb), (p3, nb n), (p2, sb text)] w6 from q6)
  have hS6 : ∃ X c t, FS FI w X g 99 c t [(p6, lb), (p3, nb n), (p2, sb text)] w6 := ⟨_, _, _, S6.out⟩
  clear q6 S5
  go_simp
  refine hK.out _ _ (by assumption) (fun hHeld => ?_)
  clear hK K
  refine wpAnyH_take (i := 7) (oi := ⟨some 17, _, _, _, _, _⟩) (v := ?_) rfl (by kernel_rfl) (by kernel_rfl) (by kernel_rfl) (fun _ _ _ h => h) (Or.inl ⟨by kernel_rfl, ?_⟩) (by assumption) ?_; rotate_left; (focus (intro w hSw; (try dsimp only at hSw); go_simp; (try with_reducible rfl)))
  simp only [Act.put, List.setIfInBounds_toArray, List.set_cons_zero, List.set_cons_succ]
  refine wpAnyH_take (i := 8) (oi := ⟨some 18, _, _, _, _, _⟩) (v := ?_) rfl (by kernel_rfl) (by kernel_rfl) (by kernel_rfl) (fun _ _ _ h => h) (Or.inl ⟨by kernel_rfl, ?_⟩) (by assumption) ?_; rotate_left; (focus (intro w hSw; (try dsimp only at hSw); go_simp; (try with_reducible rfl)))
  simp only [Act.put, List.setIfInBounds_toArray, List.set_cons_zero, List.set_cons_succ]
  refine wpAnyH_take (i := 9) (oi := ⟨some 19, _, _, _, _, _⟩) (v := ?_) rfl (by kernel_rfl) (by kernel_rfl) (by kernel_rfl) (fun _ _ _ h => h) (Or.inl ⟨by kernel_rfl, ?_⟩) (by assumption) ?_; rotate_left; (focus (intro w hSw; (try dsimp only at hSw); go_simp; (try with_reducible rfl)))
  simp only [Act.put, List.setIfInBounds_toArray, List.set_cons_zero, List.set_cons_succ]
  refine wpAnyH_take (i := 11) (oi := ⟨some 21, _, _, _, _, _⟩) (v := ?_) rfl (by kernel_rfl) (by kernel_rfl) (by kernel_rfl) (fun _ _ _ h => h) (Or.inl ⟨by kernel_rfl, ?_⟩) (by assumption) ?_; rotate_left; (focus (intro w hSw; (try dsimp only at hSw); obtain ⟨X9, c9, t9, h9⟩ := hSw; obtain ⟨y6, y3, y2⟩ := boxes3 h9; go_simp; (try with_reducible rfl)))
  simp only [Act.put, List.setIfInBounds_toArray, List.set_cons_zero, List.set_cons_succ]
  refine wpAnyH_ready (rs := [10]) (by kernel_rfl) (by simp) ?_
  refine AllReadyH.cons (o := ⟨some 20, _, _, _, _, _⟩) rfl (fun K hK => ?_) AllReadyH.nil
  rw [if_pos (by kernel_rfl)]
  go_simp
  refine (SH.out.last S6.out.p).mono ?_
  rintro v w7 ⟨rfl, X7, q7, z7⟩
  have S7 := Lib.hid (S6.out.turn SH.out q7 z7)
  have hS7 : ∃ X c t, FS FI w X g 99 c t [(p6, lb), (p3, nb n), (p2, sb text)] w7 := ⟨_, _, _, S7.out⟩
  clear q7 z7 S6
  go_simp
  refine hK.out _ _ (by assumption) (fun hHeld => ?_)
  clear hK K
  refine wpAnyH_take (i := 12) (oi := ⟨some 22, _, _, _, _, _⟩) (v := ?_) rfl (by kernel_rfl) (by kernel_rfl) (by kernel_rfl) (fun _ _ _ h => h) (Or.inl ⟨by kernel_rfl, ?_⟩) (by assumption) ?_; rotate_left; (focus (intro w hSw; (try dsimp only at hSw); go_simp; (try with_reducible rfl)))
  simp only [Act.put, List.setIfInBounds_toArray, List.set_cons_zero, List.set_cons_succ]
  refine wpAnyH_take (i := 13) (oi := ⟨some 23, _, _, _, _, _⟩) (v := ?_) rfl (by kernel_rfl) (by kernel_rfl) (by kernel_rfl) (fun _ _ _ h => h) (Or.inl ⟨by kernel_rfl, ?_⟩) (by assumption) ?_; rotate_left; (focus (intro w hSw; (try dsimp only at hSw); go_simp; (try with_reducible rfl)))
  simp only [Act.put, List.setIfInBounds_toArray, List.set_cons_zero, List.set_cons_succ]
  refine wpAnyH_done (by kernel_rfl) ?_ _
  have S8 := S7
  clear hHeld
  go_wp2_with fail
  have E5 := Lib.hid (S8.out.next SH.out (Below.refl _ _).drew)
  clear S8
  refine wp_region_held_drew (S := fun W : World => ∃ X c t, FS FI w X g 99 c t [(p6, lb), (p3, nb n), (p2, sb text)] W) (by kernel_rfl) (⟨_, _, _, E5.out⟩) (fun hHeld => ?_)
  refine wpAnyH_take (i := 0) (oi := ⟨some 24, _, _, _, _, _⟩) (v := ?_) rfl (by kernel_rfl) (by kernel_rfl) (by kernel_rfl) (fun _ _ _ h => h) (Or.inl ⟨by kernel_rfl, ?_⟩) (by assumption) ?_; rotate_left; (focus (intro w hSw; (try dsimp only at hSw); go_simp; (try with_reducible rfl)))
  simp only [Act.put, List.setIfInBounds_toArray, List.set_cons_zero, List.set_cons_succ]
  refine wpAnyH_take (i := 1) (oi := ⟨some 25, _, _, _, _, _⟩) (v := ?_) rfl (by kernel_rfl) (by kernel_rfl) (by kernel_rfl) (fun _ _ _ h => h) (Or.inl ⟨by kernel_rfl, ?_⟩) (by assumption) ?_; rotate_left; (focus (intro w hSw; (try dsimp only at hSw); go_simp; (try with_reducible rfl)))
  simp only [Act.put, List.setIfInBounds_toArray, List.set_cons_zero, List.set_cons_succ]
  refine wpAnyH_ready (rs := [2]) (by kernel_rfl) (by simp) ?_
  refine AllReadyH.cons (o := ⟨some 26, _, _, _, _, _⟩) rfl (fun K hK => ?_) AllReadyH.nil
  rw [if_pos (by kernel_rfl)]
  go_simp
  refine (do_bad SH.out tent2 (fun t => t = err ++ eN n) E5.out (by decide) (by decide) (by decide) (fun W1 hB => (w2_any p3 n W1 (hB (p3, nb n) (by simp))).mono (by rintro e W2 ⟨rfl, rfl⟩; exact ⟨⟨_, err ++ eN n, rfl, rfl, fun X2 W2 hb hx => HT.out.errno X2 W2 n hb hx HN.out.1 HN.out.2⟩, Below.refl _ _⟩))).mono ?_
  rintro v w10 ⟨rfl, t10, X10, hp10, q10⟩
  subst hp10
  have S10 := Lib.hid (show FS FI w X10 g 99 2 _ [(p6, lb), (p3, nb n), (p2, sb text)] w10 from q10)
  have hS10 : ∃ X c t, FS FI w X g 99 c t [(p6, lb), (p3, nb n), (p2, sb text)] w10 := ⟨_, _, _, S10.out⟩
  clear q10 E5
  go_simp
  refine hK.out _ _ (by assumption) (fun hHeld => ?_)
  clear hK K
  refine wpAnyH_take (i := 3) (oi := ⟨some 27, _, _, _, _, _⟩) (v := ?_) rfl (by kernel_rfl) (by kernel_rfl) (by kernel_rfl) (fun _ _ _ h => h) (Or.inl ⟨by kernel_rfl, ?_⟩) (by assumption) ?_; rotate_left; (focus (intro w hSw; (try dsimp only at hSw); go_simp; (try with_reducible rfl)))
  simp only [Act.put, List.setIfInBounds_toArray, List.set_cons_zero, List.set_cons_succ]
  refine wpAnyH_take (i := 4) (oi := ⟨some 28, _, _, _, _, _⟩) (v := ?_) rfl (by kernel_rfl) (by kernel_rfl) (by kernel_rfl) (fun _ _ _ h => h) (Or.inl ⟨by kernel_rfl, ?_⟩) (by assumption) ?_; rotate_left; (focus (intro w hSw; (try dsimp only at hSw); go_simp; (try with_reducible rfl)))
  simp only [Act.put, List.setIfInBounds_toArray, List.set_cons_zero, List.set_cons_succ]
  refine wpAnyH_take (i := 6) (oi := ⟨some 30, _, _, _, _, _⟩) (v := ?_) rfl (by kernel_rfl) (by kernel_rfl) (by kernel_rfl) (fun _ _ _ h => h) (Or.inl ⟨by kernel_rfl, ?_⟩) (by assumption) ?_; rotate_left; (focus (intro w hSw; (try dsimp only at hSw); obtain ⟨X9, c9, t9, h9⟩ := hSw; obtain ⟨y6, y3, y2⟩ := boxes3 h9; go_simp; (try with_reducible rfl)))
  simp only [Act.put, List.setIfInBounds_toArray, List.set_cons_zero, List.set_cons_succ]
  refine wpAnyH_ready (rs := [5]) (by kernel_rfl) (by simp) ?_
  refine AllReadyH.cons (o := ⟨some 29, _, _, _, _, _⟩) rfl (fun K hK => ?_) AllReadyH.nil
  rw [if_pos (by kernel_rfl)]
  go_simp
  refine (SH.out.last S10.out.p).mono ?_
  rintro v w11 ⟨rfl, X11, q11, z11⟩
  have S11 := Lib.hid (S10.out.turn SH.out q11 z11)
  have hS11 : ∃ X c t, FS FI w X g 99 c t [(p6, lb), (p3, nb n), (p2, sb text)] w11 := ⟨_, _, _, S11.out⟩
  clear q11 z11 S10
  go_simp
  refine hK.out _ _ (by assumption) (fun hHeld => ?_)
  clear hK K
  refine wpAnyH_ready (rs := [7]) (by kernel_rfl) (by simp) ?_
  refine AllReadyH.cons (o := ⟨some 31, _, _, _, _, _⟩) rfl (fun K hK => ?_) AllReadyH.nil
  rw [if_pos (by kernel_rfl)]
  go_simp
  refine (HT.out.call n _ S11.out.b HN.out.1 HN.out.2).mono ?_
  rintro v w12 ⟨rfl, b12⟩
  have S12 := Lib.hid (S11.out.next SH.out b12)
  have hS12 : ∃ X c t, FS FI w X g 99 c t [(p6, lb), (p3, nb n), (p2, sb text)] w12 := ⟨_, _, _, S12.out⟩
  clear b12 S11
  go_simp
  refine hK.out _ _ (by assumption) (fun hHeld => ?_)
  clear hK K
  refine wpAnyH_take (i := 8) (oi := ⟨some 32, _, _, _, _, _⟩) (v := ?_) rfl (by kernel_rfl) (by kernel_rfl) (by kernel_rfl) (fun _ _ _ h => h) (Or.inl ⟨by kernel_rfl, ?_⟩) (by assumption) ?_; rotate_left; (focus (intro w hSw; (try dsimp only at hSw); go_simp; (try with_reducible rfl)))
  simp only [Act.put, List.setIfInBounds_toArray, List.set_cons_zero, List.set_cons_succ]
  refine wpAnyH_take (i := 9) (oi := ⟨some 33, _, _, _, _, _⟩) (v := ?_) rfl (by kernel_rfl) (by kernel_rfl) (by kernel_rfl) (fun _ _ _ h => h) (Or.inl ⟨by kernel_rfl, ?_⟩) (by assumption) ?_; rotate_left; (focus (intro w hSw; (try dsimp only at hSw); go_simp; (try with_reducible rfl)))
  simp only [Act.put, List.setIfInBounds_toArray, List.set_cons_zero, List.set_cons_succ]
  refine wpAnyH_take (i := 10) (oi := ⟨some 34, _, _, _, _, _⟩) (v := ?_) rfl (by kernel_rfl) (by kernel_rfl) (by kernel_rfl) (fun _ _ _ h => h) (Or.inl ⟨by kernel_rfl, ?_⟩) (by assumption) ?_; rotate_left; (focus (intro w hSw; (try dsimp only at hSw); go_simp; (try with_reducible rfl)))
  simp only [Act.put, List.setIfInBounds_toArray, List.set_cons_zero, List.set_cons_succ]
  refine wpAnyH_done (by kernel_rfl) ?_ _
  have S13 := S12
  clear hHeld
  go_wp2_with fail
  refine (do_bad SH.out tent3 (fun t => ∃ tx, t = err ++ tx ∧ (0 < tx.size ∧ tx.size ≤ 1000000)) S13.out (by decide) (by decide) (by decide) (fun W1 hB => (w3_any p6 p2 text W1 (hB (p6, lb) (by simp)) (hB (p2, sb text) (by simp)) HS.out).mono (by rintro e W2 ⟨⟨b, rfl⟩, hb⟩; obtain ⟨tx, h1, h2⟩ := HT.out.bounds (text.size : Int) b (by omega) (by have := HS.out; omega); exact ⟨⟨_, err ++ tx, rfl, ⟨tx, rfl, h1⟩, fun X2 W2 _ _ => h2 X2 W2⟩, hb⟩))).mono ?_
  rintro v w20 ⟨rfl, t20, X20, ⟨tx, ht, htx⟩, q20⟩
  have S20 := Lib.hid (show FS FI w X20 g 99 3 _ [(p6, lb), (p3, nb n), (p2, sb text)] w20 from q20)
  have HPX := Lib.hid (fun W => prefix_any tx htx.2 W)
  rw [← ht] at HPX
  have hlen : ¬ (t20.size : Int) ≤ 6 := by
    have h2 : (err ++ tx).size = 6 + tx.size := by rw [ByteArray.size_append]; rfl
    rw [ht]; omega
  clear q20 S13 ht htx
  go_wp2_with fail
  refine (SH.out.last S20.out.p).mono ?_
  rintro v w21 ⟨rfl, X21, q21, z21⟩
  have S21 := Lib.hid (S20.out.turn SH.out q21 z21)
  clear q21 z21 S20
  go_wp2_with fail
  refine (HPX.out _).mono ?_
  rintro v w22 ⟨rfl, hw⟩
  obtain rfl := hw
  go_wp2_with fail
  refine (SH.out.last S21.out.p).mono ?_
  rintro v w23 ⟨rfl, X23, q23, z23⟩
  have S23 := Lib.hid (S21.out.turn SH.out q23 z23)
  clear q23 z23 S21
  go_wp2_with fail
  refine (do_bad SH.out tent4 (fun t => t = oth) S23.out (by decide) (by decide) (by decide) (fun W1 hB => (w4_any p3 n W1 (hB (p3, nb n) (by simp))).mono (by rintro e W2 ⟨rfl, rfl⟩; exact ⟨⟨_, oth, rfl, rfl, fun X2 W2 _ _ => SH.out.int X2 W2 n⟩, Below.refl _ _⟩))).mono ?_
  rintro v w24 ⟨rfl, t24, X24, rfl, q24⟩
  have S24 := Lib.hid (show FS FI w X24 g 99 4 _ [(p6, lb), (p3, nb n), (p2, sb text)] w24 from q24)
  clear q24 S23 hlen
  go_wp2_with fail
  refine (SH.out.last S24.out.p).mono ?_
  rintro v w25 ⟨rfl, X25, q25, z25⟩
  have S25 := Lib.hid (S24.out.turn SH.out q25 z25)
  clear q25 z25 S24
  go_wp2_with fail
  refine (SH.out.caught S25.out.p).mono ?_
  rintro v w26 ⟨rfl, X26, q26, z26⟩
  have S26 := Lib.hid (S25.out.turn SH.out q26 z26)
  clear q26 z26 S25
  go_wp2_with fail
  refine (SH.out.mend S26.out.p).mono ?_
  rintro v w27 ⟨rfl, X27, q27, z27⟩
  have S27 := Lib.hid (S26.out.turn SH.out q27 z27)
  clear q27 z27 S26
  go_wp2_with fail
  refine (SH.out.last S27.out.p).mono ?_
  rintro v w28 ⟨rfl, X28, q28, z28⟩
  have S28 := Lib.hid (S27.out.turn SH.out q28 z28)
  clear q28 z28 S27
  go_wp2_with fail
  refine (SH.out.caught S28.out.p).mono ?_
  rintro v w29 ⟨rfl, X29, q29, z29⟩
  have S29 := Lib.hid (S28.out.turn SH.out q29 z29)
  clear q29 z29 S28
  go_wp2_with fail
  refine (SH.out.blown S29.out.p).mono ?_
  rintro v w30 ⟨hv, X30, q30, z30⟩
  obtain rfl : v = .returned (.bool false) := hv
  have S30 := Lib.hid (S29.out.turn SH.out q30 z30)
  clear q30 z30 S29
  go_wp2_with fail
  refine (do_good SH.out S30.out (by decide) (by decide) (by decide)).mono ?_
  rintro v w31 ⟨rfl, X31, q31⟩
  have S31 := Lib.hid q31
  clear q31 S30
  go_wp2_with fail
  refine (SH.out.last S31.out.p).mono ?_
  rintro v w32 ⟨rfl, X32, q32, z32⟩
  have S32 := Lib.hid (S31.out.turn SH.out q32 z32)
  clear q32 z32 S31
  go_wp2
  go_ret
  rw [← hp2]
  exact ⟨rfl, S32.out.b⟩
end
end Go.Proofs.YtjglgglolbkjlaaDoor.FuseW.FuseTells
