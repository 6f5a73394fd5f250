/- The landed fuse: the works of a script; one number of a script. -/
import Derived.Test.YtjglgglolbkjlaaFuseX
import Derived.Test.YtjglgglolbkjlaaFuseSm
namespace Go.Proofs.Ytjglgglolbkjlaa.FuseW
open Go.RowKit Shell
abbrev ib (n : Int) : Obj := .cells #[.int .i64 n] 3 (0, 0)
abbrev pb (g : Nat) : Obj := .cells #[.pointer (some ⟨g, 0, none⟩)] 30 (0, 0)
theorem pEnt1 : Ent 39 := enters_of Try.func39 (by kernel_rfl) rfl
theorem pEnt2 : Ent 41 := enters_of Try.func41 (by kernel_rfl) rfl
theorem pEnt3 : Ent 42 := enters_of Try.func42 (by kernel_rfl) rfl
theorem pEnt4 : Ent 44 := enters_of Try.func44 (by kernel_rfl) rfl
theorem pEnt5 : Ent 45 := enters_of Try.func45 (by kernel_rfl) rfl
theorem pEntS : Ent 40 := enters_of Try.func40 (by kernel_rfl) rfl
theorem tv_form (X : Nat → Prop) (W : World) : ∃ t, TV X W (.iface 56 (.int .i64 2)) t := ⟨_, _, _, rfl, fun W1 _ => told_errno 2 _ (by decide) W1 (fun W2 _ => form_tells W2)⟩
theorem tv_bounds (x : Int) (b : Bool) (h0 : 0 ≤ x) (h1 : x ≤ 9223372036854775807) (X : Nat → Prop) (W : World) : ∃ t, TV X W (.iface 8 (.agg #[.int .i64 x, .int .i64 0, .bool b, .int .u8 0])) t := by
  obtain ⟨t, _, hc⟩ := told_bounds x 0 b h0 h1 (by omega)
  exact ⟨_, _, _, rfl, fun W1 _ => hc W1⟩
/-- A work of a script's own: how it ends, whatever the world; it turns nothing that was there. -/
theorem p1_any (W : World) : Calls Try.prog 39 #[] W fun e W2 => e = .returned (.tuple #[]) ∧ W = W2 := by
  go_enter Try.func39, Try.ntmps39
  go_wp2
  go_end0
  exact ⟨rfl, rfl⟩
theorem pS_any (W : World) : Calls Try.prog 40 #[] W fun e W2 => e = .panicked [{ v := .iface 9 (.string ⟨#[97]⟩), recovered := false }] ∧ W = W2 := by
  go_enter Try.func40, Try.ntmps40
  go_wp2
  exact ⟨rfl, rfl, rfl⟩
theorem p2_any (W : World) : Calls Try.prog 41 #[] W fun e W2 => e = .panicked [{ v := .iface 56 (.int .i64 2), recovered := false }] ∧ W = W2 := by
  go_enter Try.func41, Try.ntmps41
  go_wp2
  exact ⟨rfl, rfl, rfl⟩
theorem first_any (W : World) : Calls Try.prog 43 #[.slice none 0 0] W fun e W2 => (∃ b, e = .panicked [{ v := .iface 8 (.agg #[.int .i64 0, .int .i64 0, .bool b, .int .u8 0]), recovered := false }]) ∧ Below W.heap.size W W2 := by
  go_enter Try.func43, Try.ntmps43
  go_wp2
  exact ⟨rfl, ⟨_, rfl⟩, (Below.refl _ _).drew⟩
theorem p3_any (W : World) : Calls Try.prog 42 #[] W fun e W2 => (∃ b, e = .panicked [{ v := .iface 8 (.agg #[.int .i64 0, .int .i64 0, .bool b, .int .u8 0]), recovered := false }]) ∧ Below W.heap.size W W2 := by
  have H := first_any
  go_enter Try.func42, Try.ntmps42
  go_wp2_with fail
  refine (H _).mono ?_
  rintro e w1 ⟨⟨b, rfl⟩, b1⟩
  exact ⟨rfl, ⟨b, rfl⟩, b1⟩
theorem p4_any (q : Nat) (n : Int) (W : World) (h : W.heap[q]? = some (ib n)) : Calls Try.prog 44 #[.pointer (some ⟨q, 0, none⟩)] W fun e W2 => e = .panicked [{ v := .iface 3 (.int .i64 n), recovered := false }] ∧ W = W2 := by
  have c0 := cell1 h
  clear h
  go_enter Try.func44, Try.ntmps44
  go_wp2
  exact ⟨rfl, rfl, rfl⟩
/-- Do of a work that ends well or not (ob), and leaves c2 caught. -/
theorem do_work {lo : Nat} {X : Nat → Prop} {g : Nat} {m c c2 : Int} {t : ByteArray} {W : World} (fn : FuncId) (caps : Array Value) (ob : Bool) (h : FV lo X g m c t W) (hc : c ≤ m) (hc2 : 0 ≤ c2 ∧ c2 ≤ 1048576) (he : Ent fn)
    (hw : ∀ (W1 : World) (X1 : Nat → Prop), FV lo X1 g m c t W1 → Turn X X1 W W1 → Calls Try.prog fn caps W1 fun e W2 => ∃ o X2 t2, o.isNone = ob ∧ En TV X2 W2 e o ∧ FV lo X2 g m c2 t2 W2 ∧ Turn X1 X2 W1 W2) :
    Calls Try.prog 13 #[.pointer (some ⟨g, 0, none⟩), .func (.func fn) #[] caps] W fun v W' => v = .returned (.bool ob) ∧ ∃ X' t', FV lo X' g m (if ob then c2 else c2 + 1) t' W' ∧ Turn X X' W W' := by
  refine (do_run fn caps (fun o' X2 k _ W2 => o'.isNone = ob ∧ k = c2 ∧ Turn X X2 W W2) h hc he (fun W1 X1 F1 T1 => (hw W1 X1 F1 T1).mono ?_)).mono ?_
  · rintro e W2 ⟨o, X2, t2, ho, h1, h2, h3⟩
    exact ⟨o, X2, c2, t2, h1, h2, hc2, fun j _ hj hx => ⟨h3.block j hj hx, fun hx2 => by
      rcases h3.foot j hx2 with h4 | h4
      · exact hx h4
      · omega⟩, h3.size, ho, rfl, T1.trans h3⟩
  · rintro v W' ⟨o', X2, k, t2, W2, X3, ⟨rfl, rfl, u⟩, hv, h3, u3⟩
    exact ⟨hv, X3, _, h3, u.trans u3⟩
/-- What a number's work does, if the fuse is whole. -/
theorem p5_any {lo : Nat} {X : Nat → Prop} {g : Nat} {m c : Int} {t : ByteArray} {W : World} (p : Nat) (h : FV lo X g m c t W) (hp : W.heap[p]? = some (pb g)) (hc : c ≤ m) (h0 : 0 ≤ c) (hm : m ≤ 4096) :
    Calls Try.prog 45 #[.pointer (some ⟨p, 0, none⟩)] W fun e W2 => e = .returned (.tuple #[]) ∧ ∃ X' t', FV lo X' g m (c + 1) t' W2 ∧ Turn X X' W W2 := by
  have c0 := cell1 hp
  have HD := Lib.hid (do_work 40 #[] false (c2 := c) h hc (by omega) pEntS (fun W1 X1 F1 T1 => (pS_any W1).mono fun e W2 ⟨he, hw⟩ => ⟨some ⟨#[97]⟩, X1, t, rfl, he ▸ .bad (tv_str _ _ _), hw ▸ F1, hw ▸ Turn.of (Below.refl _ _)⟩))
  clear hp h hc h0 hm
  go_enter Try.func45, Try.ntmps45
  go_wp2_with fail
  refine HD.out.mono ?_
  rintro v w1 ⟨rfl, X', t', F, T⟩
  go_wp2
  go_end0
  exact ⟨rfl, X', t', F, T⟩
/-- A fuse's two cells that a number's work holds. -/
abbrev wkw (g : Nat) (n : Int) (W : World) : World := (W.alloc (pb g)).alloc (ib n)
theorem wk0 (g : Nat) (W : World) : Calls Try.prog 36 #[.pointer (some ⟨g, 0, none⟩), .int .i64 0] W fun v W' => v = .returned (.tuple #[.func (.func 39) #[] #[], .bool true]) ∧ W' = wkw g 0 W := by
  have c0 := cell1 (heap_alloc_new (W.alloc (pb g)) (ib 0))
  go_enter Try.func36, Try.ntmps36
  go_wp2
  go_ret2
  exact ⟨rfl, rfl⟩
theorem wk1 (g : Nat) (W : World) : Calls Try.prog 36 #[.pointer (some ⟨g, 0, none⟩), .int .i64 1] W fun v W' => v = .returned (.tuple #[.func (.func 40) #[] #[], .bool true]) ∧ W' = wkw g 1 W := by
  have c0 := cell1 (heap_alloc_new (W.alloc (pb g)) (ib 1))
  go_enter Try.func36, Try.ntmps36
  go_wp2
  go_ret2
  exact ⟨rfl, rfl⟩
theorem wk2 (g : Nat) (W : World) : Calls Try.prog 36 #[.pointer (some ⟨g, 0, none⟩), .int .i64 2] W fun v W' => v = .returned (.tuple #[.func (.func 41) #[] #[], .bool true]) ∧ W' = wkw g 2 W := by
  have c0 := cell1 (heap_alloc_new (W.alloc (pb g)) (ib 2))
  go_enter Try.func36, Try.ntmps36
  go_wp2
  go_ret2
  exact ⟨rfl, rfl⟩
theorem wk3 (g : Nat) (W : World) : Calls Try.prog 36 #[.pointer (some ⟨g, 0, none⟩), .int .i64 3] W fun v W' => v = .returned (.tuple #[.func (.func 42) #[] #[], .bool true]) ∧ W' = wkw g 3 W := by
  have c0 := cell1 (heap_alloc_new (W.alloc (pb g)) (ib 3))
  go_enter Try.func36, Try.ntmps36
  go_wp2
  go_ret2
  exact ⟨rfl, rfl⟩
theorem wk4 (g : Nat) (W : World) : Calls Try.prog 36 #[.pointer (some ⟨g, 0, none⟩), .int .i64 4] W fun v W' => v = .returned (.tuple #[.func (.func 44) #[] #[.pointer (some ⟨W.heap.size + 1, 0, none⟩)], .bool true]) ∧ W' = wkw g 4 W := by
  have hmf : ∀ (fn : Fn) (first cap : Array Value) (w : World), (Instr.makeFunc fn first cap).run Try.prog w = .ok (.func fn first cap) w := fun _ _ _ _ => rfl
  have c0 := cell1 (heap_alloc_new (W.alloc (pb g)) (ib 4))
  go_enter Try.func36, Try.ntmps36
  go_wp2
  go_ret2
  exact ⟨rfl, rfl⟩
theorem wk5 (g : Nat) (W : World) : Calls Try.prog 36 #[.pointer (some ⟨g, 0, none⟩), .int .i64 5] W fun v W' => v = .returned (.tuple #[.nilFunc, .bool true]) ∧ W' = wkw g 5 W := by
  have c0 := cell1 (heap_alloc_new (W.alloc (pb g)) (ib 5))
  go_enter Try.func36, Try.ntmps36
  go_wp2
  go_ret2
  exact ⟨rfl, rfl⟩
theorem wk7 (g : Nat) (W : World) : Calls Try.prog 36 #[.pointer (some ⟨g, 0, none⟩), .int .i64 7] W fun v W' => v = .returned (.tuple #[.func (.func 45) #[] #[.pointer (some ⟨W.heap.size, 0, none⟩)], .bool true]) ∧ W' = wkw g 7 W := by
  have hmf : ∀ (fn : Fn) (first cap : Array Value) (w : World), (Instr.makeFunc fn first cap).run Try.prog w = .ok (.func fn first cap) w := fun _ _ _ _ => rfl
  have c0 := cell1 (heap_alloc_new (W.alloc (pb g)) (ib 7))
  go_enter Try.func36, Try.ntmps36
  go_wp2
  go_ret2
  exact ⟨rfl, rfl⟩
theorem wkx (g : Nat) (n : Int) (W : World) (hn : n < 0 ∨ 7 < n) : Calls Try.prog 36 #[.pointer (some ⟨g, 0, none⟩), .int .i64 n] W fun v W' => v = .returned (.tuple #[.nilFunc, .bool false]) ∧ W' = wkw g n W := by
  have e0 : (n == 0) = false := by rw [beq_eq_false_iff_ne]; omega
  have e1 : (n == 1) = false := by rw [beq_eq_false_iff_ne]; omega
  have e2 : (n == 2) = false := by rw [beq_eq_false_iff_ne]; omega
  have e3 : (n == 3) = false := by rw [beq_eq_false_iff_ne]; omega
  have e4 : (n == 4) = false := by rw [beq_eq_false_iff_ne]; omega
  have e5 : (n == 5) = false := by rw [beq_eq_false_iff_ne]; omega
  have e7 : (n == 7) = false := by rw [beq_eq_false_iff_ne]; omega
  have c0 := cell1 (heap_alloc_new (W.alloc (pb g)) (ib n))
  go_enter Try.func36, Try.ntmps36
  go_wp2
  go_ret2
  exact ⟨rfl, rfl⟩
theorem step_do (g : Nat) (n : Int) (fv : Value) (b : Bool) (W W1 : World) (Q : World → Prop) (h6 : n ≠ 6) (hw : Calls Try.prog 36 #[.pointer (some ⟨g, 0, none⟩), .int .i64 n] W fun v W' => v = .returned (.tuple #[fv, .bool true]) ∧ W' = W1) (hd : Calls Try.prog 13 #[.pointer (some ⟨g, 0, none⟩), fv] W1 fun e W' => e = .returned (.bool b) ∧ Q W') :
    Calls Try.prog 30 #[.pointer (some ⟨g, 0, none⟩), .int .i64 n] W fun v W' => v = .returned (.int .u8 (if b then 121 else 110)) ∧ Q W' := by
  have e6 : (n == 6) = false := by rw [beq_eq_false_iff_ne]; exact h6
  have HW := Lib.hid hw
  have HD := Lib.hid hd
  clear hw hd h6
  go_enter Try.func30, Try.ntmps30
  go_wp2_with fail
  refine HW.out.mono ?_
  rintro v w1 ⟨rfl, rfl⟩
  go_wp2_with fail
  refine HD.out.mono ?_
  rintro v w2 ⟨rfl, q⟩
  cases b
  all_goals
    go_wp2
    go_ret
    exact ⟨rfl, q⟩
theorem step_not (g : Nat) (n : Int) (W W1 : World) (h6 : n ≠ 6) (hw : Calls Try.prog 36 #[.pointer (some ⟨g, 0, none⟩), .int .i64 n] W fun v W' => v = .returned (.tuple #[.nilFunc, .bool false]) ∧ W' = W1) :
    Calls Try.prog 30 #[.pointer (some ⟨g, 0, none⟩), .int .i64 n] W fun v W' => v = .returned (.int .u8 45) ∧ W' = W1 := by
  have e6 : (n == 6) = false := by rw [beq_eq_false_iff_ne]; exact h6
  have HW := Lib.hid hw
  clear hw h6
  go_enter Try.func30, Try.ntmps30
  go_wp2_with fail
  refine HW.out.mono ?_
  rintro v w1 ⟨rfl, rfl⟩
  go_wp2
  go_ret
  exact ⟨rfl, rfl⟩
theorem step_mend (g : Nat) (W : World) (Q : World → Prop) (hd : Calls Try.prog 22 #[.pointer (some ⟨g, 0, none⟩)] W fun e W' => e = .returned (.tuple #[]) ∧ Q W') :
    Calls Try.prog 30 #[.pointer (some ⟨g, 0, none⟩), .int .i64 6] W fun v W' => v = .returned (.int .u8 45) ∧ Q W' := by
  have HD := Lib.hid hd
  clear hd
  go_enter Try.func30, Try.ntmps30
  go_wp2_with fail
  refine HD.out.mono ?_
  rintro v w2 ⟨rfl, q⟩
  go_wp2
  go_ret
  exact ⟨rfl, q⟩
/-- One number of a script. -/
theorem step_any {lo : Nat} {X : Nat → Prop} {g : Nat} {m c : Int} {t : ByteArray} {W : World} (n : Int) (h : FV lo X g m c t W) (hm : m ≤ 4096) (hc : 0 ≤ c) :
    Calls Try.prog 30 #[.pointer (some ⟨g, 0, none⟩), .int .i64 n] W fun v W' => v = .returned (.int .u8 (lett m c n)) ∧ ∃ X' t', FV lo X' g m (cau m c n) t' W' ∧ Turn X X' W W' := by
  by_cases h6 : n = 6
  · subst h6
    refine (step_mend g W _ (mend_m g m c t W h.box)).mono ?_
    rintro e W' ⟨he, hn, k⟩
    obtain ⟨X', a, b⟩ := h.put k hn
    exact ⟨he, X', _, a, b⟩
  have S0 := ((Stay.start W).alloc (pb g)).alloc (ib n)
  simp only [World.size_alloc] at S0
  have PB := S0.at 1 rfl
  have PN := S0.at 0 rfl
  have BW : Below W.heap.size W (wkw g n W) := al (al (Below.refl W.heap.size W) (pb g)) (ib n)
  have hg := lt_of_heap h.box
  have XB : ¬ X W.heap.size := fun hx => by have := (h.x _).1 hx; omega
  have XN : ¬ X (W.heap.size + 1) := fun hx => by have := (h.x _).1 hx; omega
  have FA : FV lo X g m c t (wkw g n W) := h.frame (fun j hj => BW.block j (by rw [(h.x j).1 hj]; exact hg))
  have TA := Turn.of (X := X) BW
  by_cases hx : n < 0 ∨ 7 < n
  · rw [show lett m c n = 45 by unfold lett; rw [if_neg h6, if_pos hx], show cau m c n = c by unfold cau; rw [if_neg h6, if_pos hx]]
    refine (step_not g n W _ h6 (wkx g n W hx)).mono ?_
    rintro e W' ⟨he, rfl⟩
    exact ⟨he, X, t, FA, TA⟩
  by_cases h5 : n = 5
  · subst h5
    rw [show lett m c 5 = 110 by unfold lett; rw [if_neg (by omega), if_neg (by omega), if_pos (by omega)], show cau m c 5 = c by unfold cau; rw [if_neg (by omega), if_neg (by omega), if_pos (by omega)]]
    refine (step_do g 5 _ false W _ _ (by omega) (wk5 g W) (do_none g _)).mono ?_
    rintro e W' ⟨he, b⟩
    obtain ⟨X', a, u⟩ := FA.keep b
    exact ⟨he, X', t, a, TA.trans u⟩
  by_cases hmc : m < c
  · have no : ∀ (fn : FuncId) (caps : Array Value), Calls Try.prog 30 #[.pointer (some ⟨g, 0, none⟩), .int .i64 n] W (fun v W' => v = .returned (.int .u8 110) ∧ Below (wkw g n W).heap.size (wkw g n W) W') → Calls Try.prog 30 #[.pointer (some ⟨g, 0, none⟩), .int .i64 n] W fun v W' => v = .returned (.int .u8 (lett m c n)) ∧ ∃ X' t', FV lo X' g m (cau m c n) t' W' ∧ Turn X X' W W' := by
      intro _ _ hh
      rw [show lett m c n = 110 by unfold lett; rw [if_neg h6, if_neg hx, if_pos (Or.inl hmc)], show cau m c n = c by unfold cau; rw [if_neg h6, if_neg hx, if_pos (Or.inl hmc)]]
      refine hh.mono ?_
      rintro e W' ⟨he, b⟩
      obtain ⟨X', a, u⟩ := FA.keep b
      exact ⟨he, X', t, a, TA.trans u⟩
    have hn : n = 0 ∨ n = 1 ∨ n = 2 ∨ n = 3 ∨ n = 4 ∨ n = 7 := by omega
    rcases hn with rfl | rfl | rfl | rfl | rfl | rfl
    · exact no 39 #[] (step_do g 0 _ false W _ _ (by omega) (wk0 g W) (do_no g m c t _ 39 #[] FA.box hmc))
    · exact no 40 #[] (step_do g 1 _ false W _ _ (by omega) (wk1 g W) (do_no g m c t _ 40 #[] FA.box hmc))
    · exact no 41 #[] (step_do g 2 _ false W _ _ (by omega) (wk2 g W) (do_no g m c t _ 41 #[] FA.box hmc))
    · exact no 42 #[] (step_do g 3 _ false W _ _ (by omega) (wk3 g W) (do_no g m c t _ 42 #[] FA.box hmc))
    · exact no 44 #[.pointer (some ⟨W.heap.size + 1, 0, none⟩)] (step_do g 4 _ false W _ _ (by omega) (wk4 g W) (do_no g m c t _ 44 #[.pointer (some ⟨W.heap.size + 1, 0, none⟩)] FA.box hmc))
    · exact no 45 #[.pointer (some ⟨W.heap.size, 0, none⟩)] (step_do g 7 _ false W _ _ (by omega) (wk7 g W) (do_no g m c t _ 45 #[.pointer (some ⟨W.heap.size, 0, none⟩)] FA.box hmc))
  have hcm : c ≤ m := by omega
  have hn : n = 0 ∨ n = 1 ∨ n = 2 ∨ n = 3 ∨ n = 4 ∨ n = 7 := by omega
  rcases hn with rfl | rfl | rfl | rfl | rfl | rfl
  · rw [show lett m c 0 = 121 by unfold lett; rw [if_neg (by omega), if_neg (by omega), if_neg (by omega), if_pos (by omega)], show cau m c 0 = c by unfold cau; rw [if_neg (by omega), if_neg (by omega), if_neg (by omega), if_pos rfl]]
    refine (step_do g 0 _ true W _ _ (by omega) (wk0 g W) (do_work 39 #[] true (c2 := c) FA hcm (by omega) pEnt1 (fun W1 X1 F1 T1 => (p1_any W1).mono fun e W2 ⟨he, hw⟩ => ⟨none, X1, t, rfl, he ▸ .ok, hw ▸ F1, hw ▸ Turn.of (Below.refl _ _)⟩))).mono ?_
    rintro e W' ⟨he, X', t', F, T⟩
    exact ⟨he, X', t', F, TA.trans T⟩
  · rw [show lett m c 1 = 110 by unfold lett; rw [if_neg (by omega), if_neg (by omega), if_neg (by omega), if_neg (by omega)], show cau m c 1 = c + 1 by unfold cau; rw [if_neg (by omega), if_neg (by omega), if_neg (by omega), if_neg (by omega)]]
    refine (step_do g 1 _ false W _ _ (by omega) (wk1 g W) (do_work 40 #[] false (c2 := c) FA hcm (by omega) pEntS (fun W1 X1 F1 T1 => (pS_any W1).mono fun e W2 ⟨he, hw⟩ => ⟨some ⟨#[97]⟩, X1, t, rfl, he ▸ .bad (tv_str _ _ _), hw ▸ F1, hw ▸ Turn.of (Below.refl _ _)⟩))).mono ?_
    rintro e W' ⟨he, X', t', F, T⟩
    exact ⟨he, X', t', F, TA.trans T⟩
  · rw [show lett m c 2 = 110 by unfold lett; rw [if_neg (by omega), if_neg (by omega), if_neg (by omega), if_neg (by omega)], show cau m c 2 = c + 1 by unfold cau; rw [if_neg (by omega), if_neg (by omega), if_neg (by omega), if_neg (by omega)]]
    refine (step_do g 2 _ false W _ _ (by omega) (wk2 g W) (do_work 41 #[] false (c2 := c) FA hcm (by omega) pEnt2 (fun W1 X1 F1 T1 => by
        obtain ⟨tx, hx⟩ := tv_form X1 W1
        exact (p2_any W1).mono fun e W2 ⟨he, hw⟩ => ⟨some tx, X1, t, rfl, he ▸ .bad (hw ▸ hx), hw ▸ F1, hw ▸ Turn.of (Below.refl _ _)⟩))).mono ?_
    rintro e W' ⟨he, X', t', F, T⟩
    exact ⟨he, X', t', F, TA.trans T⟩
  · rw [show lett m c 3 = 110 by unfold lett; rw [if_neg (by omega), if_neg (by omega), if_neg (by omega), if_neg (by omega)], show cau m c 3 = c + 1 by unfold cau; rw [if_neg (by omega), if_neg (by omega), if_neg (by omega), if_neg (by omega)]]
    refine (step_do g 3 _ false W _ _ (by omega) (wk3 g W) (do_work 42 #[] false (c2 := c) FA hcm (by omega) pEnt3 (fun W1 X1 F1 T1 => (p3_any W1).mono fun e W2 ⟨⟨b, he⟩, hw⟩ => by
        have h3 := F1.keep hw
        obtain ⟨X2, F2, T2⟩ := h3
        obtain ⟨tx, hx⟩ := tv_bounds 0 b (by omega) (by omega) X2 W2
        exact ⟨some tx, X2, t, rfl, he ▸ .bad hx, F2, T2⟩))).mono ?_
    rintro e W' ⟨he, X', t', F, T⟩
    exact ⟨he, X', t', F, TA.trans T⟩
  · rw [show lett m c 4 = 110 by unfold lett; rw [if_neg (by omega), if_neg (by omega), if_neg (by omega), if_neg (by omega)], show cau m c 4 = c + 1 by unfold cau; rw [if_neg (by omega), if_neg (by omega), if_neg (by omega), if_neg (by omega)]]
    refine (step_do g 4 _ false W _ _ (by omega) (wk4 g W) (do_work 44 #[.pointer (some ⟨W.heap.size + 1, 0, none⟩)] false (c2 := c) FA hcm (by omega) pEnt4 (fun W1 X1 F1 T1 => (p4_any _ 4 W1 (T1.bx PN XN).1).mono fun e W2 ⟨he, hw⟩ => ⟨some ⟨#[111, 116, 104, 101, 114]⟩, X1, t, rfl, he ▸ .bad (tv_int _ _ _), hw ▸ F1, hw ▸ Turn.of (Below.refl _ _)⟩))).mono ?_
    rintro e W' ⟨he, X', t', F, T⟩
    exact ⟨he, X', t', F, TA.trans T⟩
  · rw [show lett m c 7 = 121 by unfold lett; rw [if_neg (by omega), if_neg (by omega), if_neg (by omega), if_pos (by omega)], show cau m c 7 = c + 1 by unfold cau; rw [if_neg (by omega), if_neg (by omega), if_neg (by omega), if_neg (by omega)]]
    refine (step_do g 7 _ true W _ _ (by omega) (wk7 g W) (do_work 45 #[.pointer (some ⟨W.heap.size, 0, none⟩)] true (c2 := (c + 1)) FA hcm (by omega) pEnt5 (fun W1 X1 F1 T1 => (p5_any _ F1 (T1.bx PB XB).1 hcm hc hm).mono fun e W2 ⟨he, X', t', F, T⟩ => ⟨none, X', t', rfl, he ▸ .ok, F, T⟩))).mono ?_
    rintro e W' ⟨he, X', t', F, T⟩
    exact ⟨he, X', t', F, TA.trans T⟩
end Go.Proofs.Ytjglgglolbkjlaa.FuseW
