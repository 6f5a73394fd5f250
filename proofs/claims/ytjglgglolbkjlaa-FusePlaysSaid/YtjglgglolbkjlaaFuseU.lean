/- The landed fuse is as asked. -/
import Derived.Test.YtjglgglolbkjlaaFuseI
import Derived.Test.YtjglgglolbkjlaaFuseT
namespace Go.Proofs.Ytjglgglolbkjlaa.FuseW
open Go.RowKit Shell
/-- What a value tells, while nothing but X turns. -/
def TV : TT := fun X W v t => ∃ ty u, v = .iface ty u ∧ ∀ W1, Turn X X W W1 → Calls Try.prog 37 #[v] W1 fun e W' => e = .returned (.string t) ∧ Below W1.heap.size W1 W'
structure FV (lo : Nat) (X : Nat → Prop) (g : Nat) (m c : Int) (t : ByteArray) (W : World) : Prop where
  lo : lo ≤ g
  x : ∀ j, X j ↔ j = g
  box : W.heap[g]? = some (fbx m c t)
section
variable {lo g : Nat} {X : Nat → Prop} {m c c2 : Int} {t t2 : ByteArray} {W W1 : World}
theorem FV.frame (h : FV lo X g m c t W) (hk : ∀ j, X j → W1.heap[j]? = W.heap[j]?) : FV lo X g m c t W1 := ⟨h.lo, h.x, (hk g ((h.x g).2 rfl)).trans h.box⟩
theorem FV.keep (h : FV lo X g m c t W) (b : Below W.heap.size W W1) : ∃ X', FV lo X' g m c t W1 ∧ Turn X X' W W1 :=
  ⟨X, h.frame (fun j hj => b.block j (by rw [(h.x j).1 hj]; exact lt_of_heap h.box)), Turn.of b⟩
theorem FV.put (h : FV lo X g m c t W) (k : Kept g W W1) (hn : W1.heap[g]? = some (fbx m c2 t2)) : ∃ X', FV lo X' g m c2 t2 W1 ∧ Turn X X' W W1 :=
  ⟨X, ⟨h.lo, h.x, hn⟩, ⟨k.os, k.tape, k.output, k.size, fun j hj hx => k.block j (fun e => hx ((h.x j).2 e)) hj, fun _ hj => Or.inl hj⟩⟩
theorem FV.ne (h : FV lo X g m c t W) {j : Nat} (hj : ¬ X j) : j ≠ g := fun e => hj ((h.x j).2 e)
end
theorem tv_str (X : Nat → Prop) (W : World) (s : ByteArray) : TV X W (.iface 9 (.string s)) s := ⟨_, _, rfl, fun W1 _ => told_str s W1⟩
theorem tv_int (X : Nat → Prop) (W : World) (n : Int) : TV X W (.iface 3 (.int .i64 n)) ⟨#[111, 116, 104, 101, 114]⟩ := ⟨_, _, rfl, fun W1 _ => told_int n W1⟩
theorem new_any (n : Int) (W : World) : Calls Try.prog 11 #[.int .i64 n] W fun r W' => ∃ g X, r = .returned (.pointer (some ⟨g, 0, none⟩)) ∧ FV W.heap.size X g (bear n) 0 ⟨#[]⟩ W' ∧ Below W.heap.size W W' := by
  have E : ∃ z, bear n = z := ⟨_, rfl⟩
  obtain ⟨z, hz⟩ := E
  rw [hz]
  unfold bear at hz
  have B0 := Lib.hid (al (Below.refl W.heap.size W) (fbx z 0 ⟨#[]⟩))
  have P0 := Lib.hid (heap_alloc_new W (fbx z 0 ⟨#[]⟩))
  by_cases h1 : n < 0
  · rw [if_pos h1] at hz
    subst hz
    go_enter Try.func11, Try.ntmps11
    go_wp2
    go_ret
    first | exact ⟨_, fun j => j = W.heap.size, rfl, ⟨Nat.le_refl _, fun _ => Iff.rfl, P0.out⟩, B0.out⟩ | exact ⟨_, rfl, ⟨fun j => j = W.heap.size, ⟨Nat.le_refl _, fun _ => Iff.rfl, P0.out⟩⟩, B0.out⟩
  · rw [if_neg h1] at hz
    by_cases h2 : 4096 < n
    · rw [if_pos h2] at hz
      subst hz
      go_enter Try.func11, Try.ntmps11
      go_wp2
      go_ret
      first | exact ⟨_, fun j => j = W.heap.size, rfl, ⟨Nat.le_refl _, fun _ => Iff.rfl, P0.out⟩, B0.out⟩ | exact ⟨_, rfl, ⟨fun j => j = W.heap.size, ⟨Nat.le_refl _, fun _ => Iff.rfl, P0.out⟩⟩, B0.out⟩
    · rw [if_neg h2] at hz
      subst hz
      go_enter Try.func11, Try.ntmps11
      go_wp2
      go_ret
      first | exact ⟨_, fun j => j = W.heap.size, rfl, ⟨Nat.le_refl _, fun _ => Iff.rfl, P0.out⟩, B0.out⟩ | exact ⟨_, rfl, ⟨fun j => j = W.heap.size, ⟨Nat.le_refl _, fun _ => Iff.rfl, P0.out⟩⟩, B0.out⟩
theorem caught_m (g : Nat) (m c : Int) (t : ByteArray) (W : World) (hg : W.heap[g]? = some (fbx m c t)) : Calls Try.prog 15 #[.pointer (some ⟨g, 0, none⟩)] W fun v W' => v = .returned (.int .i64 c) ∧ Below W.heap.size W W' := by
  obtain ⟨b0, b1, b2⟩ := cells3 hg
  clear hg
  go_enter Try.func15, Try.ntmps15
  go_wp2
  go_ret
  exact ⟨rfl, Below.refl _ _⟩
theorem last_m (g : Nat) (m c : Int) (t : ByteArray) (W : World) (hg : W.heap[g]? = some (fbx m c t)) : Calls Try.prog 25 #[.pointer (some ⟨g, 0, none⟩)] W fun v W' => v = .returned (.string t) ∧ Below W.heap.size W W' := by
  obtain ⟨b0, b1, b2⟩ := cells3 hg
  clear hg
  go_enter Try.func25, Try.ntmps25
  go_wp2
  go_ret
  exact ⟨rfl, Below.refl _ _⟩
theorem mend_m (g : Nat) (m c : Int) (t : ByteArray) (W : World) (hg : W.heap[g]? = some (fbx m c t)) : Calls Try.prog 22 #[.pointer (some ⟨g, 0, none⟩)] W fun v W' => v = .returned (.tuple #[]) ∧ W'.heap[g]? = some (fbx m 0 ⟨#[]⟩) ∧ Kept g W W' := by
  obtain ⟨b0, b1, b2⟩ := cells3 hg
  obtain ⟨f0, f1, f2⟩ := frozen3 hg
  have G1 := Lib.hid (show (W.setCell ⟨g, 1, none⟩ (.int .i64 0)).heap[g]? = some (fbx m 0 t) from heap_setCell_same W g 1 _ _ _ hg)
  have G2 := Lib.hid (show ((W.setCell ⟨g, 1, none⟩ (.int .i64 0)).setCell ⟨g, 2, none⟩ (.string ⟨#[]⟩)).heap[g]? = some (fbx m 0 ⟨#[]⟩) from heap_setCell_same _ g 2 _ _ _ G1.out)
  obtain ⟨d0, d1, d2⟩ := frozen3 G1.out
  have K2 := Lib.hid (kept2 W g 1 2 (.int .i64 0) (.string ⟨#[]⟩))
  clear hg
  go_enter Try.func22, Try.ntmps22
  go_wp2
  go_end0
  exact ⟨rfl, G2.out, K2.out⟩
theorem caught_nil (W : World) : Calls Try.prog 15 #[.pointer none] W fun v W' => v = .returned (.int .i64 0) ∧ Below W.heap.size W W' := by
  go_enter Try.func15, Try.ntmps15
  go_wp2
  go_ret
  exact ⟨rfl, Below.refl _ _⟩
theorem blown_nil (W : World) : Calls Try.prog 16 #[.pointer none] W fun v W' => v = .returned (.bool true) ∧ Below W.heap.size W W' := by
  go_enter Try.func16, Try.ntmps16
  go_wp2
  go_region
  go_wp2
  go_ret
  exact ⟨rfl, (Below.refl _ _).drew⟩
theorem last_nil (W : World) : Calls Try.prog 25 #[.pointer none] W fun v W' => v = .returned (.string ⟨#[]⟩) ∧ Below W.heap.size W W' := by
  go_enter Try.func25, Try.ntmps25
  go_wp2
  go_ret
  exact ⟨rfl, Below.refl _ _⟩
theorem mend_nil (W : World) : Calls Try.prog 22 #[.pointer none] W fun v W' => v = .returned (.tuple #[]) ∧ Below W.heap.size W W' := by
  go_enter Try.func22, Try.ntmps22
  go_wp2
  go_end0
  exact ⟨rfl, Below.refl _ _⟩
theorem blown_m (g : Nat) (m c : Int) (t : ByteArray) (W : World) (hg : W.heap[g]? = some (fbx m c t)) : Calls Try.prog 16 #[.pointer (some ⟨g, 0, none⟩)] W fun v W' => v = .returned (.bool (decide (m < c))) ∧ Below W.heap.size W W' := by
  obtain ⟨b0, b1, b2⟩ := cells3 hg
  clear hg
  go_enter Try.func16, Try.ntmps16
  go_wp2
  go_region
  go_wp2
  go_ret
  exact ⟨rfl, (Below.refl _ _).drew⟩
theorem catch_no (p : Nat) (W : World) : CallsD Try.prog 31 #[.pointer (some ⟨p, 0, none⟩)] .returning W fun e u' w' => e = .returned (.tuple #[]) ∧ u' = .returning ∧ w' = W := by
  refine callsD_of_wpS Try.func31 rfl fun c₀ cs hu => ?_
  apply wpS_seq
  apply wpS_region
  simp [wpOpsS, go_sem, recoverD, hu, Try.ntmps31, Exit.thenS]
  refine wpS_of_wp ?_
  rw [show (#[Value.pointer (some { block := p, off := 0 })] ++ ((Array.replicate 7 undef).setIfInBounds 1 Value.nilIface).setIfInBounds 0 Value.nilIface) = #[Value.pointer (some { block := p, off := 0 }), .nilIface, .nilIface, undef, undef, undef, undef, undef] from rfl]
  go_wp2
  exact ⟨rfl, .returning, by cases c₀; simp_all, .tuple #[], results_none rfl _ _ _, rfl, rfl, rfl⟩
set_option maxHeartbeats 4000000 in
theorem do_run {lo : Nat} {X : Nat → Prop} {g : Nat} {m c : Int} {t : ByteArray} {W : World} (fn : FuncId) (caps : Array Value) (R : Option ByteArray → (Nat → Prop) → Int → ByteArray → World → Prop) (h : FV lo X g m c t W) (hc : c ≤ m) (hent : Ent fn)
    (hw : ∀ (W1 : World) (X1 : Nat → Prop), FV lo X1 g m c t W1 → Turn X X1 W W1 → Calls Try.prog fn caps W1 fun e W2 => ∃ o X2 c2 t2, En TV X2 W2 e o ∧ FV lo X2 g m c2 t2 W2 ∧ (0 ≤ c2 ∧ c2 ≤ 1048576) ∧ (∀ j, W.heap.size ≤ j → j < W1.heap.size → ¬ X1 j → W2.heap[j]? = W1.heap[j]? ∧ ¬ X2 j) ∧ W1.heap.size ≤ W2.heap.size ∧ R o X2 c2 t2 W2) :
    Calls Try.prog 13 #[.pointer (some ⟨g, 0, none⟩), .func (.func fn) #[] caps] W fun v W' => ∃ o X2 c2 t2 W2 X3, R o X2 c2 t2 W2 ∧ v = .returned (.bool (dn o)) ∧ FV lo X3 g m (dc c2 o) (dt t2 o) W' ∧ Turn X2 X3 W2 W' := by
  unfold Ent at hent
  have hmf : ∀ (fn : Fn) (first cap : Array Value) (w : World), (Instr.makeFunc fn first cap).run Try.prog w = .ok (.func fn first cap) w := fun _ _ _ _ => rfl
  have hnf : ∀ w, (binOp .eql 1 (.func (.func fn) #[] caps) .nilFunc).run Try.prog w = .ok (.bool false) w := fun _ => by kernel_rfl
  have B0 := Lib.hid (al (Below.refl W.heap.size W) (.cells #[.pointer (some ⟨g, 0, none⟩)] 30))
  have P0 := Lib.hid (heap_alloc_new W (.cells #[.pointer (some ⟨g, 0, none⟩)] 30))
  have c0 := cell_of_row _ W.heap.size 0 _ _ _ P0.out
  have G0 := Lib.hid (row_below B0.out h.box)
  have HB := Lib.hid (fun Z hz => blown_m g m c t Z hz)
  rw [decide_eq_false (by omega)] at HB
  have HW := Lib.hid hw
  have HF := Lib.hid h
  have PG := Lib.hid (show W.heap.size ≠ g by have := lt_of_heap h.box; omega)
  clear h hw hc
  go_enter_defers Try.func13, Try.ntmps13
  go_wp2_with fail
  refine (HB.out _ G0.out).mono ?_
  rintro v w1 ⟨rfl, b1⟩
  have B1 := Lib.hid (B0.out.trans (b1.mono B0.out.size))
  have P1 := Lib.hid (row_below b1 P0.out)
  have G1 := Lib.hid (row_below b1 G0.out)
  have S1 := Lib.hid (show W.heap.size < w1.heap.size from lt_of_heap P1.out)
  clear b1 B0 P0 G0 c0
  go_wp2_with fail
  have F1 : FV lo X g m c t w1 := ⟨HF.out.lo, HF.out.x, G1.out⟩
  refine (HW.out _ X F1 (Turn.of B1.out)).mono ?_
  rintro e w2 ⟨o, X2, c2, t2, ho, h2, hb, hk, hs, hr⟩
  obtain ⟨hk1, hk2⟩ := hk _ (Nat.le_refl _) S1.out (fun hx => PG.out ((HF.out.x _).1 hx))
  have P2 := Lib.hid (hk1.trans P1.out)
  have H2 := Lib.hid h2
  have HR := Lib.hid hr
  clear hk1 hk2 hk h2 hr F1
  cases ho with
  | ok =>
    go_wp2
    refine leaves_cons (f := 31) (args := #[.pointer (some ⟨W.heap.size, 0, none⟩)]) (by simp) (by simp [go_sem]) ?_
    refine (catch_no _ _).mono ?_
    rintro e u' w3 ⟨rfl, rfl, rfl⟩
    refine ⟨_, results_tmp rfl _ _ _, ?_⟩
    exact ⟨none, X2, c2, t2, w3, X2, HR.out, rfl, H2.out, Turn.of (Below.refl _ _)⟩
  | @bad v tx pv =>
    obtain ⟨ty, u, rfl, pv⟩ := pv
    refine leaves_cons (f := 31) (args := #[.pointer (some ⟨W.heap.size, 0, none⟩)]) (by simp) (by simp [go_sem]) ?_
    refine (catch_yes W.heap.size g m c2 (c2 + 1) t2 tx ty u _ _ P2.out H2.out.box (fun W1 k => pv W1 ⟨k.os, k.tape, k.output, k.size, fun j hj hx => k.block j (H2.out.ne hx) hj, fun _ hj => Or.inl hj⟩) (by rw [IntKind.wrap_i64]; omega)).mono ?_
    rintro e u' w3 ⟨rfl, rfl, hg3, k3⟩
    refine ⟨_, results_tmp rfl _ _ _, ?_⟩
    obtain ⟨X3, h3, u3⟩ := H2.out.put k3 hg3
    exact ⟨some tx, X2, c2, t2, w2, X3, HR.out, rfl, h3, u3⟩
theorem do_no (g : Nat) (m c : Int) (t : ByteArray) (W : World) (fn : FuncId) (caps : Array Value) (hg : W.heap[g]? = some (fbx m c t)) (hc : m < c) :
    Calls Try.prog 13 #[.pointer (some ⟨g, 0, none⟩), .func (.func fn) #[] caps] W fun v W' => v = .returned (.bool false) ∧ Below W.heap.size W W' := by
  have hnf : ∀ w, (binOp .eql 1 (.func (.func fn) #[] caps) .nilFunc).run Try.prog w = .ok (.bool false) w := fun _ => by kernel_rfl
  have B0 := Lib.hid (al (Below.refl W.heap.size W) (.cells #[.pointer (some ⟨g, 0, none⟩)] 30))
  have P0 := Lib.hid (heap_alloc_new W (.cells #[.pointer (some ⟨g, 0, none⟩)] 30))
  have c0 := cell_of_row _ W.heap.size 0 _ _ _ P0.out
  have G0 := Lib.hid (row_below B0.out hg)
  have HB := Lib.hid (fun Z hz => blown_m g m c t Z hz)
  rw [decide_eq_true hc] at HB
  clear hg hc
  go_enter_defers Try.func13, Try.ntmps13
  go_wp2_with fail
  refine (HB.out _ G0.out).mono ?_
  rintro v w1 ⟨rfl, b1⟩
  have B1 := Lib.hid (B0.out.trans (b1.mono B0.out.size))
  clear b1
  go_wp2
  exact ⟨_, results_tmp rfl _ _ _, rfl, B1.out⟩
theorem do_none (g : Nat) (W : World) :
    Calls Try.prog 13 #[.pointer (some ⟨g, 0, none⟩), .nilFunc] W fun v W' => v = .returned (.bool false) ∧ Below W.heap.size W W' := by
  have hnf : ∀ w, (binOp .eql 1 .nilFunc .nilFunc).run Try.prog w = .ok (.bool true) w := fun _ => by kernel_rfl
  have B0 := Lib.hid (al (Below.refl W.heap.size W) (.cells #[.pointer (some ⟨g, 0, none⟩)] 30))
  go_enter_defers Try.func13, Try.ntmps13
  go_wp2
  exact ⟨_, results_tmp rfl _ _ _, rfl, B0.out⟩
theorem do_nil (W : World) (fn : FuncId) (caps : Array Value) :
    Calls Try.prog 13 #[.pointer none, .func (.func fn) #[] caps] W fun v W' => v = .returned (.bool false) ∧ Below W.heap.size W W' := by
  have hnf : ∀ w, (binOp .eql 1 (.func (.func fn) #[] caps) .nilFunc).run Try.prog w = .ok (.bool false) w := fun _ => by kernel_rfl
  have B0 := Lib.hid (al (Below.refl W.heap.size W) (.cells #[.pointer none] 30))
  have P0 := Lib.hid (heap_alloc_new W (.cells #[.pointer none] 30))
  have c0 := cell_of_row _ W.heap.size 0 _ _ _ P0.out
  have HB := Lib.hid (fun Z => blown_nil Z)
  go_enter_defers Try.func13, Try.ntmps13
  go_wp2_with fail
  refine (HB.out _).mono ?_
  rintro v w1 ⟨rfl, b1⟩
  have B1 := Lib.hid (B0.out.trans (b1.mono B0.out.size))
  clear b1
  go_wp2
  exact ⟨_, results_tmp rfl _ _ _, rfl, B1.out⟩
/-- The scratch fuse is as asked. -/
theorem landed : Spec FV TV where
  frame h _ hk := h.frame hk
  foot h j hj := by rw [(h.x j).1 hj]; exact ⟨h.lo, lt_of_heap h.box⟩
  lower h hl := ⟨Nat.le_trans hl h.lo, h.x, h.box⟩
  str := tv_str
  int := tv_int
  new := new_any
  caught h := (caught_m _ _ _ _ _ h.box).mono fun _ _ ⟨he, b⟩ => ⟨he, h.keep b⟩
  blown h := (blown_m _ _ _ _ _ h.box).mono fun _ _ ⟨he, b⟩ => ⟨he, h.keep b⟩
  last h := (last_m _ _ _ _ _ h.box).mono fun _ _ ⟨he, b⟩ => ⟨he, h.keep b⟩
  mend h := (mend_m _ _ _ _ _ h.box).mono fun _ _ ⟨he, hn, k⟩ => ⟨he, h.put k hn⟩
  refused fn caps h hc := (do_no _ _ _ _ _ fn caps h.box hc).mono fun _ _ ⟨he, b⟩ => ⟨he, h.keep b⟩
  nothing h := (do_none _ _).mono fun _ _ ⟨he, b⟩ => ⟨he, h.keep b⟩
  run fn caps R h hc he hw := do_run fn caps R h hc he hw
  do_nil fn caps W := do_nil W fn caps
  caught_nil := caught_nil
  blown_nil := blown_nil
  last_nil := last_nil
  mend_nil := mend_nil
end Go.Proofs.Ytjglgglolbkjlaa.FuseW
