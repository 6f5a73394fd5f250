/- The landed fuse: what a panic's value tells, and how it is caught. -/
import Derived.Test.YtjglgglolbkjlaaDoorSmall
import Derived.Test.YtjglgglolbkjlaaDoorStr1
import Derived.Test.YtjglgglolbkjlaaDoorRepl
import Derived.Test.YtjglgglolbkjlaaDoorProg
import Derived.Deep.RegionHeld3
import Derived.Deep.RegionLaw
import Derived.Deep.RegionWith
import Derived.Deep.AppendLies
import Derived.Deep.DeepCutAuto
import Derived.Deep.CutBlock
import Derived.OneCell
import Derived.Laws.Unary
import Derived.IntWalk
import Derived.Laws.Cover2
import Derived.Laws.Pointers
import Derived.Laws.NewBlocks
import Derived.WalkKit
import Derived.WalkLawsBesides
import Derived.Defers
import Derived.Recover
import Derived.Stop.Asserts
import Derived.Laws.Externs
namespace Go.Proofs.YtjglgglolbkjlaaDoor.FuseW
open Go.RowKit Shell
abbrev fbx (m c : Int) (t : ByteArray) : Obj := .cells #[.int .i64 m, .int .i64 c, .string t] 38 (0, 0)
theorem as_str (s : ByteArray) (xT : TypeId) (w : World) : (Instr.typeAssert (.iface 9 (.string s)) xT 9 true).run Tryd.prog w = .ok (.tuple #[.string s, .bool true]) w := by kernel_rfl
theorem as_int_str (n : Int) (xT : TypeId) (w : World) : (Instr.typeAssert (.iface 3 (.int .i64 n)) xT 9 true).run Tryd.prog w = .ok (.tuple #[.string ⟨#[]⟩, .bool false]) w := by kernel_rfl
theorem as_errno_str (n : Int) (xT : TypeId) (w : World) : (Instr.typeAssert (.iface 28 (.int .i64 n)) xT 9 true).run Tryd.prog w = .ok (.tuple #[.string ⟨#[]⟩, .bool false]) w := by kernel_rfl
theorem as_bounds_str (v : Value) (xT : TypeId) (w : World) : (Instr.typeAssert (.iface Tryd.prog.rt.boundsError v) xT 9 true).run Tryd.prog w = .ok (.tuple #[.string ⟨#[]⟩, .bool false]) w := by kernel_rfl
theorem as_int_err (v : Value) (xT : TypeId) (w : World) : (Instr.typeAssert (.iface 3 v) xT 51 true).run Tryd.prog w = .ok (.tuple #[.nilIface, .bool false]) w := run_typeAssert_lacksB Tryd.underlying51 (by kernel_rfl) (by kernel_rfl) v xT w
theorem as_errno_err (v : Value) (xT : TypeId) (w : World) : (Instr.typeAssert (.iface 28 v) xT 51 true).run Tryd.prog w = .ok (.tuple #[.iface 28 v, .bool true]) w := run_typeAssert_hasB Tryd.underlying51 (by kernel_rfl) v xT w
theorem as_bounds_err (v : Value) (xT : TypeId) (w : World) : (Instr.typeAssert (.iface Tryd.prog.rt.boundsError v) xT 51 true).run Tryd.prog w = .ok (.tuple #[.iface Tryd.prog.rt.boundsError v, .bool true]) w := run_typeAssert_hasB Tryd.underlying51 (by kernel_rfl) v xT w
/-- The cell of a text that is told. -/
abbrev sb (s : ByteArray) : Obj := .cells #[.string s] 9 (0, 0)
theorem cell1 {w : World} {j : Nat} {x0 : Value} {t : TypeId} {fr : Nat × Nat} (h : w.heap[j]? = some (.cells #[x0] t fr)) : w.cell? ⟨j, 0, none⟩ = some x0 := cell_of_row w j 0 _ _ _ h
theorem res_s {fn : Func} {p : Tmp} (h : fn.results = #[.cell p 9]) (tmps : Array Value) (w : World) (g : Nat) (x : ByteArray) (hp : tmps.getD p undef = .pointer (some ⟨g, 0, none⟩)) (hg : w.heap[g]? = some (sb x)) : (results fn tmps).run Tryd.prog w = .ok (.string x) w := by
  have hp' : tmps[p]?.getD undef = .pointer (some ⟨g, 0, none⟩) := by simpa using hp
  have hc := cell_of_row w g 0 _ _ _ hg
  simp [results, h, hp', asAddr, loadVar, hc, go_sem]
theorem tcatch_no (p : Nat) (W : World) : CallsD Tryd.prog 36 #[.pointer (some ⟨p, 0, none⟩)] .returning W fun e u' w' => e = .returned (.tuple #[]) ∧ u' = .returning ∧ w' = W := by
  refine callsD_of_wpS Tryd.func36 rfl fun c₀ cs hu => ?_
  apply wpS_seq
  apply wpS_region
  simp [wpOpsS, go_sem, recoverD, hu, Tryd.ntmps36, Exit.thenS]
  refine wpS_of_wp ?_
  rw [show (#[Value.pointer (some { block := p, off := 0 })] ++ ((Array.replicate 2 undef).setIfInBounds 0 Value.nilIface).setIfInBounds 1 (Value.bool false)) = #[Value.pointer (some { block := p, off := 0 }), .nilIface, .bool false] from rfl]
  go_wp2
  exact ⟨rfl, .returning, by cases c₀; simp_all, .tuple #[], results_none rfl _ _ _, rfl, rfl, rfl⟩
set_option maxHeartbeats 4000000 in
theorem told_str (s : ByteArray) (W : World) : Calls Tryd.prog 31 #[.iface 9 (.string s)] W fun v W' => v = .returned (.string s) ∧ Below W.heap.size W W' := by
  have a1 := as_str s
  have hmf : ∀ (fn : Fn) (first cap : Array Value) (w : World), (Instr.makeFunc fn first cap).run Tryd.prog w = .ok (.func fn first cap) w := fun _ _ _ _ => rfl
  have P0 := Lib.hid (heap_alloc_new W (sb ⟨#[]⟩))
  go_enter_defers Tryd.func31, Tryd.ntmps31
  go_wp2
  refine leaves_cons (f := 36) (args := #[.pointer (some ⟨W.heap.size, 0, none⟩)]) (by simp) (by simp [go_sem]) ?_
  refine (tcatch_no _ _).mono ?_
  rintro e u' w3 ⟨rfl, rfl, rfl⟩
  refine ⟨_, res_s rfl _ _ W.heap.size s rfl (heap_alloc_new W (sb s)), ?_⟩
  exact ⟨rfl, al (Below.refl W.heap.size W) (sb s)⟩
set_option maxHeartbeats 4000000 in
theorem told_int (n : Int) (W : World) : Calls Tryd.prog 31 #[.iface 3 (.int .i64 n)] W fun v W' => v = .returned (.string ⟨#[111, 116, 104, 101, 114]⟩) ∧ Below W.heap.size W W' := by
  have a1 := as_int_str n
  have a2 := as_int_err (.int .i64 n)
  have hmf : ∀ (fn : Fn) (first cap : Array Value) (w : World), (Instr.makeFunc fn first cap).run Tryd.prog w = .ok (.func fn first cap) w := fun _ _ _ _ => rfl
  have P0 := Lib.hid (heap_alloc_new W (sb ⟨#[]⟩))
  go_enter_defers Tryd.func31, Tryd.ntmps31
  go_wp2
  refine leaves_cons (f := 36) (args := #[.pointer (some ⟨W.heap.size, 0, none⟩)]) (by simp) (by simp [go_sem]) ?_
  refine (tcatch_no _ _).mono ?_
  rintro e u' w3 ⟨rfl, rfl, rfl⟩
  refine ⟨_, res_s rfl _ _ W.heap.size ⟨#[111, 116, 104, 101, 114]⟩ rfl (heap_alloc_new W (sb ⟨#[111, 116, 104, 101, 114]⟩)), ?_⟩
  exact ⟨rfl, al (Below.refl W.heap.size W) (sb ⟨#[111, 116, 104, 101, 114]⟩)⟩
theorem errno_method (n : Int) (k : Nat) (w : World) : (method (k + 1) 28 (.int .i64 n) "Error").run Tryd.prog w = .ok (10, .int .i64 n) w := by kernel_rfl
theorem bounds_method (v : Value) (k : Nat) (w : World) : (method (k + 1) 8 v "Error").run Tryd.prog w = .ok (58, v) w := by kernel_rfl
open Go.Extern.RuntimeError in
/-- The text of an index that a list hasn't: some text, that isn't empty. -/
theorem bounds_text (x y : Int) (s : Bool) (h : 0 ≤ x) (hx : x ≤ 9223372036854775807) (hy : 0 ≤ y ∧ y ≤ 9223372036854775807) : ∃ b : ByteArray, (0 < b.size ∧ b.size ≤ 1000000) ∧ ∀ w, (callFunc 58 #[.agg #[.int .i64 x, .int .i64 y, .bool s, .int .u8 0]]).run Tryd.prog w = .ok (.value (.string b)) w := by
  have h1 : (decide (x < 0)) = false := decide_eq_false (by omega)
  have e : Go.Extern.RuntimeError.boundsError #[.agg #[.int .i64 x, .int .i64 y, .bool s, .int .u8 0]] = (match (if (s && decide (x < 0)) = true then boundsNegErrorFmts else boundsErrorFmts)[(0 : Int).toNat]? with
    | some fmt => text ("runtime error: " ++ (fmt.replace "%x" (toString (if s then x else IntKind.u64.wrap x))).replace "%y" (toString y))
    | none => stuck "boundsError: no such code") := rfl
  rw [h1, Bool.and_false, if_neg (by decide)] at e
  obtain ⟨z, hz⟩ : ∃ z : String, ("index out of range [%x] with length %y".replace "%x" (toString (if s then x else IntKind.u64.wrap x))).replace "%y" (toString y) = z := ⟨_, rfl⟩
  have e2 : Go.Extern.RuntimeError.boundsError #[.agg #[.int .i64 x, .int .i64 y, .bool s, .int .u8 0]] = text ("runtime error: " ++ z) := by rw [e, ← hz]; rfl
  refine ⟨("runtime error: " ++ z).toUTF8, ?_, fun w => ?_⟩
  · have h2 : ("runtime error: " ++ z).toUTF8.size = 15 + z.utf8ByteSize := by rw [show ("runtime error: " ++ z).toUTF8.size = "runtime error: ".utf8ByteSize + z.utf8ByteSize by simp]; rfl
    have h3 := size_num (if s then x else IntKind.u64.wrap x) (by split <;> first | omega | (rw [IntKind.wrap_u64]; omega))
    have h4 := size_num y (by omega)
    have h5 := replace_size "index out of range [%x] with length %y" "%x" (toString (if s then x else IntKind.u64.wrap x)) (by decide)
    have h6 := replace_size ("index out of range [%x] with length %y".replace "%x" (toString (if s then x else IntKind.u64.wrap x))) "%y" (toString y) (by decide)
    rw [hz] at h6
    have h7 : "index out of range [%x] with length %y".utf8ByteSize = 38 := rfl
    rw [h7] at h5
    have h8 := Nat.mul_le_mul (Nat.le_trans h5 (Nat.mul_le_mul_left 38 (Nat.add_le_add_left h3 1))) (Nat.add_le_add_left h4 1)
    omega
  · rw [run_callFunc_extern Tryd.func58 (by kernel_rfl) (by kernel_rfl) (by kernel_rfl) (e := Go.Extern.RuntimeError.boundsError) (by kernel_rfl), e2]
    rfl
set_option maxHeartbeats 4000000 in
theorem told_bounds (x y : Int) (s : Bool) (h : 0 ≤ x) (hx : x ≤ 9223372036854775807) (hy : 0 ≤ y ∧ y ≤ 9223372036854775807) : ∃ b : ByteArray, (0 < b.size ∧ b.size ≤ 1000000) ∧ ∀ W, Calls Tryd.prog 31 #[.iface 8 (.agg #[.int .i64 x, .int .i64 y, .bool s, .int .u8 0])] W fun v W' => v = .returned (.string (⟨#[101, 114, 114, 111, 114, 32]⟩ ++ b)) ∧ Below W.heap.size W W' := by
  obtain ⟨b, hb, a4⟩ := bounds_text x y s h hx hy
  refine ⟨b, hb, fun W => ?_⟩
  have a1 : ∀ (v : Value) (xT : TypeId) (w : World), (Instr.typeAssert (.iface 8 v) xT 9 true).run Tryd.prog w = .ok (.tuple #[.string ⟨#[]⟩, .bool false]) w := as_bounds_str
  have a2 : ∀ (v : Value) (xT : TypeId) (w : World), (Instr.typeAssert (.iface 8 v) xT 51 true).run Tryd.prog w = .ok (.tuple #[.iface 8 v, .bool true]) w := as_bounds_err
  have a3 := bounds_method
  have hb1 : ¬ 9223372036854775807 < 6 + b.size := by omega
  have hmf : ∀ (fn : Fn) (first cap : Array Value) (w : World), (Instr.makeFunc fn first cap).run Tryd.prog w = .ok (.func fn first cap) w := fun _ _ _ _ => rfl
  have P0 := Lib.hid (heap_alloc_new W (sb ⟨#[]⟩))
  go_enter_defers Tryd.func31, Tryd.ntmps31
  go_wp2
  refine leaves_cons (f := 36) (args := #[.pointer (some ⟨W.heap.size, 0, none⟩)]) (by simp) (by simp [go_sem]) ?_
  refine (tcatch_no _ _).mono ?_
  rintro e u' w3 ⟨rfl, rfl, rfl⟩
  refine ⟨_, res_s rfl _ _ W.heap.size (⟨#[101, 114, 114, 111, 114, 32]⟩ ++ b) rfl (heap_alloc_new W (sb (⟨#[101, 114, 114, 111, 114, 32]⟩ ++ b))), ?_⟩
  exact ⟨rfl, al (Below.refl W.heap.size W) (sb (⟨#[101, 114, 114, 111, 114, 32]⟩ ++ b))⟩
/-- An error whose Error is such a text. -/
theorem told_errno (n : Int) (z : ByteArray) (hz : z.size ≤ 1000) (W : World) (KE : ∀ W1, Below W.heap.size W W1 → Calls Tryd.prog 10 #[.int .i64 n] W1 fun v W' => v = .returned (.string z) ∧ Below W1.heap.size W1 W') : Calls Tryd.prog 31 #[.iface 28 (.int .i64 n)] W fun v W' => v = .returned (.string (⟨#[101, 114, 114, 111, 114, 32]⟩ ++ z)) ∧ Below W.heap.size W W' := by
  have a1 := as_errno_str n
  have a2 := as_errno_err (.int .i64 n)
  have a3 := errno_method n
  have hb1 : ¬ 9223372036854775807 < 6 + z.size := by omega
  have hmf : ∀ (fn : Fn) (first cap : Array Value) (w : World), (Instr.makeFunc fn first cap).run Tryd.prog w = .ok (.func fn first cap) w := fun _ _ _ _ => rfl
  have B0 := Lib.hid (al (Below.refl W.heap.size W) (sb ⟨#[]⟩))
  have P0 := Lib.hid (heap_alloc_new W (sb ⟨#[]⟩))
  have HK := Lib.hid KE
  clear KE
  go_enter_defers Tryd.func31, Tryd.ntmps31
  go_wp2_with fail
  refine (HK.out _ B0.out).mono ?_
  rintro v w1 ⟨rfl, b1⟩
  have P1 := Lib.hid (row_below b1 P0.out)
  have B1 := Lib.hid (B0.out.trans (b1.mono B0.out.size))
  have c9 := cell1 P1.out
  have f9 := frozen_of_row w1 W.heap.size 0 _ _ P1.out
  clear b1
  go_wp2
  refine leaves_cons (f := 36) (args := #[.pointer (some ⟨W.heap.size, 0, none⟩)]) (by simp) (by simp [go_sem]) ?_
  refine (tcatch_no _ _).mono ?_
  rintro e u' w3 ⟨rfl, rfl, rfl⟩
  refine ⟨_, res_s rfl _ _ W.heap.size (⟨#[101, 114, 114, 111, 114, 32]⟩ ++ z) rfl (heap_setCell_same _ W.heap.size 0 _ _ _ P1.out), ?_⟩
  exact ⟨rfl, B1.out.trans ((kept1 _ W.heap.size 0 _).below (Nat.le_refl _) B1.out.size)⟩
set_option maxHeartbeats 4000000 in
/-- A panic is counted, and its text kept. -/
theorem note_any (g : Nat) (m c c2 : Int) (t t2 : ByteArray) (ty : TypeId) (v : Value) (W : World) (hg : W.heap[g]? = some (fbx m c t)) (hv : ∀ W1, Kept g W W1 → Calls Tryd.prog 31 #[.iface ty v] W1 fun e W' => e = .returned (.string t2) ∧ Below W1.heap.size W1 W') (e1 : IntKind.i64.wrap (c + 1) = c2) :
    Calls Tryd.prog 24 #[.pointer (some ⟨g, 0, none⟩), .iface ty v] W fun e w' => e = .returned (.tuple #[]) ∧ w'.heap[g]? = some (fbx m c2 t2) ∧ Kept g W w' := by
  obtain ⟨b0, b1, b2⟩ := cells3 hg
  obtain ⟨f0, f1, f2⟩ := frozen3 hg
  have G1 := Lib.hid (show (W.setCell ⟨g, 1, none⟩ (.int .i64 c2)).heap[g]? = some (fbx m c2 t) from heap_setCell_same W g 1 _ _ _ hg)
  have K1 := Lib.hid (kept1 W g 1 (.int .i64 c2))
  have HW := Lib.hid (hv _ K1.out)
  have h2 := cells3 G1.out
  obtain ⟨d0, d1, d2⟩ := h2
  clear hv hg
  go_enter Tryd.func24, Tryd.ntmps24
  go_wp2_with fail
  refine HW.out.mono ?_
  rintro e w2 ⟨rfl, k2⟩
  have G2 := Lib.hid (row_below k2 G1.out)
  have K2 := Lib.hid (K1.out.trans (Kept.of k2))
  clear b0 b1 b2 f0 f1 f2 d0 d1 d2 k2 HW
  obtain ⟨b0, b1, b2⟩ := cells3 G2.out
  obtain ⟨f0, f1, f2⟩ := frozen3 G2.out
  go_wp2
  go_end0
  exact ⟨rfl, heap_setCell_same w2 g 2 _ _ _ G2.out, K2.out.trans (kept1 w2 g 2 _)⟩
set_option maxHeartbeats 4000000 in
theorem catch_yes (p g : Nat) (m c c2 : Int) (t t2 : ByteArray) (ty : TypeId) (v : Value) (older : List PanicEntry) (W : World) (hp : W.heap[p]? = some (.cells #[.pointer (some ⟨g, 0, none⟩)] 23 (0, 0))) (hg : W.heap[g]? = some (fbx m c t)) (hv : ∀ W1, Kept g W W1 → Calls Tryd.prog 31 #[.iface ty v] W1 fun e W' => e = .returned (.string t2) ∧ Below W1.heap.size W1 W') (e1 : IntKind.i64.wrap (c + 1) = c2) :
    CallsD Tryd.prog 23 #[.pointer (some ⟨p, 0, none⟩)] (.panicking ({ v := .iface ty v, recovered := false } :: older)) W fun e u' w' =>
      e = .returned (.tuple #[]) ∧ u' = .panicking ({ v := .iface ty v, recovered := true } :: older) ∧ w'.heap[g]? = some (fbx m c2 t2) ∧ Kept g W w' := by
  have c0 := cell1 hp
  have HN := Lib.hid (note_any g m c c2 t t2 ty v W hg hv e1)
  clear hv hg hp e1
  refine callsD_of_wpS Tryd.func23 rfl fun c₀ cs hu => ?_
  apply wpS_seq
  apply wpS_region
  simp [wpOpsS, go_sem, recoverD, hu, Tryd.ntmps23, Exit.thenS]
  refine wpS_of_wp ?_
  rw [show (#[Value.pointer (some { block := p, off := 0 })] ++ ((Array.replicate 7 undef).setIfInBounds 1 (Value.iface ty v)).setIfInBounds 0 (Value.iface ty v)) = #[Value.pointer (some { block := p, off := 0 }), Value.iface ty v, Value.iface ty v, undef, undef, undef, undef, undef] from rfl]
  go_wp2_with fail
  refine HN.out.mono ?_
  rintro e w2 ⟨rfl, G2, K2⟩
  go_wp2
  exact ⟨rfl, _, rfl, .tuple #[], results_none rfl _ _ _, rfl, rfl, G2, K2⟩
end Go.Proofs.YtjglgglolbkjlaaDoor.FuseW
