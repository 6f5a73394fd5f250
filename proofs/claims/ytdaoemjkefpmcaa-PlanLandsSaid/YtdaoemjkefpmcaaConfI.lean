/- Walks: the functions that Check hands over, made; what they tell. -/
import Derived.Test.YtdaoemjkefpmcaaConfH
namespace Go.Proofs.Ytdaoemjkefpmcaa.ConfW
open Go.RowKit Shell
set_option maxHeartbeats 1000000 in
theorem one_sender (a b : R4) (w : World) : Calls Try.prog 64 #[.agg #[.int .i64 a.a, .int .u32 a.b, .int .i64 a.c, .int .i64 a.d], .agg #[.int .i64 b.a, .int .u32 b.b, .int .i64 b.c, .int .i64 b.d]] w fun r w' => r = .returned (.bool (decide (a.a = b.a))) ∧ Below w.heap.size w w' := by
  have X := Lib.hid (al (al (Below.refl w.heap.size w) (Obj.cells #[.int .i64 a.a, .int .u32 a.b, .int .i64 a.c, .int .i64 a.d] 40)) (Obj.cells #[.int .i64 b.a, .int .u32 b.b, .int .i64 b.c, .int .i64 b.d] 40))
  go_enter Try.func64, Try.ntmps64
  go_wp2
  go_ret
  exact ⟨rfl, X.out⟩
set_option maxHeartbeats 1000000 in
theorem phase_any (a : R4) (w : World) : Calls Try.prog 65 #[.agg #[.int .i64 a.a, .int .u32 a.b, .int .i64 a.c, .int .i64 a.d]] w fun r w' => r = .returned (.int .i64 a.c) ∧ Below w.heap.size w w' := by
  have X := Lib.hid (al (Below.refl w.heap.size w) (Obj.cells #[.int .i64 a.a, .int .u32 a.b, .int .i64 a.c, .int .i64 a.d] 40))
  go_enter Try.func65, Try.ntmps65
  go_wp2
  go_ret
  exact ⟨rfl, X.out⟩
set_option maxHeartbeats 1000000 in
theorem one_receiver (a b : R4) (w : World) (ha : a.b < 4294967296) (hb : b.b < 4294967296) : Calls Try.prog 67 #[.agg #[.int .i64 a.a, .int .u32 a.b, .int .i64 a.c, .int .i64 a.d], .agg #[.int .i64 b.a, .int .u32 b.b, .int .i64 b.c, .int .i64 b.d]] w fun r w' => r = .returned (.bool (decide (a.b &&& b.b ≠ 0))) ∧ Below w.heap.size w w' := by
  have X := Lib.hid (al (al (Below.refl w.heap.size w) (Obj.cells #[.int .i64 a.a, .int .u32 a.b, .int .i64 a.c, .int .i64 a.d] 40)) (Obj.cells #[.int .i64 b.a, .int .u32 b.b, .int .i64 b.c, .int .i64 b.d] 40))
  have HU := Lib.hid (u32_and_nat a.b b.b ha hb)
  go_enter Try.func67, Try.ntmps67
  go_wp2
  go_ret
  refine ⟨congrArg (fun z => Ending.returned (.bool z)) ?_, X.out⟩
  rw [HU.out, Bool.eq_iff_iff, bne_iff_ne, decide_eq_true_eq]
  omega
set_option maxHeartbeats 1000000 in
theorem forward_fn (g : Nat) (c : Cfg) (D E L : Option Addr) (nd cd ne ce nl cl : Nat) (a : R4) (w : World) (ha : a.b < 4294967296) (hg : w.heap[g]? = some (Obj.cells #[.int .i64 c.hosts, .int .i64 c.cycle, .int .i64 c.delay, .int .i64 c.window, .int .i64 c.precision, .slice D nd cd, .slice E ne ce, .slice L nl cl, .int .i64 c.queue] 26)) : Calls Try.prog 68 #[.agg #[.int .i64 a.a, .int .u32 a.b, .int .i64 a.c, .int .i64 a.d], .pointer (some ⟨g, 0, none⟩)] w fun r w' => r = .returned (.int .i64 (fwd c a)) ∧ Below w.heap.size w w' := by
  have X := Lib.hid (al (Below.refl w.heap.size w) (Obj.cells #[.int .i64 a.a, .int .u32 a.b, .int .i64 a.c, .int .i64 a.d] 40))
  have H1 := fun W => forward_any c D E L nd cd ne ce nl cl a W ha
  have hg2 : (w.alloc (Obj.cells #[.int .i64 a.a, .int .u32 a.b, .int .i64 a.c, .int .i64 a.d] 40)).heap[g]? = some (Obj.cells #[.int .i64 c.hosts, .int .i64 c.cycle, .int .i64 c.delay, .int .i64 c.window, .int .i64 c.precision, .slice D nd cd, .slice E ne ce, .slice L nl cl, .int .i64 c.queue] 26) := row_below (al (Below.refl _ _) _) hg
  have a0 := box_cell (i := 0) hg2 rfl
  have a1 := box_cell (i := 1) hg2 rfl
  have a2 := box_cell (i := 2) hg2 rfl
  have a3 := box_cell (i := 3) hg2 rfl
  have a4 := box_cell (i := 4) hg2 rfl
  have a5 := box_cell (i := 5) hg2 rfl
  have a6 := box_cell (i := 6) hg2 rfl
  have a7 := box_cell (i := 7) hg2 rfl
  have a8 := box_cell (i := 8) hg2 rfl
  clear hg hg2
  generalize fwd c a = f at *
  go_enter Try.func68, Try.ntmps68
  go_wp2_with fail
  refine (H1 _).mono ?_
  rintro r w9 ⟨rfl, hb⟩
  have X9 := Lib.hid (X.out.trans (hb.mono X.out.size))
  clear hb
  go_wp2
  go_ret
  exact ⟨rfl, X9.out⟩
/-- Three blocks of one cell. -/
theorem three_cells (w : World) (x y z : Value) (s t u : TypeId) :
    (((w.alloc (.cells #[x] s)).alloc (.cells #[y] t)).alloc (.cells #[z] u)).cell? ⟨w.heap.size, 0, none⟩ = some x ∧
    (((w.alloc (.cells #[x] s)).alloc (.cells #[y] t)).alloc (.cells #[z] u)).cell? ⟨w.heap.size + 1, 0, none⟩ = some y ∧
    (((w.alloc (.cells #[x] s)).alloc (.cells #[y] t)).alloc (.cells #[z] u)).cell? ⟨w.heap.size + 1 + 1, 0, none⟩ = some z := by
  have h1 : (w.alloc (.cells #[x] s)).heap[w.heap.size]? = some (.cells #[x] s) := heap_alloc_new w _
  have h2 : ((w.alloc (.cells #[x] s)).alloc (.cells #[y] t)).heap[w.heap.size + 1]? = some (.cells #[y] t) := by
    have h := heap_alloc_new (w.alloc (.cells #[x] s)) (.cells #[y] t)
    rwa [show (w.alloc (.cells #[x] s)).heap.size = w.heap.size + 1 by simp] at h
  have h3 := third_new w (.cells #[x] s) (.cells #[y] t) (.cells #[z] u)
  exact ⟨box_cell (row_below (al (Below.refl _ _) _) (row_below (al (Below.refl _ _) _) h1)) rfl, box_cell (row_below (al (Below.refl _ _) _) h2) rfl, box_cell h3 rfl⟩
set_option maxHeartbeats 1000000 in
theorem together_any (ks kb : Nat) (ls lb : Array Value) (w : World) : Calls Try.prog 66 #[.func (.func ks) #[] ls, .func (.func kb) #[] lb] w fun r w' =>
    r = .returned (.func (.func 72) #[] #[.pointer (some ⟨w.heap.size, 0, none⟩), .pointer (some ⟨w.heap.size + 1, 0, none⟩), .pointer (some ⟨w.heap.size + 1 + 1, 0, none⟩)]) ∧ Below w.heap.size w w' ∧
    w'.cell? ⟨w.heap.size, 0, none⟩ = some (.func (.func ks) #[] ls) ∧ w'.cell? ⟨w.heap.size + 1, 0, none⟩ = some (.func (.func kb) #[] lb) ∧
    w'.cell? ⟨w.heap.size + 1 + 1, 0, none⟩ = some (.func (.func 71) #[] #[.pointer (some ⟨w.heap.size + 1, 0, none⟩)]) := by
  have hmf : ∀ (fn : Fn) (first cap : Array Value) (w : World), (Instr.makeFunc fn first cap).run Try.prog w = .ok (.func fn first cap) w := fun _ _ _ _ => rfl
  have sx : ∀ (W : World) (a : Addr) (m : Mode), Sem.run Try.prog (store a (.func (.func 71) #[] #[.pointer (some ⟨w.heap.size + 1, 0, none⟩)]) m) W = stored Try.prog W a (.func (.func 71) #[] #[.pointer (some ⟨w.heap.size + 1, 0, none⟩)]) m := fun W a m => run_store _ W a _ m rfl
  go_enter Try.func66, Try.ntmps66
  go_wp2
  go_ret
  refine ⟨rfl, al (al (al (Below.refl _ _) _) _) _, ?_⟩
  exact three_cells w _ _ _ _ _ _
theorem row_below2 {w w1 : World} (b : Below w.heap.size w w1) {g : Nat} {o : Obj} (h : w.heap[g]? = some o) : w1.heap[g]? = some o := row_below b h
theorem FnS.mono {w w1 : World} {ks : Nat} {ls : Array Value} {l : List R4} {sh : R4 → R4 → Bool} (h : FnS w ks ls l sh) (b : Below w.heap.size w w1) : FnS w1 ks ls l sh :=
  ⟨h.ent, fun a b2 W ha hb hW => h.call a b2 W ha hb (b.trans (hW.mono b.size))⟩
theorem small_i64 {x : Int} (h1 : 0 ≤ x) (h2 : x ≤ 1073741824) : -1152921504606846976 ≤ x ∧ x ≤ 1152921504606846976 := by omega
theorem fwd_bound (c : Cfg) (e : R4) : -1152921504606846976 ≤ fwd c e ∧ fwd c e ≤ 1152921504606846976 := by
  unfold fwd
  split
  · rename_i h
    obtain ⟨h1, -, h2, h3⟩ := placed_iff.1 h
    have h4 := spansT_iff.1 (spans_iff.1 h1).2
    have h5 := tim_pos e.d
    omega
  · omega
set_option maxHeartbeats 1000000 in
theorem sent_any (l : List R4) (w : World) (hl : ∀ e ∈ l, 0 ≤ e.c ∧ e.c ≤ 1073741824) : Calls Try.prog 52 #[] w fun r w' =>
    ∃ lf, r = .returned (.func (.func 72) #[] lf) ∧ FnS w' 72 lf l snd ∧ Below w.heap.size w w' := by
  have H1 := Lib.hid (fun W => together_any 64 65 #[] #[] W)
  have HL := Lib.hid hl
  clear hl
  go_enter Try.func52, Try.ntmps52
  go_wp2_with fail
  refine (H1.out _).mono ?_
  rintro r w1 ⟨rfl, hb, h1, h2, h3⟩
  have B := Lib.hid hb
  have HF := Lib.hid (show FnS w1 72 #[.pointer (some ⟨w.heap.size, 0, none⟩), .pointer (some ⟨w.heap.size + 1, 0, none⟩), .pointer (some ⟨w.heap.size + 1 + 1, 0, none⟩)] l snd from
    ⟨ent68, fun a b W ha hbb hW => by
      have KS : FnS w1 64 #[] l (fun a b => decide (a.a = b.a)) := ⟨ent57, fun a b W _ _ _ => one_sender a b W⟩
      have KI : FnI w1 65 #[] l (fun a => a.c) := ⟨ent58, fun a W _ _ => phase_any a W, fun a ha => (small_i64 (HL.out a ha).1 (HL.out a ha).2).1, fun a ha => (small_i64 (HL.out a ha).1 (HL.out a ha).2).2⟩
      exact together2_any w.heap.size (w.heap.size + 1) (w.heap.size + 1 + 1) _ _ _ _ l _ _ w1 W KS KI h1 h2 h3 hW a b ha hbb⟩)
  clear hb h1 h2 h3
  go_wp2
  go_ret
  exact ⟨_, rfl, HF.out, B.out⟩
set_option maxHeartbeats 1000000 in
theorem forwarded_any (c : Cfg) (D E L : Option Addr) (nd cd ne ce nl cl : Nat) (l : List R4) (w : World) (hl : ∀ e ∈ l, e.b < 4294967296) : Calls Try.prog 53 #[.agg #[.int .i64 c.hosts, .int .i64 c.cycle, .int .i64 c.delay, .int .i64 c.window, .int .i64 c.precision, .slice D nd cd, .slice E ne ce, .slice L nl cl, .int .i64 c.queue]] w fun r w' =>
    ∃ lf, r = .returned (.func (.func 72) #[] lf) ∧ FnS w' 72 lf l (rcv c) ∧ Below w.heap.size w w' := by
  have H1 := Lib.hid (fun W => together_any 67 68 #[] #[.pointer (some ⟨w.heap.size, 0, none⟩)] W)
  have HL := Lib.hid hl
  have hmf : ∀ (fn : Fn) (first cap : Array Value) (w : World), (Instr.makeFunc fn first cap).run Try.prog w = .ok (.func fn first cap) w := fun _ _ _ _ => rfl
  clear hl
  have X := Lib.hid (CX.start (w0 := w) (c := c) (D := D) (E := E) (L := L) (nd := nd) (cd := cd) (ne := ne) (ce := ce) (nl := nl) (cl := cl))
  go_enter Try.func53, Try.ntmps53
  go_wp2_with fail
  refine (H1.out _).mono ?_
  rintro r w1 ⟨rfl, hb, h1, h2, h3⟩
  have X1 := Lib.hid (X.out.next hb)
  generalize (w.alloc (Obj.cells #[.int .i64 c.hosts, .int .i64 c.cycle, .int .i64 c.delay, .int .i64 c.window, .int .i64 c.precision, .slice D nd cd, .slice E ne ce, .slice L nl cl, .int .i64 c.queue] 26)).heap.size = n at *
  have HF := Lib.hid (show FnS w1 72 #[.pointer (some ⟨n, 0, none⟩), .pointer (some ⟨n + 1, 0, none⟩), .pointer (some ⟨n + 1 + 1, 0, none⟩)] l (rcv c) from
    ⟨ent68, fun a b W ha hbb hW => by
      have KS : FnS w1 67 #[] l (fun a b => decide (a.b &&& b.b ≠ 0)) := ⟨ent60, fun a b W ha hb _ => one_receiver a b W (HL.out a ha) (HL.out b hb)⟩
      have KI : FnI w1 68 #[.pointer (some ⟨w.heap.size, 0, none⟩)] l (fun a => fwd c a) := ⟨ent61, fun a W ha hW => forward_fn w.heap.size c D E L nd cd ne ce nl cl a W (HL.out a ha) (row_below2 hW X1.out.x), fun a _ => (fwd_bound c a).1, fun a _ => (fwd_bound c a).2⟩
      exact together2_any n (n + 1) (n + 1 + 1) _ _ _ _ l _ _ w1 W KS KI h1 h2 h3 hW a b ha hbb⟩)
  clear h1 h2 h3
  go_wp2
  go_ret
  exact ⟨_, rfl, HF.out, X1.out.b⟩
end Go.Proofs.Ytdaoemjkefpmcaa.ConfW

