/- New; an Align in memory, kept while the world goes on. -/
import Derived.Test.YtmagjekmlnpfpaaGreatAlignBJa
import Derived.Test.YtmagjekmlnpfpaaGreatConfZ
import Derived.Test.YtmagjekmlnpfpaaGreatConfHJa
namespace Go.Proofs.YtmagjekmlnpfpaaGreat.AlignW
open Go.RowKit Shell
open ConfW (Cfg CM CX chk chk_ok check_any btw_iff)
open FrameW (CV rightC)
open CrewW (mem)
/-- How far behind a cycle's beginning a frame is expected, and how far from that it may be. -/
def exC (c : Cfg) : Int := 2 * c.delay + c.window
def acC (c : Cfg) : Int := c.window + 2 * c.precision
theorem spans_ok {c : Cfg} (h : chk c = 0) : (1 ≤ c.cycle ∧ c.cycle ≤ 1073741824) ∧ (0 ≤ c.delay ∧ c.delay ≤ 1048576) ∧ (0 ≤ c.window ∧ c.window ≤ 1048576) ∧ 0 ≤ c.precision ∧ c.precision ≤ 1048576 := by
  have H := chk_ok h
  have s := H.2.2.1
  unfold ConfW.spansT at s
  rw [Bool.and_eq_true, Bool.and_eq_true, btw_iff, btw_iff, btw_iff] at s
  exact ⟨btw_iff.1 H.2.1, s.1.1, s.1.2, s.2⟩
theorem fit_of {c : Cfg} (h : chk c = 0) : Fit c.cycle (exC c) (acC c) := by
  have := spans_ok h
  unfold Fit exC acC
  omega
section
variable (c : Cfg) (D E L : Option Addr) (nd cd ne ce nl cl : Nat)
theorem new_bad (w : World) (h : CM w c D E L nd cd ne ce nl cl) (hz : chk c ≠ 0) :
    Calls Tryz.prog 85 #[.agg #[.int .i64 c.hosts, .int .i64 c.cycle, .int .i64 c.delay, .int .i64 c.window, .int .i64 c.precision, .slice D nd cd, .slice E ne ce, .slice L nl cl, .int .i64 c.queue]] w fun r w' => r = .returned (.tuple #[.pointer none, .int .i64 1]) ∧ Below w.heap.size w w' := by
  have HM := Lib.hid h
  have X := Lib.hid (CX.start (w0 := w) (c := c) (D := D) (E := E) (L := L) (nd := nd) (cd := cd) (ne := ne) (ce := ce) (nl := nl) (cl := cl))
  have K := Lib.hid (fun W (hW : CX w c D E L nd cd ne ce nl cl W) => check_any c D E L nd cd ne ce nl cl W (hW.mem HM.out))
  have e1 : (chk c != 0) = true := by rw [bne_iff_ne]; exact hz
  generalize chk c = k at *
  obtain ⟨-, a0, a1, a2, a3, a4, a5, a6, a7, a8⟩ := X.out.s
  clear h hz
  go_enter Tryz.func85, Tryz.ntmps85
  go_wp2_with (go_at_call 31; refine (K.out _ X.out).mono ?_; rintro r w1 ⟨rfl, b1⟩; have X1 := Lib.hid (X.out.next b1); clear b1)
  go_ret2
  exact ⟨rfl, X1.out.b⟩
theorem new_ok (w : World) (h : CM w c D E L nd cd ne ce nl cl) (hz : chk c = 0) :
    Calls Tryz.prog 85 #[.agg #[.int .i64 c.hosts, .int .i64 c.cycle, .int .i64 c.delay, .int .i64 c.window, .int .i64 c.precision, .slice D nd cd, .slice E ne ce, .slice L nl cl, .int .i64 c.queue]] w fun r w' => ∃ g, r = .returned (.tuple #[.pointer (some ⟨g, 0, none⟩), .int .i64 0]) ∧ w'.heap[g]? = some (abx c.cycle (exC c) (acC c) zB zC) ∧ w.heap.size ≤ g ∧ Below w.heap.size w w' := by
  have HM := Lib.hid h
  have X := Lib.hid (CX.start (w0 := w) (c := c) (D := D) (E := E) (L := L) (nd := nd) (cd := cd) (ne := ne) (ce := ce) (nl := nl) (cl := cl))
  have K := (fun W (hW : CX w c D E L nd cd ne ce nl cl W) => check_any c D E L nd cd ne ce nl cl W (hW.mem HM.out))
  rw [hz] at K
  have KH := Lib.hid K
  obtain ⟨hy, hd, hw, hp⟩ := spans_ok hz
  have w1 : wrap64 (2 * c.delay) = 2 * c.delay := by unfold wrap64; omega
  have w2 : wrap64 (2 * c.delay + c.window) = 2 * c.delay + c.window := by unfold wrap64; omega
  have w3 : wrap64 (2 * c.precision) = 2 * c.precision := by unfold wrap64; omega
  have w4 : wrap64 (c.window + 2 * c.precision) = c.window + 2 * c.precision := by unfold wrap64; omega
  obtain ⟨-, a0, a1, a2, a3, a4, a5, a6, a7, a8⟩ := X.out.s
  clear h hz hy hd hw hp K
  unfold exC acC
  go_enter Tryz.func85, Tryz.ntmps85
  go_wp2_with (go_at_call 31; refine (KH.out _ X.out).mono ?_; rintro r w5 ⟨rfl, b1⟩; have X1 := Lib.hid (X.out.next b1); clear b1 a0 a1 a2 a3 a4 a5 a6 a7 a8; obtain ⟨-, a0, a1, a2, a3, a4, a5, a6, a7, a8⟩ := X1.out.s)
  go_ret2
  have hn := heap_alloc_new w5 (abx c.cycle (wrap64 (wrap64 (2 * c.delay) + c.window)) (wrap64 (c.window + wrap64 (2 * c.precision))) zB zC)
  rw [w1, w3, w2, w4] at hn
  refine ⟨_, rfl, ?_, X1.out.b.size, al X1.out.b _⟩
  exact hn
end
/-- Is a frame in time? -/
def inT (y e a n t : Int) : Prop := e - a ≤ t - n * y ∧ t - n * y ≤ e + a
theorem by_in {w : World} {g : Nat} {y e a : Int} {B : Nat → Int} {C : Nat → Nat} (h : w.heap[g]? = some (abx y e a B C)) (hF : Fit y e a) (n t : Int) (T1 : okT n = true) (T2 : okT t = true) (hin : inT y e a n t) :
    ∀ W, Below w.heap.size w W → Calls Tryz.prog 145 #[.pointer (some ⟨g, 0, none⟩), .int .i64 n, .int .i64 t] W fun r w' => r = .returned (.tuple #[.int .i64 (e - (t - n * y)), .bool true]) ∧ Below W.heap.size W w' := by
  intro W b
  obtain ⟨h1, h2⟩ := hin
  have n1 := okT_iff.1 T1
  have t1 := okT_iff.1 T2
  have hF' := hF
  unfold Fit at hF'
  exact by_ok (row_below b h) hF n t n1 t1 (by omega) (by omega) (by omega)
theorem by_no {w : World} {g : Nat} {y e a : Int} {B : Nat → Int} {C : Nat → Nat} (h : w.heap[g]? = some (abx y e a B C)) (hF : Fit y e a) (n t : Int) (T1 : okT n = true) (T2 : okT t = true) (hin : ¬ inT y e a n t) :
    ∀ W, Below w.heap.size w W → Calls Tryz.prog 145 #[.pointer (some ⟨g, 0, none⟩), .int .i64 n, .int .i64 t] W fun r w' => r = .returned (.tuple #[.int .i64 0, .bool false]) ∧ Below W.heap.size W w' := by
  intro W b
  unfold inT at hin
  have n1 := okT_iff.1 T1
  have t1 := okT_iff.1 T2
  by_cases hp : n * y ≤ 9223372036854775807
  · exact by_out (row_below b h) hF n t n1 t1 hp (by omega)
  · exact by_far (row_below b h) n t n1 hF.1 (by omega)
/-- An Align in memory (box g), with other boxes L. -/
structure PA (w0 : World) (L : List (Nat × Obj)) (g : Nat) (y e a : Int) (B : Nat → Int) (C : Nat → Nat) (w : World) : Prop where
  st : Stay w0 L w
  box : w.heap[g]? = some (abx y e a B C)
  fit : Fit y e a
  low : ∀ i, C i < 64
  nul : C 0 = 0 → B 0 = 0
  g0 : w0.heap.size ≤ g
  gl : ∀ x ∈ L, x.1 ≠ g
section
variable {w0 : World} {L : List (Nat × Obj)} {g : Nat} {y e a : Int} {B : Nat → Int} {C : Nat → Nat} {w w1 : World}
theorem PA.next (P : PA w0 L g y e a B C w) (b : Below w.heap.size w w1) : PA w0 L g y e a B C w1 := ⟨P.st.next b, row_below b P.box, P.fit, P.low, P.nul, P.g0, P.gl⟩
theorem PA.drew (P : PA w0 L g y e a B C w) : PA w0 L g y e a B C w.drew := P.next (Below.refl _ _).drew
theorem PA.alloc (P : PA w0 L g y e a B C w) (o : Obj) : PA w0 ((w.heap.size, o) :: L) g y e a B C (w.alloc o) := by
  have lt := lt_of_heap P.box
  refine ⟨P.st.alloc o, row_below (al (Below.refl _ _) o) P.box, P.fit, P.low, P.nul, P.g0, fun x hx => ?_⟩
  rcases List.mem_cons.1 hx with rfl | hx
  · show w.heap.size ≠ g; omega
  · exact P.gl x hx
theorem PA.sub (P : PA w0 L g y e a B C w) {M : List (Nat × Obj)} (hM : ∀ x ∈ M, x ∈ L) : PA w0 M g y e a B C w := ⟨P.st.sub hM, P.box, P.fit, P.low, P.nul, P.g0, fun x hx => P.gl x (hM x hx)⟩
theorem PA.turn {B1 : Nat → Int} {C1 : Nat → Nat} (P : PA w0 L g y e a B C w) (k : Kept g w w1) (h : w1.heap[g]? = some (abx y e a B1 C1)) (low : ∀ i, C1 i < 64) (nul : C1 0 = 0 → B1 0 = 0) : PA w0 L g y e a B1 C1 w1 :=
  ⟨⟨P.st.b.trans (k.below P.g0 P.st.b.size), fun x hx => (k.block x.1 (P.gl x hx) (lt_of_heap (P.st.h x hx))).trans (P.st.h x hx)⟩, h, P.fit, low, nul, P.g0, P.gl⟩
/-- Of two the other one. -/
theorem PA.swap {h : Nat} {B1 : Nat → Int} {C1 : Nat → Nat} (P : PA w0 ((h, abx y e a B1 C1) :: L) g y e a B C w) (low : ∀ i, C1 i < 64) (nul : C1 0 = 0 → B1 0 = 0) (h0 : w0.heap.size ≤ h) (hL : ∀ x ∈ L, x.1 ≠ h) : PA w0 ((g, abx y e a B C) :: L) h y e a B1 C1 w :=
  ⟨P.st.drop.add P.box, P.st.at 0 rfl, P.fit, low, nul, h0, fun x hx => by
    rcases List.mem_cons.1 hx with rfl | hx
    · exact (P.gl _ List.mem_cons_self).symm
    · exact hL x hx⟩
theorem zC_low : ∀ i, zC i < 64 := fun _ => by show 0 < 64; decide
theorem pa_new {c : Cfg} (s : Stay w0 L w) (hz : chk c = 0) (h : w1.heap[g]? = some (abx c.cycle (exC c) (acC c) zB zC)) (hg : w.heap.size ≤ g) (b : Below w.heap.size w w1) : PA w0 L g c.cycle (exC c) (acC c) zB zC w1 :=
  ⟨s.next b, h, fit_of hz, zC_low, fun _ => rfl, Nat.le_trans s.b.size hg, fun x hx => by have := lt_of_heap (s.h x hx); omega⟩
theorem PA.exp (P : PA w0 L g y e a B C w) (n : Int) (hn : -9223372036854775808 ≤ n ∧ n ≤ 9223372036854775807) (v : Int) (hv : expV y e n = v) :
    Calls Tryz.prog 92 #[.pointer (some ⟨g, 0, none⟩), .int .i64 n] w fun r w' => r = .returned (.int .i64 v) ∧ PA w0 L g y e a B C w' ∧ Below w.heap.size w w' := by
  refine (expected_any P.box P.fit n hn).mono ?_
  rintro r w' ⟨rfl, b⟩
  exact ⟨by rw [hv], P.next b, b⟩
theorem PA.acc (P : PA w0 L g y e a B C w) : Calls Tryz.prog 93 #[.pointer (some ⟨g, 0, none⟩)] w fun r w' => r = .returned (.int .i64 a) ∧ w = w' := accept_any P.box
theorem PA.arg (P : PA w0 L g y e a B C w) (n t k f y2 c l : Int) (hc : 0 ≤ c) (h : okT n = false ∨ okT t = false ∨ okF k f y2 c l = false) :
    Calls Tryz.prog 88 #[.pointer (some ⟨g, 0, none⟩), .int .i64 n, .int .i64 t, CV k f y2 c l] w fun r w' => r = .returned (.int .i64 1) ∧ PA w0 L g y e a B C w' ∧ Below w.heap.size w w' := by
  refine (hear_arg _ n t k f y2 c l hc h w).mono ?_
  rintro r w' ⟨rfl, b⟩
  exact ⟨rfl, P.next b, b⟩
theorem PA.there (P : PA w0 L g y e a B C w) (n t k f y2 c l : Int) (i : Nat) (hi : i < 2) (hf : f = 6 + (i : Int)) (T1 : okT n = true) (T2 : okT t = true) (F : okF k f y2 c l = true) (h : C i ≠ 0) :
    Calls Tryz.prog 88 #[.pointer (some ⟨g, 0, none⟩), .int .i64 n, .int .i64 t, CV k f y2 c l] w fun r w' => r = .returned (.int .i64 7) ∧ PA w0 L g y e a B C w' ∧ Below w.heap.size w w' := by
  have H : Calls Tryz.prog 88 #[.pointer (some ⟨g, 0, none⟩), .int .i64 n, .int .i64 t, CV k f y2 c l] w fun r w' => r = .returned (.int .i64 7) ∧ Below w.heap.size w w' := by
    rcases (show i = 0 ∨ i = 1 by omega) with rfl | rfl
    · obtain rfl : f = 6 := by omega
      exact hear_there0 P.box n t k y2 c l T1 T2 F h
    · obtain rfl : f = 7 := by omega
      exact hear_there1 P.box n t k y2 c l T1 T2 F h
  refine H.mono ?_
  rintro r w' ⟨rfl, b⟩
  exact ⟨rfl, P.next b, b⟩
theorem PA.range (P : PA w0 L g y e a B C w) (n t k f y2 c l : Int) (i : Nat) (hi : i < 2) (hf : f = 6 + (i : Int)) (T1 : okT n = true) (T2 : okT t = true) (F : okF k f y2 c l = true) (h : C i = 0) (hr : y2 ≠ n ∨ ¬ inT y e a n t) :
    Calls Tryz.prog 88 #[.pointer (some ⟨g, 0, none⟩), .int .i64 n, .int .i64 t, CV k f y2 c l] w fun r w' => r = .returned (.int .i64 4) ∧ PA w0 L g y e a B C w' ∧ Below w.heap.size w w' := by
  obtain ⟨b, ok, BY, hok⟩ : ∃ (b : Int) (ok : Bool), (∀ W, Below w.heap.size w W → Calls Tryz.prog 145 #[.pointer (some ⟨g, 0, none⟩), .int .i64 n, .int .i64 t] W fun r w' => r = .returned (.tuple #[.int .i64 b, .bool ok]) ∧ Below W.heap.size W w') ∧ (y2 ≠ n ∨ ok = false) := by
    by_cases hin : inT y e a n t
    · exact ⟨_, true, by_in P.box P.fit n t T1 T2 hin, Or.inl (hr.resolve_right (fun h => h hin))⟩
    · exact ⟨_, false, by_no P.box P.fit n t T1 T2 hin, Or.inr rfl⟩
  have H : Calls Tryz.prog 88 #[.pointer (some ⟨g, 0, none⟩), .int .i64 n, .int .i64 t, CV k f y2 c l] w fun r w' => r = .returned (.int .i64 4) ∧ Below w.heap.size w w' := by
    rcases (show i = 0 ∨ i = 1 by omega) with rfl | rfl
    · obtain rfl : f = 6 := by omega
      exact hear_range0 P.box n t k y2 c l T1 T2 F h b ok BY hok
    · obtain rfl : f = 7 := by omega
      exact hear_range1 P.box n t k y2 c l T1 T2 F h b ok BY hok
  refine H.mono ?_
  rintro r w' ⟨rfl, b⟩
  exact ⟨rfl, P.next b, b⟩
/-- A frame is heard. -/
theorem PA.hear (P : PA w0 L g y e a B C w) (n t k f y2 c l : Int) (i : Nat) (hi : i < 2) (hf : f = 6 + (i : Int)) (T1 : okT n = true) (T2 : okT t = true) (F : okF k f y2 c l = true) (h : C i = 0) (hin : inT y e a n t) (hy : y2 = n) (cn : Nat) (hcn : c = (cn : Int)) (v : Int) (hv : e - (t - n * y) = v) :
    Calls Tryz.prog 88 #[.pointer (some ⟨g, 0, none⟩), .int .i64 n, .int .i64 t, CV k f y2 c l] w fun r w' => r = .returned (.int .i64 0) ∧ PA w0 L g y e a (upd B i v) (upd C i cn) w' ∧ Kept g w w' := by
  have BY := by_in P.box P.fit n t T1 T2 hin
  rw [hv] at BY
  have hF := okF_iff.1 F
  have hr := hF.1
  unfold rightC at hr
  have low : ∀ j, upd C i cn j < 64 := fun j => by
    unfold upd
    split
    · omega
    · exact P.low j
  have nul : upd C i cn 0 = 0 → upd B i v 0 = 0 := by
    unfold upd
    by_cases h0 : 0 = i
    · rw [if_pos h0, if_pos h0]
      intro hh
      exfalso
      exact hF.2.2.2 (by rw [hcn, hh]; rfl)
    · rw [if_neg h0, if_neg h0]
      exact P.nul
  have H : Calls Tryz.prog 88 #[.pointer (some ⟨g, 0, none⟩), .int .i64 n, .int .i64 t, CV k f y2 c l] w fun r w' => r = .returned (.int .i64 0) ∧ w'.heap[g]? = some (abx y e a (upd B i v) (upd C i cn)) ∧ Kept g w w' := by
    rcases (show i = 0 ∨ i = 1 by omega) with rfl | rfl
    · obtain rfl : f = 6 := by omega
      exact hear_ok0 P.box n t k y2 c l T1 T2 F h v BY cn hcn hy
    · obtain rfl : f = 7 := by omega
      exact hear_ok1 P.box n t k y2 c l T1 T2 F h v BY cn hcn hy
  refine H.mono ?_
  rintro r w' ⟨rfl, hb, kp⟩
  exact ⟨rfl, P.turn kp hb low nul, kp⟩
theorem PA.close (P : PA w0 L g y e a B C w) (b : Int) (c n : Nat) (hb : bsB B C = b) (hc : bsC C = c) (hn : hrd C = n) :
    Calls Tryz.prog 90 #[.pointer (some ⟨g, 0, none⟩)] w fun r w' => r = .returned (.tuple #[.int .i64 b, .int .u32 (c : Int), .int .i64 (n : Int)]) ∧ PA w0 L g y e a zB zC w' ∧ Kept g w w' := by
  refine (close_any P.box (P.low 0) (P.low 1) P.nul).mono ?_
  rintro r w' ⟨rfl, h, kp⟩
  exact ⟨by rw [hb, hc, hn], P.turn kp h zC_low (fun _ => rfl), kp⟩
end
end Go.Proofs.YtmagjekmlnpfpaaGreat.AlignW


