/- A collection in memory, kept while the world goes on: what each call tells of it, and what it leaves. -/
import Derived.Test.YtpjaijibkjmgiaaCompE
import Derived.Test.YtpjaijibkjmgiaaCompG
import Derived.Test.YtpjaijibkjmgiaaCompH
namespace Go.Proofs.Ytpjaijibkjmgiaa.CompW
open Go.RowKit Shell
open CrewW (only has of mem mem_len)
open FrameW (CV rightC)
open MeanW (halfAt tolK)
theorem sS_nil : sS [] = 0 := by decide +kernel
theorem upd_mem {S : List Fr} {R : Nat → Int} {g : Fr → Int} {lo hi : Int} (h : ∀ x ∈ S, lo ≤ g x ∧ g x ≤ hi) (h0 : ∀ k, lo ≤ R k ∧ R k ≤ hi) : ∀ k, lo ≤ fold g S R k ∧ fold g S R k ≤ hi := by
  induction S generalizing R with
  | nil => exact h0
  | cons x S ih =>
    refine ih (fun y hy => h y (List.mem_cons_of_mem _ hy)) (fun k => ?_)
    show lo ≤ upd R x.f (g x) k ∧ upd R x.f (g x) k ≤ hi
    unfold upd
    split
    · exact h x List.mem_cons_self
    · exact h0 k
theorem Ok.reads {d : Int} {S : List Fr} (h : Ok d S) (hd : 0 ≤ d ∧ d ≤ 1048576) : ∀ k, 0 ≤ sR S k ∧ sR S k ≤ 1048576 :=
  upd_mem (fun x hx => by have := h.t x hx; omega) (fun k => by unfold zero; omega)
/-- A collection in memory (box g), with other boxes L. -/
structure PC (w0 : World) (L : List (Nat × Obj)) (g : Nat) (d : Int) (S : List Fr) (w : World) : Prop where
  st : Stay w0 L w
  box : w.heap[g]? = some (pbx d (sB S) (sS S) (sR S) (sC S))
  ok : Ok d S
  hd : 0 ≤ d ∧ d ≤ 1048576
  g0 : w0.heap.size ≤ g
  gl : ∀ x ∈ L, x.1 ≠ g
section
variable {w0 : World} {L : List (Nat × Obj)} {g : Nat} {d : Int} {S : List Fr} {w w1 : World}
theorem PC.next (P : PC w0 L g d S w) (b : Below w.heap.size w w1) : PC w0 L g d S w1 := ⟨P.st.next b, row_below b P.box, P.ok, P.hd, P.g0, P.gl⟩
theorem PC.drew (P : PC w0 L g d S w) : PC w0 L g d S w.drew := P.next (Below.refl _ _).drew
theorem PC.alloc (P : PC w0 L g d S w) (o : Obj) : PC w0 ((w.heap.size, o) :: L) g d S (w.alloc o) := by
  have lt := lt_of_heap P.box
  refine ⟨P.st.alloc o, row_below (al (Below.refl _ _) o) P.box, P.ok, P.hd, P.g0, fun x hx => ?_⟩
  rcases List.mem_cons.1 hx with rfl | hx
  · show w.heap.size ≠ g; omega
  · exact P.gl x hx
theorem PC.sub (P : PC w0 L g d S w) {M : List (Nat × Obj)} (hM : ∀ x ∈ M, x ∈ L) : PC w0 M g d S w := ⟨P.st.sub hM, P.box, P.ok, P.hd, P.g0, fun x hx => P.gl x (hM x hx)⟩
theorem PC.turn {S1 : List Fr} (P : PC w0 L g d S w) (k : Kept g w w1) (h : w1.heap[g]? = some (pbx d (sB S1) (sS S1) (sR S1) (sC S1))) (ok : Ok d S1) : PC w0 L g d S1 w1 :=
  ⟨⟨P.st.b.trans (k.below P.g0 P.st.b.size), fun x hx => (k.block x.1 (P.gl x hx) (lt_of_heap (P.st.h x hx))).trans (P.st.h x hx)⟩, h, ok, P.hd, P.g0, P.gl⟩
/-- The row of one's own beside it: another block has turned. -/
theorem PC.rest (P : PC w0 L g d S w) {u u' : Value} (s : Step w u w1 u') (hu : u.ownBlock ≠ some g) (hb : ∀ k, u.ownBlock = some k → w0.heap.size ≤ k) (hL : ∀ x ∈ L, u.ownBlock ≠ some x.1) : PC w0 L g d S w1 :=
  ⟨⟨P.st.b.trans ⟨s.g.os, s.g.tape, s.g.output, s.g.size, fun k hk => s.g.block k (Nat.lt_of_lt_of_le hk P.st.b.size) (fun e => by have := hb k e.symm; omega)⟩, fun x hx => (s.g.block x.1 (lt_of_heap (P.st.h x hx)) (fun e => hL x hx e.symm)).trans (P.st.h x hx)⟩,
    (s.g.block g (lt_of_heap P.box) (fun e => hu e.symm)).trans P.box, P.ok, P.hd, P.g0, P.gl⟩
theorem pc_new {w0 : World} {L : List (Nat × Obj)} {d : Int} {w w1 : World} (s : Stay w0 L w) (hd : okW d = true) (h : w1.heap[w.heap.size]? = some (pbx d 0 0 zero zero)) (b : Below w.heap.size w w1) : PC w0 L w.heap.size d [] w1 :=
  ⟨s.next b, by rw [sS_nil]; exact h, Ok.nil d, okW_iff.1 hd, s.b.size, fun x hx => by have := lt_of_heap (s.h x hx); omega⟩
theorem PC.base (P : PC w0 L g d S w) (hn : S ≠ []) : -1125899906842624 ≤ sB S ∧ sB S ≤ 1125899906842624 := by
  cases S with
  | nil => exact absurd rfl hn
  | cons x S => have := P.ok.t x List.mem_cons_self; exact ⟨this.1, this.2.1⟩
/-- A frame is taken. -/
theorem PC.put (P : PC w0 L g d S w) (t : Int) (f : Nat) (y c l : Int) (hr : rightC 1 f y c l) (hf : f < 6) (ht : -1125899906842624 ≤ t ∧ t ≤ 1125899906842624) (hb : S = [] ∨ (sB S ≤ t ∧ t ≤ sB S + d)) (ho : ¬ ∃ z ∈ S, z.f = f) :
    Calls Try.prog 11 #[.pointer (some ⟨g, 0, none⟩), .int .i64 t, CV 1 f y c l] w fun e w' => e = .returned (.tuple #[.int .i64 (sB (S ++ [⟨t, f, y, c, l⟩]) + d), .int .i64 0]) ∧ PC w0 L g d (S ++ [⟨t, f, y, c, l⟩]) w' ∧ Kept g w w' := by
  have hc : 0 ≤ c := by have := hr; unfold rightC at this; omega
  have hy : 0 ≤ y ∧ y ≤ 1125899906842624 := by have := hr; unfold rightC at this; omega
  have hh : okH 1 f y c l = true := okH_iff.2 ⟨hr, rfl, by omega⟩
  by_cases hn : S = []
  · subst hn
    have hbx := P.box
    rw [sS_nil] at hbx
    refine (add_new hbx P.hd t 1 f y c l hc (okL_iff.2 ht) hh hf).mono ?_
    rintro e w' ⟨rfl, h, k⟩
    refine ⟨rfl, P.turn k ?_ (Ok.one' (x := ⟨t, f, y, c, l⟩) P.hd.1 hf ht hy), k⟩
    rw [List.nil_append, sR_one, show sS [⟨t, f, y, c, l⟩] = 0 ||| only (f : Int) by rw [← sS_nil]; exact sS_snoc [] _]
    exact h
  · have hb := hb.resolve_left hn
    have hs : has (sS S) (f : Int) = false := by rw [has_sS S f hf]; exact decide_eq_false ho
    refine (add_in P.box (sS_pos hn P.ok.f) (sS_lt S) (P.base hn) P.hd t 1 f y c l hc (okL_iff.2 ht) hh (by omega) (by omega) hs hf).mono ?_
    rintro e w' ⟨rfl, h, k⟩
    have e2 := sB_snoc hn (⟨t, f, y, c, l⟩ : Fr)
    refine ⟨by rw [e2], P.turn k ?_ (P.ok.snoc hn hf ht hb hy ho), k⟩
    rw [e2, sS_snoc, sR_snoc hn, sC_snoc]
    exact h
theorem PC.no_arg (P : PC w0 L g d S w) (t k f y c l : Int) (hc : 0 ≤ c) (h : okL t = false ∨ okH k f y c l = false) :
    Calls Try.prog 11 #[.pointer (some ⟨g, 0, none⟩), .int .i64 t, CV k f y c l] w fun e w' => e = .returned (.tuple #[.int .i64 0, .int .i64 1]) ∧ PC w0 L g d S w' ∧ Below w.heap.size w w' := by
  refine (add_arg ⟨g, 0, none⟩ t k f y c l hc h w).mono ?_
  rintro e w' ⟨rfl, b⟩
  exact ⟨rfl, P.next b, b⟩
theorem PC.no_range (P : PC w0 L g d S w) (hn : S ≠ []) (t k f y c l : Int) (hc : 0 ≤ c) (ht : okL t = true) (hh : okH k f y c l = true) (hr : t < sB S ∨ sB S + d < t) :
    Calls Try.prog 11 #[.pointer (some ⟨g, 0, none⟩), .int .i64 t, CV k f y c l] w fun e w' => e = .returned (.tuple #[.int .i64 0, .int .i64 4]) ∧ PC w0 L g d S w' ∧ Below w.heap.size w w' := by
  by_cases h1 : t < sB S
  · refine (add_low P.box (sS_pos hn P.ok.f) (P.base hn) P.hd t k f y c l hc ht hh h1).mono ?_
    rintro e w' ⟨rfl, b⟩
    exact ⟨rfl, P.next b, b⟩
  · refine (add_high P.box (sS_pos hn P.ok.f) (P.base hn) P.hd t k f y c l hc ht hh h1 (by omega)).mono ?_
    rintro e w' ⟨rfl, b⟩
    exact ⟨rfl, P.next b, b⟩
theorem PC.no_there (P : PC w0 L g d S w) (hn : S ≠ []) (t k f y c l : Int) (hc : 0 ≤ c) (ht : okL t = true) (hh : okH k f y c l = true) (hr : ¬ (t < sB S ∨ sB S + d < t)) (hf : ∃ z ∈ S, (z.f : Int) = f) :
    Calls Try.prog 11 #[.pointer (some ⟨g, 0, none⟩), .int .i64 t, CV k f y c l] w fun e w' => e = .returned (.tuple #[.int .i64 0, .int .i64 7]) ∧ PC w0 L g d S w' ∧ Below w.heap.size w w' := by
  have hs : has (sS S) f = true := by
    obtain ⟨z, hz, e⟩ := hf
    rw [← e, has_sS S z.f (P.ok.f z hz)]
    exact decide_eq_true ⟨z, hz, rfl⟩
  refine (add_there P.box (sS_pos hn P.ok.f) (sS_lt S) (P.base hn) P.hd t k f y c l hc ht hh (by omega) (by omega) hs).mono ?_
  rintro e w' ⟨rfl, b⟩
  exact ⟨rfl, P.next b, b⟩
theorem PC.open_ (P : PC w0 L g d S w) : Calls Try.prog 16 #[.pointer (some ⟨g, 0, none⟩)] w fun e w' => e = .returned (.bool (decide (S ≠ []))) ∧ w = w' := by
  have e : decide (S ≠ []) = decide (sS S ≠ 0) := by
    by_cases h : S = []
    · subst h; rw [sS_nil]; rfl
    · rw [decide_eq_true h, decide_eq_true (sS_pos h P.ok.f)]
  rw [e]
  exact open_any P.box
/-- It is closed. -/
theorem PC.shut (P : PC w0 L g d S w) (hn : S ≠ []) (t : Int) (ht : sB S + d ≤ t) :
    Calls Try.prog 13 #[.pointer (some ⟨g, 0, none⟩), .int .i64 t] w fun e w' => e = .returned (.tuple #[.agg #[.int .i64 (pt S), .int .u32 ((sS S : Nat) : Int), .int .i64 (cy S)], .bool true]) ∧ PC w0 L g d [] w' ∧ Kept g w w' := by
  have hm : (mem (sS S)).length = S.length := by rw [(mem_sS P.ok.f P.ok.one).length_eq]; exact List.length_map ..
  have hh := row_half P.ok hn
  have hp : 0 < S.length := List.length_pos_iff.2 hn
  have hw := pt_wrap P.ok P.hd hn
  refine (close_ok P.box (sS_pos hn P.ok.f) (P.base hn) P.hd t (by omega) (pt S) (cy S)
    (fun W => ?_) (fun W => ?_)).mono ?_
  · have := point_any (sB S) (sS S) (sR S) (sC S) (sS_lt S) (P.ok.reads P.hd) (by omega) (by rw [hh]; exact hw) W
    rw [hh] at this
    exact this
  · have := cycle_any (sB S) (sS S) (sR S) (sC S) (sS_lt S) W
    rw [row_best P.ok] at this
    exact this
  · rintro e w' ⟨rfl, h, k⟩
    exact ⟨rfl, P.turn k (by rw [sS_nil]; exact h) (Ok.nil d), k⟩
theorem PC.no_close (P : PC w0 L g d S w) (t : Int) (ht : S = [] ∨ t < sB S + d) :
    Calls Try.prog 13 #[.pointer (some ⟨g, 0, none⟩), .int .i64 t] w fun e w' => e = .returned noR ∧ PC w0 L g d S w' ∧ Below w.heap.size w w' := by
  by_cases hn : S = []
  · subst hn
    have hbx := P.box
    rw [sS_nil] at hbx
    refine (close_none hbx t).mono ?_
    rintro e w' ⟨rfl, b⟩
    exact ⟨rfl, P.next b, b⟩
  · refine (close_early P.box (sS_pos hn P.ok.f) (P.base hn) P.hd t (ht.resolve_left hn)).mono ?_
    rintro e w' ⟨rfl, b⟩
    exact ⟨rfl, P.next b, b⟩
end
end Go.Proofs.Ytpjaijibkjmgiaa.CompW
