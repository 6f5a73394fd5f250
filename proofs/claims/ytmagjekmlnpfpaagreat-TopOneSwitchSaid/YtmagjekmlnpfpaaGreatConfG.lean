/- The functions that are handed over: what they share, when they begin, when they end, whether they meet. -/
import Derived.Test.YtmagjekmlnpfpaaGreatTake
import Derived.Test.YtmagjekmlnpfpaaGreatConfF
import Derived.Shelf.Abstract
namespace Go.Proofs.YtmagjekmlnpfpaaGreat.ConfW
open Shell (takeR skipR aput lset)
open Go.RowKit Shell
theorem ent67 : ∀ (args : Array Value) (w : World), Sem.run Tryz.prog (callFunc 158 args) w = .ok (.enter 158 args) w := enters_of Tryz.func158 (by kernel_rfl) rfl
theorem ent68 : ∀ (args : Array Value) (w : World), Sem.run Tryz.prog (callFunc 159 args) w = .ok (.enter 159 args) w := enters_of Tryz.func159 (by kernel_rfl) rfl
theorem ent57 : ∀ (args : Array Value) (w : World), Sem.run Tryz.prog (callFunc 124 args) w = .ok (.enter 124 args) w := enters_of Tryz.func124 (by kernel_rfl) rfl
theorem ent58 : ∀ (args : Array Value) (w : World), Sem.run Tryz.prog (callFunc 125 args) w = .ok (.enter 125 args) w := enters_of Tryz.func125 (by kernel_rfl) rfl
theorem ent60 : ∀ (args : Array Value) (w : World), Sem.run Tryz.prog (callFunc 127 args) w = .ok (.enter 127 args) w := enters_of Tryz.func127 (by kernel_rfl) rfl
theorem ent61 : ∀ (args : Array Value) (w : World), Sem.run Tryz.prog (callFunc 128 args) w = .ok (.enter 128 args) w := enters_of Tryz.func128 (by kernel_rfl) rfl
/-- What is asked of a function of two entries. -/
structure FnS (w0 : World) (ks : Nat) (ls : Array Value) (l : List R4) (sh : R4 → R4 → Bool) : Prop where
  ent : ∀ (args : Array Value) (w : World), Sem.run Tryz.prog (callFunc ks args) w = .ok (.enter ks args) w
  call : ∀ (a b : R4) (W : World), a ∈ l → b ∈ l → Below w0.heap.size w0 W → Calls Tryz.prog ks (#[.agg #[.int .i64 a.a, .int .u32 a.b, .int .i64 a.c, .int .i64 a.d], .agg #[.int .i64 b.a, .int .u32 b.b, .int .i64 b.c, .int .i64 b.d]] ++ ls) W fun r W' => r = .returned (.bool (sh a b)) ∧ Below W.heap.size W W'
/-- What is asked of a function of one entry. -/
structure FnI (w0 : World) (kb : Nat) (lb : Array Value) (l : List R4) (bg : R4 → Int) : Prop where
  ent : ∀ (args : Array Value) (w : World), Sem.run Tryz.prog (callFunc kb args) w = .ok (.enter kb args) w
  call : ∀ (a : R4) (W : World), a ∈ l → Below w0.heap.size w0 W → Calls Tryz.prog kb (#[.agg #[.int .i64 a.a, .int .u32 a.b, .int .i64 a.c, .int .i64 a.d]] ++ lb) W fun r W' => r = .returned (.int .i64 (bg a)) ∧ Below W.heap.size W W'
  low : ∀ a ∈ l, -1152921504606846976 ≤ bg a
  high : ∀ a ∈ l, bg a ≤ 1152921504606846976
structure F1 (w0 w : World) (e : R4) (W : World) : Prop where
  b0 : Below w0.heap.size w0 W
  b : Below w.heap.size w W
  y : W.heap[w.heap.size]? = some (Obj.cells #[.int .i64 e.a, .int .u32 e.b, .int .i64 e.c, .int .i64 e.d] 138)
structure F2 (w0 w : World) (a b : R4) (W : World) : Prop where
  b0 : Below w0.heap.size w0 W
  bb : Below w.heap.size w W
  x : W.heap[w.heap.size]? = some (Obj.cells #[.int .i64 a.a, .int .u32 a.b, .int .i64 a.c, .int .i64 a.d] 138)
  y : W.heap[w.heap.size + 1]? = some (Obj.cells #[.int .i64 b.a, .int .u32 b.b, .int .i64 b.c, .int .i64 b.d] 138)
theorem F1.next {w0 w W W1 : World} {e : R4} (h : F1 w0 w e W) (b : Below W.heap.size W W1) : F1 w0 w e W1 := ⟨h.b0.trans (b.mono h.b0.size), h.b.trans (b.mono h.b.size), row_below b h.y⟩
theorem F2.next {w0 w W W1 : World} {a b : R4} (h : F2 w0 w a b W) (B : Below W.heap.size W W1) : F2 w0 w a b W1 := ⟨h.b0.trans (B.mono h.b0.size), h.bb.trans (B.mono h.bb.size), row_below B h.x, row_below B h.y⟩
theorem F1.start {w0 w : World} (h : Below w0.heap.size w0 w) (e : R4) : F1 w0 w e (w.alloc (Obj.cells #[.int .i64 e.a, .int .u32 e.b, .int .i64 e.c, .int .i64 e.d] 138)) := ⟨h.alloc h.size _, al (Below.refl _ _) _, heap_alloc_new w _⟩
theorem F2.start {w0 w : World} (h : Below w0.heap.size w0 w) (a b : R4) : F2 w0 w a b ((w.alloc (Obj.cells #[.int .i64 a.a, .int .u32 a.b, .int .i64 a.c, .int .i64 a.d] 138)).alloc (Obj.cells #[.int .i64 b.a, .int .u32 b.b, .int .i64 b.c, .int .i64 b.d] 138)) :=
  ⟨(h.alloc h.size _).alloc (h.alloc h.size _).size _, al (al (Below.refl _ _) _) _, row_below (al (Below.refl _ _) _) (heap_alloc_new w _), by
    have h1 := heap_alloc_new (w.alloc (Obj.cells #[.int .i64 a.a, .int .u32 a.b, .int .i64 a.c, .int .i64 a.d] 138)) (Obj.cells #[.int .i64 b.a, .int .u32 b.b, .int .i64 b.c, .int .i64 b.d] 138)
    rwa [show (w.alloc (Obj.cells #[.int .i64 a.a, .int .u32 a.b, .int .i64 a.c, .int .i64 a.d] 138)).heap.size = w.heap.size + 1 by simp] at h1⟩
theorem F1.s {w0 w W : World} {e : R4} {gb kb : Nat} {lb : Array Value} (h : F1 w0 w e W) (hb : w0.cell? ⟨gb, 0, none⟩ = some (.func (.func kb) #[] lb)) : Hid (F1 w0 w e W) ∧ W.cell? ⟨gb, 0, none⟩ = some (.func (.func kb) #[] lb) ∧ W.cell? ⟨w.heap.size, 0, none⟩ = some (.int .i64 e.a) ∧ W.cell? ⟨w.heap.size, 1, none⟩ = some (.int .u32 e.b) ∧ W.cell? ⟨w.heap.size, 2, none⟩ = some (.int .i64 e.c) ∧ W.cell? ⟨w.heap.size, 3, none⟩ = some (.int .i64 e.d) :=
  ⟨Lib.hid h, (h.b0.cell (Lib.lt_of_cell hb)).trans hb, box_cell h.y rfl, box_cell h.y rfl, box_cell h.y rfl, box_cell h.y rfl⟩
theorem F2.s {w0 w W : World} {a b : R4} {gs gb ge ks kb : Nat} {ls lb : Array Value} (h : F2 w0 w a b W) (hs : w0.cell? ⟨gs, 0, none⟩ = some (.func (.func ks) #[] ls)) (hb : w0.cell? ⟨gb, 0, none⟩ = some (.func (.func kb) #[] lb))
    (he : w0.cell? ⟨ge, 0, none⟩ = some (.func (.func 158) #[] #[.pointer (some ⟨gb, 0, none⟩)])) : Hid (F2 w0 w a b W) ∧ W.cell? ⟨gs, 0, none⟩ = some (.func (.func ks) #[] ls) ∧ W.cell? ⟨gb, 0, none⟩ = some (.func (.func kb) #[] lb) ∧ W.cell? ⟨ge, 0, none⟩ = some (.func (.func 158) #[] #[.pointer (some ⟨gb, 0, none⟩)]) ∧ W.cell? ⟨w.heap.size, 0, none⟩ = some (.int .i64 a.a) ∧ W.cell? ⟨w.heap.size, 1, none⟩ = some (.int .u32 a.b) ∧ W.cell? ⟨w.heap.size, 2, none⟩ = some (.int .i64 a.c) ∧ W.cell? ⟨w.heap.size, 3, none⟩ = some (.int .i64 a.d) ∧ W.cell? ⟨w.heap.size + 1, 0, none⟩ = some (.int .i64 b.a) ∧ W.cell? ⟨w.heap.size + 1, 1, none⟩ = some (.int .u32 b.b) ∧ W.cell? ⟨w.heap.size + 1, 2, none⟩ = some (.int .i64 b.c) ∧ W.cell? ⟨w.heap.size + 1, 3, none⟩ = some (.int .i64 b.d) :=
  ⟨Lib.hid h, (h.b0.cell (Lib.lt_of_cell hs)).trans hs, (h.b0.cell (Lib.lt_of_cell hb)).trans hb, (h.b0.cell (Lib.lt_of_cell he)).trans he, box_cell h.x rfl, box_cell h.x rfl, box_cell h.x rfl, box_cell h.x rfl, box_cell h.y rfl, box_cell h.y rfl, box_cell h.y rfl, box_cell h.y rfl⟩
set_option maxHeartbeats 1000000 in
theorem end_any (gb kb : Nat) (lb : Array Value) (l : List R4) (bg : R4 → Int) (w0 w : World) (K : FnI w0 kb lb l bg) (hb : w0.cell? ⟨gb, 0, none⟩ = some (.func (.func kb) #[] lb)) (hw : Below w0.heap.size w0 w) (e : R4) (he : e ∈ l) :
    Calls Tryz.prog 158 #[.agg #[.int .i64 e.a, .int .u32 e.b, .int .i64 e.c, .int .i64 e.d], .pointer (some ⟨gb, 0, none⟩)] w fun r w' => r = .returned (.int .i64 (bg e + tim e.d)) ∧ Below w.heap.size w w' := by
  have ENT := K.ent
  have ht := tim_pos e.d
  have g1 := K.low e he
  have g2 := K.high e he
  have X := Lib.hid ((F1.start hw e).s hb)
  have H1 := Lib.hid (show ∀ W, (Hid (F1 w0 w e W) ∧ W.cell? ⟨gb, 0, none⟩ = some (.func (.func kb) #[] lb) ∧ W.cell? ⟨w.heap.size, 0, none⟩ = some (.int .i64 e.a) ∧ W.cell? ⟨w.heap.size, 1, none⟩ = some (.int .u32 e.b) ∧ W.cell? ⟨w.heap.size, 2, none⟩ = some (.int .i64 e.c) ∧ W.cell? ⟨w.heap.size, 3, none⟩ = some (.int .i64 e.d)) → Calls Tryz.prog kb (#[.agg #[.int .i64 e.a, .int .u32 e.b, .int .i64 e.c, .int .i64 e.d]] ++ lb) W fun r W' => r = .returned (.int .i64 (bg e)) ∧ (Hid (F1 w0 w e W') ∧ W'.cell? ⟨gb, 0, none⟩ = some (.func (.func kb) #[] lb) ∧ W'.cell? ⟨w.heap.size, 0, none⟩ = some (.int .i64 e.a) ∧ W'.cell? ⟨w.heap.size, 1, none⟩ = some (.int .u32 e.b) ∧ W'.cell? ⟨w.heap.size, 2, none⟩ = some (.int .i64 e.c) ∧ W'.cell? ⟨w.heap.size, 3, none⟩ = some (.int .i64 e.d)) from fun W hS => (K.call e W he hS.1.out.b0).mono fun r W' ⟨hr, hB⟩ => ⟨hr, (hS.1.out.next hB).s hb⟩)
  have H2 := Lib.hid (show ∀ W, (Hid (F1 w0 w e W) ∧ W.cell? ⟨gb, 0, none⟩ = some (.func (.func kb) #[] lb) ∧ W.cell? ⟨w.heap.size, 0, none⟩ = some (.int .i64 e.a) ∧ W.cell? ⟨w.heap.size, 1, none⟩ = some (.int .u32 e.b) ∧ W.cell? ⟨w.heap.size, 2, none⟩ = some (.int .i64 e.c) ∧ W.cell? ⟨w.heap.size, 3, none⟩ = some (.int .i64 e.d)) → Calls Tryz.prog 157 #[.agg #[.int .i64 e.a, .int .u32 e.b, .int .i64 e.c, .int .i64 e.d]] W fun r W' => r = .returned (.int .i64 (tim e.d)) ∧ (Hid (F1 w0 w e W') ∧ W'.cell? ⟨gb, 0, none⟩ = some (.func (.func kb) #[] lb) ∧ W'.cell? ⟨w.heap.size, 0, none⟩ = some (.int .i64 e.a) ∧ W'.cell? ⟨w.heap.size, 1, none⟩ = some (.int .u32 e.b) ∧ W'.cell? ⟨w.heap.size, 2, none⟩ = some (.int .i64 e.c) ∧ W'.cell? ⟨w.heap.size, 3, none⟩ = some (.int .i64 e.d)) from fun W hS => (wireTime_any e W).mono fun r W' ⟨hr, hB⟩ => ⟨hr, (hS.1.out.next hB).s hb⟩)
  have XD := Lib.hid ((((F1.start hw e).next (Below.refl _ _).drew)).s hb)
  generalize tim e.d = t at *
  generalize bg e = u at *
  have k1 : IntKind.i64.wrap (u + t) = u + t := i64_id (by omega) (by omega)
  clear K hb hw he ht g1 g2
  go_enter Tryz.func158, Tryz.ntmps158
  go_wp2_with fail
  refine wp_region_held_drew (S := fun W : World => Hid (F1 w0 w e W) ∧ W.cell? ⟨gb, 0, none⟩ = some (.func (.func kb) #[] lb) ∧ W.cell? ⟨w.heap.size, 0, none⟩ = some (.int .i64 e.a) ∧ W.cell? ⟨w.heap.size, 1, none⟩ = some (.int .u32 e.b) ∧ W.cell? ⟨w.heap.size, 2, none⟩ = some (.int .i64 e.c) ∧ W.cell? ⟨w.heap.size, 3, none⟩ = some (.int .i64 e.d)) (by kernel_rfl) (XD.out) (fun hHeld => ?_)
  refine takeR 0 (some 4) ?_ ?_ ?_; rotate_left; (focus (intros; go_simp; (try with_reducible rfl)))
  simp only [aput, lset]
  refine takeR 1 (some 5) ?_ ?_ ?_; rotate_left; (focus (intros; go_simp; (try with_reducible rfl)))
  simp only [aput, lset]
  refine takeR 3 (some 7) ?_ ?_ ?_; rotate_left; (focus (intros; go_simp; (try with_reducible rfl)))
  simp only [aput, lset]
  refine wpAnyH_ready (rs := [2]) (by kernel_rfl) (by simp) ?_
  refine AllReadyH.cons (o := ⟨(some 6), _, _, _, _, _⟩) rfl (fun K hK => ?_) AllReadyH.nil
  go_simp
  ((with_reducible refine (H1.out _ (by assumption)).mono ?_); rintro r w9 ⟨rfl, hs9⟩)
  go_simp
  refine hK.out _ _ (by assumption) (fun hHeld => ?_)
  clear hK K
  refine wpAnyH_ready (rs := [4]) (by kernel_rfl) (by simp) ?_
  refine AllReadyH.cons (o := ⟨(some 8), _, _, _, _, _⟩) rfl (fun K hK => ?_) AllReadyH.nil
  go_simp
  ((with_reducible refine (H2.out _ (by assumption)).mono ?_); rintro r w9 ⟨rfl, hs9⟩)
  go_simp
  refine hK.out _ _ (by assumption) (fun hHeld => ?_)
  clear hK K
  refine takeR 5 (some 9) ?_ ?_ ?_; rotate_left; (focus (intros; go_simp; (try with_reducible rfl)))
  simp only [aput, lset]
  refine takeR 6 (some 3) ?_ ?_ ?_; rotate_left; (focus (intros; go_simp; (try with_reducible rfl)))
  simp only [aput, lset]
  refine wpAnyH_done (by kernel_rfl) ?_ _
  obtain ⟨Y, -⟩ := hHeld
  go_wp2
  go_ret
  exact ⟨rfl, Y.out.b⟩
set_option maxHeartbeats 4000000 in
theorem together2_any (gs gb ge ks kb : Nat) (ls lb : Array Value) (l : List R4) (sh : R4 → R4 → Bool) (bg : R4 → Int) (w0 w : World) (KS : FnS w0 ks ls l sh) (K : FnI w0 kb lb l bg) (hs : w0.cell? ⟨gs, 0, none⟩ = some (.func (.func ks) #[] ls))
    (hb : w0.cell? ⟨gb, 0, none⟩ = some (.func (.func kb) #[] lb)) (he : w0.cell? ⟨ge, 0, none⟩ = some (.func (.func 158) #[] #[.pointer (some ⟨gb, 0, none⟩)])) (hw : Below w0.heap.size w0 w) (a b : R4) (ha : a ∈ l) (hbl : b ∈ l) :
    Calls Tryz.prog 159 #[.agg #[.int .i64 a.a, .int .u32 a.b, .int .i64 a.c, .int .i64 a.d], .agg #[.int .i64 b.a, .int .u32 b.b, .int .i64 b.c, .int .i64 b.d], .pointer (some ⟨gs, 0, none⟩), .pointer (some ⟨gb, 0, none⟩), .pointer (some ⟨ge, 0, none⟩)] w fun r w' =>
      r = .returned (.bool (sh a b && (decide (bg a < bg b + tim b.d) && decide (bg b < bg a + tim a.d)))) ∧ Below w.heap.size w w' := by
  have ENT := K.ent
  have ENS := KS.ent
  have EN67 := ent67
  have X := Lib.hid ((F2.start hw a b).s hs hb he)
  have XD := Lib.hid (((F2.start hw a b).next (Below.refl _ _).drew).s hs hb he)
  have HS := Lib.hid (show ∀ W, (Hid (F2 w0 w a b W) ∧ W.cell? ⟨gs, 0, none⟩ = some (.func (.func ks) #[] ls) ∧ W.cell? ⟨gb, 0, none⟩ = some (.func (.func kb) #[] lb) ∧ W.cell? ⟨ge, 0, none⟩ = some (.func (.func 158) #[] #[.pointer (some ⟨gb, 0, none⟩)]) ∧ W.cell? ⟨w.heap.size, 0, none⟩ = some (.int .i64 a.a) ∧ W.cell? ⟨w.heap.size, 1, none⟩ = some (.int .u32 a.b) ∧ W.cell? ⟨w.heap.size, 2, none⟩ = some (.int .i64 a.c) ∧ W.cell? ⟨w.heap.size, 3, none⟩ = some (.int .i64 a.d) ∧ W.cell? ⟨w.heap.size + 1, 0, none⟩ = some (.int .i64 b.a) ∧ W.cell? ⟨w.heap.size + 1, 1, none⟩ = some (.int .u32 b.b) ∧ W.cell? ⟨w.heap.size + 1, 2, none⟩ = some (.int .i64 b.c) ∧ W.cell? ⟨w.heap.size + 1, 3, none⟩ = some (.int .i64 b.d)) → Calls Tryz.prog ks (#[.agg #[.int .i64 a.a, .int .u32 a.b, .int .i64 a.c, .int .i64 a.d], .agg #[.int .i64 b.a, .int .u32 b.b, .int .i64 b.c, .int .i64 b.d]] ++ ls) W fun r W' => r = .returned (.bool (sh a b)) ∧ (Hid (F2 w0 w a b W') ∧ W'.cell? ⟨gs, 0, none⟩ = some (.func (.func ks) #[] ls) ∧ W'.cell? ⟨gb, 0, none⟩ = some (.func (.func kb) #[] lb) ∧ W'.cell? ⟨ge, 0, none⟩ = some (.func (.func 158) #[] #[.pointer (some ⟨gb, 0, none⟩)]) ∧ W'.cell? ⟨w.heap.size, 0, none⟩ = some (.int .i64 a.a) ∧ W'.cell? ⟨w.heap.size, 1, none⟩ = some (.int .u32 a.b) ∧ W'.cell? ⟨w.heap.size, 2, none⟩ = some (.int .i64 a.c) ∧ W'.cell? ⟨w.heap.size, 3, none⟩ = some (.int .i64 a.d) ∧ W'.cell? ⟨w.heap.size + 1, 0, none⟩ = some (.int .i64 b.a) ∧ W'.cell? ⟨w.heap.size + 1, 1, none⟩ = some (.int .u32 b.b) ∧ W'.cell? ⟨w.heap.size + 1, 2, none⟩ = some (.int .i64 b.c) ∧ W'.cell? ⟨w.heap.size + 1, 3, none⟩ = some (.int .i64 b.d)) from fun W hS => (KS.call a b W ha hbl hS.1.out.b0).mono fun r W' ⟨hr, hB⟩ => ⟨hr, (hS.1.out.next hB).s hs hb he⟩)
  have HA := Lib.hid (show ∀ W, (Hid (F2 w0 w a b W) ∧ W.cell? ⟨gs, 0, none⟩ = some (.func (.func ks) #[] ls) ∧ W.cell? ⟨gb, 0, none⟩ = some (.func (.func kb) #[] lb) ∧ W.cell? ⟨ge, 0, none⟩ = some (.func (.func 158) #[] #[.pointer (some ⟨gb, 0, none⟩)]) ∧ W.cell? ⟨w.heap.size, 0, none⟩ = some (.int .i64 a.a) ∧ W.cell? ⟨w.heap.size, 1, none⟩ = some (.int .u32 a.b) ∧ W.cell? ⟨w.heap.size, 2, none⟩ = some (.int .i64 a.c) ∧ W.cell? ⟨w.heap.size, 3, none⟩ = some (.int .i64 a.d) ∧ W.cell? ⟨w.heap.size + 1, 0, none⟩ = some (.int .i64 b.a) ∧ W.cell? ⟨w.heap.size + 1, 1, none⟩ = some (.int .u32 b.b) ∧ W.cell? ⟨w.heap.size + 1, 2, none⟩ = some (.int .i64 b.c) ∧ W.cell? ⟨w.heap.size + 1, 3, none⟩ = some (.int .i64 b.d)) → Calls Tryz.prog kb (#[.agg #[.int .i64 a.a, .int .u32 a.b, .int .i64 a.c, .int .i64 a.d]] ++ lb) W fun r W' => r = .returned (.int .i64 (bg a)) ∧ (Hid (F2 w0 w a b W') ∧ W'.cell? ⟨gs, 0, none⟩ = some (.func (.func ks) #[] ls) ∧ W'.cell? ⟨gb, 0, none⟩ = some (.func (.func kb) #[] lb) ∧ W'.cell? ⟨ge, 0, none⟩ = some (.func (.func 158) #[] #[.pointer (some ⟨gb, 0, none⟩)]) ∧ W'.cell? ⟨w.heap.size, 0, none⟩ = some (.int .i64 a.a) ∧ W'.cell? ⟨w.heap.size, 1, none⟩ = some (.int .u32 a.b) ∧ W'.cell? ⟨w.heap.size, 2, none⟩ = some (.int .i64 a.c) ∧ W'.cell? ⟨w.heap.size, 3, none⟩ = some (.int .i64 a.d) ∧ W'.cell? ⟨w.heap.size + 1, 0, none⟩ = some (.int .i64 b.a) ∧ W'.cell? ⟨w.heap.size + 1, 1, none⟩ = some (.int .u32 b.b) ∧ W'.cell? ⟨w.heap.size + 1, 2, none⟩ = some (.int .i64 b.c) ∧ W'.cell? ⟨w.heap.size + 1, 3, none⟩ = some (.int .i64 b.d)) from fun W hS => (K.call a W ha hS.1.out.b0).mono fun r W' ⟨hr, hB⟩ => ⟨hr, (hS.1.out.next hB).s hs hb he⟩)
  have HB := Lib.hid (show ∀ W, (Hid (F2 w0 w a b W) ∧ W.cell? ⟨gs, 0, none⟩ = some (.func (.func ks) #[] ls) ∧ W.cell? ⟨gb, 0, none⟩ = some (.func (.func kb) #[] lb) ∧ W.cell? ⟨ge, 0, none⟩ = some (.func (.func 158) #[] #[.pointer (some ⟨gb, 0, none⟩)]) ∧ W.cell? ⟨w.heap.size, 0, none⟩ = some (.int .i64 a.a) ∧ W.cell? ⟨w.heap.size, 1, none⟩ = some (.int .u32 a.b) ∧ W.cell? ⟨w.heap.size, 2, none⟩ = some (.int .i64 a.c) ∧ W.cell? ⟨w.heap.size, 3, none⟩ = some (.int .i64 a.d) ∧ W.cell? ⟨w.heap.size + 1, 0, none⟩ = some (.int .i64 b.a) ∧ W.cell? ⟨w.heap.size + 1, 1, none⟩ = some (.int .u32 b.b) ∧ W.cell? ⟨w.heap.size + 1, 2, none⟩ = some (.int .i64 b.c) ∧ W.cell? ⟨w.heap.size + 1, 3, none⟩ = some (.int .i64 b.d)) → Calls Tryz.prog kb (#[.agg #[.int .i64 b.a, .int .u32 b.b, .int .i64 b.c, .int .i64 b.d]] ++ lb) W fun r W' => r = .returned (.int .i64 (bg b)) ∧ (Hid (F2 w0 w a b W') ∧ W'.cell? ⟨gs, 0, none⟩ = some (.func (.func ks) #[] ls) ∧ W'.cell? ⟨gb, 0, none⟩ = some (.func (.func kb) #[] lb) ∧ W'.cell? ⟨ge, 0, none⟩ = some (.func (.func 158) #[] #[.pointer (some ⟨gb, 0, none⟩)]) ∧ W'.cell? ⟨w.heap.size, 0, none⟩ = some (.int .i64 a.a) ∧ W'.cell? ⟨w.heap.size, 1, none⟩ = some (.int .u32 a.b) ∧ W'.cell? ⟨w.heap.size, 2, none⟩ = some (.int .i64 a.c) ∧ W'.cell? ⟨w.heap.size, 3, none⟩ = some (.int .i64 a.d) ∧ W'.cell? ⟨w.heap.size + 1, 0, none⟩ = some (.int .i64 b.a) ∧ W'.cell? ⟨w.heap.size + 1, 1, none⟩ = some (.int .u32 b.b) ∧ W'.cell? ⟨w.heap.size + 1, 2, none⟩ = some (.int .i64 b.c) ∧ W'.cell? ⟨w.heap.size + 1, 3, none⟩ = some (.int .i64 b.d)) from fun W hS => (K.call b W hbl hS.1.out.b0).mono fun r W' ⟨hr, hB⟩ => ⟨hr, (hS.1.out.next hB).s hs hb he⟩)
  have EA := Lib.hid (show ∀ W, (Hid (F2 w0 w a b W) ∧ W.cell? ⟨gs, 0, none⟩ = some (.func (.func ks) #[] ls) ∧ W.cell? ⟨gb, 0, none⟩ = some (.func (.func kb) #[] lb) ∧ W.cell? ⟨ge, 0, none⟩ = some (.func (.func 158) #[] #[.pointer (some ⟨gb, 0, none⟩)]) ∧ W.cell? ⟨w.heap.size, 0, none⟩ = some (.int .i64 a.a) ∧ W.cell? ⟨w.heap.size, 1, none⟩ = some (.int .u32 a.b) ∧ W.cell? ⟨w.heap.size, 2, none⟩ = some (.int .i64 a.c) ∧ W.cell? ⟨w.heap.size, 3, none⟩ = some (.int .i64 a.d) ∧ W.cell? ⟨w.heap.size + 1, 0, none⟩ = some (.int .i64 b.a) ∧ W.cell? ⟨w.heap.size + 1, 1, none⟩ = some (.int .u32 b.b) ∧ W.cell? ⟨w.heap.size + 1, 2, none⟩ = some (.int .i64 b.c) ∧ W.cell? ⟨w.heap.size + 1, 3, none⟩ = some (.int .i64 b.d)) → Calls Tryz.prog 158 #[.agg #[.int .i64 a.a, .int .u32 a.b, .int .i64 a.c, .int .i64 a.d], .pointer (some ⟨gb, 0, none⟩)] W fun r W' => r = .returned (.int .i64 (bg a + tim a.d)) ∧ (Hid (F2 w0 w a b W') ∧ W'.cell? ⟨gs, 0, none⟩ = some (.func (.func ks) #[] ls) ∧ W'.cell? ⟨gb, 0, none⟩ = some (.func (.func kb) #[] lb) ∧ W'.cell? ⟨ge, 0, none⟩ = some (.func (.func 158) #[] #[.pointer (some ⟨gb, 0, none⟩)]) ∧ W'.cell? ⟨w.heap.size, 0, none⟩ = some (.int .i64 a.a) ∧ W'.cell? ⟨w.heap.size, 1, none⟩ = some (.int .u32 a.b) ∧ W'.cell? ⟨w.heap.size, 2, none⟩ = some (.int .i64 a.c) ∧ W'.cell? ⟨w.heap.size, 3, none⟩ = some (.int .i64 a.d) ∧ W'.cell? ⟨w.heap.size + 1, 0, none⟩ = some (.int .i64 b.a) ∧ W'.cell? ⟨w.heap.size + 1, 1, none⟩ = some (.int .u32 b.b) ∧ W'.cell? ⟨w.heap.size + 1, 2, none⟩ = some (.int .i64 b.c) ∧ W'.cell? ⟨w.heap.size + 1, 3, none⟩ = some (.int .i64 b.d)) from fun W hS => (end_any gb kb lb l bg w0 W K hb hS.1.out.b0 a ha).mono fun r W' ⟨hr, hB⟩ => ⟨hr, (hS.1.out.next hB).s hs hb he⟩)
  have EB := Lib.hid (show ∀ W, (Hid (F2 w0 w a b W) ∧ W.cell? ⟨gs, 0, none⟩ = some (.func (.func ks) #[] ls) ∧ W.cell? ⟨gb, 0, none⟩ = some (.func (.func kb) #[] lb) ∧ W.cell? ⟨ge, 0, none⟩ = some (.func (.func 158) #[] #[.pointer (some ⟨gb, 0, none⟩)]) ∧ W.cell? ⟨w.heap.size, 0, none⟩ = some (.int .i64 a.a) ∧ W.cell? ⟨w.heap.size, 1, none⟩ = some (.int .u32 a.b) ∧ W.cell? ⟨w.heap.size, 2, none⟩ = some (.int .i64 a.c) ∧ W.cell? ⟨w.heap.size, 3, none⟩ = some (.int .i64 a.d) ∧ W.cell? ⟨w.heap.size + 1, 0, none⟩ = some (.int .i64 b.a) ∧ W.cell? ⟨w.heap.size + 1, 1, none⟩ = some (.int .u32 b.b) ∧ W.cell? ⟨w.heap.size + 1, 2, none⟩ = some (.int .i64 b.c) ∧ W.cell? ⟨w.heap.size + 1, 3, none⟩ = some (.int .i64 b.d)) → Calls Tryz.prog 158 #[.agg #[.int .i64 b.a, .int .u32 b.b, .int .i64 b.c, .int .i64 b.d], .pointer (some ⟨gb, 0, none⟩)] W fun r W' => r = .returned (.int .i64 (bg b + tim b.d)) ∧ (Hid (F2 w0 w a b W') ∧ W'.cell? ⟨gs, 0, none⟩ = some (.func (.func ks) #[] ls) ∧ W'.cell? ⟨gb, 0, none⟩ = some (.func (.func kb) #[] lb) ∧ W'.cell? ⟨ge, 0, none⟩ = some (.func (.func 158) #[] #[.pointer (some ⟨gb, 0, none⟩)]) ∧ W'.cell? ⟨w.heap.size, 0, none⟩ = some (.int .i64 a.a) ∧ W'.cell? ⟨w.heap.size, 1, none⟩ = some (.int .u32 a.b) ∧ W'.cell? ⟨w.heap.size, 2, none⟩ = some (.int .i64 a.c) ∧ W'.cell? ⟨w.heap.size, 3, none⟩ = some (.int .i64 a.d) ∧ W'.cell? ⟨w.heap.size + 1, 0, none⟩ = some (.int .i64 b.a) ∧ W'.cell? ⟨w.heap.size + 1, 1, none⟩ = some (.int .u32 b.b) ∧ W'.cell? ⟨w.heap.size + 1, 2, none⟩ = some (.int .i64 b.c) ∧ W'.cell? ⟨w.heap.size + 1, 3, none⟩ = some (.int .i64 b.d)) from fun W hS => (end_any gb kb lb l bg w0 W K hb hS.1.out.b0 b hbl).mono fun r W' ⟨hr, hB⟩ => ⟨hr, (hS.1.out.next hB).s hs hb he⟩)
  generalize hq : (sh a b && (decide (bg a < bg b + tim b.d) && decide (bg b < bg a + tim a.d))) = q
  have HQ := Lib.hid hq
  generalize bg a + tim a.d = ea at *
  generalize bg b + tim b.d = eb at *
  generalize bg a = pa at *
  generalize bg b = pb at *
  generalize sh a b = z at *
  clear K KS hs hb he hw ha hbl hq
  cases z
  · have HQ2 := Lib.hid (show q = false by rw [← HQ.out]; rfl)
    go_enter Tryz.func159, Tryz.ntmps159
    go_wp2_with fail
    refine wp_region_held_drew (S := fun W : World => Hid (F2 w0 w a b W) ∧ W.cell? ⟨gs, 0, none⟩ = some (.func (.func ks) #[] ls) ∧ W.cell? ⟨gb, 0, none⟩ = some (.func (.func kb) #[] lb) ∧ W.cell? ⟨ge, 0, none⟩ = some (.func (.func 158) #[] #[.pointer (some ⟨gb, 0, none⟩)]) ∧ W.cell? ⟨w.heap.size, 0, none⟩ = some (.int .i64 a.a) ∧ W.cell? ⟨w.heap.size, 1, none⟩ = some (.int .u32 a.b) ∧ W.cell? ⟨w.heap.size, 2, none⟩ = some (.int .i64 a.c) ∧ W.cell? ⟨w.heap.size, 3, none⟩ = some (.int .i64 a.d) ∧ W.cell? ⟨w.heap.size + 1, 0, none⟩ = some (.int .i64 b.a) ∧ W.cell? ⟨w.heap.size + 1, 1, none⟩ = some (.int .u32 b.b) ∧ W.cell? ⟨w.heap.size + 1, 2, none⟩ = some (.int .i64 b.c) ∧ W.cell? ⟨w.heap.size + 1, 3, none⟩ = some (.int .i64 b.d)) (by kernel_rfl) (XD.out) (fun hHeld => ?_)
    refine takeR 0 (some 8) ?_ ?_ ?_; rotate_left; (focus (intros; go_simp; (try with_reducible rfl)))
    simp only [aput, lset]
    refine takeR 1 (some 9) ?_ ?_ ?_; rotate_left; (focus (intros; go_simp; (try with_reducible rfl)))
    simp only [aput, lset]
    refine takeR 2 (some 10) ?_ ?_ ?_; rotate_left; (focus (intros; go_simp; (try with_reducible rfl)))
    simp only [aput, lset]
    refine wpAnyH_ready (rs := [3]) (by kernel_rfl) (by simp) ?_
    refine AllReadyH.cons (o := ⟨(some 11), _, _, _, _, _⟩) rfl (fun K hK => ?_) AllReadyH.nil
    go_simp
    ((with_reducible refine (HS.out _ (by assumption)).mono ?_); rintro r w9 ⟨rfl, hs9⟩)
    go_simp
    refine hK.out _ _ (by assumption) (fun hHeld => ?_)
    clear hK K
    refine takeR 4 (some 12) ?_ ?_ ?_; rotate_left; (focus (intros; go_simp; (try with_reducible rfl)))
    simp only [aput, lset]
    refine skipR 5 (some 13) ?_
    simp only [aput, lset]
    refine skipR 6 (some 14) ?_
    simp only [aput, lset]
    refine skipR 7 (some 15) ?_
    simp only [aput, lset]
    refine skipR 8 (some 16) ?_
    simp only [aput, lset]
    refine skipR 9 (some 17) ?_
    simp only [aput, lset]
    refine skipR 10 (some 18) ?_
    simp only [aput, lset]
    refine skipR 11 (some 19) ?_
    simp only [aput, lset]
    refine takeR 12 (some 20) ?_ ?_ ?_; rotate_left; (focus (intros; go_simp; (try with_reducible rfl)))
    simp only [aput, lset]
    refine takeR 13 (some 21) ?_ ?_ ?_; rotate_left; (focus (intros; go_simp; (try with_reducible rfl)))
    simp only [aput, lset]
    refine skipR 14 (some 22) ?_
    simp only [aput, lset]
    refine skipR 15 (some 23) ?_
    simp only [aput, lset]
    refine skipR 16 (some 24) ?_
    simp only [aput, lset]
    refine skipR 17 (some 25) ?_
    simp only [aput, lset]
    refine skipR 18 (some 26) ?_
    simp only [aput, lset]
    refine skipR 19 (some 27) ?_
    simp only [aput, lset]
    refine skipR 20 (some 28) ?_
    simp only [aput, lset]
    refine takeR 21 (some 29) ?_ ?_ ?_; rotate_left; (focus (intros; go_simp; (try with_reducible rfl)))
    simp only [aput, lset]
    refine takeR 22 (some 7) ?_ ?_ ?_; rotate_left; (focus (intros; go_simp; (try with_reducible rfl)))
    simp only [aput, lset]
    refine wpAnyH_done (by kernel_rfl) ?_ _
    obtain ⟨Y, -⟩ := hHeld
    go_wp2
    go_ret
    exact ⟨by rw [HQ2.out]; rfl, Y.out.bb⟩
  · by_cases h1 : pa < eb
    · by_cases h2 : pb < ea
      · have HQ2 := Lib.hid (show q = true by rw [← HQ.out]; simp [h1, h2])
        go_enter Tryz.func159, Tryz.ntmps159
        go_wp2_with fail
        have e1 : decide (pa < eb) = true := by rw [decide_eq_true_eq]; omega
        have e2 : decide (pb < ea) = true := by rw [decide_eq_true_eq]; omega
        refine wp_region_held_drew (S := fun W : World => Hid (F2 w0 w a b W) ∧ W.cell? ⟨gs, 0, none⟩ = some (.func (.func ks) #[] ls) ∧ W.cell? ⟨gb, 0, none⟩ = some (.func (.func kb) #[] lb) ∧ W.cell? ⟨ge, 0, none⟩ = some (.func (.func 158) #[] #[.pointer (some ⟨gb, 0, none⟩)]) ∧ W.cell? ⟨w.heap.size, 0, none⟩ = some (.int .i64 a.a) ∧ W.cell? ⟨w.heap.size, 1, none⟩ = some (.int .u32 a.b) ∧ W.cell? ⟨w.heap.size, 2, none⟩ = some (.int .i64 a.c) ∧ W.cell? ⟨w.heap.size, 3, none⟩ = some (.int .i64 a.d) ∧ W.cell? ⟨w.heap.size + 1, 0, none⟩ = some (.int .i64 b.a) ∧ W.cell? ⟨w.heap.size + 1, 1, none⟩ = some (.int .u32 b.b) ∧ W.cell? ⟨w.heap.size + 1, 2, none⟩ = some (.int .i64 b.c) ∧ W.cell? ⟨w.heap.size + 1, 3, none⟩ = some (.int .i64 b.d)) (by kernel_rfl) (XD.out) (fun hHeld => ?_)
        refine takeR 0 (some 8) ?_ ?_ ?_; rotate_left; (focus (intros; go_simp; (try with_reducible rfl)))
        simp only [aput, lset]
        refine takeR 1 (some 9) ?_ ?_ ?_; rotate_left; (focus (intros; go_simp; (try with_reducible rfl)))
        simp only [aput, lset]
        refine takeR 2 (some 10) ?_ ?_ ?_; rotate_left; (focus (intros; go_simp; (try with_reducible rfl)))
        simp only [aput, lset]
        refine wpAnyH_ready (rs := [3]) (by kernel_rfl) (by simp) ?_
        refine AllReadyH.cons (o := ⟨(some 11), _, _, _, _, _⟩) rfl (fun K hK => ?_) AllReadyH.nil
        go_simp
        ((with_reducible refine (HS.out _ (by assumption)).mono ?_); rintro r w9 ⟨rfl, hs9⟩)
        go_simp
        refine hK.out _ _ (by assumption) (fun hHeld => ?_)
        clear hK K
        refine takeR 4 (some 12) ?_ ?_ ?_; rotate_left; (focus (intros; go_simp; (try with_reducible rfl)))
        simp only [aput, lset]
        refine takeR 5 (some 13) ?_ ?_ ?_; rotate_left; (focus (intros; go_simp; (try with_reducible rfl)))
        simp only [aput, lset]
        refine takeR 6 (some 14) ?_ ?_ ?_; rotate_left; (focus (intros; go_simp; (try with_reducible rfl)))
        simp only [aput, lset]
        refine takeR 8 (some 16) ?_ ?_ ?_; rotate_left; (focus (intros; go_simp; (try with_reducible rfl)))
        simp only [aput, lset]
        refine takeR 9 (some 17) ?_ ?_ ?_; rotate_left; (focus (intros; go_simp; (try with_reducible rfl)))
        simp only [aput, lset]
        refine wpAnyH_ready (rs := [7]) (by kernel_rfl) (by simp) ?_
        refine AllReadyH.cons (o := ⟨(some 15), _, _, _, _, _⟩) rfl (fun K hK => ?_) AllReadyH.nil
        go_simp
        ((with_reducible refine (HA.out _ (by assumption)).mono ?_); rintro r w9 ⟨rfl, hs9⟩)
        go_simp
        refine hK.out _ _ (by assumption) (fun hHeld => ?_)
        clear hK K
        refine wpAnyH_ready (rs := [10]) (by kernel_rfl) (by simp) ?_
        refine AllReadyH.cons (o := ⟨(some 18), _, _, _, _, _⟩) rfl (fun K hK => ?_) AllReadyH.nil
        go_simp
        ((with_reducible refine (EB.out _ (by assumption)).mono ?_); rintro r w9 ⟨rfl, hs9⟩)
        go_simp
        refine hK.out _ _ (by assumption) (fun hHeld => ?_)
        clear hK K
        refine takeR 11 (some 19) ?_ ?_ ?_; rotate_left; (focus (intros; go_simp; (try with_reducible rfl)))
        simp only [aput, lset]
        refine takeR 12 (some 20) ?_ ?_ ?_; rotate_left; (focus (intros; go_simp; (try with_reducible rfl)))
        simp only [aput, lset]
        refine takeR 13 (some 21) ?_ ?_ ?_; rotate_left; (focus (intros; go_simp; (try with_reducible rfl)))
        simp only [aput, lset]
        refine takeR 14 (some 22) ?_ ?_ ?_; rotate_left; (focus (intros; go_simp; (try with_reducible rfl)))
        simp only [aput, lset]
        refine takeR 15 (some 23) ?_ ?_ ?_; rotate_left; (focus (intros; go_simp; (try with_reducible rfl)))
        simp only [aput, lset]
        refine takeR 17 (some 25) ?_ ?_ ?_; rotate_left; (focus (intros; go_simp; (try with_reducible rfl)))
        simp only [aput, lset]
        refine takeR 18 (some 26) ?_ ?_ ?_; rotate_left; (focus (intros; go_simp; (try with_reducible rfl)))
        simp only [aput, lset]
        refine wpAnyH_ready (rs := [16]) (by kernel_rfl) (by simp) ?_
        refine AllReadyH.cons (o := ⟨(some 24), _, _, _, _, _⟩) rfl (fun K hK => ?_) AllReadyH.nil
        go_simp
        ((with_reducible refine (HB.out _ (by assumption)).mono ?_); rintro r w9 ⟨rfl, hs9⟩)
        go_simp
        refine hK.out _ _ (by assumption) (fun hHeld => ?_)
        clear hK K
        refine wpAnyH_ready (rs := [19]) (by kernel_rfl) (by simp) ?_
        refine AllReadyH.cons (o := ⟨(some 27), _, _, _, _, _⟩) rfl (fun K hK => ?_) AllReadyH.nil
        go_simp
        ((with_reducible refine (EA.out _ (by assumption)).mono ?_); rintro r w9 ⟨rfl, hs9⟩)
        go_simp
        refine hK.out _ _ (by assumption) (fun hHeld => ?_)
        clear hK K
        refine takeR 20 (some 28) ?_ ?_ ?_; rotate_left; (focus (intros; go_simp; (try with_reducible rfl)))
        simp only [aput, lset]
        refine takeR 21 (some 29) ?_ ?_ ?_; rotate_left; (focus (intros; go_simp; (try with_reducible rfl)))
        simp only [aput, lset]
        refine takeR 22 (some 7) ?_ ?_ ?_; rotate_left; (focus (intros; go_simp; (try with_reducible rfl)))
        simp only [aput, lset]
        refine wpAnyH_done (by kernel_rfl) ?_ _
        obtain ⟨Y, -⟩ := hHeld
        go_wp2
        go_ret
        exact ⟨by rw [HQ2.out]; rfl, Y.out.bb⟩
      · have HQ2 := Lib.hid (show q = false by rw [← HQ.out]; simp [h2])
        go_enter Tryz.func159, Tryz.ntmps159
        go_wp2_with fail
        have e1 : decide (pa < eb) = true := by rw [decide_eq_true_eq]; omega
        have e2 : decide (pb < ea) = false := by rw [decide_eq_false_iff_not]; omega
        refine wp_region_held_drew (S := fun W : World => Hid (F2 w0 w a b W) ∧ W.cell? ⟨gs, 0, none⟩ = some (.func (.func ks) #[] ls) ∧ W.cell? ⟨gb, 0, none⟩ = some (.func (.func kb) #[] lb) ∧ W.cell? ⟨ge, 0, none⟩ = some (.func (.func 158) #[] #[.pointer (some ⟨gb, 0, none⟩)]) ∧ W.cell? ⟨w.heap.size, 0, none⟩ = some (.int .i64 a.a) ∧ W.cell? ⟨w.heap.size, 1, none⟩ = some (.int .u32 a.b) ∧ W.cell? ⟨w.heap.size, 2, none⟩ = some (.int .i64 a.c) ∧ W.cell? ⟨w.heap.size, 3, none⟩ = some (.int .i64 a.d) ∧ W.cell? ⟨w.heap.size + 1, 0, none⟩ = some (.int .i64 b.a) ∧ W.cell? ⟨w.heap.size + 1, 1, none⟩ = some (.int .u32 b.b) ∧ W.cell? ⟨w.heap.size + 1, 2, none⟩ = some (.int .i64 b.c) ∧ W.cell? ⟨w.heap.size + 1, 3, none⟩ = some (.int .i64 b.d)) (by kernel_rfl) (XD.out) (fun hHeld => ?_)
        refine takeR 0 (some 8) ?_ ?_ ?_; rotate_left; (focus (intros; go_simp; (try with_reducible rfl)))
        simp only [aput, lset]
        refine takeR 1 (some 9) ?_ ?_ ?_; rotate_left; (focus (intros; go_simp; (try with_reducible rfl)))
        simp only [aput, lset]
        refine takeR 2 (some 10) ?_ ?_ ?_; rotate_left; (focus (intros; go_simp; (try with_reducible rfl)))
        simp only [aput, lset]
        refine wpAnyH_ready (rs := [3]) (by kernel_rfl) (by simp) ?_
        refine AllReadyH.cons (o := ⟨(some 11), _, _, _, _, _⟩) rfl (fun K hK => ?_) AllReadyH.nil
        go_simp
        ((with_reducible refine (HS.out _ (by assumption)).mono ?_); rintro r w9 ⟨rfl, hs9⟩)
        go_simp
        refine hK.out _ _ (by assumption) (fun hHeld => ?_)
        clear hK K
        refine takeR 4 (some 12) ?_ ?_ ?_; rotate_left; (focus (intros; go_simp; (try with_reducible rfl)))
        simp only [aput, lset]
        refine takeR 5 (some 13) ?_ ?_ ?_; rotate_left; (focus (intros; go_simp; (try with_reducible rfl)))
        simp only [aput, lset]
        refine takeR 6 (some 14) ?_ ?_ ?_; rotate_left; (focus (intros; go_simp; (try with_reducible rfl)))
        simp only [aput, lset]
        refine takeR 8 (some 16) ?_ ?_ ?_; rotate_left; (focus (intros; go_simp; (try with_reducible rfl)))
        simp only [aput, lset]
        refine takeR 9 (some 17) ?_ ?_ ?_; rotate_left; (focus (intros; go_simp; (try with_reducible rfl)))
        simp only [aput, lset]
        refine wpAnyH_ready (rs := [7]) (by kernel_rfl) (by simp) ?_
        refine AllReadyH.cons (o := ⟨(some 15), _, _, _, _, _⟩) rfl (fun K hK => ?_) AllReadyH.nil
        go_simp
        ((with_reducible refine (HA.out _ (by assumption)).mono ?_); rintro r w9 ⟨rfl, hs9⟩)
        go_simp
        refine hK.out _ _ (by assumption) (fun hHeld => ?_)
        clear hK K
        refine wpAnyH_ready (rs := [10]) (by kernel_rfl) (by simp) ?_
        refine AllReadyH.cons (o := ⟨(some 18), _, _, _, _, _⟩) rfl (fun K hK => ?_) AllReadyH.nil
        go_simp
        ((with_reducible refine (EB.out _ (by assumption)).mono ?_); rintro r w9 ⟨rfl, hs9⟩)
        go_simp
        refine hK.out _ _ (by assumption) (fun hHeld => ?_)
        clear hK K
        refine takeR 11 (some 19) ?_ ?_ ?_; rotate_left; (focus (intros; go_simp; (try with_reducible rfl)))
        simp only [aput, lset]
        refine takeR 12 (some 20) ?_ ?_ ?_; rotate_left; (focus (intros; go_simp; (try with_reducible rfl)))
        simp only [aput, lset]
        refine takeR 13 (some 21) ?_ ?_ ?_; rotate_left; (focus (intros; go_simp; (try with_reducible rfl)))
        simp only [aput, lset]
        refine takeR 14 (some 22) ?_ ?_ ?_; rotate_left; (focus (intros; go_simp; (try with_reducible rfl)))
        simp only [aput, lset]
        refine takeR 15 (some 23) ?_ ?_ ?_; rotate_left; (focus (intros; go_simp; (try with_reducible rfl)))
        simp only [aput, lset]
        refine takeR 17 (some 25) ?_ ?_ ?_; rotate_left; (focus (intros; go_simp; (try with_reducible rfl)))
        simp only [aput, lset]
        refine takeR 18 (some 26) ?_ ?_ ?_; rotate_left; (focus (intros; go_simp; (try with_reducible rfl)))
        simp only [aput, lset]
        refine wpAnyH_ready (rs := [16]) (by kernel_rfl) (by simp) ?_
        refine AllReadyH.cons (o := ⟨(some 24), _, _, _, _, _⟩) rfl (fun K hK => ?_) AllReadyH.nil
        go_simp
        ((with_reducible refine (HB.out _ (by assumption)).mono ?_); rintro r w9 ⟨rfl, hs9⟩)
        go_simp
        refine hK.out _ _ (by assumption) (fun hHeld => ?_)
        clear hK K
        refine wpAnyH_ready (rs := [19]) (by kernel_rfl) (by simp) ?_
        refine AllReadyH.cons (o := ⟨(some 27), _, _, _, _, _⟩) rfl (fun K hK => ?_) AllReadyH.nil
        go_simp
        ((with_reducible refine (EA.out _ (by assumption)).mono ?_); rintro r w9 ⟨rfl, hs9⟩)
        go_simp
        refine hK.out _ _ (by assumption) (fun hHeld => ?_)
        clear hK K
        refine takeR 20 (some 28) ?_ ?_ ?_; rotate_left; (focus (intros; go_simp; (try with_reducible rfl)))
        simp only [aput, lset]
        refine takeR 21 (some 29) ?_ ?_ ?_; rotate_left; (focus (intros; go_simp; (try with_reducible rfl)))
        simp only [aput, lset]
        refine takeR 22 (some 7) ?_ ?_ ?_; rotate_left; (focus (intros; go_simp; (try with_reducible rfl)))
        simp only [aput, lset]
        refine wpAnyH_done (by kernel_rfl) ?_ _
        obtain ⟨Y, -⟩ := hHeld
        go_wp2
        go_ret
        exact ⟨by rw [HQ2.out]; rfl, Y.out.bb⟩
    · have HQ2 := Lib.hid (show q = false by rw [← HQ.out]; simp [h1])
      go_enter Tryz.func159, Tryz.ntmps159
      go_wp2_with fail
      have e1 : decide (pa < eb) = false := by rw [decide_eq_false_iff_not]; omega
      refine wp_region_held_drew (S := fun W : World => Hid (F2 w0 w a b W) ∧ W.cell? ⟨gs, 0, none⟩ = some (.func (.func ks) #[] ls) ∧ W.cell? ⟨gb, 0, none⟩ = some (.func (.func kb) #[] lb) ∧ W.cell? ⟨ge, 0, none⟩ = some (.func (.func 158) #[] #[.pointer (some ⟨gb, 0, none⟩)]) ∧ W.cell? ⟨w.heap.size, 0, none⟩ = some (.int .i64 a.a) ∧ W.cell? ⟨w.heap.size, 1, none⟩ = some (.int .u32 a.b) ∧ W.cell? ⟨w.heap.size, 2, none⟩ = some (.int .i64 a.c) ∧ W.cell? ⟨w.heap.size, 3, none⟩ = some (.int .i64 a.d) ∧ W.cell? ⟨w.heap.size + 1, 0, none⟩ = some (.int .i64 b.a) ∧ W.cell? ⟨w.heap.size + 1, 1, none⟩ = some (.int .u32 b.b) ∧ W.cell? ⟨w.heap.size + 1, 2, none⟩ = some (.int .i64 b.c) ∧ W.cell? ⟨w.heap.size + 1, 3, none⟩ = some (.int .i64 b.d)) (by kernel_rfl) (XD.out) (fun hHeld => ?_)
      refine takeR 0 (some 8) ?_ ?_ ?_; rotate_left; (focus (intros; go_simp; (try with_reducible rfl)))
      simp only [aput, lset]
      refine takeR 1 (some 9) ?_ ?_ ?_; rotate_left; (focus (intros; go_simp; (try with_reducible rfl)))
      simp only [aput, lset]
      refine takeR 2 (some 10) ?_ ?_ ?_; rotate_left; (focus (intros; go_simp; (try with_reducible rfl)))
      simp only [aput, lset]
      refine wpAnyH_ready (rs := [3]) (by kernel_rfl) (by simp) ?_
      refine AllReadyH.cons (o := ⟨(some 11), _, _, _, _, _⟩) rfl (fun K hK => ?_) AllReadyH.nil
      go_simp
      ((with_reducible refine (HS.out _ (by assumption)).mono ?_); rintro r w9 ⟨rfl, hs9⟩)
      go_simp
      refine hK.out _ _ (by assumption) (fun hHeld => ?_)
      clear hK K
      refine takeR 4 (some 12) ?_ ?_ ?_; rotate_left; (focus (intros; go_simp; (try with_reducible rfl)))
      simp only [aput, lset]
      refine takeR 5 (some 13) ?_ ?_ ?_; rotate_left; (focus (intros; go_simp; (try with_reducible rfl)))
      simp only [aput, lset]
      refine takeR 6 (some 14) ?_ ?_ ?_; rotate_left; (focus (intros; go_simp; (try with_reducible rfl)))
      simp only [aput, lset]
      refine takeR 8 (some 16) ?_ ?_ ?_; rotate_left; (focus (intros; go_simp; (try with_reducible rfl)))
      simp only [aput, lset]
      refine takeR 9 (some 17) ?_ ?_ ?_; rotate_left; (focus (intros; go_simp; (try with_reducible rfl)))
      simp only [aput, lset]
      refine wpAnyH_ready (rs := [7]) (by kernel_rfl) (by simp) ?_
      refine AllReadyH.cons (o := ⟨(some 15), _, _, _, _, _⟩) rfl (fun K hK => ?_) AllReadyH.nil
      go_simp
      ((with_reducible refine (HA.out _ (by assumption)).mono ?_); rintro r w9 ⟨rfl, hs9⟩)
      go_simp
      refine hK.out _ _ (by assumption) (fun hHeld => ?_)
      clear hK K
      refine wpAnyH_ready (rs := [10]) (by kernel_rfl) (by simp) ?_
      refine AllReadyH.cons (o := ⟨(some 18), _, _, _, _, _⟩) rfl (fun K hK => ?_) AllReadyH.nil
      go_simp
      ((with_reducible refine (EB.out _ (by assumption)).mono ?_); rintro r w9 ⟨rfl, hs9⟩)
      go_simp
      refine hK.out _ _ (by assumption) (fun hHeld => ?_)
      clear hK K
      refine takeR 11 (some 19) ?_ ?_ ?_; rotate_left; (focus (intros; go_simp; (try with_reducible rfl)))
      simp only [aput, lset]
      refine takeR 12 (some 20) ?_ ?_ ?_; rotate_left; (focus (intros; go_simp; (try with_reducible rfl)))
      simp only [aput, lset]
      refine takeR 13 (some 21) ?_ ?_ ?_; rotate_left; (focus (intros; go_simp; (try with_reducible rfl)))
      simp only [aput, lset]
      refine skipR 14 (some 22) ?_
      simp only [aput, lset]
      refine skipR 15 (some 23) ?_
      simp only [aput, lset]
      refine skipR 16 (some 24) ?_
      simp only [aput, lset]
      refine skipR 17 (some 25) ?_
      simp only [aput, lset]
      refine skipR 18 (some 26) ?_
      simp only [aput, lset]
      refine skipR 19 (some 27) ?_
      simp only [aput, lset]
      refine skipR 20 (some 28) ?_
      simp only [aput, lset]
      refine takeR 21 (some 29) ?_ ?_ ?_; rotate_left; (focus (intros; go_simp; (try with_reducible rfl)))
      simp only [aput, lset]
      refine takeR 22 (some 7) ?_ ?_ ?_; rotate_left; (focus (intros; go_simp; (try with_reducible rfl)))
      simp only [aput, lset]
      refine wpAnyH_done (by kernel_rfl) ?_ _
      obtain ⟨Y, -⟩ := hHeld
      go_wp2
      go_ret
      exact ⟨by rw [HQ2.out]; rfl, Y.out.bb⟩
end Go.Proofs.YtmagjekmlnpfpaaGreat.ConfW


