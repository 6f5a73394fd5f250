/- A station: what becomes of a frame, and what is taken. Plain mathematics. -/
import Derived.Test.YtnlimdlmhfnkiaaPlanQJa
import Derived.Test.YtnlimdlmhfnkiaaFrameEJa
import Derived.Test.YtnlimdlmhfnkiaaCrewP
import Derived.Test.YtnlimdlmhfnkiaaRowG
import Derived.Test.YtnlimdlmhfnkiaaSmallJa
import Derived.Laws.Cover2
import Derived.Laws.NewBlocks
import Derived.Test.YtnlimdlmhfnkiaaFrameLayJa
import Derived.Test.YtnlimdlmhfnkiaaConfZ
import Derived.Test.YtnlimdlmhfnkiaaConfY
import Derived.Maps.OwnSet
namespace Go.Proofs.Ytnlimdlmhfnkiaa.StationW
open ConfW (Cfg R4 chk)
open FrameW (cOf lOf nOf pOf rdE rdV okD)
open PlanW (landV)
/-- A frame's fields. -/
structure Dt where
  c : Int
  l : Int
  n : Int
  p : ByteArray
  s : Int
/-- The frame that bytes are; all noughts where they are none. -/
def dt (l : List Int) : Dt := if rdE l = 0 then ⟨cOf l, lOf l, nOf l, strOfNums (pOf l), l.length⟩ else ⟨0, 0, 0, ⟨#[]⟩, 0⟩
theorem rdV_dt (l : List Int) : rdV l = .agg #[.int .i64 (dt l).c, .int .i64 (dt l).l, .int .i64 (dt l).n, .string (dt l).p, .int .i64 (dt l).s] := by
  by_cases h : okD l
  · obtain ⟨h1, h2⟩ := FrameW.rd_ok h
    unfold dt
    rw [h2, if_pos h1]
  · have h2 : rdE l ≠ 0 ∧ rdV l = FrameW.DZ := by
      by_cases hc : FrameW.chk l 2 64 1518 = 0
      · obtain ⟨a, b⟩ := FrameW.rd_bad hc h
        exact ⟨by omega, b⟩
      · obtain ⟨a, b⟩ := FrameW.rd_no hc
        exact ⟨by omega, b⟩
    unfold dt
    rw [h2.2, if_neg h2.1]
    rfl
/-- A right frame's fields. -/
structure DOk (d : Dt) : Prop where
  c : d.c = 1 ∨ d.c = 2 ∨ d.c = 3
  l : 0 ≤ d.l ∧ d.l ≤ 255
  n : 0 ≤ d.n ∧ d.n ≤ 2147483647
  s : 64 ≤ d.s ∧ d.s ≤ 1518
theorem dt_ok {l : List Int} (h : rdE l = 0) : DOk (dt l) := by
  have h2 : okD l := by
    by_cases h2 : okD l
    · exact h2
    · by_cases hc : FrameW.chk l 2 64 1518 = 0
      · have := (FrameW.rd_bad hc h2).1; omega
      · have := (FrameW.rd_no hc).1; omega
  obtain ⟨a, b1, b2, n1, n2, s1, s2, _⟩ := h2.2.2.2
  unfold dt
  rw [if_pos h]
  exact ⟨a, ⟨b1, b2⟩, ⟨n1, n2⟩, s1, s2⟩
/-- One that was taken: the frame, its cycle. -/
structure Tn where
  d : Dt
  k : Int
/-- What becomes of a frame: why it isn't taken (0 where it is), its cycle. -/
structure Vg where
  w : Int
  k : Int
def entAt (c : Cfg) (k : Int) : Option R4 := c.entries[k.toNat]?
def lnkAt (c : Cfg) (k : Int) : Option R4 := c.links[k.toNat]?
/-- A timed frame, whatever was taken. -/
def vT (c : Cfg) (h t : Int) (d : Dt) : Vg :=
  match entAt c d.l with
  | none => ⟨1, 0⟩
  | some e => if CrewW.has e.b h = true ∧ e.d = d.s then if (landV c d.l t).2 then ⟨0, (landV c d.l t).1⟩ else ⟨2, 0⟩ else ⟨1, 0⟩
/-- A rated one. -/
def vR (c : Cfg) (h : Int) (d : Dt) : Vg :=
  match lnkAt c d.l with
  | none => ⟨1, 0⟩
  | some e => if CrewW.has e.b h = true ∧ d.s ≤ e.d then ⟨0, 0⟩ else ⟨1, 0⟩
/-- One of effort. -/
def vE (h : Int) (d : Dt) : Vg := if d.l = h then ⟨0, 0⟩ else ⟨1, 0⟩
/-- What becomes of a frame that is read with e (0: right), whatever was taken. -/
def pj (c : Cfg) (h t e : Int) (d : Dt) : Vg := if e = 0 then if d.c = 1 then vT c h t d else if d.c = 3 then vE h d else vR c h d else ⟨1, 0⟩
/-- This one stands in the way of d in cycle k. -/
def bars (d : Dt) (k : Int) (x : Tn) : Bool := decide (x.d.c = d.c) && decide (x.d.l = d.l) && (decide (d.c = 1) && decide (k ≤ x.k) || decide (d.c = 2) && decide (d.n ≤ x.d.n))
def tw (L : List Tn) (d : Dt) (k : Int) : Bool := L.any (bars d k)
/-- What becomes of a frame, behind what was taken. -/
def gj (c : Cfg) (h : Int) (L : List Tn) (t e : Int) (d : Dt) : Vg := if (pj c h t e d).w = 0 ∧ tw L d (pj c h t e d).k = true then ⟨3, (pj c h t e d).k⟩ else pj c h t e d
/-- What becomes of bytes. -/
def gd (c : Cfg) (h : Int) (L : List Tn) (t : Int) (l : List Int) : Vg := gj c h L t (rdE l) (dt l)
/-- What was taken, behind a frame. -/
def nL (c : Cfg) (h : Int) (L : List Tn) (t : Int) (l : List Int) : List Tn := if (gd c h L t l).w = 0 then L ++ [⟨dt l, (gd c h L t l).k⟩] else L
/-- How many were taken, how many not. -/
def cA (a w : Int) : Int := if w = 0 then a + 1 else a
def cB (b w : Int) : Int := if w = 0 then b else b + 1
theorem tw_nil (d : Dt) (k : Int) : tw [] d k = false := rfl
theorem tw_snoc (L : List Tn) (x : Tn) (d : Dt) (k : Int) : tw (L ++ [x]) d k = (tw L d k || bars d k x) := by simp [tw]
theorem bars_effort {d : Dt} (h : d.c = 3) (k : Int) (x : Tn) : bars d k x = false := by simp [bars, h]
theorem tw_effort {d : Dt} (h : d.c = 3) (L : List Tn) (k : Int) : tw L d k = false := by
  unfold tw
  rw [List.any_eq_false]
  intro x _
  rw [bars_effort h]
  decide
theorem gd_why (c : Cfg) (h : Int) (L : List Tn) (t : Int) (l : List Int) : (gd c h L t l).w = 0 ∨ (gd c h L t l).w = 1 ∨ (gd c h L t l).w = 2 ∨ (gd c h L t l).w = 3 := by
  unfold gd gj
  split
  · simp
  · unfold pj vT vE vR
    (repeat' split) <;> simp
/-- Nothing but timed frames decides over timed ones. -/
theorem tw_timed {d : Dt} (h : d.c = 1) (L : List Tn) (k : Int) : tw L d k = tw (L.filter fun x => decide (x.d.c = 1)) d k := by
  unfold tw
  induction L with
  | nil => rfl
  | cons x L ih =>
    rw [List.any_cons, ih]
    by_cases hx : x.d.c = 1
    · rw [List.filter_cons_of_pos (by simpa using hx), List.any_cons]
    · rw [List.filter_cons_of_neg (by simpa using hx)]
      have : bars d k x = false := by unfold bars; rw [h]; simp [hx]
      rw [this, Bool.false_or]
end Go.Proofs.Ytnlimdlmhfnkiaa.StationW

/- A station's boxes. -/
namespace Go.Proofs.Ytnlimdlmhfnkiaa.StationW
open Go.RowKit Shell
open ConfW (Cfg R4 CM ML chk)
open FrameW (BL rdE rdV)
/-- The configuration's box. -/
abbrev cbx (c : Cfg) (D E L : Option Addr) (nd cd ne ce nl cl : Nat) : Obj := .cells #[.int .i64 c.hosts, .int .i64 c.cycle, .int .i64 c.delay, .int .i64 c.window, .int .i64 c.precision, .slice D nd cd, .slice E ne ce, .slice L nl cl, .int .i64 c.queue] 26 (0, 0)
abbrev dbx (d : Dt) : Obj := .cells #[.int .i64 d.c, .int .i64 d.l, .int .i64 d.n, .string d.p, .int .i64 d.s] 39 (0, 0)
/-- An answer's box. -/
abbrev gbx (v : Vg) (d : Dt) (t : TypeId) : Obj := .cells #[.int .i64 v.w, .int .i64 d.c, .int .i64 d.l, .int .i64 d.n, .string d.p, .int .i64 d.s, .int .i64 v.k] t (0, 0)
abbrev gg (d : Dt) (v : Vg) : Value := .agg #[.int .i64 v.w, .int .i64 d.c, .int .i64 d.l, .int .i64 d.n, .string d.p, .int .i64 d.s, .int .i64 v.k]
def v0 : Vg := ⟨0, 0⟩
def d0 : Dt := ⟨0, 0, 0, ⟨#[]⟩, 0⟩
/-- What was taken, in memory. -/
def F19 : Flat Tn where
  n := 7
  cs x := [.int .i64 0, .int .i64 x.d.c, .int .i64 x.d.l, .int .i64 x.d.n, .string x.d.p, .int .i64 x.d.s, .int .i64 x.k]
  len _ := rfl
  one x u hu := by
    simp only [List.mem_cons, List.not_mem_nil, or_false] at hu
    rcases hu with rfl | rfl | rfl | rfl | rfl | rfl | rfl <;> rfl
  pos := by decide
theorem cells5 {w : World} {j : Nat} {x0 x1 x2 x3 x4 : Value} {t : TypeId} {fr : Nat × Nat} (h : w.heap[j]? = some (.cells #[x0, x1, x2, x3, x4] t fr)) : w.cell? ⟨j, 0, none⟩ = some x0 ∧ w.cell? ⟨j, 1, none⟩ = some x1 ∧ w.cell? ⟨j, 2, none⟩ = some x2 ∧ w.cell? ⟨j, 3, none⟩ = some x3 ∧ w.cell? ⟨j, 4, none⟩ = some x4 :=
  ⟨cell_of_row w j 0 _ _ _ h, cell_of_row w j 1 _ _ _ h, cell_of_row w j 2 _ _ _ h, cell_of_row w j 3 _ _ _ h, cell_of_row w j 4 _ _ _ h⟩
theorem cells7 {w : World} {j : Nat} {x0 x1 x2 x3 x4 x5 x6 : Value} {t : TypeId} {fr : Nat × Nat} (h : w.heap[j]? = some (.cells #[x0, x1, x2, x3, x4, x5, x6] t fr)) : w.cell? ⟨j, 0, none⟩ = some x0 ∧ w.cell? ⟨j, 1, none⟩ = some x1 ∧ w.cell? ⟨j, 2, none⟩ = some x2 ∧ w.cell? ⟨j, 3, none⟩ = some x3 ∧ w.cell? ⟨j, 4, none⟩ = some x4 ∧ w.cell? ⟨j, 5, none⟩ = some x5 ∧ w.cell? ⟨j, 6, none⟩ = some x6 :=
  ⟨cell_of_row w j 0 _ _ _ h, cell_of_row w j 1 _ _ _ h, cell_of_row w j 2 _ _ _ h, cell_of_row w j 3 _ _ _ h, cell_of_row w j 4 _ _ _ h, cell_of_row w j 5 _ _ _ h, cell_of_row w j 6 _ _ _ h⟩
theorem frozen7 {w : World} {j : Nat} {x0 x1 x2 x3 x4 x5 x6 : Value} {t : TypeId} (h : w.heap[j]? = some (.cells #[x0, x1, x2, x3, x4, x5, x6] t (0, 0))) : w.frozen? ⟨j, 0, none⟩ = false ∧ w.frozen? ⟨j, 1, none⟩ = false ∧ w.frozen? ⟨j, 2, none⟩ = false ∧ w.frozen? ⟨j, 3, none⟩ = false ∧ w.frozen? ⟨j, 4, none⟩ = false ∧ w.frozen? ⟨j, 5, none⟩ = false ∧ w.frozen? ⟨j, 6, none⟩ = false :=
  ⟨frozen_of_row w j 0 _ _ h, frozen_of_row w j 1 _ _ h, frozen_of_row w j 2 _ _ h, frozen_of_row w j 3 _ _ h, frozen_of_row w j 4 _ _ h, frozen_of_row w j 5 _ _ h, frozen_of_row w j 6 _ _ h⟩
/-- Seven cells of a block written over. -/
abbrev set7 (w : World) (k : Nat) (x0 x1 x2 x3 x4 x5 x6 : Value) : World := ((((((w.setCell ⟨k, 0, none⟩ x0).setCell ⟨k, 1, none⟩ x1).setCell ⟨k, 2, none⟩ x2).setCell ⟨k, 3, none⟩ x3).setCell ⟨k, 4, none⟩ x4).setCell ⟨k, 5, none⟩ x5).setCell ⟨k, 6, none⟩ x6
theorem put7 {w : World} {k : Nat} {y0 y1 y2 y3 y4 y5 y6 : Value} {t : TypeId} (h : w.heap[k]? = some (.cells #[y0, y1, y2, y3, y4, y5, y6] t (0, 0))) (x0 x1 x2 x3 x4 x5 x6 : Value) : (set7 w k x0 x1 x2 x3 x4 x5 x6).heap[k]? = some (.cells #[x0, x1, x2, x3, x4, x5, x6] t (0, 0)) := by
  have h0 : (w.setCell ⟨k, 0, none⟩ x0).heap[k]? = some (.cells #[x0, y1, y2, y3, y4, y5, y6] t (0, 0)) := heap_setCell_same _ k 0 _ _ x0 h
  have h1 : ((w.setCell ⟨k, 0, none⟩ x0).setCell ⟨k, 1, none⟩ x1).heap[k]? = some (.cells #[x0, x1, y2, y3, y4, y5, y6] t (0, 0)) := heap_setCell_same _ k 1 _ _ x1 h0
  have h2 : (((w.setCell ⟨k, 0, none⟩ x0).setCell ⟨k, 1, none⟩ x1).setCell ⟨k, 2, none⟩ x2).heap[k]? = some (.cells #[x0, x1, x2, y3, y4, y5, y6] t (0, 0)) := heap_setCell_same _ k 2 _ _ x2 h1
  have h3 : ((((w.setCell ⟨k, 0, none⟩ x0).setCell ⟨k, 1, none⟩ x1).setCell ⟨k, 2, none⟩ x2).setCell ⟨k, 3, none⟩ x3).heap[k]? = some (.cells #[x0, x1, x2, x3, y4, y5, y6] t (0, 0)) := heap_setCell_same _ k 3 _ _ x3 h2
  have h4 : (((((w.setCell ⟨k, 0, none⟩ x0).setCell ⟨k, 1, none⟩ x1).setCell ⟨k, 2, none⟩ x2).setCell ⟨k, 3, none⟩ x3).setCell ⟨k, 4, none⟩ x4).heap[k]? = some (.cells #[x0, x1, x2, x3, x4, y5, y6] t (0, 0)) := heap_setCell_same _ k 4 _ _ x4 h3
  have h5 : ((((((w.setCell ⟨k, 0, none⟩ x0).setCell ⟨k, 1, none⟩ x1).setCell ⟨k, 2, none⟩ x2).setCell ⟨k, 3, none⟩ x3).setCell ⟨k, 4, none⟩ x4).setCell ⟨k, 5, none⟩ x5).heap[k]? = some (.cells #[x0, x1, x2, x3, x4, x5, y6] t (0, 0)) := heap_setCell_same _ k 5 _ _ x5 h4
  exact heap_setCell_same _ k 6 _ _ x6 h5
theorem kept7 (w : World) (k : Nat) (x0 x1 x2 x3 x4 x5 x6 : Value) : Kept k w (set7 w k x0 x1 x2 x3 x4 x5 x6) :=
  ((((((kept1 w k 0 x0).trans (kept1 _ k 1 x1)).trans (kept1 _ k 2 x2)).trans (kept1 _ k 3 x3)).trans (kept1 _ k 4 x4)).trans (kept1 _ k 5 x5)).trans (kept1 _ k 6 x6)
theorem at_drew {w : World} {j : Nat} {o : Obj} (h : w.heap[j]? = some o) : w.drew.heap[j]? = some o := h
/-- A struct in a cell: what a Judge tells. -/
theorem results_g {fn : Func} {p : Tmp} {T : TypeId} (h : fn.results = #[.cell p T]) (hT : T = 43 ∨ T = 41) (tmps : Array Value) (w : World) (g : Nat) (t : TypeId) (x0 x1 x2 x3 x4 x5 x6 : Value) (fr : Nat × Nat)
    (hp : tmps.getD p undef = .pointer (some ⟨g, 0, none⟩)) (hg : w.heap[g]? = some (.cells #[x0, x1, x2, x3, x4, x5, x6] t fr)) :
    (results fn tmps).run Try.prog w = .ok (.agg #[x0, x1, x2, x3, x4, x5, x6]) w := by
  have hp' : tmps[p]?.getD undef = .pointer (some ⟨g, 0, none⟩) := by simpa using hp
  rcases hT with rfl | rfl
  · simp [results, h, hp', asAddr, run_loadVar_row w g t 43 #[x0, x1, x2, x3, x4, x5, x6] fr _ hg Try.underlying43 rfl (by kernel_rfl)]
  · simp [results, h, hp', asAddr, run_loadVar_row w g t 41 #[x0, x1, x2, x3, x4, x5, x6] fr _ hg Try.underlying41 rfl (by kernel_rfl)]
theorem ret_g {fn : Func} {R : Ending → World → Prop} {p : Tmp} (h : fn.results = #[.cell p 43]) {tmps : Array Value} {w : World} {g : Nat} {x0 x1 x2 x3 x4 x5 x6 : Value} {t : TypeId} {fr : Nat × Nat}
    (hp : tmps.getD p undef = .pointer (some ⟨g, 0, none⟩)) (hg : w.heap[g]? = some (.cells #[x0, x1, x2, x3, x4, x5, x6] t fr)) (hR : R (.returned (.agg #[x0, x1, x2, x3, x4, x5, x6])) w) :
    bodyPost Try.prog fn R .ret { tmps := tmps, defers := [] } w :=
  bodyPost_ret (results_g h (Or.inl rfl) tmps w g t x0 x1 x2 x3 x4 x5 x6 fr hp hg) rfl hR
theorem ret_s {fn : Func} {R : Ending → World → Prop} {p : Tmp} (h : fn.results = #[.cell p 41]) {tmps : Array Value} {w : World} {g : Nat} {x0 x1 x2 x3 x4 x5 x6 : Value} {t : TypeId} {fr : Nat × Nat}
    (hp : tmps.getD p undef = .pointer (some ⟨g, 0, none⟩)) (hg : w.heap[g]? = some (.cells #[x0, x1, x2, x3, x4, x5, x6] t fr)) (hR : R (.returned (.agg #[x0, x1, x2, x3, x4, x5, x6])) w) :
    bodyPost Try.prog fn R .ret { tmps := tmps, defers := [] } w :=
  bodyPost_ret (results_g h (Or.inr rfl) tmps w g t x0 x1 x2 x3 x4 x5 x6 fr hp hg) rfl hR
/-- The reason written into an answer's box. -/
theorem why_end {w0 W : World} {g p : Nat} {v : Vg} {d : Dt} {t : TypeId} {o2 ob : Obj} {q : Nat} {M : List (Nat × Obj)} (S : Stay w0 ((g, gbx v d t) :: (q, o2) :: (p, ob) :: M) W) (hg : p < g ∧ w0.heap.size ≤ g) (y : Int) :
    (W.setCell ⟨g, 0, none⟩ (.int .i64 y)).heap[g]? = some (gbx ⟨y, v.k⟩ d t) ∧ (W.setCell ⟨g, 0, none⟩ (.int .i64 y)).heap[p]? = some ob ∧ Below w0.heap.size w0 (W.setCell ⟨g, 0, none⟩ (.int .i64 y)) :=
  ⟨heap_setCell_same W g 0 _ _ _ (S.at 0 rfl), by rw [heap_setCell_other _ _ _ _ (Nat.ne_of_lt hg.1)]; exact S.at 2 rfl, S.b.setCell hg.2 _⟩
theorem ml_at {w : World} {L : Option Addr} {l : List R4} (h : ML w L l) {i : Nat} {k : R4} (hi : l[i]? = some k) : ∃ b off, L = some ⟨b, off, none⟩ ∧ w.cell? ⟨b, off + i * 4, none⟩ = some (.int .i64 k.a) ∧ w.cell? ⟨b, off + i * 4 + 1, none⟩ = some (.int .u32 (k.b : Int)) ∧ w.cell? ⟨b, off + i * 4 + 2, none⟩ = some (.int .i64 k.c) ∧ w.cell? ⟨b, off + i * 4 + 3, none⟩ = some (.int .i64 k.d) := by
  obtain ⟨b, off, hA, ⟨h0, h1, h2, h3⟩, -⟩ := h i k hi
  exact ⟨b, off, hA, h0, h1, h2, h3⟩
theorem ent_at {c : Cfg} {k : Int} {e : R4} (h : entAt c k = some e) (h0 : 0 ≤ k) : ∃ n : Nat, k = (n : Int) ∧ c.entries[n]? = some e ∧ n < c.entries.length := by
  obtain ⟨n, rfl⟩ := Int.eq_ofNat_of_zero_le h0
  unfold entAt at h
  rw [Int.toNat_natCast] at h
  exact ⟨n, rfl, h, lt_of_get h⟩
theorem ent_no {c : Cfg} {k : Int} (h : entAt c k = none) (h0 : 0 ≤ k) : (c.entries.length : Int) ≤ k := by
  unfold entAt at h
  have := List.getElem?_eq_none_iff.1 h
  omega
theorem lnk_at {c : Cfg} {k : Int} {e : R4} (h : lnkAt c k = some e) (h0 : 0 ≤ k) : ∃ n : Nat, k = (n : Int) ∧ c.links[n]? = some e ∧ n < c.links.length := by
  obtain ⟨n, rfl⟩ := Int.eq_ofNat_of_zero_le h0
  unfold lnkAt at h
  rw [Int.toNat_natCast] at h
  exact ⟨n, rfl, h, lt_of_get h⟩
theorem lnk_no {c : Cfg} {k : Int} (h : lnkAt c k = none) (h0 : 0 ≤ k) : (c.links.length : Int) ≤ k := by
  unfold lnkAt at h
  have := List.getElem?_eq_none_iff.1 h
  omega
end Go.Proofs.Ytnlimdlmhfnkiaa.StationW

/- What is asked of a station, whatever it is made of: the laws are walked by this alone. -/
namespace Go.Proofs.Ytnlimdlmhfnkiaa.StationW
open Go.RowKit Shell
open ConfW (Cfg R4 CM ML chk)
open FrameW (BL rdE rdV)
/-- A station in memory: lo (its blocks lie behind it), X (its blocks), g (where it is), its configuration, its host, what was taken since all was forgotten, how many were taken and how many not, how many frames it has judged. -/
abbrev SIT := Nat → (Nat → Prop) → Nat → Cfg → Int → List Tn → Int → Int → Nat → World → Prop
/-- A station may be made. -/
def may (c : Cfg) (h : Int) : Prop := chk c = 0 ∧ 0 ≤ h ∧ h < c.hosts
structure Spec (SI : SIT) : Prop where
  frame : ∀ {lo : Nat} {X : Nat → Prop} {g : Nat} {c : Cfg} {h : Int} {T : List Tn} {a b : Int} {N : Nat} {W W1 : World}, SI lo X g c h T a b N W → W.heap.size ≤ W1.heap.size → (∀ j, X j → W1.heap[j]? = W.heap[j]?) → SI lo X g c h T a b N W1
  foot : ∀ {lo : Nat} {X : Nat → Prop} {g : Nat} {c : Cfg} {h : Int} {T : List Tn} {a b : Int} {N : Nat} {W : World}, SI lo X g c h T a b N W → ∀ j, X j → lo ≤ j ∧ j < W.heap.size
  lower : ∀ {lo lo' : Nat} {X : Nat → Prop} {g : Nat} {c : Cfg} {h : Int} {T : List Tn} {a b : Int} {N : Nat} {W : World}, SI lo X g c h T a b N W → lo' ≤ lo → SI lo' X g c h T a b N W
  bad : ∀ (c : Cfg) (D E L : Option Addr) (nd cd ne ce nl cl : Nat) (h : Int) (W : World), CM W c D E L nd cd ne ce nl cl → ¬ may c h → Calls Try.prog 9 #[.agg #[.int .i64 c.hosts, .int .i64 c.cycle, .int .i64 c.delay, .int .i64 c.window, .int .i64 c.precision, .slice D nd cd, .slice E ne ce, .slice L nl cl, .int .i64 c.queue], .int .i64 h] W fun r W' => r = .returned (.tuple #[.pointer none, .int .i64 1]) ∧ Below W.heap.size W W'
  new : ∀ (c : Cfg) (D E L : Option Addr) (nd cd ne ce nl cl : Nat) (h : Int) (W : World), CM W c D E L nd cd ne ce nl cl → may c h → Calls Try.prog 9 #[.agg #[.int .i64 c.hosts, .int .i64 c.cycle, .int .i64 c.delay, .int .i64 c.window, .int .i64 c.precision, .slice D nd cd, .slice E ne ce, .slice L nl cl, .int .i64 c.queue], .int .i64 h] W fun r W' => ∃ g X, r = .returned (.tuple #[.pointer (some ⟨g, 0, none⟩), .int .i64 0]) ∧ SI W.heap.size X g c h [] 0 0 0 W' ∧ Below W.heap.size W W'
  judge : ∀ {lo : Nat} {X : Nat → Prop} {g : Nat} {c : Cfg} {h : Int} {T : List Tn} {a b : Int} {N : Nat} {W : World} (t : Int) (A : Option Addr) (l : List Int) (cp : Nat), SI lo X g c h T a b N W → N ≤ 140737488355327 → BL W A l → l.length ≤ 9223372036854775807 → l.length ≤ cp →
    Calls Try.prog 12 #[.pointer (some ⟨g, 0, none⟩), .int .i64 t, .slice A l.length cp] W fun r W' => ∃ X', r = .returned (gg (dt l) (gd c h T t l)) ∧ SI lo X' g c h (nL c h T t l) (cA a (gd c h T t l).w) (cB b (gd c h T t l).w) (N + 1) W' ∧ Turn X X' W W'
  count : ∀ {lo : Nat} {X : Nat → Prop} {g : Nat} {c : Cfg} {h : Int} {T : List Tn} {a b : Int} {N : Nat} {W : World}, SI lo X g c h T a b N W → Calls Try.prog 14 #[.pointer (some ⟨g, 0, none⟩)] W fun r W' => r = .returned (.tuple #[.int .i64 a, .int .i64 b]) ∧ ∃ X', SI lo X' g c h T a b N W' ∧ Turn X X' W W'
  forget : ∀ {lo : Nat} {X : Nat → Prop} {g : Nat} {c : Cfg} {h : Int} {T : List Tn} {a b : Int} {N : Nat} {W : World}, SI lo X g c h T a b N W → Calls Try.prog 11 #[.pointer (some ⟨g, 0, none⟩)] W fun r W' => r = .returned (.tuple #[]) ∧ ∃ X', SI lo X' g c h [] a b N W' ∧ Turn X X' W W'
  judge_nil : ∀ (t : Int) (A : Option Addr) (n cp : Nat) (W : World), Calls Try.prog 12 #[.pointer none, .int .i64 t, .slice A n cp] W fun r W' => r = .returned (gg d0 ⟨1, 0⟩) ∧ Below W.heap.size W W'
  count_nil : ∀ (W : World), Calls Try.prog 14 #[.pointer none] W fun r W' => r = .returned (.tuple #[.int .i64 0, .int .i64 0]) ∧ Below W.heap.size W W'
  forget_nil : ∀ (W : World), Calls Try.prog 11 #[.pointer none] W fun r W' => r = .returned (.tuple #[]) ∧ Below W.heap.size W W'
/-- A frame that comes, and when; or all is forgotten. -/
structure Op where
  t : Int
  A : Option Addr
  l : List Int
  cp : Nat
  f : Bool
/-- They came in. -/
def OPS (w : World) (A : Option Addr) (ops : List Op) : Prop :=
  ∀ (k : Nat) (o : Op), ops[k]? = some o → ∃ b off, A = some ⟨b, off, none⟩ ∧ w.cell? ⟨b, off + k * 3, none⟩ = some (.int .i64 o.t) ∧ w.cell? ⟨b, off + k * 3 + 1, none⟩ = some (.slice o.A o.l.length o.cp) ∧ w.cell? ⟨b, off + k * 3 + 2, none⟩ = some (.bool o.f) ∧ BL w o.A o.l ∧ o.l.length ≤ 9223372036854775807 ∧ o.l.length ≤ o.cp
theorem OPS.below {w w1 : World} {A : Option Addr} {ops : List Op} (h : OPS w A ops) (b : Below w.heap.size w w1) : OPS w1 A ops := by
  intro k o hk
  obtain ⟨g, off, hA, h0, h1, h2, h3, h5⟩ := h k o hk
  exact ⟨g, off, hA, cell_keep h0 b, cell_keep h1 b, cell_keep h2 b, h3.below b, h5⟩
abbrev obx (o : Op) : Obj := .cells #[.int .i64 o.t, .slice o.A o.l.length o.cp, .bool o.f] 37 (0, 0)
section
variable {SI : SIT}
/-- A station from w0 on, and boxes of the call's own. -/
structure SQ (SI : SIT) (w0 : World) (X : Nat → Prop) (g : Nat) (c : Cfg) (h : Int) (T : List Tn) (a b : Int) (N : Nat) (B : List (Nat × Obj)) (W : World) : Prop where
  p : SI w0.heap.size X g c h T a b N W
  b : Below w0.heap.size w0 W
  bx : ∀ y ∈ B, W.heap[y.1]? = some y.2 ∧ ¬ X y.1 ∧ w0.heap.size ≤ y.1
variable {w0 W W1 : World} {X X' : Nat → Prop} {g N N' : Nat} {c : Cfg} {h : Int} {T T' : List Tn} {a b a' b' : Int} {B B' : List (Nat × Obj)} {j : Nat} {ob ob' : Obj}
theorem SQ.next (S : Spec SI) (q : SQ SI w0 X g c h T a b N B W) (k : Below W.heap.size W W1) : SQ SI w0 X g c h T a b N B W1 :=
  ⟨S.frame q.p k.size (fun j hj => k.block j (S.foot q.p j hj).2), q.b.trans (k.mono q.b.size), fun y hy => ⟨row_below k (q.bx y hy).1, (q.bx y hy).2⟩⟩
theorem SQ.turn (S : Spec SI) (q : SQ SI w0 X g c h T a b N B W) (r : SI w0.heap.size X' g c h T' a' b' N' W1) (u : Turn X X' W W1) : SQ SI w0 X' g c h T' a' b' N' B W1 :=
  ⟨r, q.b.trans (u.below (fun j hj => (S.foot q.p j hj).1) q.b.size), fun y hy => ⟨(u.bx (q.bx y hy).1 (q.bx y hy).2.1).1, (u.bx (q.bx y hy).1 (q.bx y hy).2.1).2, (q.bx y hy).2.2⟩⟩
theorem SQ.box (S : Spec SI) (q : SQ SI w0 X g c h T a b N B W) (ob : Obj) : SQ SI w0 X g c h T a b N ((W.heap.size, ob) :: B) (W.alloc ob) := by
  have q1 := q.next S (al (Below.refl W.heap.size W) ob)
  refine ⟨q1.p, q1.b, fun y hy => ?_⟩
  rcases List.mem_cons.1 hy with rfl | hy
  · exact ⟨heap_alloc_new _ _, fun hX => absurd (S.foot q.p _ hX).2 (Nat.lt_irrefl _), q.b.size⟩
  · exact q1.bx y hy
theorem SQ.at (q : SQ SI w0 X g c h T a b N B W) (i : Nat) (hi : B[i]? = some (j, ob)) : W.heap[j]? = some ob := (q.bx (j, ob) (List.mem_of_getElem? hi)).1
theorem SQ.sub (q : SQ SI w0 X g c h T a b N B W) (hB : ∀ x ∈ B', x ∈ B) : SQ SI w0 X g c h T a b N B' W := ⟨q.p, q.b, fun y hy => q.bx y (hB y hy)⟩
theorem SQ.drop {y : Nat × Obj} (q : SQ SI w0 X g c h T a b N (y :: B) W) : SQ SI w0 X g c h T a b N B W := q.sub (fun _ hx => List.mem_cons_of_mem _ hx)
theorem SQ.put (S : Spec SI) (q : SQ SI w0 X g c h T a b N ((j, ob) :: B) W) (kp : Kept j W W1) (hn : W1.heap[j]? = some ob') (hB : ∀ y ∈ B, y.1 ≠ j) : SQ SI w0 X g c h T a b N ((j, ob') :: B) W1 := by
  obtain ⟨h1, h2, h3⟩ := q.bx _ List.mem_cons_self
  refine ⟨S.frame q.p kp.size (fun i hi => kp.block i (fun e => h2 (e ▸ hi)) (S.foot q.p i hi).2), q.b.trans (kp.below h3 q.b.size), fun y hy => ?_⟩
  rcases List.mem_cons.1 hy with rfl | hy
  · exact ⟨hn, h2, h3⟩
  · obtain ⟨g1, g2, g3⟩ := q.bx y (List.mem_cons_of_mem _ hy)
    exact ⟨(kp.block y.1 (hB y hy) (lt_of_heap g1)).trans g1, g2, g3⟩
theorem sq_new (S : Spec SI) {w : World} (r : SI w.heap.size X g c h T a b N W) (k : Below w.heap.size w W) (st : Stay w0 B w) (hB : ∀ x ∈ B, w0.heap.size ≤ x.1) : SQ SI w0 X g c h T a b N B W :=
  ⟨S.lower r st.b.size, st.b.trans (k.mono st.b.size), fun y hy => ⟨row_below k (st.h y hy), fun hX => by have := (S.foot r _ hX).1; have := lt_of_heap (st.h y hy); omega, hB y hy⟩⟩
end
/-- What was taken, and how many, behind a script's first i acts. -/
def runT (c : Cfg) (h : Int) (ops : List Op) : Nat → List Tn
  | 0 => []
  | i + 1 => match ops[i]? with | some o => if o.f then [] else nL c h (runT c h ops i) o.t o.l | none => runT c h ops i
def runA (c : Cfg) (h : Int) (ops : List Op) : Nat → Int
  | 0 => 0
  | i + 1 => match ops[i]? with | some o => if o.f then runA c h ops i else cA (runA c h ops i) (gd c h (runT c h ops i) o.t o.l).w | none => runA c h ops i
def runZ (c : Cfg) (h : Int) (ops : List Op) : Nat → Int
  | 0 => 0
  | i + 1 => match ops[i]? with | some o => if o.f then runZ c h ops i else cB (runZ c h ops i) (gd c h (runT c h ops i) o.t o.l).w | none => runZ c h ops i
theorem run_forget (c : Cfg) (h : Int) {ops : List Op} {i : Nat} {o : Op} (ho : ops[i]? = some o) (f : o.f = true) : runT c h ops (i + 1) = [] ∧ runA c h ops (i + 1) = runA c h ops i ∧ runZ c h ops (i + 1) = runZ c h ops i := by
  rw [runT, runA, runZ, ho]
  simp [f]
theorem run_frame (c : Cfg) (h : Int) {ops : List Op} {i : Nat} {o : Op} (ho : ops[i]? = some o) (f : o.f = false) : runT c h ops (i + 1) = nL c h (runT c h ops i) o.t o.l ∧ runA c h ops (i + 1) = cA (runA c h ops i) (gd c h (runT c h ops i) o.t o.l).w ∧ runZ c h ops (i + 1) = cB (runZ c h ops i) (gd c h (runT c h ops i) o.t o.l).w := by
  rw [runT, runA, runZ, ho]
  simp [f]
theorem run_in (c : Cfg) (h : Int) (ops : List Op) : ∀ i, (runT c h ops i).length ≤ i ∧ (0 ≤ runA c h ops i ∧ runA c h ops i ≤ i) ∧ (0 ≤ runZ c h ops i ∧ runZ c h ops i ≤ i)
  | 0 => by simp [runT, runA, runZ]
  | i + 1 => by
    obtain ⟨h1, h2, h3⟩ := run_in c h ops i
    cases ho : ops[i]? with
    | none =>
      have e : runT c h ops (i + 1) = runT c h ops i ∧ runA c h ops (i + 1) = runA c h ops i ∧ runZ c h ops (i + 1) = runZ c h ops i := by rw [runT, runA, runZ, ho]; exact ⟨rfl, rfl, rfl⟩
      rw [e.1, e.2.1, e.2.2]
      omega
    | some o =>
      cases hf : o.f with
      | true =>
        obtain ⟨e1, e2, e3⟩ := run_forget c h ho hf
        rw [e1, e2, e3]
        simp only [List.length_nil]
        omega
      | false =>
        obtain ⟨e1, e2, e3⟩ := run_frame c h ho hf
        rw [e1, e2, e3]
        generalize gd c h (runT c h ops i) o.t o.l = v at *
        refine ⟨?_, ?_, ?_⟩
        · unfold nL
          split
          · rw [List.length_append, List.length_singleton]; omega
          · omega
        · unfold cA; split <;> omega
        · unfold cB; split <;> omega
end Go.Proofs.Ytnlimdlmhfnkiaa.StationW

/- Each frame is taken once: plain. -/
namespace Go.Proofs.Ytnlimdlmhfnkiaa.StationW
open ConfW (Cfg R4 chk)
open FrameW (rdE)
open PlanW (landV)
/-- The last cycle of an entry, the last number of a link (-1: none). -/
def lastOf (p : Tn → Bool) (f : Tn → Int) (T : List Tn) : Int := (((T.filter p).getLast?).map f).getD (-1)
def isE (l : Nat) (x : Tn) : Bool := decide (x.d.c = 1) && decide (x.d.l = (l : Int))
def isL (l : Nat) (x : Tn) : Bool := decide (x.d.c = 2) && decide (x.d.l = (l : Int))
def cyl (T : List Tn) : List Int := (List.range 16).map fun l => lastOf (isE l) (·.k) T
def nul (T : List Tn) : List Int := (List.range 16).map fun l => lastOf (isL l) (·.d.n) T
theorem lastOf_yes {p : Tn → Bool} {f : Tn → Int} {T : List Tn} {x : Tn} (h : p x = true) : lastOf p f (T ++ [x]) = f x := by
  unfold lastOf
  rw [List.filter_append, List.filter_cons_of_pos h]
  simp
theorem lastOf_no {p : Tn → Bool} {f : Tn → Int} {T : List Tn} {x : Tn} (h : p x = false) : lastOf p f (T ++ [x]) = lastOf p f T := by
  unfold lastOf
  rw [List.filter_append, List.filter_cons_of_neg (by rw [h]; decide)]
  simp
theorem lastOf_mem {p : Tn → Bool} {f : Tn → Int} {T : List Tn} : lastOf p f T = -1 ∨ ∃ x ∈ T, p x = true ∧ lastOf p f T = f x := by
  unfold lastOf
  cases hl : (T.filter p).getLast? with
  | none => exact Or.inl rfl
  | some x =>
    have hm := List.mem_of_getLast? hl
    rw [List.mem_filter] at hm
    exact Or.inr ⟨x, hm.1, hm.2, rfl⟩
theorem cyl_len (T : List Tn) : (cyl T).length = 16 := by simp [cyl]
theorem nul_len (T : List Tn) : (nul T).length = 16 := by simp [nul]
theorem cyl_get (T : List Tn) {l : Nat} (h : l < 16) : (cyl T)[l]? = some (lastOf (isE l) (·.k) T) := by
  unfold cyl
  rw [List.getElem?_map, List.getElem?_range h]
  rfl
theorem nul_get (T : List Tn) {l : Nat} (h : l < 16) : (nul T)[l]? = some (lastOf (isL l) (·.d.n) T) := by
  unfold nul
  rw [List.getElem?_map, List.getElem?_range h]
  rfl
theorem map_set {f g : Nat → Int} {n l : Nat} (hl : l < n) (h : ∀ j, j ≠ l → f j = g j) : ((List.range n).map f) = ((List.range n).map g).set l (f l) := by
  apply List.ext_getElem?
  intro j
  rw [List.getElem?_set]
  by_cases hj : l = j
  · subst hj
    rw [if_pos rfl, if_pos (by simpa using hl), List.getElem?_map, List.getElem?_range hl]
    rfl
  · rw [if_neg hj, List.getElem?_map, List.getElem?_map]
    cases hq : (List.range n)[j]? with
    | none => rfl
    | some k =>
      have hk : j < n := by
        have := List.getElem?_eq_some_iff.1 hq
        obtain ⟨h1, -⟩ := this
        simpa using h1
      rw [List.getElem?_range hk] at hq
      cases hq
      simp only [Option.map_some]
      rw [h j (fun e => hj e.symm)]
theorem cyl_yes {T : List Tn} {x : Tn} {l : Nat} (hl : l < 16) (h1 : x.d.c = 1) (h2 : x.d.l = (l : Int)) : cyl (T ++ [x]) = (cyl T).set l x.k := by
  unfold cyl
  rw [map_set hl (g := fun l => lastOf (isE l) (·.k) T) (fun j hj => lastOf_no (by unfold isE; simp [h1, h2]; omega))]
  rw [lastOf_yes (by simp [isE, h1, h2])]
theorem nul_yes {T : List Tn} {x : Tn} {l : Nat} (hl : l < 16) (h1 : x.d.c = 2) (h2 : x.d.l = (l : Int)) : nul (T ++ [x]) = (nul T).set l x.d.n := by
  unfold nul
  rw [map_set hl (g := fun l => lastOf (isL l) (·.d.n) T) (fun j hj => lastOf_no (by unfold isL; simp [h1, h2]; omega))]
  rw [lastOf_yes (by simp [isL, h1, h2])]
theorem cyl_no {T : List Tn} {x : Tn} (h : x.d.c ≠ 1) : cyl (T ++ [x]) = cyl T := by
  unfold cyl
  exact List.map_congr_left fun l _ => lastOf_no (by simp [isE, h])
theorem nul_no {T : List Tn} {x : Tn} (h : x.d.c ≠ 2) : nul (T ++ [x]) = nul T := by
  unfold nul
  exact List.map_congr_left fun l _ => lastOf_no (by simp [isL, h])
theorem few16 {c : Cfg} (h : chk c = 0) : c.entries.length ≤ 16 ∧ c.links.length ≤ 16 := by
  obtain ⟨-, -, -, -, h3, -, h4⟩ := ConfW.chk_ok h
  unfold ConfW.entOk at h3
  unfold ConfW.linkOk at h4
  rw [Bool.and_eq_true, decide_eq_true_eq] at h3 h4
  exact ⟨h3.1, h4.1⟩
/-- One that is taken. -/
theorem gd_yes {c : Cfg} {h t : Int} {T : List Tn} {l : List Int} (hw : (gd c h T t l).w = 0) : rdE l = 0 ∧ (pj c h t 0 (dt l)).w = 0 ∧ tw T (dt l) (gd c h T t l).k = false ∧ (gd c h T t l) = pj c h t 0 (dt l) := by
  by_cases he : rdE l = 0
  · unfold gd gj at hw ⊢
    rw [he] at hw ⊢
    split at hw
    · exact absurd (show (3 : Int) = 0 from hw) (by decide)
    · rename_i hn
      rw [if_neg hn]
      refine ⟨rfl, hw, ?_, rfl⟩
      cases ht : tw T (dt l) (pj c h t 0 (dt l)).k with
      | false => rfl
      | true => exact absurd ⟨hw, ht⟩ hn
  · have e1 : (gd c h T t l).w = 1 := by
      unfold gd gj pj
      rw [if_neg he, if_neg (fun hh => absurd hh.1 (by decide))]
    omega
theorem tw_no {T : List Tn} {d : Dt} {k : Int} (h : tw T d k = false) {x : Tn} (hx : x ∈ T) : bars d k x = false := by
  unfold tw at h
  rw [List.any_eq_false] at h
  simpa using h x hx
theorem land_in {c : Cfg} {k t q : Int} (h : landV c k t = (q, true)) : 0 ≤ q := by
  unfold PlanW.landV at h
  split at h
  · rename_i hg
    rw [Bool.and_eq_true] at hg
    obtain ⟨g1, -⟩ := PlanW.got_iff.1 hg.1
    obtain ⟨⟨t0, -⟩, hz⟩ := PlanW.god_iff.1 g1
    have sp := (PlanW.chk_span hz).1
    have e : t / c.cycle = q := congrArg Prod.fst h
    rw [← e]
    exact Int.ediv_nonneg t0 (by omega)
  · exact absurd (show false = true from congrArg Prod.snd h) (by decide)
theorem once_t {c : Cfg} {h t : Int} {T : List Tn} {l : List Int} (hz : chk c = 0) (hw : (gd c h T t l).w = 0) (h1 : (dt l).c = 1) : ∃ n : Nat, n < 16 ∧ (dt l).l = (n : Int) ∧ lastOf (isE n) (·.k) T < (gd c h T t l).k := by
  obtain ⟨he, hp, ht, e⟩ := gd_yes hw
  have ok := dt_ok he
  obtain ⟨n, hn⟩ := Int.eq_ofNat_of_zero_le ok.l.1
  have ep : pj c h t 0 (dt l) = vT c h t (dt l) := by unfold pj; rw [if_pos rfl, if_pos h1]
  have hk : n < c.entries.length ∧ 0 ≤ (gd c h T t l).k := by
    rw [e, ep]
    rw [ep] at hp
    unfold vT at hp ⊢
    cases h2 : entAt c (dt l).l with
    | none => rw [h2] at hp; exact absurd (show (1 : Int) = 0 from hp) (by decide)
    | some x =>
      rw [h2] at hp
      dsimp only at hp ⊢
      have hlt : n < c.entries.length := by
        unfold entAt at h2
        rw [hn, Int.toNat_natCast] at h2
        exact Shell.lt_of_get h2
      by_cases h3 : CrewW.has x.b h = true ∧ x.d = (dt l).s
      · rw [if_pos h3] at hp ⊢
        obtain ⟨q, b, h5⟩ : ∃ q b, landV c (dt l).l t = (q, b) := ⟨_, _, rfl⟩
        rw [h5] at hp ⊢
        cases b with
        | true => exact ⟨hlt, land_in h5⟩
        | false => exact absurd (show (2 : Int) = 0 from hp) (by decide)
      · rw [if_neg h3] at hp; exact absurd hp (by decide)
  refine ⟨n, by have := (few16 hz).1; omega, hn, ?_⟩
  rcases lastOf_mem (p := isE n) (f := (·.k)) (T := T) with h2 | ⟨x, hx, hpx, h2⟩
  · rw [h2]; omega
  · rw [h2]
    have hb := tw_no ht hx
    unfold isE at hpx
    rw [Bool.and_eq_true, decide_eq_true_eq, decide_eq_true_eq] at hpx
    unfold bars at hb
    rw [h1, hn, hpx.1, hpx.2] at hb
    simp at hb
    exact hb
theorem once_r {c : Cfg} {h t : Int} {T : List Tn} {l : List Int} (hz : chk c = 0) (hw : (gd c h T t l).w = 0) (h1 : (dt l).c ≠ 1) (h3 : (dt l).c ≠ 3) : ∃ n : Nat, n < 16 ∧ (dt l).l = (n : Int) ∧ (dt l).c = 2 ∧ lastOf (isL n) (·.d.n) T < (dt l).n := by
  obtain ⟨he, hp, ht, e⟩ := gd_yes hw
  have ok := dt_ok he
  have h2 : (dt l).c = 2 := by have := ok.c; omega
  obtain ⟨n, hn⟩ := Int.eq_ofNat_of_zero_le ok.l.1
  have ep : pj c h t 0 (dt l) = vR c h (dt l) := by unfold pj; rw [if_pos rfl, if_neg h1, if_neg h3]
  have hk : n < c.links.length := by
    rw [ep] at hp
    unfold vR at hp
    cases h4 : lnkAt c (dt l).l with
    | none => rw [h4] at hp; exact absurd (show (1 : Int) = 0 from hp) (by decide)
    | some x =>
      unfold lnkAt at h4
      rw [hn, Int.toNat_natCast] at h4
      exact Shell.lt_of_get h4
  refine ⟨n, by have := (few16 hz).2; omega, hn, h2, ?_⟩
  rcases lastOf_mem (p := isL n) (f := (·.d.n)) (T := T) with h5 | ⟨x, hx, hpx, h5⟩
  · rw [h5]; have := ok.n; omega
  · rw [h5]
    have hb := tw_no ht hx
    unfold isL at hpx
    rw [Bool.and_eq_true, decide_eq_true_eq, decide_eq_true_eq] at hpx
    unfold bars at hb
    rw [h2, hn, hpx.1, hpx.2] at hb
    simp at hb
    exact hb
/-- Sixteen numbers, the first i of them written over. -/
def m16 (i : Nat) : List Int := (List.range 16).map fun j => if j < i then -1 else 0
theorem m16_set : ∀ i, i < 16 → (m16 i).set i (-1) = m16 (i + 1) := by decide
theorem m16_end : m16 16 = cyl [] ∧ m16 16 = nul [] := by decide
theorem m16_len : ∀ i, i < 17 → (m16 i).length = 16 := by decide
end Go.Proofs.Ytnlimdlmhfnkiaa.StationW

/- What was taken, told by the last cycle of each entry and the last number of each link: plain, for a station that keeps no more. -/
namespace Go.Proofs.Ytnlimdlmhfnkiaa.StationW
open ConfW (Cfg R4 chk)
open FrameW (rdE)
/-- They rise. -/
structure Rise (T : List Tn) : Prop where
  e : ∀ x ∈ T, ∀ l : Nat, isE l x = true → x.k ≤ lastOf (isE l) (·.k) T
  l : ∀ x ∈ T, ∀ l : Nat, isL l x = true → x.d.n ≤ lastOf (isL l) (·.d.n) T
theorem rise_nil : Rise [] := ⟨fun x h => by simp at h, fun x h => by simp at h⟩
theorem isE_iff {l : Nat} {x : Tn} : isE l x = true ↔ x.d.c = 1 ∧ x.d.l = (l : Int) := by simp [isE]
theorem isL_iff {l : Nat} {x : Tn} : isL l x = true ↔ x.d.c = 2 ∧ x.d.l = (l : Int) := by simp [isL]
theorem bars_e {d : Dt} {k : Int} {x : Tn} {l : Nat} (h1 : d.c = 1) (hl : d.l = (l : Int)) : bars d k x = (isE l x && decide (k ≤ x.k)) := by
  unfold bars isE
  rw [h1, hl]
  simp
theorem bars_l {d : Dt} {k : Int} {x : Tn} {l : Nat} (h1 : d.c = 2) (hl : d.l = (l : Int)) : bars d k x = (isL l x && decide (d.n ≤ x.d.n)) := by
  unfold bars isL
  rw [h1, hl]
  simp
theorem tw_e {T : List Tn} {d : Dt} {k : Int} {l : Nat} (R : Rise T) (h1 : d.c = 1) (hl : d.l = (l : Int)) (hk : 0 ≤ k) : tw T d k = decide (k ≤ lastOf (isE l) (·.k) T) := by
  by_cases hh : k ≤ lastOf (isE l) (·.k) T
  · rw [decide_eq_true hh]
    rcases lastOf_mem (p := isE l) (f := (·.k)) (T := T) with h2 | ⟨x, hx, hp, h2⟩
    · omega
    · unfold tw
      rw [List.any_eq_true]
      exact ⟨x, hx, by rw [bars_e h1 hl, hp, decide_eq_true (by omega)]; rfl⟩
  · rw [decide_eq_false hh]
    unfold tw
    rw [List.any_eq_false]
    intro x hx hb
    rw [bars_e h1 hl, Bool.and_eq_true, decide_eq_true_eq] at hb
    have := R.e x hx l hb.1
    omega
theorem tw_l {T : List Tn} {d : Dt} {k : Int} {l : Nat} (R : Rise T) (h1 : d.c = 2) (hl : d.l = (l : Int)) (hn : 0 ≤ d.n) : tw T d k = decide (d.n ≤ lastOf (isL l) (·.d.n) T) := by
  by_cases hh : d.n ≤ lastOf (isL l) (·.d.n) T
  · rw [decide_eq_true hh]
    rcases lastOf_mem (p := isL l) (f := (·.d.n)) (T := T) with h2 | ⟨x, hx, hp, h2⟩
    · omega
    · unfold tw
      rw [List.any_eq_true]
      exact ⟨x, hx, by rw [bars_l h1 hl, hp, decide_eq_true (by omega)]; rfl⟩
  · rw [decide_eq_false hh]
    unfold tw
    rw [List.any_eq_false]
    intro x hx hb
    rw [bars_l h1 hl, Bool.and_eq_true, decide_eq_true_eq] at hb
    have := R.l x hx l hb.1
    omega
/-- One more that stands in nobody's way is taken. -/
theorem Rise.snoc {T : List Tn} (R : Rise T) {d : Dt} {k : Int} (h : tw T d k = false) : Rise (T ++ [⟨d, k⟩]) := by
  refine ⟨fun x hx l hp => ?_, fun x hx l hp => ?_⟩
  · by_cases hy : isE l ⟨d, k⟩ = true
    · rw [lastOf_yes hy]
      rcases List.mem_append.1 hx with hx | hx
      · obtain ⟨h1, h2⟩ := isE_iff.1 hy
        have hb := tw_no h hx
        rw [bars_e h1 h2, hp, Bool.true_and, decide_eq_false_iff_not] at hb
        show x.k ≤ k
        omega
      · rw [List.mem_singleton] at hx
        subst hx
        exact Int.le_refl _
    · rw [lastOf_no (by simpa using hy)]
      rcases List.mem_append.1 hx with hx | hx
      · exact R.e x hx l hp
      · rw [List.mem_singleton] at hx
        subst hx
        exact absurd hp hy
  · by_cases hy : isL l ⟨d, k⟩ = true
    · rw [lastOf_yes hy]
      rcases List.mem_append.1 hx with hx | hx
      · obtain ⟨h1, h2⟩ := isL_iff.1 hy
        have hb := tw_no h hx
        rw [bars_l h1 h2, hp, Bool.true_and, decide_eq_false_iff_not] at hb
        have hb2 : ¬ d.n ≤ x.d.n := hb
        show x.d.n ≤ d.n
        omega
      · rw [List.mem_singleton] at hx
        subst hx
        exact Int.le_refl _
    · rw [lastOf_no (by simpa using hy)]
      rcases List.mem_append.1 hx with hx | hx
      · exact R.l x hx l hp
      · rw [List.mem_singleton] at hx
        subst hx
        exact absurd hp hy
theorem Rise.next {T : List Tn} (R : Rise T) (c : Cfg) (h t : Int) (l : List Int) : Rise (nL c h T t l) := by
  unfold nL
  split
  · rename_i hw
    exact R.snoc (gd_yes hw).2.2.1
  · exact R
end Go.Proofs.Ytnlimdlmhfnkiaa.StationW

/- A configuration that is copied and kept: what is known of it as long as its blocks stay. -/
namespace Go.Proofs.Ytnlimdlmhfnkiaa.StationW
open Go.RowKit Shell
open ConfW (Cfg R4 CM ML chk Dup Up own_up)
/-- A configuration of a call's own is known by its blocks. -/
theorem dup_up {w w1 : World} {lo gd : Nat} {c : Cfg} {vs : List Value} {vE vL : Value} (h : Dup w lo c gd vs vE vL) (u : Up lo w w1) : Dup w1 lo c gd vs vE vL :=
  ⟨h.hg, (u.block gd h.hg (lt_of_heap h.hd)).trans h.hd, h.len, fun j r hj => by
    obtain ⟨v, hv, ho⟩ := h.row j r hj
    exact ⟨v, hv, own_up ho (Nat.le_succ_of_le h.hg) u⟩, h.far, own_up h.ent (Nat.le_succ_of_le h.hg) u, own_up h.lnk (Nat.le_succ_of_le h.hg) u⟩
/-- Numbers that a configuration that may be keeps a copy's sizes by. -/
theorem chk_small {c : Cfg} (h : chk c = 0) : c.delays.length ≤ 6 ∧ (∀ r ∈ c.delays, r.length = 2) ∧ c.entries.length ≤ 16 ∧ c.links.length ≤ 16 := by
  obtain ⟨h1, -, -, h2, h3, -, h5⟩ := ConfW.chk_ok h
  rw [ConfW.btw_iff] at h1
  unfold ConfW.rowsOk at h2
  unfold ConfW.entOk at h3
  unfold ConfW.linkOk at h5
  rw [Bool.and_eq_true, decide_eq_true_eq, List.all_eq_true] at h2
  rw [Bool.and_eq_true, decide_eq_true_eq] at h3 h5
  refine ⟨by omega, fun r hr => ?_, h3.1, h5.1⟩
  have h4 := h2.2 r hr
  unfold ConfW.rowOk at h4
  rw [Bool.and_eq_true, decide_eq_true_eq] at h4
  exact h4.1
/-- The copy, and that it is one for as long as the blocks stay that it lies in (those from the call's start to its end). -/
theorem copy_kept (c : Cfg) (D E L : Option Addr) (nd cd ne ce nl cl : Nat) (w : World) (m : CM w c D E L nd cd ne ce nl cl) (hz : chk c = 0) : Calls Try.prog 21 #[.agg #[.int .i64 c.hosts, .int .i64 c.cycle, .int .i64 c.delay, .int .i64 c.window, .int .i64 c.precision, .slice D nd cd, .slice E ne ce, .slice L nl cl, .int .i64 c.queue]] w fun r w' => ∃ D2 E2 L2 cd2 ce2 cl2, r = .returned (.agg #[.int .i64 c.hosts, .int .i64 c.cycle, .int .i64 c.delay, .int .i64 c.window, .int .i64 c.precision, .slice D2 nd cd2, .slice E2 ne ce2, .slice L2 nl cl2, .int .i64 c.queue]) ∧ Below w.heap.size w w' ∧
    ∀ W1 : World, w'.heap.size ≤ W1.heap.size → (∀ j, w.heap.size ≤ j → j < w'.heap.size → W1.heap[j]? = w'.heap[j]?) → CM W1 c D2 E2 L2 nd cd2 ne ce2 nl cl2 := by
  obtain ⟨k1, k2, k3, k4⟩ := chk_small hz
  refine (ConfW.copy_any c D E L nd cd ne ce nl cl w m (by rw [m.nD]; omega) (fun r hr => by rw [k2 r hr]; decide) (by rw [m.nE]; omega) (by rw [m.nL]; omega)).mono ?_
  rintro r w' ⟨gd, vs, vE, vL, rfl, b, du⟩
  obtain ⟨E2, L2, ce2, cl2, e1, e2, -⟩ := du.mem (CM.wf c D E L nd cd ne ce nl cl m) m.he.u32 m.hl.u32 (by rw [← m.nD]; exact m.mD)
  rw [← m.nE] at e1
  rw [← m.nL] at e2
  subst e1
  subst e2
  refine ⟨some ⟨gd, 0, none⟩, E2, L2, nd, ce2, cl2, rfl, b, fun W1 hs hj => ?_⟩
  obtain ⟨E', L', ce', cl', e1, e2, m1⟩ := (dup_up du ⟨hs, hj⟩).mem (CM.wf c D E L nd cd ne ce nl cl m) m.he.u32 m.hl.u32 (by rw [← m.nD]; exact m.mD)
  rw [← m.nE] at e1
  rw [← m.nL] at e2
  rw [← m.nD, ← m.nE, ← m.nL] at m1
  injection e1 with q1 _ q3
  injection e2 with p1 _ p3
  subst q1; subst q3; subst p1; subst p3
  exact m1
end Go.Proofs.Ytnlimdlmhfnkiaa.StationW

/- A map of numbers in memory, by what stands at each key. -/
namespace Go.Proofs.Ytnlimdlmhfnkiaa.StationW
open Go.RowKit Shell
open Go.Maps (Keyed IsMap)
theorem law_int : Keyed Try.prog 3 := Maps.int_keyed Try.underlying3
theorem zero64 (w : World) : (zeroValue 2).run Try.prog w = .ok (.int .i64 0) w := by kernel_rfl
/-- What stands at each number (none: nothing). -/
def MP (W : World) (b n : Nat) (f : Nat → Option Int) : Prop :=
  ∃ D : DataW Unit, W.ownsMap Try.prog 3 (plainElem Try.prog 2) b n D ∧ ∀ k : Nat, k ≤ 255 → Maps.has D (.int .i64 (k : Int)) = (f k).isSome ∧ D.atKey (.int .i64 (k : Int)) (.lit (.int .i64 0)) = .lit (.int .i64 ((f k).getD 0))
def MP.upd (f : Nat → Option Int) (k : Nat) (x : Int) : Nat → Option Int := fun j => if j = k then some x else f j
theorem wf64 {x : Int} (h0 : -9223372036854775808 ≤ x) (h1 : x ≤ 9223372036854775807) : (Lit.int .i64 x).wf = true := by
  simp [Lit.wf]
  show -9223372036854775808 ≤ x ∧ x ≤ 9223372036854775807
  omega
theorem key_wf {k : Nat} (h : k ≤ 255) : (Lit.int .i64 (k : Int)).wf = true := wf64 (by omega) (by omega)
theorem key_of {k : Nat} (h : k ≤ 255) : keyOf Try.prog 3 (.int .i64 (k : Int)) = some (.int .i64 (k : Int)) := Maps.keyOf_int_mk Try.underlying3 (key_wf h)
section
variable {W W1 : World} {b n : Nat} {f : Nat → Option Int}
theorem MP.made (W : World) : MP (W.alloc (.map #[] 0)) W.heap.size 0 (fun _ => none) :=
  ⟨.map [], World.ownsMap_made _ _ _ _, fun _ _ => ⟨rfl, rfl⟩⟩
theorem MP.mono (h : MP W b n f) {m : Nat} (hm : n ≤ m) : MP W b m f := by
  obtain ⟨D, h1, h2⟩ := h
  exact ⟨D, h1.mono hm, h2⟩
theorem MP.lt (h : MP W b n f) : b < W.heap.size := by
  obtain ⟨D, h1, h2⟩ := h
  exact h1.lt
theorem MP.block (h : MP W b n f) (hb : W1.heap[b]? = W.heap[b]?) : MP W1 b n f := by
  obtain ⟨D, ⟨es, clock, h1, F, hs, hD⟩, h2⟩ := h
  exact ⟨D, ⟨es, clock, hb.trans h1, F, hs, hD⟩, h2⟩
theorem MP.map (h : MP W b n f) : ∃ es clock, W.heap[b]? = some (.map es clock) := by
  obtain ⟨D, ⟨es, clock, h1, F, hs, hD⟩, h2⟩ := h
  exact ⟨es, clock, h1⟩
/-- It is asked. -/
theorem MP.look (h : MP W b n f) {k : Nat} (hk : k ≤ 255) : (Instr.lookup 69 (.map (some b)) (.int .i64 (k : Int)) true).run Try.prog W = .ok (.tuple #[.int .i64 ((f k).getD 0), .bool (f k).isSome]) W := by
  obtain ⟨D, h1, h2⟩ := h
  obtain ⟨a1, a2⟩ := h2 k hk
  obtain ⟨v, ps, hr, hv⟩ := h1.look_ok law_int Try.underlying69 (zero64 W) (plainElem_int Try.underlying2 (by decide)) (key_of hk)
  obtain ⟨c, rfl, hc, hwc⟩ := plainElem_int_inv Try.underlying2 hv
  simp only [Prod.mk.injEq] at hc
  have e : (DataW.lit (.int .i64 c) : DataW Unit) = .lit (.int .i64 ((f k).getD 0)) := hc.1.symm.trans a2
  have e2 := (Lit.int.inj (DataW.lit.inj e)).2
  rw [hr, a1, e2]
/-- It is written. -/
theorem MP.store (h : MP W b n f) (hn : n < maxLen) {k : Nat} (hk : k ≤ 255) {x : Int} (hx : (Lit.int .i64 x).wf = true) : ∃ w', (Instr.mapUpdate 69 (.map (some b)) (.int .i64 (k : Int)) (.int .i64 x)).run Try.prog W = .ok () w' ∧ MP w' b (n + 1) (MP.upd f k x) ∧ Kept b W w' := by
  obtain ⟨D, h1, h2⟩ := h
  obtain ⟨w', hr, h3, h4⟩ := h1.update law_int Try.underlying69 hn (key_of hk) (plainElem_int Try.underlying2 hx)
  refine ⟨w', hr, ⟨_, h3, fun j hj => ?_⟩, ⟨h4.os, h4.tape, h4.output, h4.size, fun i hi hl => h4.block i hl (by simp only [ne_eq, Option.some.injEq]; exact hi)⟩⟩
  by_cases e : j = k
  · subst e
    refine ⟨?_, ?_⟩
    · rw [Maps.has_put_same h1.isMap (by simp [WideAt.IsKeyLit])]
      simp [MP.upd]
    · rw [Maps.atKey_put_same h1.isMap (by simp [WideAt.IsKeyLit])]
      simp [MP.upd]
  · have e2 : (Lit.int .i64 (j : Int)) ≠ Lit.int .i64 (k : Int) := by
      intro hh
      injection hh with _ hh
      omega
    obtain ⟨a1, a2⟩ := h2 j hj
    rw [Maps.has_put_other e2, Maps.atKey_put_other e2, a1, a2]
    simp [MP.upd, e]
/-- It is emptied. -/
theorem MP.clear (h : MP W b n f) : ∃ w', (∀ ty, (Builtin.clear_ #[69] ty #[.map (some b)]).run Try.prog W = .ok (.tuple #[]) w') ∧ MP w' b 0 (fun _ => none) ∧ Kept b W w' := by
  obtain ⟨es, clock, hb⟩ := h.map
  refine ⟨ChangeMaps.setBlock W b (.map #[] clock), fun ty => ?_, ⟨.map [], ⟨#[], clock, ChangeMaps.heap_setBlock_same hb _, ⟨by simp, MapKept.stamped_empty clock, by simp⟩, Nat.le_refl _, rfl⟩, fun _ _ => ⟨rfl, rfl⟩⟩, ⟨rfl, rfl, rfl, by simp [ChangeMaps.setBlock], fun i hi _ => ChangeMaps.heap_setBlock_other hb _ hi⟩⟩
  simp [Builtin.clear_, run_underlying Try.underlying69, MapKept.run_getObj_map hb, MapKept.run_setObj_map _ hb, Result.andThen, ChangeMaps.setBlock]
end
end Go.Proofs.Ytnlimdlmhfnkiaa.StationW
