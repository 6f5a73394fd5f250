/- What the laws' shells take: no variable is listed; configurations and entries that came in, opened. -/
import Derived.Test.YtmagjekmlnpfpaaGreatRows
import Derived.Test.YtmagjekmlnpfpaaGreatConfY
import Derived.Test.YtmagjekmlnpfpaaGreatLawShell
import Derived.Test.YtmagjekmlnpfpaaGreatOpen
import Derived.ProofKit
import Derived.OpenShut
import Derived.Laws.Cover2
import Derived.Deep.DeepHandedRow
import Derived.Deep.DeepWitnessRowRef
import Derived.SizedLaws
namespace Go.Proofs.YtmagjekmlnpfpaaGreat.ConfW
open Go.ChangeShapes Go.WideShapes Go.ChangeAt Go.RowKit Shell
set_option maxRecDepth 100000 in
theorem own : ownKnob Tryz.prog.godebug = none := by kernel_rfl
set_option maxRecDepth 100000 in
theorem laidOut : laidOutB Tryz.prog = true := by kernel_rfl
set_option maxRecDepth 100000 in
theorem laid_met (os : Os) (args : Array Value) : laidMet Tryz.prog [] ((World.holding Tryz.prog os ⟨#[], #[], []⟩).forCall (fun _ _ => 0) ⟨#[], args, []⟩).memory :=
  laidMet_of_run' 8 (by kernel_rfl) (by kernel_rfl)
section
variable {H : Type} {enc : TypeId × Value → H}
set_option maxRecDepth 100000 in
theorem u32_wf {n : Int} (h : (Lit.int .u32 n).wf = true) : 0 ≤ n ∧ n ≤ 4294967295 := by
  simp [Lit.wf] at h
  exact h
set_option maxRecDepth 100000 in
theorem nine {l : Array Value} (h : l.size = 9) : ∃ a b c d e f g i j, l = #[a, b, c, d, e, f, g, i, j] := by
  obtain ⟨l⟩ := l
  match l, h with
  | [a, b, c, d, e, f, g, i, j], _ => exact ⟨a, b, c, d, e, f, g, i, j, rfl⟩
set_option maxRecDepth 100000 in
theorem field_at {w : World} {base : Nat} {spare : Nat → Bool} {held : Bool} {n : Nat} {fs : Array Field} {cs : List Value} {ys : List (DataW H × List MemPlace)}
    (hg : ∀ (i : Nat) (f : Field), fs[i]? = some f → DataW.trod enc Tryz.prog w base spare held n f.type ((cs.drop f.offset).take (Tryz.prog.cellsOf f.type)) = ys[i]?) (hl : ys.length = fs.size)
    (i : Nat) (t : TypeId) (f : Field) (x : Value) (hf : fs[i]? = some f) (ho : f.offset = i) (ht : f.type = t) (hc : Tryz.prog.cellsOf t = 1) (hx : cs[i]? = some x) : ∃ y, ys[i]? = some y ∧ DataW.trod enc Tryz.prog w base spare held n t [x] = some y := by
  have h := hg i f hf
  have hi : i < ys.length := by
    rw [hl]
    rcases Nat.lt_or_ge i fs.size with h | h
    · exact h
    · rw [Array.getElem?_eq_none h] at hf; cases hf
  have hj : i < cs.length := by
    rcases Nat.lt_or_ge i cs.length with h | h
    · exact h
    · rw [List.getElem?_eq_none h] at hx; cases hx
  rw [ht, ho, hc, List.getElem?_eq_getElem hi] at h
  rw [List.getElem?_eq_getElem hj] at hx
  have h1 : (cs.drop i).take 1 = [x] := by
    rw [List.drop_eq_getElem_cons hj, Option.some.inj hx]
    rfl
  rw [h1] at h
  exact ⟨_, List.getElem?_eq_getElem hi, h⟩
set_option maxRecDepth 100000 in
/-- A slice of whole numbers that came in. -/
theorem nums_in {W : World} {n : Nat} {v : Value} {y : DataW H × List MemPlace} (hf : DataW.trod enc Tryz.prog W 0 (fun _ => true) true n 35 [v] = some y) :
    ∃ (A : Option Addr) (xs : List Int) (c : Nat), v = .slice A xs.length c ∧ CL W .i64 A xs ∧ xs.length ≤ maxLen ∧ xs.length ≤ c ∧ (xs = [] ∨ ∃ es sp, y.1 = .slice es sp ∧ xs.length = es.length) ∧ (A = none → c = 0) := by
  rcases Go.Deep.open_slice1 Tryz.underlying35 (by kernel_rfl) hf with ⟨h1, _⟩ | ⟨a, len, cap, m, k, V, D, Pl, h1, _, hl, hm, hmm, hdat, hx⟩
  · injection h1 with h1 _
    subst h1
    exact ⟨none, [], 0, rfl, fun k x h => by simp at h, by decide, Nat.le_refl _, Or.inl rfl, fun _ => rfl⟩
  · injection h1 with h1 _
    subst h1
    have hb : ∀ i, i < len → ∃ b : Int, W.cell? (a.add i) = some (.int .i64 b) ∧ (Lit.int .i64 b).wf = true := by
      intro i hi
      obtain ⟨h2, h3⟩ := hx i (by rw [hmm]; simp; omega)
      obtain ⟨b, hv, hlt⟩ := trod_num Tryz.underlying2 h3
      exact ⟨b, by rw [h2, hv], hlt⟩
    obtain ⟨f, hfn⟩ := Go.Deep.choose_lt (α := Int) (p := fun i b => W.cell? (a.add i) = some (.int .i64 b) ∧ (Lit.int .i64 b).wf = true) hb
    refine ⟨some a, (List.range len).map f, cap, by simp, ?_, by simp; omega, by simp; exact hl, Or.inr ⟨_, _, congrArg (·.1) hdat, by simp⟩, fun h => by cases h⟩
    intro i x hix
    have hi : i < len := by
      have := lt_of_get hix
      simpa using this
    have : x = f i := by
      rw [List.getElem?_map, List.getElem?_range hi] at hix
      exact (Option.some.inj hix).symm
    subst this
    exact ⟨a, rfl, (hfn i hi).1, (hfn i hi).2⟩
set_option maxRecDepth 100000 in
theorem rows_in {W : World} {n : Nat} {v : Value} {y : DataW H × List MemPlace} (hf : DataW.trod enc Tryz.prog W 0 (fun _ => true) true n 22 [v] = some y) :
    ∃ (D : Option Addr) (l : List (List Int)) (c : Nat), v = .slice D l.length c ∧ DL W D l ∧ l.length ≤ maxLen ∧ l.length ≤ c ∧ (D = none → c = 0) ∧
      (l = [] ∨ ∃ es sp, y.1 = .slice es sp ∧ l.length = es.length ∧ ∀ (i : Nat) (r : List Int), l[i]? = some r → r = [] ∨ ∃ fs sq, es[i]? = some (.slice fs sq) ∧ r.length = fs.length) := by
  rcases Go.Deep.open_slice1 Tryz.underlying22 (by kernel_rfl) hf with ⟨h1, _⟩ | ⟨a, len, cap, m, k, V, D, Pl, h1, _, hl, hm, hmm, hdat, hx⟩
  · injection h1 with h1 _
    subst h1
    exact ⟨none, [], 0, rfl, fun k x h => by simp at h, by decide, Nat.le_refl _, fun _ => rfl, Or.inl rfl⟩
  · injection h1 with h1 _
    subst h1
    have hb : ∀ i, i < len → ∃ r : List Int, ∃ A c, W.cell? (a.add i) = some (.slice A r.length c) ∧ CL W .i64 A r ∧ r.length ≤ maxLen ∧ r.length ≤ c ∧ (A = none → c = 0) ∧ (r = [] ∨ ∃ es sp, D i = .slice es sp ∧ r.length = es.length) := by
      intro i hi
      obtain ⟨h2, h3⟩ := hx i (by rw [hmm]; simp; omega)
      obtain ⟨A, xs, c, hv, h4, h5, h6, h7, h8⟩ := nums_in h3
      exact ⟨xs, A, c, by rw [h2, hv], h4, h5, h6, h8, h7⟩
    obtain ⟨f, hfn⟩ := Go.Deep.choose_lt (α := List Int) hb
    have at_ : ∀ (i : Nat) (x : List Int), ((List.range len).map f)[i]? = some x → i < len ∧ x = f i := by
      intro i x hix
      have hi : i < len := by
        have := lt_of_get hix
        simpa using this
      rw [List.getElem?_map, List.getElem?_range hi] at hix
      exact ⟨hi, (Option.some.inj hix).symm⟩
    refine ⟨some a, (List.range len).map f, cap, by simp, ?_, by simp; omega, by simp; exact hl, (fun h => by cases h), Or.inr ⟨_, _, congrArg (·.1) hdat, by simp, ?_⟩⟩
    · intro i x hix
      obtain ⟨hi, rfl⟩ := at_ i x hix
      obtain ⟨A, c, h1, h2, h3, h4, h5, _⟩ := hfn i hi
      exact ⟨a, A, c, rfl, h1, h2, h3, h4, h5⟩
    · intro i x hix
      obtain ⟨hi, rfl⟩ := at_ i x hix
      obtain ⟨A, c, _, _, _, _, _, h6⟩ := hfn i hi
      rcases h6 with h6 | ⟨es, sp, h6, h7⟩
      · exact Or.inl h6
      · exact Or.inr ⟨es, sp, by rw [List.getElem?_map, List.getElem?_range hi, Option.map_some, h6], h7⟩
set_option maxRecDepth 100000 in
theorem ents_in {t e : TypeId} {fs : Array Field} (ht : Tryz.prog.underlying t = some (.slice e)) (he : Tryz.prog.underlying e = some (.struct fs)) (hc : Tryz.prog.cellsOf e = 4) (hs : fs.size = 4)
    (hF : ∀ (i : Nat) (f : Field) (q : IntKind), fs[i]? = some f → [IntKind.i64, IntKind.u32, IntKind.i64, IntKind.i64][i]? = some q → f.offset = i ∧ Tryz.prog.cellsOf f.type = 1 ∧ Tryz.prog.underlying f.type = some (.int q))
    {W : World} {n : Nat} {v : Value} {y : DataW H × List MemPlace} (hf : DataW.trod enc Tryz.prog W 0 (fun _ => true) true n t [v] = some y) :
    ∃ (A : Option Addr) (l : List R4) (c : Nat), v = .slice A l.length c ∧ ML W A l ∧ l.length ≤ maxLen ∧ l.length ≤ c ∧ (A = none → c = 0) ∧ (l = [] ∨ ∃ es sp, y.1 = .slice es sp ∧ l.length = es.length) := by
  rcases Go.Deep.open_slice ht hf with ⟨h1, _⟩ | ⟨a, len, cap, m, k, D, Pl, h1, _, hl, hm, hmm, hdat, hx⟩
  · injection h1 with h1 _
    subst h1
    exact ⟨none, [], 0, rfl, fun k x h => by simp at h, by decide, Nat.le_refl _, fun _ => rfl, Or.inl rfl⟩
  · injection h1 with h1 _
    subst h1
    have one : ∀ (i j : Nat) (q : IntKind), i < len → j < 4 → [IntKind.i64, IntKind.u32, IntKind.i64, IntKind.i64][j]? = some q → ∃ b : Int, W.cell? (a.add (i * 4 + j)) = some (.int q b) ∧ (Lit.int q b).wf = true := by
      intro i j q hi hj hq
      obtain ⟨cs, h2, h3⟩ := hx i (by rw [hmm]; simp; omega)
      rw [hc] at h2
      obtain ⟨-, hlen, hcell⟩ := World.cells?_some h2
      obtain ⟨ys, k', -, -, -, hyl, hg⟩ := DataW.trod_struct he h3
      obtain ⟨f, hfj⟩ : ∃ f, fs[j]? = some f := ⟨_, Array.getElem?_eq_getElem (by omega)⟩
      obtain ⟨ho, h1c, hu⟩ := hF j f q hfj hq
      have h4 := hg j f hfj
      rw [ho, h1c, List.getElem?_eq_getElem (by omega)] at h4
      have hv : (cs.drop j).take 1 = [cs[j]'(by omega)] := by
        rw [List.drop_eq_getElem_cons (by omega)]
        rfl
      rw [hv] at h4
      obtain ⟨b, hb, hw⟩ := trod_num hu h4
      have h5 := hcell j (by omega)
      rw [Go.Deep.add_add, List.getElem?_eq_getElem (by omega), hb] at h5
      exact ⟨b, h5, hw⟩
    have each : ∀ i, i < len → ∃ x : R4, ∃ b off, a = ⟨b, off, none⟩ ∧ (W.cell? ⟨b, off + i * 4, none⟩ = some (.int .i64 x.a) ∧ W.cell? ⟨b, off + i * 4 + 1, none⟩ = some (.int .u32 (x.b : Int)) ∧ W.cell? ⟨b, off + i * 4 + 2, none⟩ = some (.int .i64 x.c) ∧ W.cell? ⟨b, off + i * 4 + 3, none⟩ = some (.int .i64 x.d)) ∧ x.b < 4294967296 := by
      intro i hi
      obtain ⟨z0, s0, _⟩ := one 0 0 .i64 (by omega) (by decide) rfl
      obtain ⟨x0, c0, _⟩ := one i 0 .i64 hi (by decide) rfl
      obtain ⟨x1, c1, w1⟩ := one i 1 .u32 hi (by decide) rfl
      obtain ⟨x2, c2, _⟩ := one i 2 .i64 hi (by decide) rfl
      obtain ⟨x3, c3, _⟩ := one i 3 .i64 hi (by decide) rfl
      have hw := u32_wf w1
      obtain ⟨b, off, spot⟩ := a
      have hspot : spot = none := by
        have h3 := World.cell?_spot s0
        simpa [Addr.add] using h3
      subst hspot
      have ha : ∀ j, (⟨b, off, none⟩ : Addr).add (i * 4 + j) = ⟨b, off + i * 4 + j, none⟩ := fun j => by unfold Addr.add; split <;> simp_all; omega
      rw [ha] at c0 c1 c2 c3
      refine ⟨⟨x0, x1.toNat, x2, x3⟩, b, off, rfl, ⟨c0, ?_, c2, c3⟩, ?_⟩
      · rw [c1]
        congr 2
        show x1 = ((x1.toNat : Nat) : Int)
        omega
      · show x1.toNat < 4294967296
        omega
    obtain ⟨f, hfn⟩ := @Go.Deep.choose_lt R4 ⟨zero4⟩ _ _ each
    refine ⟨some a, (List.range len).map f, cap, by simp, ?_, by simp; omega, by simp; exact hl, (fun h => by cases h), Or.inr ⟨_, _, congrArg (·.1) hdat, by simp⟩⟩
    intro i x hix
    have hi : i < len := by
      have := lt_of_get hix
      simpa using this
    have : x = f i := by
      rw [List.getElem?_map, List.getElem?_range hi] at hix
      exact (Option.some.inj hix).symm
    subst this
    obtain ⟨b, off, ha, hcs, hb⟩ := hfn i hi
    exact ⟨b, off, by rw [ha], hcs, hb⟩
set_option maxRecDepth 100000 in
theorem entF (i : Nat) (f : Field) (q : IntKind) (hf : (Tryz.prog.fieldsOf 138)[i]? = some f) (hq : [IntKind.i64, IntKind.u32, IntKind.i64, IntKind.i64][i]? = some q) : f.offset = i ∧ Tryz.prog.cellsOf f.type = 1 ∧ Tryz.prog.underlying f.type = some (.int q) := by
  simp only [Program.fieldsOf, Tryz.underlying138] at hf
  match i, hf, hq with
  | 0, hf, hq => cases hf; cases hq; exact ⟨rfl, by kernel_rfl, by kernel_rfl⟩
  | 1, hf, hq => cases hf; cases hq; exact ⟨rfl, by kernel_rfl, by kernel_rfl⟩
  | 2, hf, hq => cases hf; cases hq; exact ⟨rfl, by kernel_rfl, by kernel_rfl⟩
  | 3, hf, hq => cases hf; cases hq; exact ⟨rfl, by kernel_rfl, by kernel_rfl⟩
set_option maxRecDepth 100000 in
theorem lnkF (i : Nat) (f : Field) (q : IntKind) (hf : (Tryz.prog.fieldsOf 120)[i]? = some f) (hq : [IntKind.i64, IntKind.u32, IntKind.i64, IntKind.i64][i]? = some q) : f.offset = i ∧ Tryz.prog.cellsOf f.type = 1 ∧ Tryz.prog.underlying f.type = some (.int q) := by
  simp only [Program.fieldsOf, Tryz.underlying120] at hf
  match i, hf, hq with
  | 0, hf, hq => cases hf; cases hq; exact ⟨rfl, by kernel_rfl, by kernel_rfl⟩
  | 1, hf, hq => cases hf; cases hq; exact ⟨rfl, by kernel_rfl, by kernel_rfl⟩
  | 2, hf, hq => cases hf; cases hq; exact ⟨rfl, by kernel_rfl, by kernel_rfl⟩
  | 3, hf, hq => cases hf; cases hq; exact ⟨rfl, by kernel_rfl, by kernel_rfl⟩
set_option maxRecDepth 100000 in
theorem open_cfg {W : World} {r : Reach} {b0 : Nat} {v : Value} {d : DataW H} {ps : List MemPlace}
    (hval : Value.okWide Tryz.prog W r b0 26 v) (hd : DataW.Trod enc Tryz.prog W 0 (fun _ => true) true 26 v d ps) : ∃ (c : Cfg) (D E L : Option Addr) (nd cd ne ce nl cl : Nat), v = .agg #[.int .i64 c.hosts, .int .i64 c.cycle, .int .i64 c.delay, .int .i64 c.window, .int .i64 c.precision, .slice D nd cd, .slice E ne ce, .slice L nl cl, .int .i64 c.queue] ∧ CM W c D E L nd cd ne ce nl cl ∧
      ∃ ys, d = .agg ys ∧ (c.delays = [] ∨ ∃ es sp, ys[5]? = some (.slice es sp) ∧ c.delays.length = es.length ∧ ∀ (i : Nat) (r : List Int), c.delays[i]? = some r → r = [] ∨ ∃ fs sq, es[i]? = some (.slice fs sq) ∧ r.length = fs.length) ∧
        (c.entries = [] ∨ ∃ es sp, ys[6]? = some (.slice es sp) ∧ c.entries.length = es.length) ∧ (c.links = [] ∨ ∃ es sp, ys[7]? = some (.slice es sp) ∧ c.links.length = es.length) := by
  simp only [Value.okWide, Tryz.underlying26] at hval
  obtain ⟨cs, rfl, hsz, -⟩ := hval
  rw [show Tryz.prog.cellsOf 26 = 9 by kernel_rfl] at hsz
  obtain ⟨x0, x1, x2, x3, x4, x5, x6, x7, x8, rfl⟩ := nine hsz
  obtain ⟨fuel, hf⟩ := hd
  obtain ⟨ys, k', hk1, hk2, hk3, hyl, hg⟩ := DataW.trod_struct Tryz.underlying26 hf
  injection hk2 with hd1 _
  obtain ⟨y0, e0, h0⟩ := field_at hg hyl 0 3 _ x0 rfl rfl rfl (by kernel_rfl) rfl
  obtain ⟨y1, e1, h1⟩ := field_at hg hyl 1 2 _ x1 rfl rfl rfl (by kernel_rfl) rfl
  obtain ⟨y2, e2, h2⟩ := field_at hg hyl 2 2 _ x2 rfl rfl rfl (by kernel_rfl) rfl
  obtain ⟨y3, e3, h3⟩ := field_at hg hyl 3 2 _ x3 rfl rfl rfl (by kernel_rfl) rfl
  obtain ⟨y4, e4, h4⟩ := field_at hg hyl 4 2 _ x4 rfl rfl rfl (by kernel_rfl) rfl
  obtain ⟨y5, e5, h5⟩ := field_at hg hyl 5 22 _ x5 rfl rfl rfl (by kernel_rfl) rfl
  obtain ⟨y6, e6, h6⟩ := field_at hg hyl 6 23 _ x6 rfl rfl rfl (by kernel_rfl) rfl
  obtain ⟨y7, e7, h7⟩ := field_at hg hyl 7 24 _ x7 rfl rfl rfl (by kernel_rfl) rfl
  obtain ⟨y8, e8, h8⟩ := field_at hg hyl 8 3 _ x8 rfl rfl rfl (by kernel_rfl) rfl
  obtain ⟨z0, rfl, -⟩ := trod_num Tryz.underlying3 h0
  obtain ⟨z1, rfl, -⟩ := trod_num Tryz.underlying2 h1
  obtain ⟨z2, rfl, -⟩ := trod_num Tryz.underlying2 h2
  obtain ⟨z3, rfl, -⟩ := trod_num Tryz.underlying2 h3
  obtain ⟨z4, rfl, -⟩ := trod_num Tryz.underlying2 h4
  obtain ⟨z8, rfl, -⟩ := trod_num Tryz.underlying3 h8
  obtain ⟨D, l5, cd, rfl, d1, d2, d3, d4, d5⟩ := rows_in h5
  obtain ⟨E, l6, ce, rfl, f1, f2, f3, f4, f5⟩ := ents_in Tryz.underlying23 (fs := Tryz.prog.fieldsOf 138) (by kernel_rfl) (by kernel_rfl) (by kernel_rfl) entF h6
  obtain ⟨L, l7, cl, rfl, g1, g2, g3, g4, g5⟩ := ents_in Tryz.underlying24 (fs := Tryz.prog.fieldsOf 120) (by kernel_rfl) (by kernel_rfl) (by kernel_rfl) lnkF h7
  refine ⟨⟨z0, z1, z2, z3, z4, l5, l6, l7, z8⟩, D, E, L, l5.length, cd, l6.length, ce, l7.length, cl, rfl, ⟨d1, f1, g1, rfl, rfl, rfl, d2, f2, g2, d3, f3, g3, d4, f4, g4⟩, ys.map (·.1), hd1, ?_, ?_, ?_⟩
  · rcases d5 with h | ⟨es, sp, hy, hn, hr⟩
    · exact Or.inl h
    · exact Or.inr ⟨es, sp, by rw [List.getElem?_map, e5, Option.map_some, hy], hn, hr⟩
  · rcases f5 with h | ⟨es, sp, hy, hn⟩
    · exact Or.inl h
    · exact Or.inr ⟨es, sp, by rw [List.getElem?_map, e6, Option.map_some, hy], hn⟩
  · rcases g5 with h | ⟨es, sp, hy, hn⟩
    · exact Or.inl h
    · exact Or.inr ⟨es, sp, by rw [List.getElem?_map, e7, Option.map_some, hy], hn⟩
end
end Go.Proofs.YtmagjekmlnpfpaaGreat.ConfW


