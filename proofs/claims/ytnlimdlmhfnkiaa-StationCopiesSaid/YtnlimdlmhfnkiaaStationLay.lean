/- Acts that came in, opened. -/
import Derived.Test.YtnlimdlmhfnkiaaStationPJa
import Derived.Test.YtnlimdlmhfnkiaaConfLay
import Derived.Test.YtnlimdlmhfnkiaaStr1
import Derived.Test.YtnlimdlmhfnkiaaFrameLayJa
namespace Go.Proofs.Ytnlimdlmhfnkiaa.StationW
open Go.ChangeShapes Go.WideShapes Go.ChangeAt Go.RowKit Shell
open FrameW (BL)
section
variable {H : Type} {enc : TypeId × Value → H}
theorem bytes_in {W : World} {n : Nat} {v : Value} {y : DataW H × List MemPlace} (hf : DataW.trod enc Try.prog W 0 (fun _ => true) true n 35 [v] = some y) :
    ∃ (A : Option Addr) (xs : List Int) (c : Nat), v = .slice A xs.length c ∧ BL W A xs ∧ xs.length ≤ maxLen ∧ xs.length ≤ c ∧ (A = none → c = 0) ∧ (xs = [] ∨ ∃ es sp, y.1 = .slice es sp ∧ xs.length = es.length) := by
  rcases Go.Deep.open_slice1 Try.underlying35 (by kernel_rfl) hf with ⟨h1, _⟩ | ⟨a, len, cap, m, k, V, D, Pl, h1, _, hl, hm, hmm, hdat, hx⟩
  · injection h1 with h1 _
    subst h1
    exact ⟨none, [], 0, rfl, fun k x h => by simp at h, by decide, Nat.le_refl _, fun _ => rfl, Or.inl rfl⟩
  · injection h1 with h1 _
    subst h1
    have hb : ∀ i, i < len → ∃ b : Int, W.cell? (a.add i) = some (.int .u8 b) ∧ 0 ≤ b ∧ b < 256 := by
      intro i hi
      obtain ⟨h2, h3⟩ := hx i (by rw [hmm]; simp; omega)
      obtain ⟨b, hv, hlt⟩ := trod_num Try.underlying5 h3
      exact ⟨b, by rw [h2, hv], u8_bound hlt⟩
    obtain ⟨f, hfn⟩ := Go.Deep.choose_lt (α := Int) (p := fun i b => W.cell? (a.add i) = some (.int .u8 b) ∧ 0 ≤ b ∧ b < 256) hb
    refine ⟨some a, (List.range len).map f, cap, by simp, ?_, by simp; omega, by simp; exact hl, fun h => (by cases h), Or.inr ⟨_, _, congrArg (·.1) hdat, by simp⟩⟩
    intro i x hix
    have hi : i < len := by
      have := lt_of_get hix
      simpa using this
    have : x = f i := by
      rw [List.getElem?_map, List.getElem?_range hi] at hix
      exact (Option.some.inj hix).symm
    subst this
    exact ⟨a, rfl, (hfn i hi).1, (hfn i hi).2⟩
theorem three_l {l : List Value} (h : l.length = 3) : ∃ a b c, l = [a, b, c] := by
  match l, h with
  | [a, b, c], _ => exact ⟨a, b, c, rfl⟩
set_option maxRecDepth 100000 in
theorem op_cs {W : World} {n : Nat} {cs : List Value} {y : DataW H × List MemPlace} (hf : DataW.trod enc Try.prog W 0 (fun _ => true) true n 37 cs = some y) (hl : cs.length = 3) :
    ∃ o : Op, cs = [.int .i64 o.t, .slice o.A o.l.length o.cp, .bool o.f] ∧ BL W o.A o.l ∧ o.l.length ≤ maxLen ∧ o.l.length ≤ o.cp ∧ (o.A = none → o.cp = 0) ∧ ∃ ys, y.1 = .agg ys ∧ (o.l = [] ∨ ∃ es sp, ys[1]? = some (.slice es sp) ∧ o.l.length = es.length) := by
  obtain ⟨x0, x1, x2, rfl⟩ := three_l hl
  obtain ⟨ys, k', hk1, hk2, hk3, hyl, hg⟩ := DataW.trod_struct Try.underlying37 hf
  obtain ⟨y0, _, h0⟩ := ConfW.field_at hg hyl 0 2 _ x0 rfl rfl rfl (by kernel_rfl) rfl
  obtain ⟨y1, e1, h1⟩ := ConfW.field_at hg hyl 1 35 _ x1 rfl rfl rfl (by kernel_rfl) rfl
  obtain ⟨y2, _, h2⟩ := ConfW.field_at hg hyl 2 4 _ x2 rfl rfl rfl (by kernel_rfl) rfl
  obtain ⟨z0, rfl, -⟩ := trod_num Try.underlying2 h0
  obtain ⟨A, xs, c, rfl, b1, b2, b3, b5, b4⟩ := bytes_in h1
  obtain ⟨f, hv2, -⟩ := DataW.trod_bool Try.underlying4 h2
  obtain rfl : x2 = .bool f := by injection hv2
  refine ⟨⟨z0, A, xs, c, f⟩, rfl, b1, b2, b3, b5, ys.map (·.1), by rw [hk2], ?_⟩
  rcases b4 with h | ⟨es, sp, hy, hn⟩
  · exact Or.inl h
  · exact Or.inr ⟨es, sp, by rw [List.getElem?_map, e1, Option.map_some, hy], hn⟩
set_option maxRecDepth 100000 in
theorem open_ops {W : World} {r : Reach} {b0 : Nat} {v : Value} {d : DataW H} {ps : List MemPlace}
    (hval : Value.okWide Try.prog W r b0 27 v) (hd : DataW.Trod enc Try.prog W 0 (fun _ => true) true 27 v d ps) : ∃ (A : Option Addr) (ops : List Op) (c : Nat), v = .slice A ops.length c ∧ OPS W A ops ∧ ops.length ≤ maxLen ∧ ops.length ≤ c ∧ (ops = [] ∨ ∃ es sp, d = .slice es sp ∧ ops.length = es.length) := by
  obtain ⟨A, n, c, rfl⟩ := slice_val Try.underlying27 hval
  obtain ⟨fuel, hf⟩ := hd
  rcases Go.Deep.open_slice Try.underlying27 hf with ⟨h1, _⟩ | ⟨a, len, cap, m, k, D, Pl, h1, _, hl, hm, hmm, hdat, hx⟩
  · simp only [Value.cells] at h1
    injection h1 with h1 _
    injection h1 with e1 e2 e3
    subst e1; subst e2; subst e3
    exact ⟨none, [], 0, rfl, fun k x h => by simp at h, by decide, Nat.le_refl _, Or.inl rfl⟩
  · simp only [Value.cells] at h1
    injection h1 with h1 _
    injection h1 with e1 e2 e3
    subst e1; subst e2; subst e3
    have each : ∀ i, i < n → ∃ o : Op, ∃ b off, a = ⟨b, off, none⟩ ∧ W.cell? ⟨b, off + i * 3, none⟩ = some (.int .i64 o.t) ∧ W.cell? ⟨b, off + i * 3 + 1, none⟩ = some (.slice o.A o.l.length o.cp) ∧ W.cell? ⟨b, off + i * 3 + 2, none⟩ = some (.bool o.f) ∧ BL W o.A o.l ∧ o.l.length ≤ 9223372036854775807 ∧ o.l.length ≤ o.cp := by
      intro i hi
      obtain ⟨cs, h2, h3⟩ := hx i (by rw [hmm]; simp; omega)
      rw [show Try.prog.cellsOf 37 = 3 by kernel_rfl] at h2
      obtain ⟨-, hlen, hcell⟩ := World.cells?_some h2
      obtain ⟨o, rfl, g1, g2, g3, -⟩ := op_cs h3 hlen
      obtain ⟨cs0, h20, h30⟩ := hx 0 (by rw [hmm]; simp; omega)
      rw [show Try.prog.cellsOf 37 = 3 by kernel_rfl] at h20
      obtain ⟨-, hlen0, hcell0⟩ := World.cells?_some h20
      obtain ⟨o0, rfl, -⟩ := op_cs h30 hlen0
      obtain ⟨b, off, spot⟩ := a
      have hspot : spot = none := by
        have h4 := World.cell?_spot (hcell0 0 (by decide))
        simpa [Addr.add] using h4
      subst hspot
      have ha : ∀ j, (⟨b, off, none⟩ : Addr).add (i * 3 + j) = ⟨b, off + i * 3 + j, none⟩ := fun j => by unfold Addr.add; split <;> simp_all; omega
      have hc : ∀ j, j < 3 → W.cell? ⟨b, off + i * 3 + j, none⟩ = ([.int .i64 o.t, .slice o.A o.l.length o.cp, .bool o.f] : List Value)[j]? := fun j hj => by
        have h5 := hcell j hj
        rw [Go.Deep.add_add, ha] at h5
        exact h5
      exact ⟨o, b, off, rfl, hc 0 (by decide), hc 1 (by decide), hc 2 (by decide), g1, by unfold maxLen at g2; omega, g3⟩
    obtain ⟨f, hfn⟩ := @Go.Deep.choose_lt Op ⟨⟨0, none, [], 0, false⟩⟩ _ _ each
    refine ⟨some a, (List.range n).map f, c, by simp, ?_, by simp; omega, by simp; exact hl, Or.inr ⟨_, _, congrArg (·.1) hdat, by simp⟩⟩
    intro i x hix
    have hi : i < n := by
      have := lt_of_get hix
      simpa using this
    have : x = f i := by
      rw [List.getElem?_map, List.getElem?_range hi] at hix
      exact (Option.some.inj hix).symm
    subst this
    obtain ⟨b, off, ha, hcs⟩ := hfn i hi
    exact ⟨b, off, by rw [ha], hcs⟩
theorem u16_in {n : Int} (h : (Lit.int .u16 n).wf = true) : 0 ≤ n ∧ n ≤ 65535 := by
  simp [Lit.wf] at h
  exact h
set_option maxRecDepth 100000 in
theorem open_u16 {W : World} {r : Reach} {b0 : Nat} {v : Value} {d : DataW H} {ps : List MemPlace}
    (hval : Value.okWide Try.prog W r b0 53 v) (hd : DataW.Trod enc Try.prog W 0 (fun _ => true) true 53 v d ps) : ∃ x y : Int, v = .agg #[.int .u16 x, .int .u16 y] ∧ (0 ≤ x ∧ x ≤ 65535) ∧ (0 ≤ y ∧ y ≤ 65535) := by
  obtain ⟨xs, rfl, hl, hw⟩ := open_array Try.underlying53 Try.underlying52 (by kernel_rfl) (by kernel_rfl) hval hd
  match xs, hl with
  | [x, y], _ => exact ⟨x, y, rfl, u16_in (hw x (by simp)), u16_in (hw y (by simp))⟩
end
end Go.Proofs.Ytnlimdlmhfnkiaa.StationW
