/- Copy. -/
import Derived.Test.YtmagjekmlnpfpaaGreatConfU
import Derived.Deep.OwnRows
import Derived.Test.YtmagjekmlnpfpaaGreatConfPJa
import Derived.Test.YtmagjekmlnpfpaaGreatCrewAJa
namespace Go.Proofs.YtmagjekmlnpfpaaGreat.ConfW
open Go.RowKit Shell
theorem made_nil (n : Nat) : madeCells #[Value.slice none 0 0] n = (List.replicate n (Value.slice none 0 0)).toArray := by
  apply Array.toList_inj.1
  rw [toList_madeCells_one]
section
variable {w0 w w1 w2 : World} {c : Cfg} {D E L : Option Addr} {nd cd ne ce nl cl : Nat}
end
section
variable {w0 wr W W1 : World} {c : Cfg} {vD vE vL : Value}
end
theorem set9 {W : World} {g : Nat} {t : TypeId} {a0 a1 a2 a3 a4 a5 a6 a7 a8 x0 x1 x2 x3 x4 x5 x6 x7 x8 : Value} (h : W.heap[g]? = some (.cells #[a0, a1, a2, a3, a4, a5, a6, a7, a8] t (0, 0))) :
    (((((((((W.setCell ⟨g, 0, none⟩ x0).setCell ⟨g, 1, none⟩ x1).setCell ⟨g, 2, none⟩ x2).setCell ⟨g, 3, none⟩ x3).setCell ⟨g, 4, none⟩ x4).setCell ⟨g, 5, none⟩ x5).setCell ⟨g, 6, none⟩ x6).setCell ⟨g, 7, none⟩ x7).setCell ⟨g, 8, none⟩ x8).heap[g]? = some (.cells #[x0, x1, x2, x3, x4, x5, x6, x7, x8] t (0, 0)) := by
  have h0 : (W.setCell ⟨g, 0, none⟩ x0).heap[g]? = some (.cells #[x0, a1, a2, a3, a4, a5, a6, a7, a8] t (0, 0)) := heap_setCell_same W g 0 #[a0, a1, a2, a3, a4, a5, a6, a7, a8] t x0 h
  have h1 : ((W.setCell ⟨g, 0, none⟩ x0).setCell ⟨g, 1, none⟩ x1).heap[g]? = some (.cells #[x0, x1, a2, a3, a4, a5, a6, a7, a8] t (0, 0)) := heap_setCell_same (W.setCell ⟨g, 0, none⟩ x0) g 1 #[x0, a1, a2, a3, a4, a5, a6, a7, a8] t x1 h0
  have h2 : (((W.setCell ⟨g, 0, none⟩ x0).setCell ⟨g, 1, none⟩ x1).setCell ⟨g, 2, none⟩ x2).heap[g]? = some (.cells #[x0, x1, x2, a3, a4, a5, a6, a7, a8] t (0, 0)) := heap_setCell_same ((W.setCell ⟨g, 0, none⟩ x0).setCell ⟨g, 1, none⟩ x1) g 2 #[x0, x1, a2, a3, a4, a5, a6, a7, a8] t x2 h1
  have h3 : ((((W.setCell ⟨g, 0, none⟩ x0).setCell ⟨g, 1, none⟩ x1).setCell ⟨g, 2, none⟩ x2).setCell ⟨g, 3, none⟩ x3).heap[g]? = some (.cells #[x0, x1, x2, x3, a4, a5, a6, a7, a8] t (0, 0)) := heap_setCell_same (((W.setCell ⟨g, 0, none⟩ x0).setCell ⟨g, 1, none⟩ x1).setCell ⟨g, 2, none⟩ x2) g 3 #[x0, x1, x2, a3, a4, a5, a6, a7, a8] t x3 h2
  have h4 : (((((W.setCell ⟨g, 0, none⟩ x0).setCell ⟨g, 1, none⟩ x1).setCell ⟨g, 2, none⟩ x2).setCell ⟨g, 3, none⟩ x3).setCell ⟨g, 4, none⟩ x4).heap[g]? = some (.cells #[x0, x1, x2, x3, x4, a5, a6, a7, a8] t (0, 0)) := heap_setCell_same ((((W.setCell ⟨g, 0, none⟩ x0).setCell ⟨g, 1, none⟩ x1).setCell ⟨g, 2, none⟩ x2).setCell ⟨g, 3, none⟩ x3) g 4 #[x0, x1, x2, x3, a4, a5, a6, a7, a8] t x4 h3
  have h5 : ((((((W.setCell ⟨g, 0, none⟩ x0).setCell ⟨g, 1, none⟩ x1).setCell ⟨g, 2, none⟩ x2).setCell ⟨g, 3, none⟩ x3).setCell ⟨g, 4, none⟩ x4).setCell ⟨g, 5, none⟩ x5).heap[g]? = some (.cells #[x0, x1, x2, x3, x4, x5, a6, a7, a8] t (0, 0)) := heap_setCell_same (((((W.setCell ⟨g, 0, none⟩ x0).setCell ⟨g, 1, none⟩ x1).setCell ⟨g, 2, none⟩ x2).setCell ⟨g, 3, none⟩ x3).setCell ⟨g, 4, none⟩ x4) g 5 #[x0, x1, x2, x3, x4, a5, a6, a7, a8] t x5 h4
  have h6 : (((((((W.setCell ⟨g, 0, none⟩ x0).setCell ⟨g, 1, none⟩ x1).setCell ⟨g, 2, none⟩ x2).setCell ⟨g, 3, none⟩ x3).setCell ⟨g, 4, none⟩ x4).setCell ⟨g, 5, none⟩ x5).setCell ⟨g, 6, none⟩ x6).heap[g]? = some (.cells #[x0, x1, x2, x3, x4, x5, x6, a7, a8] t (0, 0)) := heap_setCell_same ((((((W.setCell ⟨g, 0, none⟩ x0).setCell ⟨g, 1, none⟩ x1).setCell ⟨g, 2, none⟩ x2).setCell ⟨g, 3, none⟩ x3).setCell ⟨g, 4, none⟩ x4).setCell ⟨g, 5, none⟩ x5) g 6 #[x0, x1, x2, x3, x4, x5, a6, a7, a8] t x6 h5
  have h7 : ((((((((W.setCell ⟨g, 0, none⟩ x0).setCell ⟨g, 1, none⟩ x1).setCell ⟨g, 2, none⟩ x2).setCell ⟨g, 3, none⟩ x3).setCell ⟨g, 4, none⟩ x4).setCell ⟨g, 5, none⟩ x5).setCell ⟨g, 6, none⟩ x6).setCell ⟨g, 7, none⟩ x7).heap[g]? = some (.cells #[x0, x1, x2, x3, x4, x5, x6, x7, a8] t (0, 0)) := heap_setCell_same (((((((W.setCell ⟨g, 0, none⟩ x0).setCell ⟨g, 1, none⟩ x1).setCell ⟨g, 2, none⟩ x2).setCell ⟨g, 3, none⟩ x3).setCell ⟨g, 4, none⟩ x4).setCell ⟨g, 5, none⟩ x5).setCell ⟨g, 6, none⟩ x6) g 7 #[x0, x1, x2, x3, x4, x5, x6, a7, a8] t x7 h6
  have h8 : (((((((((W.setCell ⟨g, 0, none⟩ x0).setCell ⟨g, 1, none⟩ x1).setCell ⟨g, 2, none⟩ x2).setCell ⟨g, 3, none⟩ x3).setCell ⟨g, 4, none⟩ x4).setCell ⟨g, 5, none⟩ x5).setCell ⟨g, 6, none⟩ x6).setCell ⟨g, 7, none⟩ x7).setCell ⟨g, 8, none⟩ x8).heap[g]? = some (.cells #[x0, x1, x2, x3, x4, x5, x6, x7, x8] t (0, 0)) := heap_setCell_same ((((((((W.setCell ⟨g, 0, none⟩ x0).setCell ⟨g, 1, none⟩ x1).setCell ⟨g, 2, none⟩ x2).setCell ⟨g, 3, none⟩ x3).setCell ⟨g, 4, none⟩ x4).setCell ⟨g, 5, none⟩ x5).setCell ⟨g, 6, none⟩ x6).setCell ⟨g, 7, none⟩ x7) g 8 #[x0, x1, x2, x3, x4, x5, x6, x7, a8] t x8 h7
  exact h8
theorem keep9 {w W : World} {g : Nat} {x0 x1 x2 x3 x4 x5 x6 x7 x8 : Value} (h : Below w.heap.size w W) (hg : w.heap.size ≤ g) :
    Below w.heap.size w (((((((((W.setCell ⟨g, 0, none⟩ x0).setCell ⟨g, 1, none⟩ x1).setCell ⟨g, 2, none⟩ x2).setCell ⟨g, 3, none⟩ x3).setCell ⟨g, 4, none⟩ x4).setCell ⟨g, 5, none⟩ x5).setCell ⟨g, 6, none⟩ x6).setCell ⟨g, 7, none⟩ x7).setCell ⟨g, 8, none⟩ x8) :=
  ((((((((h.setCell hg _).setCell hg _).setCell hg _).setCell hg _).setCell hg _).setCell hg _).setCell hg _).setCell hg _).setCell hg _
theorem up9 {lo : Nat} {w W : World} {g : Nat} {x0 x1 x2 x3 x4 x5 x6 x7 x8 : Value} (h : Up lo w W) (hg : g < lo) :
    Up lo w (((((((((W.setCell ⟨g, 0, none⟩ x0).setCell ⟨g, 1, none⟩ x1).setCell ⟨g, 2, none⟩ x2).setCell ⟨g, 3, none⟩ x3).setCell ⟨g, 4, none⟩ x4).setCell ⟨g, 5, none⟩ x5).setCell ⟨g, 6, none⟩ x6).setCell ⟨g, 7, none⟩ x7).setCell ⟨g, 8, none⟩ x8) :=
  ((((((((h.set _ _ hg).set _ _ hg).set _ _ hg).set _ _ hg).set _ _ hg).set _ _ hg).set _ _ hg).set _ _ hg).set _ _ hg
theorem results_nine {fn : Func} {p : Tmp} (h : fn.results = #[.cell p 26]) (tmps : Array Value) (w : World) (g : Nat) (t : TypeId) (x0 x1 x2 x3 x4 x5 x6 x7 x8 : Value) (fr : Nat × Nat)
    (hp : tmps.getD p undef = .pointer (some ⟨g, 0, none⟩)) (hg : w.heap[g]? = some (.cells #[x0, x1, x2, x3, x4, x5, x6, x7, x8] t fr)) :
    (results fn tmps).run Tryz.prog w = .ok (.agg #[x0, x1, x2, x3, x4, x5, x6, x7, x8]) w := by
  have hp' : tmps[p]?.getD undef = .pointer (some ⟨g, 0, none⟩) := by simpa using hp
  simp [results, h, hp', asAddr, run_loadVar_row w g t 26 #[x0, x1, x2, x3, x4, x5, x6, x7, x8] fr _ hg Tryz.underlying26 rfl (by kernel_rfl)]
theorem ret_nine {fn : Func} {R : Ending → World → Prop} {p : Tmp} (h : fn.results = #[.cell p 26]) {tmps : Array Value} {w : World} {g : Nat} {x0 x1 x2 x3 x4 x5 x6 x7 x8 : Value} {t : TypeId} {fr : Nat × Nat}
    (hp : tmps.getD p undef = .pointer (some ⟨g, 0, none⟩)) (hg : w.heap[g]? = some (.cells #[x0, x1, x2, x3, x4, x5, x6, x7, x8] t fr)) (hR : R (.returned (.agg #[x0, x1, x2, x3, x4, x5, x6, x7, x8])) w) :
    bodyPost Tryz.prog fn R .ret { tmps := tmps, defers := [] } w :=
  bodyPost_ret (results_nine h tmps w g t x0 x1 x2 x3 x4 x5 x6 x7 x8 fr hp hg) rfl hR
end Go.Proofs.YtmagjekmlnpfpaaGreat.ConfW



/- Family. -/
namespace Go.Proofs.YtmagjekmlnpfpaaGreat.ConfW
open Go.RowKit Shell
/-- The hosts below k but one. -/
def othL (b : Nat) : Nat → List Int
  | 0 => []
  | k + 1 => if k = b then othL b k else othL b k ++ [(k : Int)]
theorem othL_len (b : Nat) : ∀ k, (othL b k).length ≤ k
  | 0 => by simp [othL]
  | k + 1 => by
    have := othL_len b k
    unfold othL
    split
    · omega
    · simp; omega
theorem int_one : One Tryz.prog 36 3 .i64 8 := ⟨Tryz.underlying36, info_parts (show (Tryz.prog.info? 3).map (fun i => (i.zero, i.size, i.bytes)) = some (some (.int .i64 0), 1, 8) by kernel_rfl)⟩
theorem i64_lit {x : Int} (h1 : -9223372036854775808 ≤ x) (h2 : x ≤ 9223372036854775807) : (Lit.int .i64 x).wf = true := by
  simp [Lit.wf]
  exact ⟨h1, h2⟩
theorem one_cl (w : World) (x : Int) (h1 : -9223372036854775808 ≤ x) (h2 : x ≤ 9223372036854775807) (t : TypeId) : CL (w.alloc (.cells #[.int .i64 x] t)) .i64 (some ⟨w.heap.size, 0, none⟩) [x] :=
  new_cl w .i64 [x] t (by intro y hy; rw [List.mem_singleton] at hy; subst hy; exact i64_lit h1 h2)
set_option maxHeartbeats 2000000 in
theorem others_any (h b : Nat) (w : World) (hh : h ≤ 6) : Calls Tryz.prog 152 #[.int .i64 (h : Int), .int .i64 (b : Int)] w fun e w' => e = .returned (.int .u32 (CrewW.of (othL b h) : Nat)) ∧ Below w.heap.size w w' := by
  go_enter Tryz.func152, Tryz.ntmps152
  go_wp2
  go_loopw [5, 8] (fun lv iv wr => ∃ (k : Nat), k ≤ h ∧ iv = .int .i64 k ∧ Hid (OR wr w.heap.size 3 .i64 lv (othL b k)) ∧ Hid (Below w.heap.size w wr)) (fun _ iv _ => h - (intOf iv).toNat)
  case atStart => exact ⟨0, Nat.zero_le _, rfl, Lib.hid (OR.nil _ _ _ _), Lib.hid (Below.refl _ _)⟩
  case round =>
    obtain ⟨k, hk, rfl, HO, HB⟩ := hrel
    have HL := Lib.hid (othL_len b k)
    by_cases hlt : (k : Int) < (h : Int)
    · by_cases hkb : k = b
      · have HS := Lib.hid (show othL b (k + 1) = othL b k by show (if k = b then _ else _) = _; rw [if_pos hkb])
        have hkb2 : ((k : Int) != (b : Int)) = false := by rw [bne_eq_false_iff_eq]; omega
        generalize othL b k = l at *
        obtain ⟨A, d, rfl, -⟩ := HO.out.form
        clear hkb
        go_wp2
        go_roundw
        case rel => exact ⟨k + 1, by omega, by go_num, by rw [HS.out]; exact HO, HB⟩
        case measure => simp [intOf]; omega
      · have HS := Lib.hid (show othL b (k + 1) = othL b k ++ [(k : Int)] by show (if k = b then _ else _) = _; rw [if_neg hkb])
        have hkb2 : ((k : Int) != (b : Int)) = true := by rw [bne_iff_ne]; omega
        generalize othL b k = l at *
        obtain ⟨A, d, rfl, -⟩ := HO.out.form
        clear hkb
        go_wp2_with (at_builtin; refine wpList_append_or int_one _ rfl _ _ rfl w.heap.size _ _ rfl (HO.out.alloc _) (some ⟨wr.heap.size, 0, none⟩) 1 1 [(k : Int)] rfl rfl ?c1 (fun h => by cases h) ?c2 (by decide) ?c3 ?_)
        case c1 => exact one_cl _ _ (by omega) (by omega) _
        case c2 => have := HL.out; omega
        case c3 => rw [World.size_alloc]; have := HB.out.size; omega
        intro v2 w2 o2 s2
        have HO2 := Lib.hid (show OR w2 w.heap.size 3 .i64 v2 (othL b (k + 1)) by rw [HS.out]; exact o2)
        have HB2 := Lib.hid (HB.out.trans (((Step.alloc _ _ _).trans s2).below HO.out HB.out.size))
        clear o2 s2
        go_wp2
        go_roundw
        case rel => exact ⟨k + 1, by omega, by go_num, HO2, HB2⟩
        case measure => simp [intOf]; omega
    · obtain rfl : k = h := by omega
      obtain ⟨A, d, rfl, hcl, -⟩ := HO.out.form
      have OF := Lib.hid (CrewW.of_any A _ d (othL b k) wr hcl rfl (by have := HL.out; omega))
      generalize (othL b k).length = n at *
      clear hcl
      go_wp2_with fail
      refine OF.out.mono ?_
      rintro e w9 ⟨rfl, hw⟩
      obtain rfl := hw.symm
      go_wp2
      go_ret
      exact ⟨rfl, HB.out⟩
/-- A family's entry. -/
def famE (h i : Nat) : R4 := ⟨((i % h : Nat) : Int), CrewW.of (othL (i % h) h), 10000 + 50000 * (i : Int), 64 + (i : Int)⟩
def zero4 : R4 := ⟨0, 0, 0, 0⟩
theorem made_ents (n : Nat) : madeCells #[.int .i64 0, .int .u32 0, .int .i64 0, .int .i64 0] (n * 4) = (ents (List.replicate n zero4)).toArray := by
  apply Array.ext_getElem?
  intro j
  have hj : j = j / 4 * 4 + j % 4 := by omega
  have hm : j % 4 < 4 := Nat.mod_lt _ (by decide)
  have e1 : ((ents (List.replicate n zero4)).toArray)[j]? = ((List.replicate n zero4)[j / 4]?).map (fun e => fld e (j % 4)) := by
    rw [List.getElem?_toArray, ← ents_at _ _ _ hm, ← hj]
  rw [e1, List.getElem?_replicate]
  by_cases hlt : j < n * 4
  · rw [if_pos (by omega)]
    unfold madeCells
    rw [Array.getElem?_map, Array.getElem?_range, if_pos hlt]
    generalize j % 4 = i at *
    rcases (show i = 0 ∨ i = 1 ∨ i = 2 ∨ i = 3 by omega) with h | h | h | h
    · have hi : j % 4 = 0 := by omega
      simp [hi, h, fld, zero4]
    · have hi : j % 4 = 1 := by omega
      simp [hi, h, fld, zero4]
    · have hi : j % 4 = 2 := by omega
      simp [hi, h, fld, zero4]
    · have hi : j % 4 = 3 := by omega
      simp [hi, h, fld, zero4]
  · rw [if_neg (by omega), Array.getElem?_eq_none (by rw [size_madeCells]; omega)]
    rfl
theorem ents_set : ∀ (l : List R4) (k : Nat) (e : R4), k < l.length → ((((ents l).set (k * 4) (.int .i64 e.a)).set (k * 4 + 1) (.int .u32 (e.b : Int))).set (k * 4 + 2) (.int .i64 e.c)).set (k * 4 + 3) (.int .i64 e.d) = ents (l.set k e)
  | [], k, e, h => by simp at h
  | x :: l, 0, e, _ => rfl
  | x :: l, k + 1, e, h => by
    have ih := ents_set l k e (by simpa using h)
    have q : ∀ i, (k + 1) * 4 + i = (k * 4 + i) + 1 + 1 + 1 + 1 := by intro i; omega
    rw [show (k + 1) * 4 = k * 4 + 1 + 1 + 1 + 1 by omega, show k * 4 + 1 + 1 + 1 + 1 + 1 = (k * 4 + 1) + 1 + 1 + 1 + 1 by omega, show k * 4 + 1 + 1 + 1 + 1 + 2 = (k * 4 + 2) + 1 + 1 + 1 + 1 by omega, show k * 4 + 1 + 1 + 1 + 1 + 3 = (k * 4 + 3) + 1 + 1 + 1 + 1 by omega]
    simp only [ents, List.set_cons_succ]
    rw [ih]
/-- A row of entries of the call's own that is being filled. -/
structure FX (w0 : World) (g : Nat) (l : List R4) (w : World) : Prop where
  b : Below w0.heap.size w0 w
  lo : w0.heap.size ≤ g
  h : w.heap[g]? = some (.cells (ents l).toArray 138)
section
variable {w0 w w1 : World} {g : Nat} {l : List R4}
theorem FX.next (h : FX w0 g l w) (b : Below w.heap.size w w1) : FX w0 g l w1 := ⟨h.b.trans (b.mono h.b.size), h.lo, row_below b h.h⟩
theorem FX.cell (h : FX w0 g l w) {k i : Nat} {e : R4} (hi : i < 4) (he : l[k]? = some e) : w.cell? ⟨g, k * 4 + i, none⟩ = some (fld e i) ∧ w.frozen? ⟨g, k * 4 + i, none⟩ = false :=
  ⟨by rw [cell_of_row w g _ _ _ _ h.h, List.getElem?_toArray, ents_at l k i hi, he]; rfl, frozen_of_row w g _ _ _ h.h⟩
theorem FX.set (h : FX w0 g l w) (k : Nat) (e : R4) (hk : k < l.length) : FX w0 g (l.set k e) ((((w.setCell ⟨g, k * 4, none⟩ (.int .i64 e.a)).setCell ⟨g, k * 4 + 1, none⟩ (.int .u32 (e.b : Int))).setCell ⟨g, k * 4 + 2, none⟩ (.int .i64 e.c)).setCell ⟨g, k * 4 + 3, none⟩ (.int .i64 e.d)) := by
  refine ⟨(((h.b.setCell h.lo _).setCell h.lo _).setCell h.lo _).setCell h.lo _, h.lo, ?_⟩
  have h0 := heap_setCell_same w g (k * 4) _ _ (.int .i64 e.a) h.h
  have h1 := heap_setCell_same _ g (k * 4 + 1) _ _ (.int .u32 (e.b : Int)) h0
  have h2 := heap_setCell_same _ g (k * 4 + 2) _ _ (.int .i64 e.c) h1
  have h3 := heap_setCell_same _ g (k * 4 + 3) _ _ (.int .i64 e.d) h2
  rw [h3, List.setIfInBounds_toArray, List.setIfInBounds_toArray, List.setIfInBounds_toArray, List.setIfInBounds_toArray, ents_set l k e hk]
end
def famL (h n k : Nat) : List R4 := (List.range n).map fun i => if i < k then famE h i else zero4
theorem famL_step {h n k : Nat} (hk : k < n) : (famL h n k).set k (famE h k) = famL h n (k + 1) := by
  apply List.ext_getElem?
  intro i
  unfold famL
  by_cases hi : i = k
  · subst hi
    rw [List.getElem?_set_self (by simpa using hk)]
    simp [hk]
  · rw [List.getElem?_set_ne (fun e => hi e.symm), List.getElem?_map, List.getElem?_map]
    by_cases hin : i < n
    · rw [List.getElem?_range hin]
      simp only [Option.map_some, Option.some.injEq]
      by_cases h1 : i < k
      · rw [if_pos h1, if_pos (by omega)]
      · rw [if_neg h1, if_neg (by omega)]
    · rw [List.getElem?_eq_none (by simpa using hin)]
      rfl
theorem famL_zero (h n : Nat) : famL h n 0 = List.replicate n zero4 := by
  apply List.ext_getElem?
  intro i
  unfold famL
  rw [List.getElem?_map, List.getElem?_replicate]
  by_cases hin : i < n
  · rw [List.getElem?_range hin, if_pos hin]; rfl
  · rw [List.getElem?_eq_none (by simpa using hin), if_neg hin]; rfl
def famEs (h n : Nat) : List R4 := if h = 1 then [] else (List.range n).map (famE h)
theorem famL_full (h n : Nat) : famL h n n = (List.range n).map (famE h) := by
  unfold famL
  apply List.map_congr_left
  intro i hi
  rw [if_pos (List.mem_range.1 hi)]
theorem zero_info : ∃ (i : TypeInfo), Tryz.prog.info? 138 = some i ∧ i.zero = some (.agg #[.int .i64 0, .int .u32 0, .int .i64 0, .int .i64 0]) ∧ i.size = 4 ∧ i.bytes = 32 :=
  info_parts (show (Tryz.prog.info? 138).map (fun i => (i.zero, i.size, i.bytes)) = some (some (.agg #[.int .i64 0, .int .u32 0, .int .i64 0, .int .i64 0]), 4, 32) by kernel_rfl)
theorem make_ents (n : Nat) (hn : n ≤ 16) (w : World) : (Instr.makeSlice 23 (.int .i64 (n : Int)) (.int .i64 (n : Int))).run Tryz.prog w = .ok (.slice (some ⟨w.heap.size, 0, none⟩) n n) (w.alloc (.cells (ents (List.replicate n zero4)).toArray 138)) := by
  obtain ⟨i, hi, hz, hs, hb⟩ := zero_info
  have h := run_make w 23 138 i _ Tryz.underlying23 hi hz .i64 .i64 (n : Int) (n : Int) (by omega) (by omega) (by rw [hb]; omega) (by omega)
  rw [hs, show (Value.agg #[.int .i64 0, .int .u32 0, .int .i64 0, .int .i64 0]).cells = #[.int .i64 0, .int .u32 0, .int .i64 0, .int .i64 0] from rfl, Int.toNat_natCast, made_ents] at h
  exact h
theorem tmod_nat (i h : Nat) : Int.tmod (i : Int) (h : Int) = ((i % h : Nat) : Int) := rfl
set_option maxHeartbeats 4000000 in
set_option maxRecDepth 100000 in
theorem familyEntries_any (h n : Nat) (w : World) (h1 : 1 ≤ h) (h6 : h ≤ 6) (hn : n ≤ 16) : Calls Tryz.prog 117 #[.int .i64 (h : Int), .int .i64 (n : Int)] w fun r w' =>
    ∃ A m cp, r = .returned (.slice A m cp) ∧ m = (famEs h n).length ∧ m ≤ cp ∧ (A = none → cp = 0) ∧ (∀ W, Up w.heap.size w' W → ML W A (famEs h n)) ∧ Below w.heap.size w w' := by
  by_cases hh : h = 1
  · have e1 : ((h : Int) == 1) = true := by rw [beq_iff_eq]; omega
    have HE := Lib.hid (show famEs h n = [] by unfold famEs; rw [if_pos hh])
    clear hh
    go_enter Tryz.func117, Tryz.ntmps117
    go_wp2
    go_ret
    refine ⟨none, 0, 0, rfl, by rw [HE.out]; rfl, Nat.le_refl _, fun _ => rfl, ?_, Below.refl _ _⟩
    intro W _
    rw [HE.out]
    intro k e hk
    simp at hk
  · have e1 : ((h : Int) == 1) = false := by rw [beq_eq_false_iff_ne]; omega
    have HE := Lib.hid (show famEs h n = famL h n n by unfold famEs; rw [if_neg hh, famL_full])
    have hmk := make_ents n hn
    have nz : ¬ (h : Int) = 0 := by omega
    clear hh
    have S0 := Lib.hid (show FX w w.heap.size (famL h n 0) (w.alloc (.cells (ents (List.replicate n zero4)).toArray 138)) from ⟨al (Below.refl _ _) _, Nat.le_refl _, by rw [famL_zero]; exact heap_alloc_new w _⟩)
    go_enter Tryz.func117, Tryz.ntmps117
    go_wp2
    clear hmk
    obtain ⟨g, hg⟩ : ∃ g, g = w.heap.size := ⟨_, rfl⟩
    rw [← hg] at S0 ⊢
    clear hg
    go_loopw [14] (fun iv wr => ∃ (k : Nat), k ≤ n ∧ iv = .int .i64 k ∧ Hid (FX w g (famL h n k) wr)) (fun iv _ => n - (intOf iv).toNat)
    case atStart => exact ⟨0, Nat.zero_le _, rfl, S0⟩
    case round =>
      clear S0
      obtain ⟨k, hk, rfl, X⟩ := hrel
      by_cases hlt : (k : Int) < (n : Int)
      · have hmod := tmod_nat k h
        have hml : k % h < h := Nat.mod_lt _ (by omega)
        have OT := Lib.hid (others_any h (k % h) wr h6)
        have k0 : (0 : Int) ≤ (k : Int) := by omega
        have ST := Lib.hid (famL_step (h := h) (show k < n by omega))
        have FE := Lib.hid (show famE h k = ⟨((k % h : Nat) : Int), CrewW.of (othL (k % h) h), 10000 + 50000 * (k : Int), 64 + (k : Int)⟩ from rfl)
        have FL := Lib.hid (show (famL h n k)[k]? = some zero4 by
          unfold famL
          rw [List.getElem?_map, List.getElem?_range (by omega)]
          simp)
        have FN := Lib.hid (show k < (famL h n k).length by simp [famL]; omega)
        have hmi : (k : Int) % (h : Int) = ((k % h : Nat) : Int) := by omega
        generalize famL h n k = l at *
        generalize famE h k = fe at *
        generalize CrewW.of (othL (k % h) h) = oc at *
        generalize k % h = m at *
        go_wp2_with fail
        refine OT.out.mono ?_
        rintro e w2 ⟨rfl, hb⟩
        have X2 := Lib.hid (X.out.next hb)
        have c0 := (X2.out.cell (i := 0) (by decide) FL.out).1
        have c1 := (X2.out.cell (i := 1) (by decide) FL.out).1
        have c2 := (X2.out.cell (i := 2) (by decide) FL.out).1
        have c3 := (X2.out.cell (i := 3) (by decide) FL.out).1
        have f0 := (X2.out.cell (i := 0) (by decide) FL.out).2
        have f1 := (X2.out.cell (i := 1) (by decide) FL.out).2
        have f2 := (X2.out.cell (i := 2) (by decide) FL.out).2
        have f3 := (X2.out.cell (i := 3) (by decide) FL.out).2
        rw [Nat.add_zero] at c0 f0
        have X3 := X2.out.set k ⟨(m : Int), oc, 10000 + 50000 * (k : Int), 64 + (k : Int)⟩ FN.out
        dsimp only at X3
        rw [← FE.out, ST.out] at X3
        have X4 := Lib.hid X3
        clear hb X3 OT X
        go_wp2
        go_roundw
        case rel => exact ⟨k + 1, by omega, by go_num, X4⟩
        case measure => simp [intOf]; omega
      · obtain rfl : k = n := by omega
        have hml : (famEs h k).length = k := by rw [HE.out]; simp [famL]
        have HX := Lib.hid X.out.h
        go_wp2
        go_ret
        refine ⟨some ⟨g, 0, none⟩, k, k, rfl, (by first | exact hml.symm | rfl), Nat.le_refl _, (fun h => by cases h), ?_, X.out.b⟩
        intro W U
        have HW := (U.block g X.out.lo (row_lt HX.out)).trans HX.out
        rw [HE.out]
        refine own_ml (b := g) (n := k) (c := k) (e := 138) ⟨by rw [ents_len]; simp [famL], Or.inr ⟨g, k, _, rfl, Nat.le_refl _, HW, Nat.le_refl _, by simp only [maxLen]; omega, by simp [ents_len, famL], ?_⟩⟩ ?_
        · rw [List.take_of_length_le (by simp [ents_len, famL])]
        · intro x hx
          unfold famL at hx
          obtain ⟨i, _, rfl⟩ := List.mem_map.1 hx
          split
          · have := CrewW.of_lt (othL (i % h) h)
            show CrewW.of (othL (i % h) h) < _
            omega
          · decide
/-- A family's row of delays. -/
def famR (i : Nat) : List Int := [100 * ((i : Int) + 1) + 50 * 0, 100 * ((i : Int) + 1) + 50 * 1]
def famD (h : Nat) : List (List Int) := (List.range h).map famR
structure KX (w0 : World) (h k s t : Nat) (vs : List Value) (v : Value) (w : World) : Prop where
  b : Below w0.heap.size w0 w
  s0 : w0.heap.size + 1 ≤ s
  s1 : s ≤ w.heap.size
  hd : w.heap[w0.heap.size]? = some (.cells vs.toArray 35)
  len : vs.length = h
  row : ∀ j, j < k → ∃ u, vs[j]? = some u ∧ OR w (w0.heap.size + 1) 2 .i64 u (famR j) ∧ ∀ x, u.ownBlock = some x → x < s
  cur : k < h → vs[k]? = some v
  own : OR w s 2 .i64 v ((famR k).take t)
  nil : ∀ j, k < j → j < h → vs[j]? = some (.slice none 0 0)
theorem or_up {w w' : World} {lo base : Nat} {e : TypeId} {q : IntKind} {v : Value} {xs : List Int} (h : OR w base e q v xs) (hb : lo ≤ base) (u : Up lo w w') : OR w' base e q v xs := ⟨own_up h.1 hb u, h.2⟩
theorem KX.step {w0 w w2 : World} {h k s t : Nat} {vs : List Value} {v v2 : Value} (X : KX w0 h k s t vs v w) (o : OR w2 s 2 .i64 v2 ((famR k).take (t + 1))) (st : Step w v w2 v2) (hk : k < h) :
    KX w0 h k s (t + 1) (vs.set k v2) v2 (w2.setCell ⟨w0.heap.size, k, none⟩ v2) := by
  have hs := X.s0
  have ups : Up (w0.heap.size + 1) w2 (w2.setCell ⟨w0.heap.size, k, none⟩ v2) := (Up.refl _ _).set _ _ (by simp)
  have hv : ∀ x, v.ownBlock = some x → s ≤ x := fun x hx => (X.own.lt x hx).1
  have hgd := row_lt X.hd
  have hd2 : w2.heap[w0.heap.size]? = some (.cells vs.toArray 35) := by
    rw [st.g.block _ hgd (fun e => by have := hv _ e.symm; omega)]
    exact X.hd
  have b2 : Below w0.heap.size w0 w2 := X.b.trans ((st.below X.own (by have := X.s1; omega)).mono (by omega))
  refine ⟨b2.setCell (Nat.le_refl _) _, hs, Nat.le_trans X.s1 (Nat.le_trans st.g.size (by simp)), ?_, by rw [List.length_set]; exact X.len, ?_, fun _ => by rw [List.getElem?_set_self (by rw [X.len]; exact hk)], or_up o (by omega) ups, ?_⟩
  · have := heap_setCell_same w2 w0.heap.size k vs.toArray 35 v2 hd2
    rwa [List.setIfInBounds_toArray] at this
  · intro j hj
    obtain ⟨u, hu, ho, hx⟩ := X.row j hj
    refine ⟨u, by rw [List.getElem?_set_ne (by omega)]; exact hu, or_up ⟨ho.1.kept st.g ?_, ho.2⟩ (Nat.le_refl _) ups, hx⟩
    cases hub : u.ownBlock with
    | none => exact Or.inl rfl
    | some x =>
      refine Or.inr (fun e => ?_)
      have h1 := hx x hub
      have h2 := hv x e.symm
      omega
  · intro j hj hjh
    rw [List.getElem?_set_ne (by omega)]
    exact X.nil j hj hjh
theorem i64_one : One Tryz.prog 35 2 .i64 8 := ⟨Tryz.underlying35, info_parts (show (Tryz.prog.info? 2).map (fun i => (i.zero, i.size, i.bytes)) = some (some (.int .i64 0), 1, 8) by kernel_rfl)⟩
set_option maxHeartbeats 4000000 in
set_option maxRecDepth 100000 in
theorem familyDelays_any (h : Nat) (w : World) (h6 : h ≤ 6) : Calls Tryz.prog 116 #[.int .i64 (h : Int)] w fun r w' =>
    r = .returned (.slice (some ⟨w.heap.size, 0, none⟩) h h) ∧ (∀ W, Up w.heap.size w' W → DL W (some ⟨w.heap.size, 0, none⟩) (famD h)) ∧ Below w.heap.size w w' := by
  have hmk : ∀ w : World, (Instr.makeSlice 22 (.int .i64 (h : Int)) (.int .i64 (h : Int))).run Tryz.prog w = .ok (.slice (some ⟨w.heap.size, 0, none⟩) h h) (w.alloc (.cells (madeCells #[.slice none 0 0] h) 35)) := fun w =>
    run_make_row' 22 35 (.slice none 0 0) 24 Tryz.underlying22 (by kernel_rfl) rfl .i64 .i64 h (by omega) (by omega) w
  rw [made_nil] at hmk
  have S0 := Lib.hid (show KX w h 0 (w.heap.size + 1) 0 (List.replicate h (.slice none 0 0)) (.slice none 0 0) (w.alloc (.cells (List.replicate h (Value.slice none 0 0)).toArray 35)) from
    ⟨al (Below.refl _ _) _, Nat.le_refl _, by simp, heap_alloc_new w _, by simp, fun j hj => by omega, fun hh => by rw [List.getElem?_replicate, if_pos hh], OR.nil _ _ _ _, fun j _ hj => by rw [List.getElem?_replicate, if_pos hj]⟩)
  go_enter Tryz.func116, Tryz.ntmps116
  go_wp2
  clear hmk
  obtain ⟨g, hg⟩ : ∃ g, g = w.heap.size := ⟨_, rfl⟩
  have HG := Lib.hid hg
  rw [← hg]
  clear hg
  go_loopw [9] (fun iv wr => ∃ (k : Nat), k ≤ h ∧ iv = .int .i64 k ∧ Hid (∃ s vs, KX w h k s 0 vs (.slice none 0 0) wr)) (fun iv _ => h - (intOf iv).toNat)
  case atStart => exact ⟨0, Nat.zero_le _, rfl, Lib.hid ⟨_, _, S0.out⟩⟩
  case round =>
    clear S0
    obtain ⟨k, hk, rfl, X⟩ := hrel
    obtain ⟨s, vs, X⟩ := X.out
    by_cases hlt : (k : Int) < (h : Int)
    · have Y0 := Lib.hid (show KX w h k wr.heap.size 0 vs (.slice none 0 0) wr from ⟨X.b, Nat.le_trans X.s0 X.s1, Nat.le_refl _, X.hd, X.len, fun j hj => by
          obtain ⟨u, hu, ho, _⟩ := X.row j hj
          exact ⟨u, hu, ho, fun x hx => (ho.lt x hx).2⟩, X.cur, OR.nil _ _ _ _, X.nil⟩)
      clear X
      generalize wr.heap.size = sz at *
      go_wp2
      go_loopw [12] (fun jv wr => ∃ (t : Nat), t ≤ 2 ∧ jv = .int .i64 t ∧ Hid (∃ vs v, KX w h k sz t vs v wr)) (fun jv _ => 2 - (intOf jv).toNat)
      case atStart => exact ⟨0, by omega, rfl, Lib.hid ⟨_, _, Y0.out⟩⟩
      case round =>
        clear Y0
        obtain ⟨t, ht, rfl, Y⟩ := hrel
        obtain ⟨vs, v, y⟩ := Y.out
        have Z := Lib.hid y
        clear Y y
        by_cases hlt2 : (t : Int) < 2
        · obtain ⟨A, cp, hvf, -⟩ := Z.out.own.form
          subst hvf
          have c0 := box_cell (i := k) Z.out.hd (by rw [List.getElem?_toArray]; exact Z.out.cur (by omega))
          have c1 := frozen_of_row _ w.heap.size k _ _ Z.out.hd
          rw [← HG.out] at c0 c1
          have HT := Lib.hid (show (famR k).take (t + 1) = (famR k).take t ++ [100 * ((k : Int) + 1) + 50 * (t : Int)] by
            rcases (show t = 0 ∨ t = 1 by omega) with rfl | rfl <;> rfl)
          have HLN := Lib.hid (show ((famR k).take t).length ≤ 2 by simp [famR]; omega)
          have HOW := Lib.hid Z.out.own
          have HS1 := Lib.hid Z.out.s1
          generalize (famR k).take t = l at *
          go_wp2_with (at_builtin; refine wpList_append_or i64_one _ rfl _ _ rfl sz _ l rfl (HOW.out.alloc _) (some ⟨wr.heap.size, 0, none⟩) 1 1 [100 * ((k : Int) + 1) + 50 * (t : Int)] rfl rfl ?c1 (fun h => by cases h) ?c2 (by decide) ?c3 ?_)
          case c1 => exact one_cl _ _ (by omega) (by omega) _
          case c2 => have := HLN.out; omega
          case c3 => rw [World.size_alloc]; have := HS1.out; omega
          intro v2 w2 o2 s2
          have ZS := Lib.hid (Z.out.step (v2 := v2) (w2 := w2) (by rw [HT.out]; exact o2) ((Step.alloc _ _ _).trans s2) (by omega))
          have c2 : w2.heap[w.heap.size]? = some (.cells vs.toArray 35) := by
            have h1 := Z.out.hd
            rw [((Step.alloc wr (Value.slice A l.length cp) (.cells #[.int .i64 (100 * ((k : Int) + 1) + 50 * (t : Int))] 2)).trans s2).g.block _ (row_lt h1) (fun e => by have h3 := (HOW.out.lt _ e.symm).1; have := Z.out.s0; omega)]
            exact h1
          have d0 := box_cell (i := k) c2 (by rw [List.getElem?_toArray]; exact Z.out.cur (by omega))
          have d1 := frozen_of_row _ w.heap.size k _ _ c2
          rw [← HG.out] at d0 d1 ZS
          have ZF := Lib.hid o2.form
          clear c2 o2 s2 c0 c1
          obtain ⟨A2, cp2, rfl, -⟩ := ZF.out
          go_wp2
          go_roundw
          case rel => exact ⟨t + 1, by omega, by go_num, Lib.hid ⟨vs.set k (.slice A2 (l.length + 1) cp2), .slice A2 (l.length + 1) cp2, by have := ZS.out; rwa [show (l ++ [100 * ((k : Int) + 1) + 50 * (t : Int)]).length = l.length + 1 by simp] at this⟩⟩
          case measure => simp [intOf]; omega
        · obtain rfl : t = 2 := by omega
          have NX := Lib.hid (show KX w h (k + 1) wr.heap.size 0 vs (.slice none 0 0) wr from ⟨Z.out.b, Nat.le_trans Z.out.s0 Z.out.s1, Nat.le_refl _, Z.out.hd, Z.out.len, fun j hj => by
              by_cases hjk : j = k
              · subst hjk
                exact ⟨v, Z.out.cur (by omega), OR.base (by have := Z.out.own; simpa [famR] using this) Z.out.s0, fun x hx => (Z.out.own.lt x hx).2⟩
              · obtain ⟨u, hu, ho, hx⟩ := Z.out.row j (by omega)
                exact ⟨u, hu, ho, fun x hx => (ho.lt x hx).2⟩, fun hk1 => Z.out.nil (k + 1) (by omega) hk1, OR.nil _ _ _ _, fun j hj hjh => Z.out.nil j (by omega) hjh⟩)
          go_wp2
          exact ⟨⟨k + 1, by omega, by go_num, Lib.hid ⟨_, _, NX.out⟩⟩, by simp [intOf]; omega⟩
    · obtain rfl : k = h := by omega
      have Y := Lib.hid X
      clear X
      go_wp2
      go_ret
      refine ⟨by rw [← HG.out]; rfl, ?_, Y.out.b⟩
      intro W U j r hj
      unfold famD at hj
      rw [List.getElem?_map] at hj
      have hjl : j < k := by
        rcases Nat.lt_or_ge j k with h1 | h1
        · exact h1
        · rw [List.getElem?_eq_none (by simpa using h1)] at hj; cases hj
      rw [List.getElem?_range hjl] at hj
      cases hj
      obtain ⟨u, hu, ho, _⟩ := Y.out.row j hjl
      have HW := (U.block _ (Nat.le_refl _) (row_lt Y.out.hd)).trans Y.out.hd
      obtain ⟨A, cp, hv, hcl, hlc, hz, _⟩ := (or_up ho (by omega) U).form
      subst hv
      have ha : (⟨w.heap.size, 0, none⟩ : Addr).add j = ⟨w.heap.size, j, none⟩ := by unfold Addr.add; split <;> simp_all
      exact ⟨⟨w.heap.size, 0, none⟩, A, cp, rfl, by rw [ha]; exact box_cell HW (by rw [List.getElem?_toArray]; exact hu), hcl, by simp [famR, maxLen], hlc, hz⟩
/-- A family's configuration. -/
def clampH (x : Int) : Nat := if x < 1 then 1 else if 6 < x then 6 else x.toNat
def clampN (x : Int) : Nat := if x < 0 then 0 else if 16 < x then 16 else x.toNat
def famC (x y : Int) : Cfg := { hosts := (clampH x : Nat), cycle := 2000000, delay := 2000, window := 1000, precision := 500, delays := famD (clampH x), entries := famEs (clampH x) (clampN y), links := [], queue := 8 }
theorem clampH_in (x : Int) : 1 ≤ clampH x ∧ clampH x ≤ 6 := by unfold clampH; split <;> (try split) <;> omega
theorem clampN_in (x : Int) : clampN x ≤ 16 := by unfold clampN; split <;> (try split) <;> omega
theorem famEs_len (h n : Nat) : (famEs h n).length ≤ n := by
  unfold famEs
  split
  · simp
  · simp
theorem clampH_cases (x : Int) : (x < 1 ∧ (1 : Int) = (clampH x : Nat)) ∨ (¬ x < 1 ∧ 6 < x ∧ (6 : Int) = (clampH x : Nat)) ∨ (¬ x < 1 ∧ x ≤ 6 ∧ x = (clampH x : Nat)) := by
  unfold clampH
  by_cases h1 : x < 1
  · left; simp [h1]
  · by_cases h2 : 6 < x
    · right; left; simp [h1, h2]
    · right; right; simp [h1, h2]; omega
theorem clampN_cases (x : Int) : (x < 0 ∧ (0 : Int) = (clampN x : Nat)) ∨ (¬ x < 0 ∧ 16 < x ∧ (16 : Int) = (clampN x : Nat)) ∨ (¬ x < 0 ∧ x ≤ 16 ∧ x = (clampN x : Nat)) := by
  unfold clampN
  by_cases h1 : x < 0
  · left; simp [h1]
  · by_cases h2 : 16 < x
    · right; left; simp [h1, h2]
    · right; right; simp [h1, h2]; omega
theorem familyDelays_at (h : Nat) (v : Int) (w : World) (h6 : h ≤ 6) (hv : v = (h : Int)) : Calls Tryz.prog 116 #[.int .i64 v] w fun r w' =>
    r = .returned (.slice (some ⟨w.heap.size, 0, none⟩) h h) ∧ (∀ W, Up w.heap.size w' W → DL W (some ⟨w.heap.size, 0, none⟩) (famD h)) ∧ Below w.heap.size w w' := by
  subst hv
  exact familyDelays_any h w h6
theorem familyEntries_at (h n : Nat) (v u : Int) (w : World) (h1 : 1 ≤ h) (h6 : h ≤ 6) (hn : n ≤ 16) (hv : v = (h : Int)) (hu : u = (n : Int)) : Calls Tryz.prog 117 #[.int .i64 v, .int .i64 u] w fun r w' =>
    ∃ A m cp, r = .returned (.slice A m cp) ∧ m = (famEs h n).length ∧ m ≤ cp ∧ (A = none → cp = 0) ∧ (∀ W, Up w.heap.size w' W → ML W A (famEs h n)) ∧ Below w.heap.size w w' := by
  subst hv
  subst hu
  exact familyEntries_any h n w h1 h6 hn
set_option maxHeartbeats 8000000 in
set_option maxRecDepth 100000 in
theorem family_any (x y : Int) (w : World) : Calls Tryz.prog 65 #[.int .i64 x, .int .i64 y] w fun r w' =>
    ∃ D E nd cd ne ce, r = .returned (.agg #[.int .i64 (famC x y).hosts, .int .i64 (famC x y).cycle, .int .i64 (famC x y).delay, .int .i64 (famC x y).window, .int .i64 (famC x y).precision, .slice D nd cd, .slice E ne ce, .slice none 0 0, .int .i64 (famC x y).queue]) ∧
      CM w' (famC x y) D E none nd cd ne ce 0 0 ∧ Below w.heap.size w w' := by
  have ch := clampH_in x
  have cn := clampN_in y
  have HD := Lib.hid (fun W (v : Int) => familyDelays_at (clampH x) v W ch.2)
  have HE := Lib.hid (fun W (v u : Int) => familyEntries_at (clampH x) (clampN y) v u W ch.1 ch.2 cn)
  have eh := clampH_cases x
  have en := clampN_cases y
  have HL := Lib.hid (show (famD (clampH x)).length = clampH x by simp [famD])
  have HLE := Lib.hid (famEs_len (clampH x) (clampN y))
  unfold famC
  generalize clampH x = h at *
  generalize clampN y = n at *
  rcases eh with ⟨x1, X3⟩ | ⟨x1, x2, X3⟩ | ⟨x1, x2, X3⟩ <;> rcases en with ⟨y1, Y3⟩ | ⟨y1, y2, Y3⟩ | ⟨y1, y2, Y3⟩
  all_goals
    have X4 := Lib.hid X3
    have Y4 := Lib.hid Y3
    clear X3 Y3
    go_enter Tryz.func65, Tryz.ntmps65
    go_wp2_with fail
    refine (HD.out _ _ X4.out).mono ?_
    rintro e w1 ⟨rfl, dl, b1⟩
    have B1 := Lib.hid (al (Below.refl w.heap.size w) (.cells #[.int .i64 0, .int .i64 0, .int .i64 0, .int .i64 0, .int .i64 0, .slice none 0 0, .slice none 0 0, .slice none 0 0, .int .i64 0] 26))
    have B2 := Lib.hid (B1.out.trans (b1.mono B1.out.size))
    have DLX := Lib.hid dl
    have hle : w.heap.size + 1 ≤ w1.heap.size := by have := b1.size; simp at this; omega
    have HLE1 := Lib.hid hle
    clear hle
    have R1 := Lib.hid (row_below b1 (heap_alloc_new w (.cells #[.int .i64 0, .int .i64 0, .int .i64 0, .int .i64 0, .int .i64 0, .slice none 0 0, .slice none 0 0, .slice none 0 0, .int .i64 0] 26)))
    clear dl b1 B1
    go_wp2_with fail
    refine (HE.out _ _ _ X4.out Y4.out).mono ?_
    rintro e w2 ⟨A, m, cp, rfl, hm, hcp, hz, ml, b2⟩
    have B3 := Lib.hid (B2.out.trans (b2.mono B2.out.size))
    have R2 := Lib.hid (row_below b2 R1.out)
    have U2 := Lib.hid (Up.of (w.heap.size + 1) b2)
    have HML := Lib.hid ml
    have HM := Lib.hid hm
    have HZ := Lib.hid hz
    have HCP := Lib.hid hcp
    have r0 := box_cell (i := 0) R2.out rfl
    have r1 := box_cell (i := 1) R2.out rfl
    have r2 := box_cell (i := 2) R2.out rfl
    have r3 := box_cell (i := 3) R2.out rfl
    have r4 := box_cell (i := 4) R2.out rfl
    have r5 := box_cell (i := 5) R2.out rfl
    have r6 := box_cell (i := 6) R2.out rfl
    have r7 := box_cell (i := 7) R2.out rfl
    have r8 := box_cell (i := 8) R2.out rfl
    have g0 := frozen_of_row _ w.heap.size 0 _ _ R2.out
    have g1 := frozen_of_row _ w.heap.size 1 _ _ R2.out
    have g2 := frozen_of_row _ w.heap.size 2 _ _ R2.out
    have g3 := frozen_of_row _ w.heap.size 3 _ _ R2.out
    have g4 := frozen_of_row _ w.heap.size 4 _ _ R2.out
    have g5 := frozen_of_row _ w.heap.size 5 _ _ R2.out
    have g6 := frozen_of_row _ w.heap.size 6 _ _ R2.out
    have g7 := frozen_of_row _ w.heap.size 7 _ _ R2.out
    have g8 := frozen_of_row _ w.heap.size 8 _ _ R2.out
    clear b2 ml hm hz hcp
    go_wp2
    refine ret_nine rfl rfl (set9 R2.out) ?_
    have hm9 := HLE.out
    rw [← HM.out] at hm9
    have hs1 : (w.alloc (.cells #[.int .i64 0, .int .i64 0, .int .i64 0, .int .i64 0, .int .i64 0, .slice none 0 0, .slice none 0 0, .slice none 0 0, .int .i64 0] 26)).heap.size = w.heap.size + 1 := by simp
    have hw1 := B2.out.size
    have UP := fun z : Int => up9 (x0 := .int .i64 z) (x1 := .int .i64 2000000) (x2 := .int .i64 2000) (x3 := .int .i64 1000) (x4 := .int .i64 500) (x5 := .slice (some ⟨w.heap.size + 1, 0, none⟩) h h) (x6 := .slice A m cp) (x7 := .slice none 0 0) (x8 := .int .i64 8) (g := w.heap.size) (Up.refl (w.heap.size + 1) w2) (by omega)
    have D3 : ∀ W, Up (w.heap.size + 1) w1 W → DL W (some ⟨w.heap.size + 1, 0, none⟩) (famD h) := by
      have D1 := DLX.out
      rw [hs1] at D1
      exact D1
    refine ⟨some ⟨w.heap.size + 1, 0, none⟩, A, h, h, m, cp, by rw [X4.out], ?_, keep9 B3.out (Nat.le_refl w.heap.size)⟩
    exact { hd := D3 _ (U2.out.trans (UP _)), he := HML.out _ ((UP _).mono HLE1.out), hl := fun k e hk => by simp at hk, nD := HL.out.symm, nE := HM.out, nL := rfl, mD := by simp only [maxLen]; omega, mE := by simp only [maxLen]; omega, mL := by simp only [maxLen]; omega, cD := Nat.le_refl _, cE := HCP.out, cL := Nat.le_refl _, zD := (fun hn => by cases hn), zE := HZ.out, zL := fun _ => rfl }
end Go.Proofs.YtmagjekmlnpfpaaGreat.ConfW


