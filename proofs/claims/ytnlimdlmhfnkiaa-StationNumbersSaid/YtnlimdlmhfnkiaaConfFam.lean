/- The document's own Family: walked. -/
import Derived.Test.YtnlimdlmhfnkiaaTake
import Derived.Test.YtnlimdlmhfnkiaaConfFamA
namespace Go.Proofs.Ytnlimdlmhfnkiaa.ConfW
open Shell (takeR skipR aput lset)
open Go.RowKit Shell
theorem famX_start (h : Nat) (w : World) : FamX w h 0 0 [] (.slice none 0 0) (.slice none 0 0) ((w.alloc (.cells #[.int .i64 0, .int .i64 0, .int .i64 0, .int .i64 0, .int .i64 0, .slice none 0 0, .slice none 0 0, .slice none 0 0, .int .i64 0] 26)).alloc (.cells #[.int .i64 (h : Int), .int .i64 2000000, .int .i64 2000, .int .i64 1000, .int .i64 500, .slice none 0 0, .slice none 0 0, .slice none 0 0, .int .i64 8] 26)) := by
  have h1 : (w.alloc (.cells #[.int .i64 0, .int .i64 0, .int .i64 0, .int .i64 0, .int .i64 0, .slice none 0 0, .slice none 0 0, .slice none 0 0, .int .i64 0] 26)).heap[w.heap.size]? = some (.cells #[.int .i64 0, .int .i64 0, .int .i64 0, .int .i64 0, .int .i64 0, .slice none 0 0, .slice none 0 0, .slice none 0 0, .int .i64 0] 26) := heap_alloc_new w _
  have h2 : ((w.alloc (.cells #[.int .i64 0, .int .i64 0, .int .i64 0, .int .i64 0, .int .i64 0, .slice none 0 0, .slice none 0 0, .slice none 0 0, .int .i64 0] 26)).alloc (.cells #[.int .i64 (h : Int), .int .i64 2000000, .int .i64 2000, .int .i64 1000, .int .i64 500, .slice none 0 0, .slice none 0 0, .slice none 0 0, .int .i64 8] 26)).heap[w.heap.size + 1]? = some (.cells #[.int .i64 (h : Int), .int .i64 2000000, .int .i64 2000, .int .i64 1000, .int .i64 500, .slice none 0 0, .slice none 0 0, .slice none 0 0, .int .i64 8] 26) := by
    have h := heap_alloc_new (w.alloc (.cells #[.int .i64 0, .int .i64 0, .int .i64 0, .int .i64 0, .int .i64 0, .slice none 0 0, .slice none 0 0, .slice none 0 0, .int .i64 0] 26)) (.cells #[.int .i64 (h : Int), .int .i64 2000000, .int .i64 2000, .int .i64 1000, .int .i64 500, .slice none 0 0, .slice none 0 0, .slice none 0 0, .int .i64 8] 26)
    rwa [show (w.alloc (.cells #[.int .i64 0, .int .i64 0, .int .i64 0, .int .i64 0, .int .i64 0, .slice none 0 0, .slice none 0 0, .slice none 0 0, .int .i64 0] 26)).heap.size = w.heap.size + 1 by simp] at h
  exact ⟨al (al (Below.refl _ _) _) _, row_below (al (Below.refl _ _) _) h1, h2, World.ownsRow_nil _ _ _ _, OR.nil _ _ _ _, fun j hj => by omega, fun g hg => by cases hg⟩
theorem ents_cells (w : World) (e : R4) (t : TypeId) (j : Nat) (u : Value) (h : (ents [e])[j]? = some u) : (w.alloc (.cells #[.int .i64 e.a, .int .u32 (e.b : Int), .int .i64 e.c, .int .i64 e.d] t)).cell? ((⟨w.heap.size, 0, none⟩ : Addr).add j) = some u := by
  have ha : (⟨w.heap.size, 0, none⟩ : Addr).add j = ⟨w.heap.size, j, none⟩ := by unfold Addr.add; split <;> simp_all
  rw [ha, cell_of_row _ w.heap.size j _ t (0, 0) (heap_alloc_new w _)]
  rw [← List.getElem?_toArray] at h
  exact h
theorem leaf_cell (w : World) (v : Value) (t : TypeId) (j : Nat) (u : Value) (h : ([v] : List Value)[j]? = some u) : (w.alloc (.cells #[v] t)).cell? ((⟨w.heap.size, 0, none⟩ : Addr).add j) = some u := by
  have ha : (⟨w.heap.size, 0, none⟩ : Addr).add j = ⟨w.heap.size, j, none⟩ := by unfold Addr.add; split <;> simp_all
  rw [ha, cell_of_row _ w.heap.size j _ t (0, 0) (heap_alloc_new w _)]
  rw [← List.getElem?_toArray] at h
  exact h
theorem fam_len (h n : Nat) : (famEs h n).length = if h = 1 then 0 else n := by
  unfold famEs
  split <;> simp
theorem famEs_b {h n : Nat} : ∀ x ∈ famEs h n, x.b < 4294967296 := by
  intro x hx
  unfold famEs at hx
  split at hx
  · cases hx
  · obtain ⟨i, -, rfl⟩ := List.mem_map.1 hx
    have := CrewW.of_lt (othL (i % h) h)
    show CrewW.of (othL (i % h) h) < _
    omega
theorem fam_dl {w0 w1 W : World} {h ka cp : Nat} {vs : List Value} {A : Option Addr} {vA : Value} (X : FamX w0 h h ka vs (.slice A h cp) vA w1) (h6 : h ≤ 6) (up : ∀ j, w0.heap.size + 1 + 1 ≤ j → j < w1.heap.size → W.heap[j]? = w1.heap[j]?) (sz : w1.heap.size ≤ W.heap.size) : DL W A (famD h) := by
  have U : Up (w0.heap.size + 1 + 1) w1 W := ⟨sz, up⟩
  intro j r hj
  unfold famD at hj
  rw [List.getElem?_map] at hj
  have hjl : j < h := by
    rcases Nat.lt_or_ge j h with h1 | h1
    · exact h1
    · rw [List.getElem?_eq_none (by simpa using h1)] at hj; cases hj
  rw [List.getElem?_range hjl] at hj
  cases hj
  obtain ⟨g, h1, h2, h3, -⟩ := X.row j hjl
  obtain ⟨b, cap, hv, -, hc, -⟩ := own_cell (own_up X.d (Nat.le_refl _) U) h1
  cases hv
  have hg := (U.block g h2 (row_lt h3)).trans h3
  have hl : (famR j).length = 2 := by rw [famR_eq]; rfl
  refine ⟨⟨b, 0, none⟩, some ⟨g, 0, none⟩, 2, rfl, ?_, row_cl (fr := (0, 0)) hg ?_, by rw [hl]; simp [maxLen], by rw [hl]; exact Nat.le_refl _, fun h => by cases h⟩
  · have ha : (⟨b, 0, none⟩ : Addr).add j = ⟨b, j, none⟩ := by unfold Addr.add; split <;> simp_all
    rw [ha, hl]
    exact hc
  · intro z hz
    rw [famR_eq] at hz
    simp at hz
    rcases hz with rfl | rfl <;> exact i64_lit (by omega) (by omega)
theorem step_append_own {P : Program} {w : World} {ops : Array Oper} {o : Oper} {a : Act} {K : Act → World → Prop} {Q : Exit → Act → World → Prop} {E : Prop} (hgd : o.guard = none) (s x : Operand) (t : TypeId)
    (ho : o.op = .call { callee := .builtin .append, args := #[s, x], argTypes := #[t, t] })
    (base : Nat) (e : TypeId) (i : TypeInfo) (z : Value) (size bytes : Nat) (ht : P.underlying t = some (.slice e)) (hi : P.info? e = some i) (hz : i.zero = some z)
    (hsize : i.size = size) (hby : i.bytes = bytes) (hzs : z.cells.size = size) (hsz : 0 < size)
    (v : Value) (n : Nat) (xs : List Value) (hs : a.eval s = v) (hown : w.ownsRow base e size v n xs)
    (ad : Addr) (m c : Nat) (news : List Value) (hx : a.eval x = .slice (some ad) m c) (hl : news.length = m * size) (hnews : ∀ j u, news[j]? = some u → w.cell? (ad.add j) = some u) (h1 : ∀ u ∈ news, u.oneCell' = true)
    (h63 : n + m ≤ maxLen) (hbytes : (n + m) * bytes ≤ 140737488355328) (hbase : base ≤ w.heap.size)
    (h : ∀ v' w', w'.ownsRow base e size v' (n + m) (xs ++ news) → w.grownBy w' v.ownBlock → (v' = .slice none 0 0 ↔ v = .slice none 0 0 ∧ m = 0) → K (a.put o.dst v') w') :
    if Region.wanted o (yielded ops a.tmps) = true then Oper.wp P o a w K Q else E := by
  rw [if_pos (by simp [Region.wanted, hgd])]
  exact wp_append_own w s x t ho base e i z size bytes ht hi hz hsize hby hzs hsz v n xs hs hown ad m c news hx hl hnews h1 h63 hbytes hbase h
theorem wrap_u32n {n : Nat} (h : n < 4294967296) : IntKind.u32.wrap (n : Int) = (n : Int) := by rw [IntKind.wrap_u32]; omega
theorem wrap_i64z {n : Int} (h0 : 0 ≤ n) (h : n < 9223372036854775808) : IntKind.i64.wrap n = n := by rw [IntKind.wrap_i64]; omega
set_option maxHeartbeats 16000000 in
set_option maxRecDepth 100000 in
theorem refFamily_any (x y : Int) (w : World) : Calls Try.prog 18 #[.int .i64 x, .int .i64 y] w fun r w' =>
    ∃ D E nd cd ne ce, r = .returned (.agg #[.int .i64 (famC x y).hosts, .int .i64 (famC x y).cycle, .int .i64 (famC x y).delay, .int .i64 (famC x y).window, .int .i64 (famC x y).precision, .slice D nd cd, .slice E ne ce, .slice none 0 0, .int .i64 (famC x y).queue]) ∧
      CM w' (famC x y) D E none nd cd ne ce 0 0 ∧ Below w.heap.size w w' := by
  have ch := clampH_in x
  have cn := clampN_in y
  have eh := clampH_cases x
  have en := Lib.hid (clampN_cases y)
  unfold famC
  generalize clampH x = h at *
  generalize clampN y = n at *
  have CN := Lib.hid cn
  have CH := Lib.hid ch
  clear ch cn
  go_enter Try.func18, Try.ntmps18
  go_upto_if 11 with (fail)
  go_cut [0] (fun s0 wx => s0 = .int .i64 (max x 1) ∧ wx = (w.alloc (.cells #[.int .i64 0, .int .i64 0, .int .i64 0, .int .i64 0, .int .i64 0, .slice none 0 0, .slice none 0 0, .slice none 0 0, .int .i64 0] 26)))
  case first =>
    by_cases hx : x < 1
    · have hm := Lib.hid (show max x 1 = 1 by omega)
      clear eh
      go_wp2
      go_meet
      exact ⟨by rw [hm.out], rfl⟩
    · have hm := Lib.hid (show max x 1 = x by omega)
      clear eh
      go_wp2
      go_meet
      exact ⟨by rw [hm.out], rfl⟩
  case rest =>
  obtain ⟨rfl, rfl⟩ := hcut
  go_upto_if 13 with (fail)
  go_cut [0] (fun s0 wx => s0 = .int .i64 (h : Int) ∧ wx = (w.alloc (.cells #[.int .i64 0, .int .i64 0, .int .i64 0, .int .i64 0, .int .i64 0, .slice none 0 0, .slice none 0 0, .slice none 0 0, .int .i64 0] 26)))
  case first =>
    have hh := Lib.hid (show (max x 1 > 6 ∧ (6 : Int) = (h : Int)) ∨ (¬ max x 1 > 6 ∧ max x 1 = (h : Int)) by omega)
    clear eh
    generalize max x 1 = z at *
    rcases hh.out with ⟨h1, h2⟩ | ⟨h1, h2⟩
    · have h3 := Lib.hid h2
      clear h2
      go_wp2
      go_meet
      exact ⟨by rw [h3.out], rfl⟩
    · have h3 := Lib.hid h2
      clear h2
      go_wp2
      go_meet
      exact ⟨by rw [h3.out], rfl⟩
  case rest =>
  obtain ⟨rfl, rfl⟩ := hcut
  clear eh
  have X0 := Lib.hid (famX_start h w)
  have R1 := Lib.hid X0.out.r
  go_wp2
  go_loopw [6, 7] (fun av iv wr => ∃ (k : Nat), k ≤ h ∧ iv = .int .i64 k ∧ Hid (∃ vs vD, FamX w h k k vs vD av wr)) (fun _ iv _ => h - (intOf iv).toNat)
  case atStart => exact ⟨0, Nat.zero_le _, rfl, Lib.hid ⟨_, _, X0.out⟩⟩
  case round =>
    clear X0
    obtain ⟨k, hk, rfl, X⟩ := hrel
    obtain ⟨vs, vD, X1⟩ := X.out
    have Z := Lib.hid X1
    clear X X1
    by_cases hlt : (k : Int) < (h : Int)
    · have h6 := CH.out.2
      obtain ⟨A, cp, hvf, -⟩ := own_form Z.out.d
      subst hvf
      obtain ⟨B, cb, hvb, -⟩ := Z.out.a.form
      rw [idx_len] at hvb
      subst hvb
      have HLI := Lib.hid (idx_len k)
      have HSI := Lib.hid (idx_succ k)
      have v5 := box_cell (i := 5) Z.out.x rfl
      have Z1 := Lib.hid (Z.out.next (al (Below.refl wr.heap.size wr) (.cells #[.int .i64 (100 * ((k : Int) + 1)), .int .i64 (100 * ((k : Int) + 1) + 50)] 2)))
      have Z2 := Lib.hid (Z1.out.next (al (Below.refl _ _) (.cells #[.slice (some ⟨wr.heap.size, 0, none⟩) 2 2] 88)))
      have HG := Lib.hid (row_below (al (Below.refl _ _) (.cells #[.slice (some ⟨wr.heap.size, 0, none⟩) 2 2] 88)) (heap_alloc_new wr (.cells #[.int .i64 (100 * ((k : Int) + 1)), .int .i64 (100 * ((k : Int) + 1) + 50)] 2)))
      have FR := Lib.hid (famR_eq k)
      have hB := Lib.hid (show ∀ (q : Nat), (Value.slice A k cp).ownBlock = some q → q < wr.heap.size from fun q e => (Z.out.d.lt q e).2)
      have hB2 := Lib.hid (show ∀ (q : Nat), (Value.slice B k cb).ownBlock = some q → q < wr.heap.size from fun q e => (Z.out.a.lt q e).2)
      have HS := Lib.hid (row_lt Z.out.x)
      obtain ⟨i0, hi0, hz0, hs0, hb0⟩ := row_info
      have I1 := Lib.hid hi0
      have I2 := Lib.hid hz0
      have I3 := Lib.hid hs0
      have I4 := Lib.hid hb0
      clear hi0 hz0 hs0 hb0
      go_wp2_with (at_builtin; refine wpList_append_row Try.underlying22 I1.out I2.out I3.out I4.out rfl (by decide) _ rfl _ _ rfl (w.heap.size + 1 + 1) _ k vs rfl Z2.out.d ⟨wr.heap.size + 1, 0, none⟩ 1 1 [.slice (some ⟨wr.heap.size, 0, none⟩) 2 2] rfl rfl ?c1 ?c2 ?c3 ?c4 ?c5 ?_)
      case c1 => intro j u hj; have h9 := leaf_cell (wr.alloc (.cells #[.int .i64 (100 * ((k : Int) + 1)), .int .i64 (100 * ((k : Int) + 1) + 50)] 2)) (.slice (some ⟨wr.heap.size, 0, none⟩) 2 2) 88 j u hj; rw [World.size_alloc] at h9; exact h9
      case c2 => intro u hu; simp at hu; subst hu; rfl
      case c3 => simp only [maxLen]; omega
      case c4 => omega
      case c5 => rw [World.size_alloc, World.size_alloc]; have := HS.out; omega
      intro v2 w2 o2 s2
      have NB : (Value.slice A k cp).ownBlock ≠ some wr.heap.size := fun e => by have := hB.out _ e; omega
      have NB2 : (Value.slice B k cb).ownBlock ≠ some wr.heap.size := fun e => by have := hB2.out _ e; omega
      have ST := Lib.hid (Z2.out.stepD (g := wr.heap.size) (v' := v2) (W3 := w2) o2 s2 (by rw [FR.out]; exact HG.out) (by have := HS.out; omega) NB NB2)
      have hx2 : w2.heap[w.heap.size + 1]? = _ := (s2.g.block _ (row_lt Z2.out.x) (fun e => by have := (Z2.out.d.lt _ e.symm).1; omega)).trans Z2.out.x
      have d5 := box_cell (i := 5) hx2 rfl
      have f5 := frozen_of_row _ (w.heap.size + 1) 5 _ _ hx2
      obtain ⟨A2, c2, rfl, -⟩ := own_form o2
      have HX2 := Lib.hid hx2
      clear hx2 o2 s2 v5 NB NB2
      go_wp2_with (at_builtin; refine wpList_append_or int_one _ rfl _ _ rfl (w.heap.size + 1 + 1) _ (idx k) rfl (ST.out.a.alloc _) (some ⟨w2.heap.size, 0, none⟩) 1 1 [(k : Int)] rfl rfl ?e1 (fun h => by cases h) ?e2 (by decide) ?e3 ?_)
      case e1 => have h8 := one_cl (w2.setCell ⟨w.heap.size + 1, 5, none⟩ (.slice A2 (k + 1) c2)) (k : Int) (by omega) (by omega) 3; rw [World.size_setCell] at h8; exact h8
      case e2 => have := HLI.out; omega
      case e3 => rw [World.size_alloc]; have := row_lt ST.out.x; omega
      intro v3 w3 o3 s3
      have ST2 := Lib.hid ((ST.out.next (al (Below.refl _ _) (.cells #[.int .i64 (k : Int)] 3))).stepA (by rw [HSI.out]; exact o3) s3)
      clear o3 s3
      go_wp2
      go_roundw
      case rel => exact ⟨k + 1, by omega, by go_num, Lib.hid ⟨_, _, ST2.out⟩⟩
      case measure => simp [intOf]; omega
    · obtain rfl : k = h := by omega
      obtain ⟨A, cp, hvf, cD, -, zD, -⟩ := own_form Z.out.d
      have CD := Lib.hid cD
      have ZD := Lib.hid zD
      clear cD zD
      obtain ⟨B, cb, hvb, hB1, -⟩ := Z.out.a.form
      rw [idx_len] at hvb
      subst hvf
      subst hvb
      obtain ⟨w1, hw1⟩ : ∃ w1, w1 = wr := ⟨_, rfl⟩
      have HB1 := Lib.hid (show CL w1 .i64 B (idx k) by rw [hw1]; exact hB1)
      have Y0 := Lib.hid (show FamY w w1 k 0 (.slice A k cp) (.slice none 0 0) ((famEs k n).take 0) w1 by
        rw [hw1]
        exact ⟨Z.out.b, Z.out.x, Nat.le_refl _, row_lt Z.out.x, fun _ _ _ => rfl, World.ownsRow_nil _ _ _ _⟩)
      have Z0 := Lib.hid (show FamX w k k k vs (.slice A k cp) (.slice B k cb) w1 by rw [hw1]; exact Z.out)
      clear Z hB1 hlt
      go_wp2
      rw [← hw1]
      clear hw1
      go_loopw [8] (fun iv wr => ∃ (i : Nat), i ≤ (famEs k n).length ∧ iv = .int .i64 i ∧ Hid (∃ vE, FamY w w1 k i (.slice A k cp) vE ((famEs k n).take i) wr)) (fun iv _ => 16 - (intOf iv).toNat)
      case atStart => exact ⟨0, Nat.zero_le _, rfl, Lib.hid ⟨_, Y0.out⟩⟩
      case round =>
        clear Y0
        obtain ⟨i, hi, rfl, Y⟩ := hrel
        obtain ⟨vE, Y1⟩ := Y.out
        have Y2 := Lib.hid Y1
        clear Y Y1
        have hc : i < (famEs k n).length ↔ ((i : Int) < y ∧ (i : Int) < 16 ∧ (k : Int) > 1) := by
          rw [fam_len]
          have := CN.out
          have := CH.out
          have := en.out
          split <;> omega
        have HC := Lib.hid hc
        have HI := Lib.hid hi
        clear hc hi
        by_cases hlt : i < (famEs k n).length
        · obtain ⟨q1, q2, q3⟩ := HC.out.1 hlt
          obtain ⟨E, ce, hve, -⟩ := own_form Y2.out.e
          subst hve
          have k6 := CH.out.2
          have kn : ¬ k = 1 := by omega
          have nz : ¬ (k : Int) = 0 := by omega
          have hmod := tmod_nat i k
          have hmi : (i : Int) % (k : Int) = ((i % k : Nat) : Int) := by omega
          have hml : i % k < k := Nat.mod_lt _ (by omega)
          have k0 : (0 : Int) ≤ (i : Int) := by omega
          have hsub := of_two k (List.mem_range.2 (by omega)) (i % k) (List.mem_range.2 hml)
          have hob := CrewW.of_lt (othL (i % k) k)
          have hoa := CrewW.of_lt (idx k)
          have hon := CrewW.of_lt [((i % k : Nat) : Int)]
          have TK := Lib.hid (show (famEs k n).take (i + 1) = (famEs k n).take i ++ [⟨((i % k : Nat) : Int), CrewW.of (othL (i % k) k), 10000 + 50000 * (i : Int), 64 + (i : Int)⟩] from famEs_snoc (n := n) kn (by have h9 := hlt; rw [fam_len, if_neg kn] at h9; exact h9))
          have HL := Lib.hid hlt
          clear hlt kn
          have OFA := Lib.hid (fun (W : World) (hc : CL W .i64 B (idx k)) => CrewW.refOf_any B k cb (idx k) W hc (idx_len k).symm (by omega))
          have OFB := Lib.hid (fun (W : World) (hc : CL W .i64 (some ⟨wr.heap.size, 0, none⟩) [((i % k : Nat) : Int)]) => CrewW.refOf_any (some ⟨wr.heap.size, 0, none⟩) 1 1 [((i % k : Nat) : Int)] W hc rfl (by omega))
          generalize CrewW.of (idx k) = oa at *
          generalize CrewW.of [((i % k : Nat) : Int)] = ob at *
          generalize CrewW.of (othL (i % k) k) = oc at *
          generalize i % k = m at *
          have Ya := Lib.hid (Y2.out.next (al (Below.refl wr.heap.size wr) (.cells #[.int .i64 (m : Int)] 3)))
          have Yb := Lib.hid (Ya.out.next (al (Below.refl _ _) (.cells #[.int .i64 (m : Int), .int .u32 (oc : Int), .int .i64 (10000 + 50000 * (i : Int)), .int .i64 (64 + (i : Int))] 56)))
          have Yd := Lib.hid (Y2.out.next (Below.refl wr.heap.size wr).drew)
          have Y3 := Lib.hid (Ya.out.next (Below.refl (wr.alloc (.cells #[.int .i64 (m : Int)] 3)).heap.size (wr.alloc (.cells #[.int .i64 (m : Int)] 3))).drew)
          have Y4 := Lib.hid (Yb.out.next (Below.refl ((wr.alloc (.cells #[.int .i64 (m : Int)] 3)).alloc (.cells #[.int .i64 (m : Int), .int .u32 (oc : Int), .int .i64 (10000 + 50000 * (i : Int)), .int .i64 (64 + (i : Int))] 56)).heap.size ((wr.alloc (.cells #[.int .i64 (m : Int)] 3)).alloc (.cells #[.int .i64 (m : Int), .int .u32 (oc : Int), .int .i64 (10000 + 50000 * (i : Int)), .int .i64 (64 + (i : Int))] 56))).drew)
          have C0 := Lib.hid (show CL wr.drew .i64 B (idx k) by
            obtain ⟨A9, c9, hv9, h9, -⟩ := (or_up (w' := wr.drew) Z0.out.a (Nat.le_refl _) ⟨Y2.out.s, fun j hj hs => Y2.out.k j hs (by omega)⟩).form
            injection hv9 with e1 e2 e3
            subst e1
            exact h9)
          have C1 := Lib.hid (show CL (wr.alloc (.cells #[.int .i64 (m : Int)] 3)).drew .i64 B (idx k) from C0.out.below (al (Below.refl wr.drew.heap.size wr.drew) (.cells #[.int .i64 (m : Int)] 3)))
          have C2 := Lib.hid (show CL (wr.alloc (.cells #[.int .i64 (m : Int)] 3)).drew .i64 (some ⟨wr.heap.size, 0, none⟩) [(m : Int)] from one_cl wr (m : Int) (by omega) (by omega) 3)
          have l0 := box_cell (i := 6) Yd.out.x rfl
          have l1 := box_cell (i := 6) Y3.out.x rfl
          have l2 := box_cell (i := 6) Y4.out.x rfl
          obtain ⟨i0, hi0, hz0, hs0, hb0⟩ := zero_info
          have I1 := Lib.hid hi0
          have I2 := Lib.hid hz0
          have I3 := Lib.hid hs0
          have I4 := Lib.hid hb0
          have EC := Lib.hid (show ∀ j u, (ents [⟨(m : Int), oc, 10000 + 50000 * (i : Int), 64 + (i : Int)⟩])[j]? = some u → ((wr.alloc (.cells #[.int .i64 (m : Int)] 3)).alloc (.cells #[.int .i64 (m : Int), .int .u32 (oc : Int), .int .i64 (10000 + 50000 * (i : Int)), .int .i64 (64 + (i : Int))] 56)).drew.cell? ((⟨wr.heap.size + 1, 0, none⟩ : Addr).add j) = some u from fun j u h => by
            have h9 := ents_cells (wr.alloc (.cells #[.int .i64 (m : Int)] 3)) ⟨(m : Int), oc, 10000 + 50000 * (i : Int), 64 + (i : Int)⟩ 56 j u h
            rw [World.size_alloc] at h9
            exact h9)
          have L4 := Lib.hid Y4.out.s
          clear hi0 hz0 hs0 hb0
          have wr1 : IntKind.u32.wrap (oc : Int) = (oc : Int) := wrap_u32n (by omega)
          have wr2 : IntKind.i64.wrap (50000 * (i : Int)) = 50000 * (i : Int) := wrap_i64z (by omega) (by omega)
          have wr3 : IntKind.i64.wrap (10000 + 50000 * (i : Int)) = 10000 + 50000 * (i : Int) := wrap_i64z (by omega) (by omega)
          have wr4 : IntKind.i64.wrap (64 + (i : Int)) = 64 + (i : Int) := wrap_i64z (by omega) (by omega)
          go_wp2_with fail

          refine wp_region_held_drew (S := fun _ => True) (by kernel_rfl) trivial (fun hHeld => ?_)
          refine takeR 0 (some 54) ?_ ?_ ?_; rotate_left; (focus (intros; go_simp; (try with_reducible rfl)))
          simp only [aput, lset]
          refine takeR 2 (some 56) ?_ ?_ ?_; rotate_left; (focus (intros; go_simp; (try with_reducible rfl)))
          simp only [aput, lset]
          refine takeR 3 (some 57) ?_ ?_ ?_; rotate_left; (focus (intros; go_simp; (try with_reducible rfl)))
          simp only [aput, lset]
          refine takeR 5 (some 59) ?_ ?_ ?_; rotate_left; (focus (intros; go_simp; (try with_reducible rfl)))
          simp only [aput, lset]
          refine takeR 9 (some 63) ?_ ?_ ?_; rotate_left; (focus (intros; go_simp; (try with_reducible rfl)))
          simp only [aput, lset]
          refine takeR 10 (some 64) ?_ ?_ ?_; rotate_left; (focus (intros; go_simp; (try with_reducible rfl)))
          simp only [aput, lset]
          refine takeR 11 (some 65) ?_ ?_ ?_; rotate_left; (focus (intros; go_simp; (try with_reducible rfl)))
          simp only [aput, lset]
          refine takeR 12 (some 66) ?_ ?_ ?_; rotate_left; (focus (intros; go_simp; (try with_reducible rfl)))
          simp only [aput, lset]
          refine takeR 13 (some 67) ?_ ?_ ?_; rotate_left; (focus (intros; go_simp; (try with_reducible rfl)))
          simp only [aput, lset]
          refine wpAnyH_ready (rs := [1, 4, 6]) (by kernel_rfl) (by simp) ?_
          refine AllReadyH.cons (o := ⟨(some 55), _, _, _, _, _⟩) rfl (fun K hK => ?_) ?_
          · go_simp
            refine hK.out _ _ trivial (fun _ => ?_)
            clear hK K
            refine wpAnyH_ready (rs := [4, 6]) (by kernel_rfl) (by simp) ?_
            refine AllReadyH.cons (o := ⟨(some 58), _, _, _, _, _⟩) rfl (fun K hK => ?_) ?_
            · go_simp
              refine (OFA.out _ C0.out).mono ?_
              rintro e w2 ⟨rfl, hw⟩
              obtain rfl := hw.symm
              clear hw
              go_simp
              refine hK.out _ _ trivial (fun _ => ?_)
              clear hK K
              refine wpAnyH_ready (rs := [6]) (by kernel_rfl) (by simp) ?_
              refine AllReadyH.cons (o := ⟨(some 60), _, _, _, _, _⟩) rfl (fun K hK => ?_) AllReadyH.nil
              go_simp
              refine hK.out _ _ trivial (fun _ => ?_)
              clear hK K
              refine wpAnyH_ready (rs := [7]) (by kernel_rfl) (by simp) ?_
              refine AllReadyH.cons (o := ⟨(some 61), _, _, _, _, _⟩) rfl (fun K hK => ?_) AllReadyH.nil
              go_simp
              refine (OFB.out _ C2.out).mono ?_
              rintro e w2 ⟨rfl, hw⟩
              obtain rfl := hw.symm
              clear hw
              go_simp
              refine hK.out _ _ trivial (fun _ => ?_)
              clear hK K
              refine takeR 8 (some 62) ?_ ?_ ?_; rotate_left; (focus (intros; go_simp; (try with_reducible rfl)))
              simp only [aput, lset]
              refine takeR 14 (some 68) ?_ ?_ ?_; rotate_left; (focus (intros; go_simp; (try with_reducible rfl)))
              simp only [aput, lset]
              refine wpAnyH_ready (rs := [15]) (by kernel_rfl) (by simp) ?_
              refine AllReadyH.cons (o := ⟨(some 69), _, _, _, _, _⟩) rfl (fun K hK => ?_) AllReadyH.nil
              go_simp
              refine hK.out _ _ trivial (fun _ => ?_)
              clear hK K
              refine wpAnyH_ready (rs := [16]) (by kernel_rfl) (by simp) ?_
              refine AllReadyH.cons (o := ⟨(some 70), _, _, _, _, _⟩) rfl (fun K hK => ?_) AllReadyH.nil
              refine step_append_own rfl _ _ 23 rfl w1.heap.size 56 i0 _ 4 32 Try.underlying23 I1.out I2.out I3.out I4.out rfl (by decide) (.slice E i ce) i _ (by simp [Act.eval]) Y4.out.e _ 1 1 (ents [⟨(m : Int), oc, 10000 + 50000 * (i : Int), 64 + (i : Int)⟩]) (by simp [Act.eval]) rfl EC.out ents_one (by simp only [maxLen]; omega) (by omega) L4.out ?_
              intro v1 w5 o1 g1 _
              have hx5 : w5.heap[w.heap.size + 1]? = _ := (g1.block _ (row_lt Y4.out.x) (fun e => by have h7 := (Y4.out.e.lt _ e.symm).1; have h8 := Y4.out.l; omega)).trans Y4.out.x
              have d6 := box_cell (i := 6) hx5 rfl
              have f6 := frozen_of_row _ (w.heap.size + 1) 6 _ _ hx5
              obtain ⟨A9, c9, rfl, -⟩ := own_form o1
              have YS := Lib.hid (Y4.out.step (v' := .slice A9 (i + 1) c9) o1 g1)
              clear hx5 o1 g1
              refine hK.out _ _ trivial (fun _ => ?_)
              clear hK K
              refine takeR 17 (some 71) ?_ ?_ ?_; rotate_left; (focus (intros; go_simp; (try with_reducible rfl)))
              simp only [aput, lset]
              refine wpAnyH_ready (rs := [18]) (by kernel_rfl) (by simp) ?_
              refine AllReadyH.cons (o := ⟨none, _, _, _, _, _⟩) rfl (fun K hK => ?_) AllReadyH.nil
              go_simp
              refine hK.out _ _ trivial (fun _ => ?_)
              clear hK K
              refine wpAnyH_done (by kernel_rfl) ?_ _
              go_wp2
              go_roundw
              case rel => exact ⟨i + 1, by have h9 := HL.out; omega, by go_num, Lib.hid ⟨_, by rw [TK.out]; exact YS.out⟩⟩
              case measure => simp [intOf]; omega
            refine AllReadyH.cons (o := ⟨(some 60), _, _, _, _, _⟩) rfl (fun K hK => ?_) AllReadyH.nil
            go_simp
            refine hK.out _ _ trivial (fun _ => ?_)
            clear hK K
            refine wpAnyH_ready (rs := [4]) (by kernel_rfl) (by simp) ?_
            refine AllReadyH.cons (o := ⟨(some 58), _, _, _, _, _⟩) rfl (fun K hK => ?_) AllReadyH.nil
            go_simp
            refine (OFA.out _ C1.out).mono ?_
            rintro e w2 ⟨rfl, hw⟩
            obtain rfl := hw.symm
            clear hw
            go_simp
            refine hK.out _ _ trivial (fun _ => ?_)
            clear hK K
            refine wpAnyH_ready (rs := [7]) (by kernel_rfl) (by simp) ?_
            refine AllReadyH.cons (o := ⟨(some 61), _, _, _, _, _⟩) rfl (fun K hK => ?_) AllReadyH.nil
            go_simp
            refine (OFB.out _ C2.out).mono ?_
            rintro e w2 ⟨rfl, hw⟩
            obtain rfl := hw.symm
            clear hw
            go_simp
            refine hK.out _ _ trivial (fun _ => ?_)
            clear hK K
            refine takeR 8 (some 62) ?_ ?_ ?_; rotate_left; (focus (intros; go_simp; (try with_reducible rfl)))
            simp only [aput, lset]
            refine takeR 14 (some 68) ?_ ?_ ?_; rotate_left; (focus (intros; go_simp; (try with_reducible rfl)))
            simp only [aput, lset]
            refine wpAnyH_ready (rs := [15]) (by kernel_rfl) (by simp) ?_
            refine AllReadyH.cons (o := ⟨(some 69), _, _, _, _, _⟩) rfl (fun K hK => ?_) AllReadyH.nil
            go_simp
            refine hK.out _ _ trivial (fun _ => ?_)
            clear hK K
            refine wpAnyH_ready (rs := [16]) (by kernel_rfl) (by simp) ?_
            refine AllReadyH.cons (o := ⟨(some 70), _, _, _, _, _⟩) rfl (fun K hK => ?_) AllReadyH.nil
            refine step_append_own rfl _ _ 23 rfl w1.heap.size 56 i0 _ 4 32 Try.underlying23 I1.out I2.out I3.out I4.out rfl (by decide) (.slice E i ce) i _ (by simp [Act.eval]) Y4.out.e _ 1 1 (ents [⟨(m : Int), oc, 10000 + 50000 * (i : Int), 64 + (i : Int)⟩]) (by simp [Act.eval]) rfl EC.out ents_one (by simp only [maxLen]; omega) (by omega) L4.out ?_
            intro v1 w5 o1 g1 _
            have hx5 : w5.heap[w.heap.size + 1]? = _ := (g1.block _ (row_lt Y4.out.x) (fun e => by have h7 := (Y4.out.e.lt _ e.symm).1; have h8 := Y4.out.l; omega)).trans Y4.out.x
            have d6 := box_cell (i := 6) hx5 rfl
            have f6 := frozen_of_row _ (w.heap.size + 1) 6 _ _ hx5
            obtain ⟨A9, c9, rfl, -⟩ := own_form o1
            have YS := Lib.hid (Y4.out.step (v' := .slice A9 (i + 1) c9) o1 g1)
            clear hx5 o1 g1
            refine hK.out _ _ trivial (fun _ => ?_)
            clear hK K
            refine takeR 17 (some 71) ?_ ?_ ?_; rotate_left; (focus (intros; go_simp; (try with_reducible rfl)))
            simp only [aput, lset]
            refine wpAnyH_ready (rs := [18]) (by kernel_rfl) (by simp) ?_
            refine AllReadyH.cons (o := ⟨none, _, _, _, _, _⟩) rfl (fun K hK => ?_) AllReadyH.nil
            go_simp
            refine hK.out _ _ trivial (fun _ => ?_)
            clear hK K
            refine wpAnyH_done (by kernel_rfl) ?_ _
            go_wp2
            go_roundw
            case rel => exact ⟨i + 1, by have h9 := HL.out; omega, by go_num, Lib.hid ⟨_, by rw [TK.out]; exact YS.out⟩⟩
            case measure => simp [intOf]; omega
          refine AllReadyH.cons (o := ⟨(some 58), _, _, _, _, _⟩) rfl (fun K hK => ?_) ?_
          · go_simp
            refine (OFA.out _ C0.out).mono ?_
            rintro e w2 ⟨rfl, hw⟩
            obtain rfl := hw.symm
            clear hw
            go_simp
            refine hK.out _ _ trivial (fun _ => ?_)
            clear hK K
            refine wpAnyH_ready (rs := [1, 6]) (by kernel_rfl) (by simp) ?_
            refine AllReadyH.cons (o := ⟨(some 55), _, _, _, _, _⟩) rfl (fun K hK => ?_) ?_
            · go_simp
              refine hK.out _ _ trivial (fun _ => ?_)
              clear hK K
              refine wpAnyH_ready (rs := [6]) (by kernel_rfl) (by simp) ?_
              refine AllReadyH.cons (o := ⟨(some 60), _, _, _, _, _⟩) rfl (fun K hK => ?_) AllReadyH.nil
              go_simp
              refine hK.out _ _ trivial (fun _ => ?_)
              clear hK K
              refine wpAnyH_ready (rs := [7]) (by kernel_rfl) (by simp) ?_
              refine AllReadyH.cons (o := ⟨(some 61), _, _, _, _, _⟩) rfl (fun K hK => ?_) AllReadyH.nil
              go_simp
              refine (OFB.out _ C2.out).mono ?_
              rintro e w2 ⟨rfl, hw⟩
              obtain rfl := hw.symm
              clear hw
              go_simp
              refine hK.out _ _ trivial (fun _ => ?_)
              clear hK K
              refine takeR 8 (some 62) ?_ ?_ ?_; rotate_left; (focus (intros; go_simp; (try with_reducible rfl)))
              simp only [aput, lset]
              refine takeR 14 (some 68) ?_ ?_ ?_; rotate_left; (focus (intros; go_simp; (try with_reducible rfl)))
              simp only [aput, lset]
              refine wpAnyH_ready (rs := [15]) (by kernel_rfl) (by simp) ?_
              refine AllReadyH.cons (o := ⟨(some 69), _, _, _, _, _⟩) rfl (fun K hK => ?_) AllReadyH.nil
              go_simp
              refine hK.out _ _ trivial (fun _ => ?_)
              clear hK K
              refine wpAnyH_ready (rs := [16]) (by kernel_rfl) (by simp) ?_
              refine AllReadyH.cons (o := ⟨(some 70), _, _, _, _, _⟩) rfl (fun K hK => ?_) AllReadyH.nil
              refine step_append_own rfl _ _ 23 rfl w1.heap.size 56 i0 _ 4 32 Try.underlying23 I1.out I2.out I3.out I4.out rfl (by decide) (.slice E i ce) i _ (by simp [Act.eval]) Y4.out.e _ 1 1 (ents [⟨(m : Int), oc, 10000 + 50000 * (i : Int), 64 + (i : Int)⟩]) (by simp [Act.eval]) rfl EC.out ents_one (by simp only [maxLen]; omega) (by omega) L4.out ?_
              intro v1 w5 o1 g1 _
              have hx5 : w5.heap[w.heap.size + 1]? = _ := (g1.block _ (row_lt Y4.out.x) (fun e => by have h7 := (Y4.out.e.lt _ e.symm).1; have h8 := Y4.out.l; omega)).trans Y4.out.x
              have d6 := box_cell (i := 6) hx5 rfl
              have f6 := frozen_of_row _ (w.heap.size + 1) 6 _ _ hx5
              obtain ⟨A9, c9, rfl, -⟩ := own_form o1
              have YS := Lib.hid (Y4.out.step (v' := .slice A9 (i + 1) c9) o1 g1)
              clear hx5 o1 g1
              refine hK.out _ _ trivial (fun _ => ?_)
              clear hK K
              refine takeR 17 (some 71) ?_ ?_ ?_; rotate_left; (focus (intros; go_simp; (try with_reducible rfl)))
              simp only [aput, lset]
              refine wpAnyH_ready (rs := [18]) (by kernel_rfl) (by simp) ?_
              refine AllReadyH.cons (o := ⟨none, _, _, _, _, _⟩) rfl (fun K hK => ?_) AllReadyH.nil
              go_simp
              refine hK.out _ _ trivial (fun _ => ?_)
              clear hK K
              refine wpAnyH_done (by kernel_rfl) ?_ _
              go_wp2
              go_roundw
              case rel => exact ⟨i + 1, by have h9 := HL.out; omega, by go_num, Lib.hid ⟨_, by rw [TK.out]; exact YS.out⟩⟩
              case measure => simp [intOf]; omega
            refine AllReadyH.cons (o := ⟨(some 60), _, _, _, _, _⟩) rfl (fun K hK => ?_) AllReadyH.nil
            go_simp
            refine hK.out _ _ trivial (fun _ => ?_)
            clear hK K
            refine wpAnyH_ready (rs := [1, 7]) (by kernel_rfl) (by simp) ?_
            refine AllReadyH.cons (o := ⟨(some 55), _, _, _, _, _⟩) rfl (fun K hK => ?_) ?_
            · go_simp
              refine hK.out _ _ trivial (fun _ => ?_)
              clear hK K
              refine wpAnyH_ready (rs := [7]) (by kernel_rfl) (by simp) ?_
              refine AllReadyH.cons (o := ⟨(some 61), _, _, _, _, _⟩) rfl (fun K hK => ?_) AllReadyH.nil
              go_simp
              refine (OFB.out _ C2.out).mono ?_
              rintro e w2 ⟨rfl, hw⟩
              obtain rfl := hw.symm
              clear hw
              go_simp
              refine hK.out _ _ trivial (fun _ => ?_)
              clear hK K
              refine takeR 8 (some 62) ?_ ?_ ?_; rotate_left; (focus (intros; go_simp; (try with_reducible rfl)))
              simp only [aput, lset]
              refine takeR 14 (some 68) ?_ ?_ ?_; rotate_left; (focus (intros; go_simp; (try with_reducible rfl)))
              simp only [aput, lset]
              refine wpAnyH_ready (rs := [15]) (by kernel_rfl) (by simp) ?_
              refine AllReadyH.cons (o := ⟨(some 69), _, _, _, _, _⟩) rfl (fun K hK => ?_) AllReadyH.nil
              go_simp
              refine hK.out _ _ trivial (fun _ => ?_)
              clear hK K
              refine wpAnyH_ready (rs := [16]) (by kernel_rfl) (by simp) ?_
              refine AllReadyH.cons (o := ⟨(some 70), _, _, _, _, _⟩) rfl (fun K hK => ?_) AllReadyH.nil
              refine step_append_own rfl _ _ 23 rfl w1.heap.size 56 i0 _ 4 32 Try.underlying23 I1.out I2.out I3.out I4.out rfl (by decide) (.slice E i ce) i _ (by simp [Act.eval]) Y4.out.e _ 1 1 (ents [⟨(m : Int), oc, 10000 + 50000 * (i : Int), 64 + (i : Int)⟩]) (by simp [Act.eval]) rfl EC.out ents_one (by simp only [maxLen]; omega) (by omega) L4.out ?_
              intro v1 w5 o1 g1 _
              have hx5 : w5.heap[w.heap.size + 1]? = _ := (g1.block _ (row_lt Y4.out.x) (fun e => by have h7 := (Y4.out.e.lt _ e.symm).1; have h8 := Y4.out.l; omega)).trans Y4.out.x
              have d6 := box_cell (i := 6) hx5 rfl
              have f6 := frozen_of_row _ (w.heap.size + 1) 6 _ _ hx5
              obtain ⟨A9, c9, rfl, -⟩ := own_form o1
              have YS := Lib.hid (Y4.out.step (v' := .slice A9 (i + 1) c9) o1 g1)
              clear hx5 o1 g1
              refine hK.out _ _ trivial (fun _ => ?_)
              clear hK K
              refine takeR 17 (some 71) ?_ ?_ ?_; rotate_left; (focus (intros; go_simp; (try with_reducible rfl)))
              simp only [aput, lset]
              refine wpAnyH_ready (rs := [18]) (by kernel_rfl) (by simp) ?_
              refine AllReadyH.cons (o := ⟨none, _, _, _, _, _⟩) rfl (fun K hK => ?_) AllReadyH.nil
              go_simp
              refine hK.out _ _ trivial (fun _ => ?_)
              clear hK K
              refine wpAnyH_done (by kernel_rfl) ?_ _
              go_wp2
              go_roundw
              case rel => exact ⟨i + 1, by have h9 := HL.out; omega, by go_num, Lib.hid ⟨_, by rw [TK.out]; exact YS.out⟩⟩
              case measure => simp [intOf]; omega
            refine AllReadyH.cons (o := ⟨(some 61), _, _, _, _, _⟩) rfl (fun K hK => ?_) AllReadyH.nil
            go_simp
            refine (OFB.out _ C2.out).mono ?_
            rintro e w2 ⟨rfl, hw⟩
            obtain rfl := hw.symm
            clear hw
            go_simp
            refine hK.out _ _ trivial (fun _ => ?_)
            clear hK K
            refine takeR 8 (some 62) ?_ ?_ ?_; rotate_left; (focus (intros; go_simp; (try with_reducible rfl)))
            simp only [aput, lset]
            refine takeR 14 (some 68) ?_ ?_ ?_; rotate_left; (focus (intros; go_simp; (try with_reducible rfl)))
            simp only [aput, lset]
            refine wpAnyH_ready (rs := [1, 15]) (by kernel_rfl) (by simp) ?_
            refine AllReadyH.cons (o := ⟨(some 55), _, _, _, _, _⟩) rfl (fun K hK => ?_) ?_
            · go_simp
              refine hK.out _ _ trivial (fun _ => ?_)
              clear hK K
              refine wpAnyH_ready (rs := [15]) (by kernel_rfl) (by simp) ?_
              refine AllReadyH.cons (o := ⟨(some 69), _, _, _, _, _⟩) rfl (fun K hK => ?_) AllReadyH.nil
              go_simp
              refine hK.out _ _ trivial (fun _ => ?_)
              clear hK K
              refine wpAnyH_ready (rs := [16]) (by kernel_rfl) (by simp) ?_
              refine AllReadyH.cons (o := ⟨(some 70), _, _, _, _, _⟩) rfl (fun K hK => ?_) AllReadyH.nil
              refine step_append_own rfl _ _ 23 rfl w1.heap.size 56 i0 _ 4 32 Try.underlying23 I1.out I2.out I3.out I4.out rfl (by decide) (.slice E i ce) i _ (by simp [Act.eval]) Y4.out.e _ 1 1 (ents [⟨(m : Int), oc, 10000 + 50000 * (i : Int), 64 + (i : Int)⟩]) (by simp [Act.eval]) rfl EC.out ents_one (by simp only [maxLen]; omega) (by omega) L4.out ?_
              intro v1 w5 o1 g1 _
              have hx5 : w5.heap[w.heap.size + 1]? = _ := (g1.block _ (row_lt Y4.out.x) (fun e => by have h7 := (Y4.out.e.lt _ e.symm).1; have h8 := Y4.out.l; omega)).trans Y4.out.x
              have d6 := box_cell (i := 6) hx5 rfl
              have f6 := frozen_of_row _ (w.heap.size + 1) 6 _ _ hx5
              obtain ⟨A9, c9, rfl, -⟩ := own_form o1
              have YS := Lib.hid (Y4.out.step (v' := .slice A9 (i + 1) c9) o1 g1)
              clear hx5 o1 g1
              refine hK.out _ _ trivial (fun _ => ?_)
              clear hK K
              refine takeR 17 (some 71) ?_ ?_ ?_; rotate_left; (focus (intros; go_simp; (try with_reducible rfl)))
              simp only [aput, lset]
              refine wpAnyH_ready (rs := [18]) (by kernel_rfl) (by simp) ?_
              refine AllReadyH.cons (o := ⟨none, _, _, _, _, _⟩) rfl (fun K hK => ?_) AllReadyH.nil
              go_simp
              refine hK.out _ _ trivial (fun _ => ?_)
              clear hK K
              refine wpAnyH_done (by kernel_rfl) ?_ _
              go_wp2
              go_roundw
              case rel => exact ⟨i + 1, by have h9 := HL.out; omega, by go_num, Lib.hid ⟨_, by rw [TK.out]; exact YS.out⟩⟩
              case measure => simp [intOf]; omega
            refine AllReadyH.cons (o := ⟨(some 69), _, _, _, _, _⟩) rfl (fun K hK => ?_) AllReadyH.nil
            go_simp
            refine hK.out _ _ trivial (fun _ => ?_)
            clear hK K
            refine wpAnyH_ready (rs := [1]) (by kernel_rfl) (by simp) ?_
            refine AllReadyH.cons (o := ⟨(some 55), _, _, _, _, _⟩) rfl (fun K hK => ?_) AllReadyH.nil
            go_simp
            refine hK.out _ _ trivial (fun _ => ?_)
            clear hK K
            refine wpAnyH_ready (rs := [16]) (by kernel_rfl) (by simp) ?_
            refine AllReadyH.cons (o := ⟨(some 70), _, _, _, _, _⟩) rfl (fun K hK => ?_) AllReadyH.nil
            refine step_append_own rfl _ _ 23 rfl w1.heap.size 56 i0 _ 4 32 Try.underlying23 I1.out I2.out I3.out I4.out rfl (by decide) (.slice E i ce) i _ (by simp [Act.eval]) Y4.out.e _ 1 1 (ents [⟨(m : Int), oc, 10000 + 50000 * (i : Int), 64 + (i : Int)⟩]) (by simp [Act.eval]) rfl EC.out ents_one (by simp only [maxLen]; omega) (by omega) L4.out ?_
            intro v1 w5 o1 g1 _
            have hx5 : w5.heap[w.heap.size + 1]? = _ := (g1.block _ (row_lt Y4.out.x) (fun e => by have h7 := (Y4.out.e.lt _ e.symm).1; have h8 := Y4.out.l; omega)).trans Y4.out.x
            have d6 := box_cell (i := 6) hx5 rfl
            have f6 := frozen_of_row _ (w.heap.size + 1) 6 _ _ hx5
            obtain ⟨A9, c9, rfl, -⟩ := own_form o1
            have YS := Lib.hid (Y4.out.step (v' := .slice A9 (i + 1) c9) o1 g1)
            clear hx5 o1 g1
            refine hK.out _ _ trivial (fun _ => ?_)
            clear hK K
            refine takeR 17 (some 71) ?_ ?_ ?_; rotate_left; (focus (intros; go_simp; (try with_reducible rfl)))
            simp only [aput, lset]
            refine wpAnyH_ready (rs := [18]) (by kernel_rfl) (by simp) ?_
            refine AllReadyH.cons (o := ⟨none, _, _, _, _, _⟩) rfl (fun K hK => ?_) AllReadyH.nil
            go_simp
            refine hK.out _ _ trivial (fun _ => ?_)
            clear hK K
            refine wpAnyH_done (by kernel_rfl) ?_ _
            go_wp2
            go_roundw
            case rel => exact ⟨i + 1, by have h9 := HL.out; omega, by go_num, Lib.hid ⟨_, by rw [TK.out]; exact YS.out⟩⟩
            case measure => simp [intOf]; omega
          refine AllReadyH.cons (o := ⟨(some 60), _, _, _, _, _⟩) rfl (fun K hK => ?_) AllReadyH.nil
          go_simp
          refine hK.out _ _ trivial (fun _ => ?_)
          clear hK K
          refine wpAnyH_ready (rs := [1, 4]) (by kernel_rfl) (by simp) ?_
          refine AllReadyH.cons (o := ⟨(some 55), _, _, _, _, _⟩) rfl (fun K hK => ?_) ?_
          · go_simp
            refine hK.out _ _ trivial (fun _ => ?_)
            clear hK K
            refine wpAnyH_ready (rs := [4]) (by kernel_rfl) (by simp) ?_
            refine AllReadyH.cons (o := ⟨(some 58), _, _, _, _, _⟩) rfl (fun K hK => ?_) AllReadyH.nil
            go_simp
            refine (OFA.out _ C1.out).mono ?_
            rintro e w2 ⟨rfl, hw⟩
            obtain rfl := hw.symm
            clear hw
            go_simp
            refine hK.out _ _ trivial (fun _ => ?_)
            clear hK K
            refine wpAnyH_ready (rs := [7]) (by kernel_rfl) (by simp) ?_
            refine AllReadyH.cons (o := ⟨(some 61), _, _, _, _, _⟩) rfl (fun K hK => ?_) AllReadyH.nil
            go_simp
            refine (OFB.out _ C2.out).mono ?_
            rintro e w2 ⟨rfl, hw⟩
            obtain rfl := hw.symm
            clear hw
            go_simp
            refine hK.out _ _ trivial (fun _ => ?_)
            clear hK K
            refine takeR 8 (some 62) ?_ ?_ ?_; rotate_left; (focus (intros; go_simp; (try with_reducible rfl)))
            simp only [aput, lset]
            refine takeR 14 (some 68) ?_ ?_ ?_; rotate_left; (focus (intros; go_simp; (try with_reducible rfl)))
            simp only [aput, lset]
            refine wpAnyH_ready (rs := [15]) (by kernel_rfl) (by simp) ?_
            refine AllReadyH.cons (o := ⟨(some 69), _, _, _, _, _⟩) rfl (fun K hK => ?_) AllReadyH.nil
            go_simp
            refine hK.out _ _ trivial (fun _ => ?_)
            clear hK K
            refine wpAnyH_ready (rs := [16]) (by kernel_rfl) (by simp) ?_
            refine AllReadyH.cons (o := ⟨(some 70), _, _, _, _, _⟩) rfl (fun K hK => ?_) AllReadyH.nil
            refine step_append_own rfl _ _ 23 rfl w1.heap.size 56 i0 _ 4 32 Try.underlying23 I1.out I2.out I3.out I4.out rfl (by decide) (.slice E i ce) i _ (by simp [Act.eval]) Y4.out.e _ 1 1 (ents [⟨(m : Int), oc, 10000 + 50000 * (i : Int), 64 + (i : Int)⟩]) (by simp [Act.eval]) rfl EC.out ents_one (by simp only [maxLen]; omega) (by omega) L4.out ?_
            intro v1 w5 o1 g1 _
            have hx5 : w5.heap[w.heap.size + 1]? = _ := (g1.block _ (row_lt Y4.out.x) (fun e => by have h7 := (Y4.out.e.lt _ e.symm).1; have h8 := Y4.out.l; omega)).trans Y4.out.x
            have d6 := box_cell (i := 6) hx5 rfl
            have f6 := frozen_of_row _ (w.heap.size + 1) 6 _ _ hx5
            obtain ⟨A9, c9, rfl, -⟩ := own_form o1
            have YS := Lib.hid (Y4.out.step (v' := .slice A9 (i + 1) c9) o1 g1)
            clear hx5 o1 g1
            refine hK.out _ _ trivial (fun _ => ?_)
            clear hK K
            refine takeR 17 (some 71) ?_ ?_ ?_; rotate_left; (focus (intros; go_simp; (try with_reducible rfl)))
            simp only [aput, lset]
            refine wpAnyH_ready (rs := [18]) (by kernel_rfl) (by simp) ?_
            refine AllReadyH.cons (o := ⟨none, _, _, _, _, _⟩) rfl (fun K hK => ?_) AllReadyH.nil
            go_simp
            refine hK.out _ _ trivial (fun _ => ?_)
            clear hK K
            refine wpAnyH_done (by kernel_rfl) ?_ _
            go_wp2
            go_roundw
            case rel => exact ⟨i + 1, by have h9 := HL.out; omega, by go_num, Lib.hid ⟨_, by rw [TK.out]; exact YS.out⟩⟩
            case measure => simp [intOf]; omega
          refine AllReadyH.cons (o := ⟨(some 58), _, _, _, _, _⟩) rfl (fun K hK => ?_) AllReadyH.nil
          go_simp
          refine (OFA.out _ C1.out).mono ?_
          rintro e w2 ⟨rfl, hw⟩
          obtain rfl := hw.symm
          clear hw
          go_simp
          refine hK.out _ _ trivial (fun _ => ?_)
          clear hK K
          refine wpAnyH_ready (rs := [1, 7]) (by kernel_rfl) (by simp) ?_
          refine AllReadyH.cons (o := ⟨(some 55), _, _, _, _, _⟩) rfl (fun K hK => ?_) ?_
          · go_simp
            refine hK.out _ _ trivial (fun _ => ?_)
            clear hK K
            refine wpAnyH_ready (rs := [7]) (by kernel_rfl) (by simp) ?_
            refine AllReadyH.cons (o := ⟨(some 61), _, _, _, _, _⟩) rfl (fun K hK => ?_) AllReadyH.nil
            go_simp
            refine (OFB.out _ C2.out).mono ?_
            rintro e w2 ⟨rfl, hw⟩
            obtain rfl := hw.symm
            clear hw
            go_simp
            refine hK.out _ _ trivial (fun _ => ?_)
            clear hK K
            refine takeR 8 (some 62) ?_ ?_ ?_; rotate_left; (focus (intros; go_simp; (try with_reducible rfl)))
            simp only [aput, lset]
            refine takeR 14 (some 68) ?_ ?_ ?_; rotate_left; (focus (intros; go_simp; (try with_reducible rfl)))
            simp only [aput, lset]
            refine wpAnyH_ready (rs := [15]) (by kernel_rfl) (by simp) ?_
            refine AllReadyH.cons (o := ⟨(some 69), _, _, _, _, _⟩) rfl (fun K hK => ?_) AllReadyH.nil
            go_simp
            refine hK.out _ _ trivial (fun _ => ?_)
            clear hK K
            refine wpAnyH_ready (rs := [16]) (by kernel_rfl) (by simp) ?_
            refine AllReadyH.cons (o := ⟨(some 70), _, _, _, _, _⟩) rfl (fun K hK => ?_) AllReadyH.nil
            refine step_append_own rfl _ _ 23 rfl w1.heap.size 56 i0 _ 4 32 Try.underlying23 I1.out I2.out I3.out I4.out rfl (by decide) (.slice E i ce) i _ (by simp [Act.eval]) Y4.out.e _ 1 1 (ents [⟨(m : Int), oc, 10000 + 50000 * (i : Int), 64 + (i : Int)⟩]) (by simp [Act.eval]) rfl EC.out ents_one (by simp only [maxLen]; omega) (by omega) L4.out ?_
            intro v1 w5 o1 g1 _
            have hx5 : w5.heap[w.heap.size + 1]? = _ := (g1.block _ (row_lt Y4.out.x) (fun e => by have h7 := (Y4.out.e.lt _ e.symm).1; have h8 := Y4.out.l; omega)).trans Y4.out.x
            have d6 := box_cell (i := 6) hx5 rfl
            have f6 := frozen_of_row _ (w.heap.size + 1) 6 _ _ hx5
            obtain ⟨A9, c9, rfl, -⟩ := own_form o1
            have YS := Lib.hid (Y4.out.step (v' := .slice A9 (i + 1) c9) o1 g1)
            clear hx5 o1 g1
            refine hK.out _ _ trivial (fun _ => ?_)
            clear hK K
            refine takeR 17 (some 71) ?_ ?_ ?_; rotate_left; (focus (intros; go_simp; (try with_reducible rfl)))
            simp only [aput, lset]
            refine wpAnyH_ready (rs := [18]) (by kernel_rfl) (by simp) ?_
            refine AllReadyH.cons (o := ⟨none, _, _, _, _, _⟩) rfl (fun K hK => ?_) AllReadyH.nil
            go_simp
            refine hK.out _ _ trivial (fun _ => ?_)
            clear hK K
            refine wpAnyH_done (by kernel_rfl) ?_ _
            go_wp2
            go_roundw
            case rel => exact ⟨i + 1, by have h9 := HL.out; omega, by go_num, Lib.hid ⟨_, by rw [TK.out]; exact YS.out⟩⟩
            case measure => simp [intOf]; omega
          refine AllReadyH.cons (o := ⟨(some 61), _, _, _, _, _⟩) rfl (fun K hK => ?_) AllReadyH.nil
          go_simp
          refine (OFB.out _ C2.out).mono ?_
          rintro e w2 ⟨rfl, hw⟩
          obtain rfl := hw.symm
          clear hw
          go_simp
          refine hK.out _ _ trivial (fun _ => ?_)
          clear hK K
          refine takeR 8 (some 62) ?_ ?_ ?_; rotate_left; (focus (intros; go_simp; (try with_reducible rfl)))
          simp only [aput, lset]
          refine takeR 14 (some 68) ?_ ?_ ?_; rotate_left; (focus (intros; go_simp; (try with_reducible rfl)))
          simp only [aput, lset]
          refine wpAnyH_ready (rs := [1, 15]) (by kernel_rfl) (by simp) ?_
          refine AllReadyH.cons (o := ⟨(some 55), _, _, _, _, _⟩) rfl (fun K hK => ?_) ?_
          · go_simp
            refine hK.out _ _ trivial (fun _ => ?_)
            clear hK K
            refine wpAnyH_ready (rs := [15]) (by kernel_rfl) (by simp) ?_
            refine AllReadyH.cons (o := ⟨(some 69), _, _, _, _, _⟩) rfl (fun K hK => ?_) AllReadyH.nil
            go_simp
            refine hK.out _ _ trivial (fun _ => ?_)
            clear hK K
            refine wpAnyH_ready (rs := [16]) (by kernel_rfl) (by simp) ?_
            refine AllReadyH.cons (o := ⟨(some 70), _, _, _, _, _⟩) rfl (fun K hK => ?_) AllReadyH.nil
            refine step_append_own rfl _ _ 23 rfl w1.heap.size 56 i0 _ 4 32 Try.underlying23 I1.out I2.out I3.out I4.out rfl (by decide) (.slice E i ce) i _ (by simp [Act.eval]) Y4.out.e _ 1 1 (ents [⟨(m : Int), oc, 10000 + 50000 * (i : Int), 64 + (i : Int)⟩]) (by simp [Act.eval]) rfl EC.out ents_one (by simp only [maxLen]; omega) (by omega) L4.out ?_
            intro v1 w5 o1 g1 _
            have hx5 : w5.heap[w.heap.size + 1]? = _ := (g1.block _ (row_lt Y4.out.x) (fun e => by have h7 := (Y4.out.e.lt _ e.symm).1; have h8 := Y4.out.l; omega)).trans Y4.out.x
            have d6 := box_cell (i := 6) hx5 rfl
            have f6 := frozen_of_row _ (w.heap.size + 1) 6 _ _ hx5
            obtain ⟨A9, c9, rfl, -⟩ := own_form o1
            have YS := Lib.hid (Y4.out.step (v' := .slice A9 (i + 1) c9) o1 g1)
            clear hx5 o1 g1
            refine hK.out _ _ trivial (fun _ => ?_)
            clear hK K
            refine takeR 17 (some 71) ?_ ?_ ?_; rotate_left; (focus (intros; go_simp; (try with_reducible rfl)))
            simp only [aput, lset]
            refine wpAnyH_ready (rs := [18]) (by kernel_rfl) (by simp) ?_
            refine AllReadyH.cons (o := ⟨none, _, _, _, _, _⟩) rfl (fun K hK => ?_) AllReadyH.nil
            go_simp
            refine hK.out _ _ trivial (fun _ => ?_)
            clear hK K
            refine wpAnyH_done (by kernel_rfl) ?_ _
            go_wp2
            go_roundw
            case rel => exact ⟨i + 1, by have h9 := HL.out; omega, by go_num, Lib.hid ⟨_, by rw [TK.out]; exact YS.out⟩⟩
            case measure => simp [intOf]; omega
          refine AllReadyH.cons (o := ⟨(some 69), _, _, _, _, _⟩) rfl (fun K hK => ?_) AllReadyH.nil
          go_simp
          refine hK.out _ _ trivial (fun _ => ?_)
          clear hK K
          refine wpAnyH_ready (rs := [1]) (by kernel_rfl) (by simp) ?_
          refine AllReadyH.cons (o := ⟨(some 55), _, _, _, _, _⟩) rfl (fun K hK => ?_) AllReadyH.nil
          go_simp
          refine hK.out _ _ trivial (fun _ => ?_)
          clear hK K
          refine wpAnyH_ready (rs := [16]) (by kernel_rfl) (by simp) ?_
          refine AllReadyH.cons (o := ⟨(some 70), _, _, _, _, _⟩) rfl (fun K hK => ?_) AllReadyH.nil
          refine step_append_own rfl _ _ 23 rfl w1.heap.size 56 i0 _ 4 32 Try.underlying23 I1.out I2.out I3.out I4.out rfl (by decide) (.slice E i ce) i _ (by simp [Act.eval]) Y4.out.e _ 1 1 (ents [⟨(m : Int), oc, 10000 + 50000 * (i : Int), 64 + (i : Int)⟩]) (by simp [Act.eval]) rfl EC.out ents_one (by simp only [maxLen]; omega) (by omega) L4.out ?_
          intro v1 w5 o1 g1 _
          have hx5 : w5.heap[w.heap.size + 1]? = _ := (g1.block _ (row_lt Y4.out.x) (fun e => by have h7 := (Y4.out.e.lt _ e.symm).1; have h8 := Y4.out.l; omega)).trans Y4.out.x
          have d6 := box_cell (i := 6) hx5 rfl
          have f6 := frozen_of_row _ (w.heap.size + 1) 6 _ _ hx5
          obtain ⟨A9, c9, rfl, -⟩ := own_form o1
          have YS := Lib.hid (Y4.out.step (v' := .slice A9 (i + 1) c9) o1 g1)
          clear hx5 o1 g1
          refine hK.out _ _ trivial (fun _ => ?_)
          clear hK K
          refine takeR 17 (some 71) ?_ ?_ ?_; rotate_left; (focus (intros; go_simp; (try with_reducible rfl)))
          simp only [aput, lset]
          refine wpAnyH_ready (rs := [18]) (by kernel_rfl) (by simp) ?_
          refine AllReadyH.cons (o := ⟨none, _, _, _, _, _⟩) rfl (fun K hK => ?_) AllReadyH.nil
          go_simp
          refine hK.out _ _ trivial (fun _ => ?_)
          clear hK K
          refine wpAnyH_done (by kernel_rfl) ?_ _
          go_wp2
          go_roundw
          case rel => exact ⟨i + 1, by have h9 := HL.out; omega, by go_num, Lib.hid ⟨_, by rw [TK.out]; exact YS.out⟩⟩
          case measure => simp [intOf]; omega
        · have hq : ¬ (i : Int) < y ∨ ((i : Int) < y ∧ ¬ (i : Int) < 16) ∨ ((i : Int) < y ∧ (i : Int) < 16 ∧ ¬ (k : Int) > 1) := by
            by_cases q1 : (i : Int) < y
            · by_cases q2 : (i : Int) < 16
              · by_cases q3 : (k : Int) > 1
                · exact absurd (HC.out.2 ⟨q1, q2, q3⟩) hlt
                · exact Or.inr (Or.inr ⟨q1, q2, q3⟩)
              · exact Or.inr (Or.inl ⟨q1, q2⟩)
            · exact Or.inl q1
          have hie : i = (famEs k n).length := by have := HI.out; omega
          have HIE := Lib.hid hie
          clear hie hlt
          obtain ⟨E, ce, hve, cE, mE, zE, -⟩ := own_form Y2.out.e
          subst hve
          have CE := Lib.hid cE
          have ME := Lib.hid mE
          have ZE := Lib.hid zE
          clear cE mE zE
          have RB := Lib.hid ((Y2.out.k w.heap.size (by have := Y2.out.l; omega) (by omega)).trans Z0.out.r)
          have c0 := box_cell (i := 0) Y2.out.x rfl
          have c1 := box_cell (i := 1) Y2.out.x rfl
          have c2 := box_cell (i := 2) Y2.out.x rfl
          have c3 := box_cell (i := 3) Y2.out.x rfl
          have c4 := box_cell (i := 4) Y2.out.x rfl
          have c5 := box_cell (i := 5) Y2.out.x rfl
          have c6 := box_cell (i := 6) Y2.out.x rfl
          have c7 := box_cell (i := 7) Y2.out.x rfl
          have c8 := box_cell (i := 8) Y2.out.x rfl
          have r0 := box_cell (i := 0) RB.out rfl
          have r1 := box_cell (i := 1) RB.out rfl
          have r2 := box_cell (i := 2) RB.out rfl
          have r3 := box_cell (i := 3) RB.out rfl
          have r4 := box_cell (i := 4) RB.out rfl
          have r5 := box_cell (i := 5) RB.out rfl
          have r6 := box_cell (i := 6) RB.out rfl
          have r7 := box_cell (i := 7) RB.out rfl
          have r8 := box_cell (i := 8) RB.out rfl
          have g0 := frozen_of_row _ (w.heap.size) 0 _ _ RB.out
          have g1 := frozen_of_row _ (w.heap.size) 1 _ _ RB.out
          have g2 := frozen_of_row _ (w.heap.size) 2 _ _ RB.out
          have g3 := frozen_of_row _ (w.heap.size) 3 _ _ RB.out
          have g4 := frozen_of_row _ (w.heap.size) 4 _ _ RB.out
          have g5 := frozen_of_row _ (w.heap.size) 5 _ _ RB.out
          have g6 := frozen_of_row _ (w.heap.size) 6 _ _ RB.out
          have g7 := frozen_of_row _ (w.heap.size) 7 _ _ RB.out
          have g8 := frozen_of_row _ (w.heap.size) 8 _ _ RB.out
          rcases hq with q1 | ⟨q1, q2⟩ | ⟨q1, q2, q3⟩
          all_goals
            go_wp2
            refine ret_nine rfl rfl (set9 RB.out) ?_
            have UP := fun X5 X6 => up9 (x0 := .int .i64 (k : Int)) (x1 := .int .i64 2000000) (x2 := .int .i64 2000) (x3 := .int .i64 1000) (x4 := .int .i64 500) (x5 := X5) (x6 := X6) (x7 := .slice none 0 0) (x8 := .int .i64 8) (g := w.heap.size) (Up.refl (w.heap.size + 1) wr) (by omega)
            have hl2 := Y2.out.l
            have hs2 := Y2.out.s
            have h66 := CH.out.2
            have HO := own_up Y2.out.e (lo := w.heap.size + 1) (by omega) (UP (.slice A k cp) (.slice E i ce))
            rw [List.take_of_length_le (Nat.le_of_eq HIE.out.symm)] at HO
            refine ⟨A, E, k, cp, i, ce, rfl, ?_, keep9 Y2.out.b (Nat.le_refl w.heap.size)⟩
            exact { hd := fam_dl Z0.out h66 (fun j hj hs => ((UP _ _).block j (by omega) (by omega)).trans (Y2.out.k j hs (by omega))) (Nat.le_trans hs2 (UP _ _).size), he := own_ml (b := w1.heap.size) (n := i) (c := ce) (e := 56) HO famEs_b, hl := fun k e hk => by simp at hk, nD := by simp [famD], nE := HIE.out, nL := rfl, mD := by simp only [maxLen]; omega, mE := ME.out, mL := by simp only [maxLen]; omega, cD := CD.out, cE := CE.out, cL := Nat.le_refl _, zD := ZD.out, zE := ZE.out, zL := fun _ => rfl }
end Go.Proofs.Ytnlimdlmhfnkiaa.ConfW

