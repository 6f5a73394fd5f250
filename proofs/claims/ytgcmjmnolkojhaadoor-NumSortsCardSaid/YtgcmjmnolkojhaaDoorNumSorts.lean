/- tocsinlaw01.NumSorts: for every row of float64 and every number the call returns true and leaves its arguments: num.Sort puts any numbers in one order, the document's own, whatever order they come in; the least and the greatest stand at its ends. No condition but the row's own: the listed package-level variables hold what the text lays (the card ties them). -/
import Derived.Test.YtgcmjmnolkojhaaDoorNumLay
import Derived.Test.YtgcmjmnolkojhaaDoorNumShell
import Derived.Test.YtgcmjmnolkojhaaDoorNumKeepsA
import Derived.Test.YtgcmjmnolkojhaaDoorNumWalk16
import Derived.Deep.RegionLaw
import Derived.Deep.DeepCutAuto
import Derived.Deep.CutBlock
import Derived.Deep.QuietTactic
import Derived.BigQuiet
import Derived.Laws.AppendOwn
namespace Go.Proofs.YtgcmjmnolkojhaaDoor.NumC.Sorts
open Go.ChangeShapes Go.WideShapes Go.ChangeAt Go.RowKit NumP NumW NumC.Keeps
theorem step_append_own {P : Program} {w : World} {ops : Array Oper} {o : Oper} {a : Act} {K : Act → World → Prop} {Q : Exit → Act → World → Prop} {E : Prop} (hgd : o.guard = none) (s x : Operand) (t : TypeId)
    (ho : o.op = .call { callee := .builtin .append, args := #[s, x], argTypes := #[t, t] })
    (base : Nat) (e : TypeId) (i : TypeInfo) (z : Value) (size bytes : Nat) (ht : P.underlying t = some (.slice e)) (hi : P.info? e = some i) (hz : i.zero = some z)
    (hsize : i.size = size) (hby : i.bytes = bytes) (hzs : z.cells.size = size) (hsz : 0 < size)
    (v : Value) (n : Nat) (xs : List Value) (hs : a.eval s = v) (hown : w.ownsRow base e size v n xs)
    (ad : Addr) (m c : Nat) (news : List Value) (hx : a.eval x = .slice (some ad) m c) (hl : news.length = m * size) (hnews : ∀ j u, news[j]? = some u → w.cell? (ad.add j) = some u) (h1 : ∀ u ∈ news, u.oneCell' = true)
    (h63 : n + m ≤ maxLen) (hbytes : (n + m) * bytes ≤ 140737488355328) (hbase : base ≤ w.heap.size)
    (h : ∀ v' w', w'.ownsRow base e size v' (n + m) (xs ++ news) → w.grownBy w' v.ownBlock → (v' = .slice none 0 0 ↔ v = .slice none 0 0 ∧ m = 0) → K (a.put o.dst v') w') :
    if Region.wanted o (yielded ops a.tmps) = true then Oper.wp P o a w K Q else E := by
  rw [if_pos (by simp [Region.wanted, hgd])]
  exact wp_append_own w s x t ho base e i z size bytes ht hi hz hsize hby hzs hsz v n xs hs hown ad m c news hx hl hnews h1 h63 hbytes hbase h
theorem turn_at (t : Int) (n : Nat) (h0 : 0 < n) (h1 : (n : Int) ≤ 17592186043904) : ∃ p : Nat, p < n ∧ wrap64 ((IntKind.u64.wrap t).tmod (n : Int)) = (p : Int) := by
  have hu : 0 ≤ IntKind.u64.wrap t := by rw [IntKind.wrap_u64]; omega
  rw [Int.tmod_eq_emod_of_nonneg hu]
  have r0 := Int.emod_nonneg (IntKind.u64.wrap t) (show (n : Int) ≠ 0 by omega)
  have r1 := Int.emod_lt_of_pos (IntKind.u64.wrap t) (show (0 : Int) < n by omega)
  generalize IntKind.u64.wrap t % (n : Int) = r at *
  refine ⟨r.toNat, by omega, ?_⟩
  unfold wrap64; omega
theorem drop_cells {w : World} {a : Addr} {xs : List Nat} (h : FL w (some a) xs) (p : Nat) (j : Nat) (u : Value) (hj : ((xs.drop p).map (Value.float .f64))[j]? = some u) : w.cell? ((a.add p).add j) = some u := by
  rw [Addr.add_add]
  rw [List.map_drop, List.getElem?_drop] at hj
  exact FL.cells h (p + j) u hj
theorem take_cells {w : World} {a : Addr} {xs : List Nat} (h : FL w (some a) xs) (p : Nat) (j : Nat) (u : Value) (hj : ((xs.take p).map (Value.float .f64))[j]? = some u) : w.cell? (a.add j) = some u := by
  rw [List.map_take, List.getElem?_take] at hj
  split at hj
  · exact FL.cells h j u hj
  · cases hj
theorem own_fl {w : World} {base n : Nat} {v : Value} {ms : List Nat} (h : w.ownsRow base 22 1 v n (ms.map (Value.float .f64))) (hn : ms.length = n) (hp : 0 < n) (hm : ∀ x ∈ ms, x < 18446744073709551616) :
    ∃ g cap, v = .slice (some ⟨g, 0, none⟩) n cap ∧ n ≤ cap ∧ FL w (some ⟨g, 0, none⟩) ms := by
  rcases h.2 with ⟨_, h0⟩ | ⟨g, cap, cur, hv, hb, hg, h5, h6, h7, htake⟩
  · omega
  · refine ⟨g, cap, hv, by omega, fun j y hy => ?_⟩
    have hj : j < ms.length := by
      rcases Nat.lt_or_ge j ms.length with h4 | h4
      · exact h4
      · rw [List.getElem?_eq_none h4] at hy; cases hy
    refine ⟨_, rfl, ?_, hm y (List.mem_of_getElem? hy)⟩
    have h5 : (ms.map (Value.float .f64))[j]? = some (.float .f64 y) := by rw [List.getElem?_map, hy]; rfl
    rw [← htake, List.getElem?_take_of_lt (by omega), Array.getElem?_toList] at h5
    have ha : (⟨g, 0, none⟩ : Addr).add j = ⟨g, j, none⟩ := by unfold Addr.add; split <;> simp_all
    rw [ha]
    unfold World.cell?
    simp only [hg]
    exact h5
/-- A row of uint64 words. -/
def WL (w : World) (V : Option Addr) (ys : List Nat) : Prop := ∀ (j y : Nat), ys[j]? = some y → ∃ ad, V = some ad ∧ w.cell? (ad.add j) = some (.int .u64 (y : Int))
theorem WL.below {w w1 : World} {V : Option Addr} {ys : List Nat} (h : WL w V ys) (b : Below w.heap.size w w1) : WL w1 V ys := by
  intro j y hy
  obtain ⟨ad, ha, hc⟩ := h j y hy
  exact ⟨ad, ha, (b.cell (block_lt_of_cell hc)).trans hc⟩
theorem own_wl {w : World} {base n : Nat} {v : Value} {ys : List Nat} (h : w.ownsRow base 25 1 v ys.length (u64s ys)) (hn : ys.length = n) : ∃ V cap, v = .slice V n cap ∧ WL w V ys := by
  subst hn
  rcases Nat.eq_zero_or_pos ys.length with h0 | hp
  · have hy : ys = [] := List.eq_nil_of_length_eq_zero h0
    subst hy
    rcases h.2 with ⟨hv, _⟩ | ⟨g, cap, cur, hv, _⟩
    · exact ⟨none, 0, hv, fun j y h => by simp at h⟩
    · exact ⟨_, cap, hv, fun j y h => by simp at h⟩
  · obtain ⟨g, cap, hv, _, _, hu⟩ := own_u64s h hp
    refine ⟨some ⟨g, 0, none⟩, cap, hv, fun j y hy => ⟨_, rfl, ?_⟩⟩
    have ha : (⟨g, 0, none⟩ : Addr).add j = ⟨g, j, none⟩ := by unfold Addr.add; split <;> simp_all
    rw [ha]
    exact hu j y hy
theorem row_fl {w : World} {g : Nat} {ys : List Nat} (h : w.heap[g]? = some (.cells (ys.map (Value.float .f64)).toArray 22 (0, 0))) (hx : ∀ y ∈ ys, y < 18446744073709551616) : FL w (some ⟨g, 0, none⟩) ys := by
  intro j y hy
  refine ⟨_, rfl, ?_, hx y (List.mem_of_getElem? hy)⟩
  have ha : (⟨g, 0, none⟩ : Addr).add j = ⟨g, j, none⟩ := by unfold Addr.add; split <;> simp_all
  rw [ha, cell_of_row w g j _ _ _ h]
  rw [List.getElem?_toArray, List.getElem?_map, hy]
  rfl
set_option maxHeartbeats 2000000 in
set_option maxRecDepth 100000 in
theorem walk (A : Option Addr) (xs : List Nat) (c : Nat) (t : Int) (w : World) (hf : FL w A xs) (hl : xs.length * 8 ≤ 140737488351232) (hc : xs.length ≤ c) (hT : Tz w) (hE : Es w) :
    Calls Tryd.prog 4 #[.slice A xs.length c, .int .i64 t] w fun e w' => e = .returned (.bool true) ∧ Below w.heap.size w w' := by
  have HX := Lib.hid (show ∀ x ∈ xs, x < 18446744073709551616 from fun x hm => by
    obtain ⟨j, hj⟩ := List.getElem?_of_mem hm
    exact (hf j x hj).choose_spec.2.2)
  have hl2 : (xs.length : Int) ≤ 17592186043904 := by omega
  have HT := Lib.hid hT
  have HE := Lib.hid hE
  have HF := Lib.hid hf
  have HL := Lib.hid hl
  have HC := Lib.hid hc
  clear hT hE hf hl hc
  obtain ⟨i0, hi, hz0, hz1, hz2⟩ := info_parts (show (Tryd.prog.info? 22).map (fun i => (i.zero, i.size, i.bytes)) = some (some (.float .f64 0), 1, 8) by kernel_rfl)
  have HI := Lib.hid hi
  have HZ0 := Lib.hid hz0
  have HZ1 := Lib.hid hz1
  have HZ2 := Lib.hid hz2
  clear hi hz0 hz1 hz2
  go_enter Tryd.func4, Tryd.ntmps4
  go_wp2_with fail
  refine (fixed_any _ HT.out HE.out).mono ?_
  rintro e w1 ⟨rfl, hb1⟩
  have HB1 := Lib.hid hb1
  clear hb1
  go_wp2_with fail
  refine (refSort_any _ _ _ _ (FL.below HF.out HB1.out) HL.out HC.out).mono ?_
  rintro e w2 ⟨v, ys, rfl, hs, ho, hb2⟩
  have HS := Lib.hid hs
  have HO := Lib.hid ho
  have HB2 := Lib.hid hb2
  clear hs ho hb2
  go_upto_if 17 with (fail)
  go_cut [6] (fun s6 wx => ∃ (M : Option Addr) (cM : Nat) (ms : List Nat), s6 = .slice M xs.length cM ∧ Hid (FL wx M ms) ∧ Hid (ms.Perm xs) ∧ Hid (xs.length ≤ cM) ∧ Hid (Below w2.heap.size w2 wx))
  case first =>
    rcases Nat.eq_zero_or_pos xs.length with hn0 | hp
    · have hx : xs = [] := List.eq_nil_of_length_eq_zero hn0
      subst hx
      clear hl2 hn0
      go_wp2
      go_meet
      exact ⟨none, 0, [], rfl, Lib.hid (fun k x h => by simp at h), Lib.hid (List.Perm.refl _), Lib.hid (Nat.le_refl _), Lib.hid (Below.refl _ _)⟩
    · have hp2 : (0 : Int) < (xs.length : Int) := by omega
      have HP := Lib.hid hp
      obtain ⟨a, rfl⟩ : ∃ a, A = some a := by
        obtain ⟨x, hx⟩ := at_ hp
        exact ⟨_, (HF.out 0 x hx).choose_spec.1⟩
      clear hp
      go_wp2_with fail
      obtain ⟨p, hpn, hpe⟩ := turn_at t xs.length HP.out hl2
      rw [hpe]
      generalize (IntKind.u64.wrap t).tmod (xs.length : Int) = tm at *
      have HPN := Lib.hid hpn
      have q0 : (0 : Int) ≤ (p : Int) := by omega
      have q1 : (p : Int) ≤ (xs.length : Int) := by omega
      have q2 : (p : Int) ≤ (c : Int) := by have := HC.out; omega
      have q3 : ¬ (c = p) := by have := HC.out; omega
      clear hpn hpe
      have HF2 := Lib.hid (FL.below (FL.below HF.out HB1.out) HB2.out)
      have N1 : ∀ j u, ((xs.drop p).map (Value.float .f64))[j]? = some u → w2.drew.cell? ((a.add p).add j) = some u := fun j u h => drop_cells (show FL w2.drew (some a) xs from HF2.out) p j u h
      have HN1 := Lib.hid N1
      have HM1 := Lib.hid (show 0 + (xs.length - p) ≤ maxLen by have := HL.out; unfold maxLen; omega)
      have HY1 := Lib.hid (show (0 + (xs.length - p)) * 8 ≤ 140737488355328 by have := HL.out; omega)
      have HE1 := Lib.hid (show ((xs.drop p).map (Value.float .f64)).length = (xs.length - p) * 1 by simp)
      have HO0 := Lib.hid (show w2.drew.ownsRow w2.heap.size 22 1 (.slice none 0 0) 0 [] from ⟨rfl, Or.inl ⟨rfl, rfl⟩⟩)
      clear N1
      have HM2 := Lib.hid (show 0 + (xs.length - p) + p ≤ maxLen by have := HL.out; have := HPN.out; unfold maxLen; omega)
      have HY2 := Lib.hid (show (0 + (xs.length - p) + p) * 8 ≤ 140737488355328 by have := HL.out; have := HPN.out; omega)
      have HE2 := Lib.hid (show ((xs.take p).map (Value.float .f64)).length = p * 1 by have := HPN.out; simp; omega)
      go_region_law (first
        | (refine step_append_own rfl _ _ 30 rfl w2.heap.size 22 i0 (.float .f64 0) 1 8 Tryd.underlying30 HI.out HZ0.out HZ1.out HZ2.out rfl (by decide) (.slice none 0 0) 0 [] (by simp [Act.eval, Act.put]) HO0.out (a.add p) (xs.length - p) (c - p) ((xs.drop p).map (Value.float .f64)) (by simp [Act.eval, Act.put]) HE1.out HN1.out words_one HM1.out HY1.out (Nat.le_refl _) ?_; (intro v1 w3 o1 g1 _; have O1 := Lib.hid o1; have G1 := Lib.hid (show Below w2.heap.size w2 w3 from (Below.refl w2.heap.size w2).drew.grown g1 (Nat.le_refl _) (fun k hk => by cases hk)); have F3 := Lib.hid (FL.below HF2.out G1.out); have HN2 := Lib.hid (show ∀ j u, ((xs.take p).map (Value.float .f64))[j]? = some u → w3.cell? (a.add j) = some u from fun j u h => take_cells F3.out p j u h); have HS3 := Lib.hid G1.out.size; clear o1 g1))
        | (refine step_append_own rfl _ _ 30 rfl w2.heap.size 22 i0 (.float .f64 0) 1 8 Tryd.underlying30 HI.out HZ0.out HZ1.out HZ2.out rfl (by decide) v1 _ _ (by simp [Act.eval]) O1.out a p c ((xs.take p).map (Value.float .f64)) (by simp [Act.eval]) HE2.out HN2.out words_one HM2.out HY2.out HS3.out ?_; (intro v2 w4 o2 g2 _; have O2 := Lib.hid o2; have G2 := Lib.hid (show Below w2.heap.size w2 w4 from G1.out.grown g2 HS3.out (fun k hk => (O1.out.lt k hk).1)); clear o2 g2)))

      have HMS := Lib.hid (show (xs.drop p ++ xs.take p).Perm xs by
        have := @List.perm_append_comm _ (xs.drop p) (xs.take p)
        rwa [List.take_append_drop] at this)
      have hlen := HMS.out.length_eq
      have hO := O2.out
      rw [List.nil_append, ← List.map_append, show 0 + (xs.length - p) + p = xs.length by have := HPN.out; omega] at hO
      obtain ⟨g, cap, rfl, hcap, hfl⟩ := own_fl hO hlen HP.out (fun x hx => HX.out x (HMS.out.mem_iff.1 hx))
      have HFL := Lib.hid hfl
      have HCAP := Lib.hid hcap
      clear hO hfl hcap hlen O1 O2 HN1 HN2 HO0 HM1 HM2 HY1 HY2 HE1 HE2 q0 q1 q2 q3
      go_wp2
      go_meet
      exact ⟨_, cap, _, rfl, HFL, HMS, HCAP, G2⟩
  case rest =>
    obtain ⟨M, cM, ms, rfl, HFM, HPM, HCM, HBM⟩ := hcut
    have hlen : ys.length = xs.length := by have := HS.out.1.length_eq; rwa [List.length_map] at this
    have hml : ms.length = xs.length := HPM.out.length_eq
    have HYS := Lib.hid (show ∀ y ∈ ys, y < 18446744073709551616 from fun y hy => by
      obtain ⟨j, hj⟩ := List.getElem?_of_mem hy
      exact isSort_lt HS.out HX.out j y hj)
    obtain ⟨V, cV, rfl, hwl⟩ := own_wl HO.out hlen
    have HWL := Lib.hid (hwl.below HBM.out)
    have HBC := Lib.hid (HB1.out.trans ((HB2.out.trans (HBM.out.mono HB2.out.size)).mono HB1.out.size))
    have HFC := Lib.hid (FL.below HF.out HBC.out)
    clear hwl HB1 HB2 HBM HI HZ0 HZ1 HZ2
    go_wp2_with fail
    refine (sort_any A c xs wc HFC.out (by have := HL.out; omega)).mono ?_
    rintro e w5 ⟨rfl, b5, ys1, hs1, hr1⟩
    obtain rfl : ys = ys1 := isSort_unique HX.out HS.out hs1
    have B5 := Lib.hid b5
    have R5 := Lib.hid hr1
    clear b5 hs1 hr1
    go_wp2_with fail
    rw [← hml]
    refine (sort_any M cM ms w5 (FL.below HFM.out B5.out) (by have := HL.out; omega)).mono ?_
    rintro e w6 ⟨rfl, b6, ys2, hs2, hr2⟩
    obtain rfl : ys = ys2 := isSort_unique HX.out HS.out (isSort_perm HPM.out hs2)
    have B6 := Lib.hid b6
    have R6 := Lib.hid hr2
    clear b6 hs2 hr2
    rw [hml]
    go_wp2_with fail
    have HB7 := (Below.refl w6.heap.size w6).alloc (Nat.le_refl _) (Obj.cells #[.slice (some ⟨wc.heap.size, 0, none⟩) xs.length xs.length, .slice (some ⟨w5.heap.size, 0, none⟩) xs.length xs.length] 30)
    have HP7 := heap_alloc_new w6 (Obj.cells #[.slice (some ⟨wc.heap.size, 0, none⟩) xs.length xs.length, .slice (some ⟨w5.heap.size, 0, none⟩) xs.length xs.length] 30)
    generalize w6.alloc (Obj.cells #[.slice (some ⟨wc.heap.size, 0, none⟩) xs.length xs.length, .slice (some ⟨w5.heap.size, 0, none⟩) xs.length xs.length] 30) = w7 at *
    have F2 := Lib.hid (FL.below (row_fl R6.out HYS.out) HB7)
    have F1 := Lib.hid (FL.below (FL.below (row_fl R5.out HYS.out) B6.out) HB7)
    have W7 := Lib.hid (((HWL.out.below B5.out).below B6.out).below HB7)
    have A7 := Lib.hid (FL.below (FL.below (FL.below HFC.out B5.out) B6.out) HB7)
    have B7 := Lib.hid (HBC.out.trans ((B5.out.trans ((B6.out.trans (HB7.mono B6.out.size)).mono B5.out.size)).mono HBC.out.size))
    have P7 := Lib.hid HP7
    have HLEN := Lib.hid hlen
    clear HB7 HP7 HWL HFC HBC B5 B6 R5 R6 HFM HPM HCM hlen hml HO
    go_loopw [40] (fun i wr => ∃ k : Nat, k ≤ 2 ∧ i = .int .i64 k ∧ Hid (Below w7.heap.size w7 wr)) (fun i _ => 2 - (intOf i).toNat)
    case atStart => exact ⟨0, by omega, rfl, Lib.hid (Below.refl _ _)⟩
    case round =>
      obtain ⟨k, hk, rfl, HR⟩ := hrel
      by_cases hlt : k < 2
      · obtain ⟨g, hg, hfl⟩ : ∃ g, wr.cell? ⟨w6.heap.size, k, none⟩ = some (.slice (some ⟨g, 0, none⟩) xs.length xs.length) ∧ FL wr (some ⟨g, 0, none⟩) ys := by
          have hrow : wr.cell? ⟨w6.heap.size, k, none⟩ = _ := (HR.out.cell (p := ⟨w6.heap.size, k, none⟩) (block_lt_of_cell (a := ⟨w6.heap.size, 0, none⟩) (cell_of_row w7 w6.heap.size 0 _ _ _ P7.out))).trans (cell_of_row w7 w6.heap.size k _ _ _ P7.out)
          rw [hrow]
          rcases (show k = 0 ∨ k = 1 by omega) with rfl | rfl
          · exact ⟨_, rfl, FL.below F1.out HR.out⟩
          · exact ⟨_, rfl, FL.below F2.out HR.out⟩
        have HFL := Lib.hid hfl
        clear hfl
        go_wp2_with fail
        go_loopw [51] (fun i wq => ∃ j : Nat, j ≤ xs.length ∧ i = .int .i64 j ∧ Hid (Below wr.heap.size wr wq)) (fun i _ => xs.length - (intOf i).toNat)
        case atStart => exact ⟨0, Nat.zero_le _, rfl, Lib.hid (Below.refl _ _)⟩
        case round =>
          clear hg
          obtain ⟨j, hj, rfl, HQ⟩ := hrel
          by_cases hjt : j < xs.length
          · obtain ⟨y, hy⟩ := at_ (show j < ys.length by have := HLEN.out; omega)
            obtain ⟨ad, hae, hc, _⟩ := (FL.below HFL.out HQ.out) j y hy
            obtain rfl := Option.some.inj hae.symm
            have ha : (⟨g, 0, none⟩ : Addr).add j = ⟨g, j, none⟩ := by unfold Addr.add; split <;> simp_all
            rw [ha] at hc
            clear ha
            obtain ⟨ad2, rfl, hc2⟩ := ((W7.out.below HR.out).below HQ.out) j y hy
            clear hae hy
            go_wp2_with fail
            go_quiet (first | (go_at_call 15; refine Calls.quiet_of_same ((bits_any _ _).mono (fun _ _ h => ⟨h.1, h.2.symm⟩))))
            go_wp2_with fail
            go_roundw
            case rel => exact ⟨j + 1, by omega, by go_num, Lib.hid (below_drewN HQ.out _)⟩
            case measure => simp [intOf]; omega
          · obtain rfl : j = xs.length := by omega
            go_wp2_with fail
            go_roundw
            case rel => exact ⟨k + 1, by omega, by go_num, Lib.hid (HR.out.trans (HQ.out.mono HR.out.size))⟩
            case measure => simp [intOf]; omega
      · obtain rfl : k = 2 := by omega
        have HBR := Lib.hid (B7.out.trans (HR.out.mono B7.out.size))
        have AR := Lib.hid (FL.below A7.out HR.out)
        clear B7 A7 HR F1 F2 W7 P7 hk hlt
        go_wp2_with fail
        refine (least_any A c xs wr AR.out (by have := HL.out; unfold maxLen; omega)).mono ?_
        rintro e w8 ⟨rfl, rfl⟩
        go_wp2_with (first | (go_at_call 15; refine (bits_any _ _).mono ?_; rintro e w' ⟨rfl, rfl⟩))
        refine (refLeast_any A c xs wr AR.out HL.out HC.out).mono ?_
        rintro e w8 ⟨rfl, b8⟩
        have B8 := Lib.hid b8
        have A8 := Lib.hid (FL.below AR.out b8)
        clear b8
        go_wp2_with fail
        refine (greatest_any A c xs w8 A8.out (by have := HL.out; unfold maxLen; omega)).mono ?_
        rintro e w9 ⟨rfl, rfl⟩
        go_wp2_with (first | (go_at_call 15; refine (bits_any _ _).mono ?_; rintro e w' ⟨rfl, rfl⟩))
        refine (refGreatest_any A c xs w8 A8.out HL.out HC.out).mono ?_
        rintro e w9 ⟨rfl, b9⟩
        have B9 := Lib.hid (HBR.out.trans ((B8.out.trans (b9.mono B8.out.size)).mono HBR.out.size))
        clear b9
        go_wp2
        go_ret
        exact ⟨rfl, B9.out⟩
set_option maxRecDepth 100000 in
/-- What the walk gives, for every argument and every world. -/
theorem contract (H : Type) (enc : TypeId × Value → H) (W : World) (base : Nat) (args : Array Value) (ds gs : List (DataW H)) (before : List MemPlace)
    (hval : ∀ (j : Nat) t v, Tryd.f4.params[j]? = some t → args[j]? = some v → Value.okWide Tryd.prog W .any base t v)
    (hW : DataW.Whole enc Tryd.prog Tryd.f4.params.toList Rows.numSortsSpec.vars false W args.toList ds gs before) (hL : laidMetH Tryd.prog Rows.numSortsRow.laid W) (hz : (DataW.weightsEach Tryd.prog (Tryd.f4.params.toList ++ (OpenSpec.ofChange Rows.numSortsSpec).bare.plain.varTypes Tryd.prog) (ds ++ gs)).all (· ≤ reachBytes) = true) : 
    Calls Tryd.prog 4 args W fun e W' => ∃ v, e = .returned v ∧ Rows.numSortsSpec.post enc Tryd.prog Tryd.f4 false true false false W args v W' := by
  have hW' := hW
  obtain ⟨p, q, hA0, hV, rfl, hfz, hnd⟩ := hW
  have hA : DataW.TrodAll enc Tryd.prog W 0 (fun _ => true) true Tryd.f4.params.toList args.toList ds p := hA0
  rw [Tryd.params4] at hA hval
  obtain ⟨v0, vs0, d0, ds0, p0, q0, hargs, rfl, rfl, h0, r0⟩ := trodAll_cons hA
  obtain ⟨v1, vs1, d1, ds1, p1, q1, rfl, rfl, rfl, h1, r1⟩ := trodAll_cons r0
  obtain ⟨rfl, rfl, rfl⟩ := trodAll_nil r1
  obtain rfl : args = #[v0, v1] := by cases args; simp_all
  obtain ⟨rfl, rfl⟩ := trodVars_none hV
  obtain ⟨A0, xs, c0, rfl, f0, l0, lc0, sz0, nl0⟩ := Shell.open_floats Tryd.underlying30 Tryd.underlying22 (by kernel_rfl) (hval 0 30 v0 rfl rfl) h0
  have z0 : xs.length * 8 ≤ 140737488351232 := by
    rcases sz0 with h | ⟨es, sp, hd, hl⟩
    · rw [h]; decide
    · have := sized_slice hz (j := 0) (t := 30) (e := 22) (elems := es) (spare := sp) (by rw [Tryd.params4]; rfl) (by rw [hd]; rfl) Tryd.underlying30
      rw [show Tryd.prog.bytesOf 22 = 8 by kernel_rfl, show reachBytes = 140737488351232 from rfl] at this
      omega
  obtain ⟨t, rfl, rfl, rfl, w1⟩ := open_int Tryd.underlying3 (hval 1 3 v1 rfl rfl) h1
  refine (walk A0 xs c0 t W f0 z0 lc0 (tz_of hL) (es_of hL)).mono fun e W' ⟨he, hb⟩ => ?_
  exact ⟨_, he, Shell.post_law laidOut (by kernel_rfl) rfl Tryd.underlying4 rfl hW' rfl hb⟩
theorem reads (os : Os) {H : Type} (enc : TypeId × Value → H) : ∃ places, DataW.whole enc Tryd.prog ((laidWorld os).forCall (fun _ _ => 0) ⟨#[], #[.slice none 0 0, .int .i64 0], []⟩).memory Tryd.f4.params.toList Rows.numSortsSpec.vars false (#[Value.slice none 0 0, Value.int .i64 0]).toList 8 = some ([.nil, .lit (.int .i64 0)], [], places) :=
  ⟨[], by kernel_rfl⟩
set_option maxRecDepth 100000 in
theorem lifted (os : Os) (started : os.Started) (H : Type) (enc : TypeId × Value → H) (F : Stop.Interp) :
    ReturnsInHanded {} Tryd.checked os 4 .any ((OpenSpec.ofChange Rows.numSortsSpec).preRow enc Tryd.prog Tryd.f4 Rows.numSortsRow.domain false Rows.numSortsRow.laid) (((OpenSpec.ofChange Rows.numSortsSpec).at F).post enc Tryd.prog Tryd.f4 false true false false) := by
  obtain ⟨places, hx⟩ := reads os enc
  refine returnsInHanded_of_row (C := Tryd.checked) (s := OpenSpec.ofChange Rows.numSortsSpec) own started (by kernel_rfl) Tryd.func4
    (witness_row_atRef (enc := enc) (C := Tryd.checked) false (laidWorld os) #[.slice none 0 0, .int .i64 0] rfl (by kernel_rfl) (by kernel_rfl) (by kernel_rfl)
      (OpenSpec.preRow_of_cond 8 hx (by kernel_rfl) (fun k hk => by cases hk) (by kernel_rfl) (laid_met os _))) ?_
  intro W base args ds gs before hval hW _ _ hz hL _ _
  exact contract H enc W base args ds gs before hval hW hL hz
theorem said : Rows.NumSortsSaid :=
  OpenClaim.holds_of_cond 4 Tryd.f4 rfl rfl rfl rfl rfl rfl rfl ⟨rfl, rfl, rfl, rfl, rfl⟩ rfl rfl rfl rfl rfl (by kernel_rfl) Tryd.func4 (by kernel_rfl)
    (of_decide_eq_true (by kernel_rfl)) (by unfold Func.isWrapper; first | (rw [if_pos (by decide +kernel)]; kernel_rfl) | (rw [if_neg (by decide +kernel)]; exact ⟨rfl, rfl⟩))
    (fun os started H enc _ F => by rw [OpenClaim.pre_eq_preRow]; exact lifted os started H enc F)
theorem plain (f : FuncId) (fn : Func) (hf : Tryd.pinned.checked.prog.funcNamed "tocsin/tocsinlaw01.NumSorts" = some f) (hfn : Tryd.pinned.checked.prog.funcs[f]? = some fn) :
    true = Tryd.pinned.checked.prog.looks [] ∧ ∀ (j : Nat) t, fn.params[j]? = some t → Tryd.pinned.checked.prog.wantsStandIn t = false := by
  obtain rfl : f = 4 := Option.some.inj ((show Tryd.prog.funcNamed "tocsin/tocsinlaw01.NumSorts" = some 4 by kernel_rfl).symm.trans hf) |>.symm
  obtain rfl : fn = Tryd.f4 := (Option.some.inj (Tryd.func4.symm.trans hfn)).symm
  refine ⟨by kernel_rfl, fun j t ht => ?_⟩
  rw [Tryd.params4] at ht
  have hall : ∀ t ∈ Tryd.f4.params.toList, Tryd.prog.wantsStandIn t = false := by
    rw [Tryd.params4]
    have h : ((#[30, 3] : Array TypeId).toList.all fun t => !Tryd.prog.wantsStandIn t) = true := by kernel_rfl
    intro t ht
    simpa using (List.all_eq_true.1 h) t ht
  exact hall t (by rw [Tryd.params4]; exact Array.mem_toList_iff.2 (Array.mem_of_getElem? ht))
theorem card : Rows.NumSortsCardSaid :=
  Claim7.holds_tied_plain_at .later [] _ _ _ _ said (fun _ h => by cases h) (by kernel_rfl) (fun _ h => by cases h) numSorts_row_tie rfl ⟨rfl, rfl⟩ (by kernel_rfl) rfl plain (by kernel_rfl)
end Go.Proofs.YtgcmjmnolkojhaaDoor.NumC.Sorts
