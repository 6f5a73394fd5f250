/- The document's own Copy: walked. -/
import Derived.Test.YtecgpibidcifpaaConfCpA
import Derived.Deep.RegionLaw
namespace Go.Proofs.Ytecgpibidcifpaa.ConfW
open Go.RowKit Shell
theorem rc_end {w w1 w2 W W9 : World} {c : Cfg} {D E L : Option Addr} {nd cd ne ce nl cl : Nat} {vs : List Value} {vD vE vL : Value} {bx2 bx3 : Value → Obj} (Z : RcX w c D E L nd cd ne ce nl cl nd vs vD w1)
    (Y3 : GrY w1 (w.heap.size + 1 + 1) 6 bx2 58 ne vE (c.entries.take ne) w2) (Y2 : GrY w2 (w.heap.size + 1 + 1) 7 bx3 52 nl vL (c.links.take nl) W) (u : Up (w.heap.size + 1 + 1 + 1) W W9)
    (hD : nd = c.delays.length) (hE : ne = c.entries.length) (hL : nl = c.links.length) : Own W9 w.heap.size c vs vD vE vL := by
  have U1 : Up (w.heap.size + 1 + 1 + 1) w1 w2 := ⟨Y3.kp.size, fun q hq hs => Y3.kp.block q (by omega) hs⟩
  have U2 : Up (w.heap.size + 1 + 1 + 1) w2 W := ⟨Y2.kp.size, fun q hq hs => Y2.kp.block q (by omega) hs⟩
  have l1 := Y3.l
  have l2 := Y2.l
  have U3 := U1.trans (U2.trans u)
  have oE := Y3.e
  have oL := Y2.e
  rw [hE, List.take_length] at oE
  rw [hL, List.take_length] at oL
  refine ⟨?_, ?_, ?_, ?_⟩
  · have h9 := own_base (own_up Z.d (Nat.le_refl _) U3) (b2 := w.heap.size) (by omega)
    rwa [← hD]
  · intro q r hq
    have hql : q < nd := by
      rw [hD]
      exact lt_of_get hq
    obtain ⟨v, h1, h2, -⟩ := Z.row q r hql hq
    exact ⟨v, h1, (or_up h2 (Nat.le_refl _) U3).base (by omega)⟩
  · exact own_base (own_up oE (by omega) (U2.trans u)) (by omega)
  · exact own_base (own_up oL (by omega) u) (by omega)
theorem zero_Link : ∃ (i : TypeInfo), Try.prog.info? 52 = some i ∧ i.zero = some (.agg #[.int .i64 0, .int .u32 0, .int .i64 0, .int .i64 0]) ∧ i.size = 4 ∧ i.bytes = 32 :=
  info_parts (show (Try.prog.info? 52).map (fun i => (i.zero, i.size, i.bytes)) = some (some (.agg #[.int .i64 0, .int .u32 0, .int .i64 0, .int .i64 0]), 4, 32) by kernel_rfl)
theorem rcX_start (w : World) (c : Cfg) (D E L : Option Addr) (nd cd ne ce nl cl : Nat) : RcX w c D E L nd cd ne ce nl cl 0 [] (.slice none 0 0) (((w.alloc (Obj.cells #[.int .i64 c.hosts, .int .i64 c.cycle, .int .i64 c.delay, .int .i64 c.window, .int .i64 c.precision, .slice D nd cd, .slice E ne ce, .slice L nl cl, .int .i64 c.queue] 26)).alloc (.cells #[.int .i64 0, .int .i64 0, .int .i64 0, .int .i64 0, .int .i64 0, .slice none 0 0, .slice none 0 0, .slice none 0 0, .int .i64 0] 26)).alloc (.cells #[.int .i64 c.hosts, .int .i64 c.cycle, .int .i64 c.delay, .int .i64 c.window, .int .i64 c.precision, .slice none 0 0, .slice none 0 0, .slice none 0 0, .int .i64 c.queue] 26)) :=
  ⟨al (al (al (Below.refl _ _) _) _) _, row_below (al (Below.refl _ _) _) (row_below (al (Below.refl _ _) _) (heap_alloc_new _ _)), row_below (al (Below.refl _ _) _) (heap_at (by simp) _), heap_at (by simp) _, World.ownsRow_nil _ _ _ _, fun j r hj => by omega⟩
set_option maxHeartbeats 16000000 in
set_option maxRecDepth 100000 in
theorem refCopy_any (c : Cfg) (D E L : Option Addr) (nd cd ne ce nl cl : Nat) (w : World) (h : CM w c D E L nd cd ne ce nl cl) (bd : nd * 24 ≤ 140737488355328) (br : ∀ r ∈ c.delays, r.length * 8 ≤ 140737488355328) (be : ne * 32 ≤ 140737488355328) (bl : nl * 32 ≤ 140737488355328) :
    Calls Try.prog 16 #[.agg #[.int .i64 c.hosts, .int .i64 c.cycle, .int .i64 c.delay, .int .i64 c.window, .int .i64 c.precision, .slice D nd cd, .slice E ne ce, .slice L nl cl, .int .i64 c.queue]] w fun r w' => ∃ vs vD vE vL, r = .returned (.agg #[.int .i64 c.hosts, .int .i64 c.cycle, .int .i64 c.delay, .int .i64 c.window, .int .i64 c.precision, vD, vE, vL, .int .i64 c.queue]) ∧
      Below w.heap.size w w' ∧ Own w' w.heap.size c vs vD vE vL := by
  have HM := Lib.hid h
  have BR := Lib.hid br
  have BE := Lib.hid be
  have BL := Lib.hid bl
  have BD := Lib.hid bd
  clear h br be bl bd
  go_enter Try.func16, Try.ntmps16
  have X0 := Lib.hid (rcX_start w c D E L nd cd ne ce nl cl)
  go_wp2
  generalize ((w.alloc (Obj.cells #[.int .i64 c.hosts, .int .i64 c.cycle, .int .i64 c.delay, .int .i64 c.window, .int .i64 c.precision, .slice D nd cd, .slice E ne ce, .slice L nl cl, .int .i64 c.queue] 26)).alloc (Obj.cells #[.int .i64 0, .int .i64 0, .int .i64 0, .int .i64 0, .int .i64 0, .slice none 0 0, .slice none 0 0, .slice none 0 0, .int .i64 0] 26)).alloc (Obj.cells #[.int .i64 c.hosts, .int .i64 c.cycle, .int .i64 c.delay, .int .i64 c.window, .int .i64 c.precision, .slice none 0 0, .slice none 0 0, .slice none 0 0, .int .i64 c.queue] 26) = W0 at *
  go_loopw [4] (fun iv wr => ∃ (k : Nat), k ≤ nd ∧ iv = .int .i64 k ∧ Hid (∃ vs vD, RcX w c D E L nd cd ne ce nl cl k vs vD wr)) (fun iv _ => nd - (intOf iv).toNat)
  case atStart => exact ⟨0, Nat.zero_le _, rfl, Lib.hid ⟨_, _, X0.out⟩⟩
  case round =>
    clear X0
    obtain ⟨k, hk, rfl, X⟩ := hrel
    obtain ⟨vs, vD, X1⟩ := X.out
    have Z := Lib.hid X1
    clear X X1
    have bnd := BD.out
    by_cases hlt : (k : Int) < (nd : Int)
    · obtain ⟨r, hr⟩ : ∃ r, c.delays[k]? = some r := ⟨_, List.getElem?_eq_getElem (by have := HM.out.nD; omega)⟩
      have HR := Lib.hid hr
      have BRK := Lib.hid (BR.out r (List.mem_of_getElem? hr))
      obtain ⟨a, A, cp, ha, hcell, hcl, hlen, hcap, hnil⟩ := (HM.out.hd.below Z.out.b) k r hr
      subst ha
      have CE := Lib.hid hcell
      have CLR := Lib.hid hcl
      have v5 : wr.cell? ⟨w.heap.size, 5, none⟩ = some (.slice (some a) nd cd) := box_cell (i := 5) Z.out.p rfl
      generalize hrl : r.length = lr at *
      have HRL := Lib.hid hrl
      clear hr hcell hcl hlen hcap hrl
      obtain ⟨w1, hw1⟩ : ∃ w1, w1 = wr := ⟨_, rfl⟩
      subst hw1
      go_wp2_with fail
      clear v5
      go_loopw [5, 6] (fun lv jv wi => ∃ (j : Nat), j ≤ lr ∧ jv = .int .i64 j ∧ Hid (Below w1.heap.size w1 wi ∧ OR wi w1.heap.size 2 .i64 lv (r.take j))) (fun _ jv _ => lr - (intOf jv).toNat)
      case atStart => exact ⟨0, Nat.zero_le _, rfl, Lib.hid ⟨Below.refl _ _, OR.nil _ _ _ _⟩⟩
      case round =>
        obtain ⟨j, hj, rfl, HJ⟩ := hrel
        have q5 : wr.cell? ⟨w.heap.size, 5, none⟩ = some (.slice (some a) nd cd) := box_cell (i := 5) (row_below HJ.out.1 Z.out.p) rfl
        have qk : wr.cell? (a.add k) = some (.slice A lr cp) := cell_keep CE.out HJ.out.1
        have b1 := BRK.out
        by_cases hl2 : (j : Int) < (lr : Int)
        · obtain ⟨x, hx⟩ : ∃ x, r[j]? = some x := ⟨_, List.getElem?_eq_getElem (by have := HRL.out; omega)⟩
          obtain ⟨a2, ha2, he, hw⟩ := CLR.out j x hx
          subst ha2
          have qe : wr.cell? (a2.add j) = some (.int .i64 x) := cell_keep he HJ.out.1
          have TK := Lib.hid (show r.take (j + 1) = r.take j ++ [x] by rw [List.take_add_one, hx]; rfl)
          have LJ := Lib.hid (show (r.take j).length = j by rw [List.length_take]; have := HRL.out; omega)
          have HW := Lib.hid hw
          obtain ⟨B, cb, hvb, -⟩ := HJ.out.2.form
          rw [LJ.out] at hvb
          subst hvb
          clear hx he hw
          go_wp2_with (at_builtin; refine wpList_append_or i64_one _ rfl _ _ rfl w1.heap.size _ (r.take j) rfl (HJ.out.2.alloc _) (some ⟨wr.heap.size, 0, none⟩) 1 1 [x] rfl rfl ?e1 (fun h => by cases h) ?e2 (by decide) ?e3 ?_)
          case e1 => exact new_cl wr .i64 [x] 2 (Wf.one HW.out)
          case e2 => have := LJ.out; omega
          case e3 => have := HJ.out.1.size; rw [World.size_alloc]; omega
          intro v3 w3 o3 s3
          have N1 := Lib.hid (show Below w1.heap.size w1 w3 from (HJ.out.1.alloc HJ.out.1.size _).trans (s3.below (HJ.out.2.alloc _) (by have := HJ.out.1.size; rw [World.size_alloc]; omega)))
          have N2 := Lib.hid o3
          clear s3 o3
          go_wp2
          go_roundw
          case rel => exact ⟨j + 1, by omega, by go_num, Lib.hid ⟨N1.out, by rw [TK.out]; exact N2.out⟩⟩
          case measure => simp [intOf]; omega
        · obtain rfl : j = lr := by omega
          have HT := Lib.hid (show r.take j = r by rw [List.take_of_length_le (by have := HRL.out; omega)])
          have HO := Lib.hid (show OR wr w1.heap.size 2 .i64 u5 r by have h9 := HJ.out.2; rwa [HT.out] at h9)
          have Z1 := Lib.hid (Z.out.next HJ.out.1)
          obtain ⟨B, cD, hvb, -⟩ := own_form Z.out.d
          subst hvb
          obtain ⟨F, cf, hvf, -⟩ := HO.out.form
          rw [HRL.out] at hvf
          subst hvf
          have v9 : wr.cell? ⟨w.heap.size + 1 + 1, 5, none⟩ = some (.slice B k cD) := box_cell (i := 5) Z1.out.x rfl
          have Z2 := Lib.hid (Z1.out.next (al (Below.refl wr.heap.size wr) (.cells #[.slice F j cf] 53)))
          have HS := Lib.hid (row_lt Z1.out.x)
          have HS1 := Lib.hid (row_lt Z.out.x)
          have NE := Lib.hid (show ∀ g, (Value.slice F j cf).ownBlock = some g → (Value.slice B k cD).ownBlock ≠ some g from fun g h1 h2 => by
            have q1 := (HO.out.lt g h1).1
            have q2 := (Z.out.d.lt g h2).2
            omega)
          obtain ⟨i0, hi0, hz0, hs0, hb0⟩ := row_info
          have I1 := Lib.hid hi0
          have I2 := Lib.hid hz0
          have I3 := Lib.hid hs0
          have I4 := Lib.hid hb0
          clear hi0 hz0 hs0 hb0 hl2
          go_wp2_with (at_builtin; refine wpList_append_row Try.underlying22 I1.out I2.out I3.out I4.out rfl (by decide) _ rfl _ _ rfl (w.heap.size + 1 + 1 + 1) _ k vs rfl Z2.out.d ⟨wr.heap.size, 0, none⟩ 1 1 [.slice F j cf] rfl rfl ?c1 ?c2 ?c3 ?c4 ?c5 ?_)
          case c1 => intro i u hi; exact leaf_cell wr (.slice F j cf) 53 i u hi
          case c2 => intro u hu; simp at hu; subst hu; rfl
          case c3 => simp only [maxLen]; omega
          case c4 => omega
          case c5 => rw [World.size_alloc]; have := HS.out; omega
          intro v2 w2 o2 s2
          have ST := Lib.hid (Z2.out.step (v' := v2) (W3 := w2) HR.out ((HO.out.alloc _).base (by have := HS1.out; omega)) NE.out o2 s2)
          have hx2 : w2.heap[w.heap.size + 1 + 1]? = _ := (s2.g.block _ (row_lt Z2.out.x) (fun e => by have := (Z2.out.d.lt _ e.symm).1; omega)).trans Z2.out.x
          have d5 := box_cell (i := 5) hx2 rfl
          have f5 := frozen_of_row _ (w.heap.size + 1 + 1) 5 _ _ hx2
          obtain ⟨A2, c2, rfl, -⟩ := own_form o2
          clear hx2 o2 s2 v9
          go_wp2
          go_roundw
          case rel => exact ⟨k + 1, by omega, by go_num, Lib.hid ⟨_, _, ST.out⟩⟩
          case measure => simp [intOf]; omega
    · obtain rfl : k = nd := by omega
      have v5 : wr.cell? ⟨w.heap.size, 5, none⟩ = some (.slice D k cd) := box_cell (i := 5) Z.out.p rfl
      obtain ⟨B, cD, hvb, -⟩ := own_form Z.out.d
      subst hvb
      obtain ⟨w1, hw1⟩ : ∃ w1, w1 = wr := ⟨_, rfl⟩
      have Z0 := Lib.hid (show RcX w c D E L k cd ne ce nl cl k vs (.slice B k cD) w1 by rw [hw1]; exact Z.out)
      have Y0 := Lib.hid (show GrY w1 (w.heap.size + 1 + 1) 6 (fun v => .cells #[.int .i64 c.hosts, .int .i64 c.cycle, .int .i64 c.delay, .int .i64 c.window, .int .i64 c.precision, .slice B k cD, v, .slice none 0 0, .int .i64 c.queue] 26) 58 0 (.slice none 0 0) (c.entries.take 0) w1 from
        ⟨Kept.of (Below.refl _ _), Z0.out.x, row_lt Z0.out.x, World.ownsRow_nil _ _ _ _⟩)
      clear Z hlt
      go_wp2
      rw [← hw1]
      clear hw1 v5
      go_loopw [7] (fun iv wr => ∃ (i : Nat), i ≤ ne ∧ iv = .int .i64 i ∧ Hid (∃ vE, GrY w1 (w.heap.size + 1 + 1) 6 (fun v => .cells #[.int .i64 c.hosts, .int .i64 c.cycle, .int .i64 c.delay, .int .i64 c.window, .int .i64 c.precision, .slice B k cD, v, .slice none 0 0, .int .i64 c.queue] 26) 58 i vE (c.entries.take i) wr)) (fun iv _ => ne - (intOf iv).toNat)
      case atStart => exact ⟨0, Nat.zero_le _, rfl, Lib.hid ⟨_, Y0.out⟩⟩
      case round =>
        clear Y0
        obtain ⟨i, hi, rfl, Y⟩ := hrel
        obtain ⟨vE, Y1⟩ := Y.out
        have Y2 := Lib.hid Y1
        clear Y Y1
        have bne := BE.out
        have v6 : wr.cell? ⟨w.heap.size, 6, none⟩ = some (.slice E ne ce) := box_cell (i := 6) ((Y2.out.kp.block _ (by omega) (row_lt Z0.out.p)).trans Z0.out.p) rfl
        by_cases hlt : (i : Int) < (ne : Int)
        · obtain ⟨e, he⟩ : ∃ e, c.entries[i]? = some e := ⟨_, List.getElem?_eq_getElem (by have := HM.out.nE; omega)⟩
          have BW := Lib.hid (show Below w.heap.size w wr from Z0.out.b.trans (Y2.out.kp.below (by omega) Z0.out.b.size))
          obtain ⟨b, off, hE, ⟨m0, m1, m2, m3⟩, -⟩ := (HM.out.he.below BW.out) i e he
          subst hE
          have TK := Lib.hid (show c.entries.take (i + 1) = c.entries.take i ++ [e] by rw [List.take_add_one, he]; rfl)
          obtain ⟨E2, ce2, hve, -⟩ := own_form Y2.out.e
          subst hve
          have x6 : wr.cell? ⟨w.heap.size + 1 + 1, 6, none⟩ = some (.slice E2 i ce2) := box_cell (i := 6) Y2.out.x rfl
          have ls : w.heap.size + 1 + 1 < wr.heap.size := row_lt Y2.out.x
          have YA := Lib.hid (Y2.out.next ((al (Below.refl wr.heap.size wr) (.cells #[.int .i64 e.a, .int .u32 (e.b : Int), .int .i64 e.c, .int .i64 e.d] 58)).drew))
          have LA := Lib.hid (show w1.heap.size ≤ wr.heap.size + 1 from by have := Y2.out.kp.size; omega)
          have EC := Lib.hid (show ∀ j u, (ents [e])[j]? = some u → (wr.alloc (.cells #[.int .i64 e.a, .int .u32 (e.b : Int), .int .i64 e.c, .int .i64 e.d] 58)).drew.cell? ((⟨wr.heap.size, 0, none⟩ : Addr).add j) = some u from fun j u h => ents_cells wr e 58 j u h)
          obtain ⟨i0, hi0, hz0, hs0, hb0⟩ := zero_info
          have I1 := Lib.hid hi0
          have I2 := Lib.hid hz0
          have I3 := Lib.hid hs0
          have I4 := Lib.hid hb0
          clear hi0 hz0 hs0 hb0 he
          go_wp2_with fail
          go_region_law ((refine step_append_own rfl _ _ 23 rfl w1.heap.size 58 i0 _ 4 32 Try.underlying23 I1.out I2.out I3.out I4.out rfl (by decide) (.slice E2 i ce2) i (ents (c.entries.take i)) rfl YA.out.e ⟨wr.heap.size, 0, none⟩ 1 1 (ents [e]) rfl rfl EC.out ents_one (by simp only [maxLen]; omega) (by omega) (by have := LA.out; simp; omega) ?_; intro v3 w3 o3 g3 n3; have hx3 : w3.heap[w.heap.size + 1 + 1]? = _ := (g3.block _ (row_lt YA.out.x) (fun e => by have := (YA.out.e.lt _ e.symm).1; have := YA.out.l; omega)).trans YA.out.x; have d6 := box_cell (i := 6) hx3 rfl; have f6 := frozen_of_row _ (w.heap.size + 1 + 1) 6 _ _ hx3; have O3 := Lib.hid o3; have G3 := Lib.hid g3; obtain ⟨A3, c3, rfl, -⟩ := own_form o3; clear hx3 o3 g3 n3))
          all_goals
            have ST := Lib.hid (YA.out.step (v' := .slice A3 (i + 1) c3) (fun W h => heap_setCell_same W _ 6 _ _ _ h) O3.out G3.out)
            rw [← TK.out] at ST
            clear d6 f6 x6 ls v6 m0 m1 m2 m3
            go_wp2
            go_roundw
            case rel => exact ⟨i + 1, by omega, by go_num, Lib.hid ⟨_, ST.out⟩⟩
            case measure => simp [intOf]; omega
        · obtain rfl : i = ne := by omega
          obtain ⟨F, cF, hvf, -⟩ := own_form Y2.out.e
          subst hvf
          obtain ⟨w2, hw2⟩ : ∃ w2, w2 = wr := ⟨_, rfl⟩
          have Y3 := Lib.hid (show GrY w1 (w.heap.size + 1 + 1) 6 (fun v => .cells #[.int .i64 c.hosts, .int .i64 c.cycle, .int .i64 c.delay, .int .i64 c.window, .int .i64 c.precision, .slice B k cD, v, .slice none 0 0, .int .i64 c.queue] 26) 58 i (.slice F i cF) (c.entries.take i) w2 by rw [hw2]; exact Y2.out)
          have P2 := Lib.hid (show w2.heap[w.heap.size]? = _ from (Y3.out.kp.block _ (by omega) (row_lt Z0.out.p)).trans Z0.out.p)
          have R2 := Lib.hid (show w2.heap[w.heap.size + 1]? = _ from (Y3.out.kp.block _ (by omega) (row_lt Z0.out.r)).trans Z0.out.r)
          have B2 := Lib.hid (show Below w.heap.size w w2 from Z0.out.b.trans (Y3.out.kp.below (by omega) Z0.out.b.size))
          have Y0 := Lib.hid (show GrY w2 (w.heap.size + 1 + 1) 7 (fun v => .cells #[.int .i64 c.hosts, .int .i64 c.cycle, .int .i64 c.delay, .int .i64 c.window, .int .i64 c.precision, .slice B k cD, .slice F i cF, v, .int .i64 c.queue] 26) 52 0 (.slice none 0 0) (c.links.take 0) w2 from
            ⟨Kept.of (Below.refl _ _), Y3.out.x, row_lt Y3.out.x, World.ownsRow_nil _ _ _ _⟩)
          clear Y2 hlt
          go_wp2
          rw [← hw2]
          clear hw2 v6
          go_loopw [8] (fun iv wr => ∃ (j : Nat), j ≤ nl ∧ iv = .int .i64 j ∧ Hid (∃ vL, GrY w2 (w.heap.size + 1 + 1) 7 (fun v => .cells #[.int .i64 c.hosts, .int .i64 c.cycle, .int .i64 c.delay, .int .i64 c.window, .int .i64 c.precision, .slice B k cD, .slice F i cF, v, .int .i64 c.queue] 26) 52 j vL (c.links.take j) wr)) (fun iv _ => nl - (intOf iv).toNat)
          case atStart => exact ⟨0, Nat.zero_le _, rfl, Lib.hid ⟨_, Y0.out⟩⟩
          case round =>
            clear Y0
            obtain ⟨j, hj, rfl, Y⟩ := hrel
            obtain ⟨vL, Y1⟩ := Y.out
            have Y2 := Lib.hid Y1
            clear Y Y1
            have bnl := BL.out
            have v7 : wr.cell? ⟨w.heap.size, 7, none⟩ = some (.slice L nl cl) := box_cell (i := 7) ((Y2.out.kp.block _ (by omega) (row_lt P2.out)).trans P2.out) rfl
            by_cases hlt : (j : Int) < (nl : Int)
            · obtain ⟨e, he⟩ : ∃ e, c.links[j]? = some e := ⟨_, List.getElem?_eq_getElem (by have := HM.out.nL; omega)⟩
              have BW := Lib.hid (show Below w.heap.size w wr from B2.out.trans (Y2.out.kp.below (by omega) B2.out.size))
              obtain ⟨b, off, hE, ⟨m0, m1, m2, m3⟩, -⟩ := (HM.out.hl.below BW.out) j e he
              subst hE
              have TK := Lib.hid (show c.links.take (j + 1) = c.links.take j ++ [e] by rw [List.take_add_one, he]; rfl)
              obtain ⟨E2, ce2, hve, -⟩ := own_form Y2.out.e
              subst hve
              have x6 : wr.cell? ⟨w.heap.size + 1 + 1, 7, none⟩ = some (.slice E2 j ce2) := box_cell (i := 7) Y2.out.x rfl
              have ls : w.heap.size + 1 + 1 < wr.heap.size := row_lt Y2.out.x
              have YA := Lib.hid (Y2.out.next ((al (Below.refl wr.heap.size wr) (.cells #[.int .i64 e.a, .int .u32 (e.b : Int), .int .i64 e.c, .int .i64 e.d] 52)).drew))
              have LA := Lib.hid (show w2.heap.size ≤ wr.heap.size + 1 from by have := Y2.out.kp.size; omega)
              have EC := Lib.hid (show ∀ j u, (ents [e])[j]? = some u → (wr.alloc (.cells #[.int .i64 e.a, .int .u32 (e.b : Int), .int .i64 e.c, .int .i64 e.d] 52)).drew.cell? ((⟨wr.heap.size, 0, none⟩ : Addr).add j) = some u from fun j u h => ents_cells wr e 52 j u h)
              obtain ⟨i0, hi0, hz0, hs0, hb0⟩ := zero_Link
              have I1 := Lib.hid hi0
              have I2 := Lib.hid hz0
              have I3 := Lib.hid hs0
              have I4 := Lib.hid hb0
              clear hi0 hz0 hs0 hb0 he
              go_wp2_with fail
              go_region_law ((refine step_append_own rfl _ _ 24 rfl w2.heap.size 52 i0 _ 4 32 Try.underlying24 I1.out I2.out I3.out I4.out rfl (by decide) (.slice E2 j ce2) j (ents (c.links.take j)) rfl YA.out.e ⟨wr.heap.size, 0, none⟩ 1 1 (ents [e]) rfl rfl EC.out ents_one (by simp only [maxLen]; omega) (by omega) (by have := LA.out; simp; omega) ?_; intro v3 w3 o3 g3 n3; have hx3 : w3.heap[w.heap.size + 1 + 1]? = _ := (g3.block _ (row_lt YA.out.x) (fun e => by have := (YA.out.e.lt _ e.symm).1; have := YA.out.l; omega)).trans YA.out.x; have d6 := box_cell (i := 7) hx3 rfl; have f6 := frozen_of_row _ (w.heap.size + 1 + 1) 7 _ _ hx3; have O3 := Lib.hid o3; have G3 := Lib.hid g3; obtain ⟨A3, c3, rfl, -⟩ := own_form o3; clear hx3 o3 g3 n3))
              all_goals
                have ST := Lib.hid (YA.out.step (v' := .slice A3 (j + 1) c3) (fun W h => heap_setCell_same W _ 7 _ _ _ h) O3.out G3.out)
                rw [← TK.out] at ST
                clear d6 f6 x6 ls v7 m0 m1 m2 m3
                go_wp2
                go_roundw
                case rel => exact ⟨j + 1, by omega, by go_num, Lib.hid ⟨_, ST.out⟩⟩
                case measure => simp [intOf]; omega
            · obtain rfl : j = nl := by omega
              obtain ⟨G, cG, hvg, -⟩ := own_form Y2.out.e
              subst hvg
              have R3 := Lib.hid (show wr.heap[w.heap.size + 1]? = _ from (Y2.out.kp.block _ (by omega) (row_lt R2.out)).trans R2.out)
              have B3 := Lib.hid (show Below w.heap.size w wr from B2.out.trans (Y2.out.kp.below (by omega) B2.out.size))
              have x0 : wr.cell? ⟨w.heap.size + 1 + 1, 0, none⟩ = some (.int .i64 c.hosts) := box_cell (i := 0) Y2.out.x rfl
              have x1 : wr.cell? ⟨w.heap.size + 1 + 1, 1, none⟩ = some (.int .i64 c.cycle) := box_cell (i := 1) Y2.out.x rfl
              have x2 : wr.cell? ⟨w.heap.size + 1 + 1, 2, none⟩ = some (.int .i64 c.delay) := box_cell (i := 2) Y2.out.x rfl
              have x3 : wr.cell? ⟨w.heap.size + 1 + 1, 3, none⟩ = some (.int .i64 c.window) := box_cell (i := 3) Y2.out.x rfl
              have x4 : wr.cell? ⟨w.heap.size + 1 + 1, 4, none⟩ = some (.int .i64 c.precision) := box_cell (i := 4) Y2.out.x rfl
              have x5 : wr.cell? ⟨w.heap.size + 1 + 1, 5, none⟩ = some (.slice B k cD) := box_cell (i := 5) Y2.out.x rfl
              have x6 : wr.cell? ⟨w.heap.size + 1 + 1, 6, none⟩ = some (.slice F i cF) := box_cell (i := 6) Y2.out.x rfl
              have x7 : wr.cell? ⟨w.heap.size + 1 + 1, 7, none⟩ = some (.slice G j cG) := box_cell (i := 7) Y2.out.x rfl
              have x8 : wr.cell? ⟨w.heap.size + 1 + 1, 8, none⟩ = some (.int .i64 c.queue) := box_cell (i := 8) Y2.out.x rfl
              have z0 : wr.cell? ⟨w.heap.size + 1, 0, none⟩ = some (.int .i64 0) := box_cell (i := 0) R3.out rfl
              have z1 : wr.cell? ⟨w.heap.size + 1, 1, none⟩ = some (.int .i64 0) := box_cell (i := 1) R3.out rfl
              have z2 : wr.cell? ⟨w.heap.size + 1, 2, none⟩ = some (.int .i64 0) := box_cell (i := 2) R3.out rfl
              have z3 : wr.cell? ⟨w.heap.size + 1, 3, none⟩ = some (.int .i64 0) := box_cell (i := 3) R3.out rfl
              have z4 : wr.cell? ⟨w.heap.size + 1, 4, none⟩ = some (.int .i64 0) := box_cell (i := 4) R3.out rfl
              have z5 : wr.cell? ⟨w.heap.size + 1, 5, none⟩ = some (.slice none 0 0) := box_cell (i := 5) R3.out rfl
              have z6 : wr.cell? ⟨w.heap.size + 1, 6, none⟩ = some (.slice none 0 0) := box_cell (i := 6) R3.out rfl
              have z7 : wr.cell? ⟨w.heap.size + 1, 7, none⟩ = some (.slice none 0 0) := box_cell (i := 7) R3.out rfl
              have z8 : wr.cell? ⟨w.heap.size + 1, 8, none⟩ = some (.int .i64 0) := box_cell (i := 8) R3.out rfl
              have f0 := frozen_of_row wr (w.heap.size + 1) 0 _ _ R3.out
              have f1 := frozen_of_row wr (w.heap.size + 1) 1 _ _ R3.out
              have f2 := frozen_of_row wr (w.heap.size + 1) 2 _ _ R3.out
              have f3 := frozen_of_row wr (w.heap.size + 1) 3 _ _ R3.out
              have f4 := frozen_of_row wr (w.heap.size + 1) 4 _ _ R3.out
              have f5 := frozen_of_row wr (w.heap.size + 1) 5 _ _ R3.out
              have f6 := frozen_of_row wr (w.heap.size + 1) 6 _ _ R3.out
              have f7 := frozen_of_row wr (w.heap.size + 1) 7 _ _ R3.out
              have f8 := frozen_of_row wr (w.heap.size + 1) 8 _ _ R3.out
              clear hlt hj bnl hi bne hk bnd
              go_wp2
              refine ret_nine rfl rfl (set9 R3.out) ⟨vs, .slice B k cD, .slice F i cF, .slice G j cG, rfl, keep9 B3.out (by omega), ?_⟩
              exact rc_end Z0.out Y3.out Y2.out (up9 (Up.refl _ _) (by omega)) HM.out.nD HM.out.nE HM.out.nL
end Go.Proofs.Ytecgpibidcifpaa.ConfW

