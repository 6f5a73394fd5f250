/- The law of one switch: the walk. -/
import Derived.Test.YtmagjekmlnpfpaaGreatRoundLEJa
import Derived.Test.YtmagjekmlnpfpaaGreatRoundIJa
import Derived.Test.YtmagjekmlnpfpaaGreatConfNJa
import Derived.Test.YtmagjekmlnpfpaaGreatOpen
import Derived.Laws.StructEq
namespace Go.Proofs.YtmagjekmlnpfpaaGreat.RoundW
open Go.RowKit Shell
open ConfW (Cfg CM chk famC refCheck_any)
/-- A host's clock at the beginning. -/
def nw (W : Int) (xs : List Int) (h : Nat) : Ck := ⟨0, match xs[h]? with | some x => x % (W + 1) | none => 0, 0⟩
def NL (W : Int) (xs : List Int) (n : Nat) : List Ck := (List.range n).map (nw W xs)
theorem NL.len (W : Int) (xs : List Int) (n : Nat) : (NL W xs n).length = n := by unfold NL; rw [List.length_map, List.length_range]
theorem NL.succ (W : Int) (xs : List Int) (n : Nat) : NL W xs (n + 1) = NL W xs n ++ [nw W xs n] := by unfold NL; rw [List.range_succ, List.map_append]; rfl
theorem NL.ok {W : Int} (hW : 0 ≤ W) (xs : List Int) (n : Nat) : ∀ k ∈ NL W xs n, k.m = 0 ∧ k.r = 0 ∧ 0 ≤ k.b ∧ k.b ≤ W := by
  intro k hk
  obtain ⟨h, -, rfl⟩ := List.mem_map.1 hk
  refine ⟨rfl, rfl, ?_⟩
  unfold nw
  dsimp only
  cases xs[h]? with
  | none => exact ⟨Int.le_refl _, hW⟩
  | some x =>
    have h1 := Int.emod_nonneg x (show W + 1 ≠ 0 by omega)
    have h2 := Int.emod_lt_of_pos x (show 0 < W + 1 by omega)
    dsimp only
    omega
abbrev kb (b : Int) : Obj := .cells #[.int .i64 0, .int .i64 b, .int .i64 0] 60 (0, 0)
theorem oneK : OneG Tryz.prog 27 60 FK.n 24 := oneG_of Tryz.underlying27 (by kernel_rfl)
theorem guardS : Tryz.prog.eqGuardType Tryz.prog.depth 60 = false := by kernel_rfl
set_option maxRecDepth 100000 in
theorem neq_st (m b r m' b' r' : Int) (w : World) : (binOp .neq 60 (.agg #[.int .i64 m, .int .i64 b, .int .i64 r]) (.agg #[.int .i64 m', .int .i64 b', .int .i64 r'])).run Tryz.prog w = .ok (.bool (!decide (m = m' ∧ b = b' ∧ r = r'))) w := by
  have u3 := Tryz.underlying2
  have a3 := Tryz.isAgg2
  have z3 := Tryz.sizeOf2
  have hS : Tryz.prog.underlying 60 = some (.struct (Tryz.prog.fieldsOf 60)) := by kernel_rfl
  have hp : Tryz.prog.stoodInHeld 60 = false := by kernel_rfl
  rw [run_neq_struct, show (10000 : Nat) = 9999 + 1 from rfl, run_equalIn_agg w 9999 60 _ _ hS hp]
  simp only [Program.fieldsOf, Tryz.underlying60]
  by_cases h1 : m = m'
  · by_cases h2 : b = b'
    · by_cases h3 : r = r'
      · subst h1 h2 h3; go_simp
      · subst h1 h2; go_simp
    · subst h1; go_simp
  · go_simp
abbrev lb (a b c d : Int) : Obj := .cells #[.int .u32 a, .int .u32 b, .int .u32 c, .int .u32 d] 31 (0, 0)
/-- The rows that two rounds told. -/
structure One2 (w : World) (bA bB aA aB nB : Option Addr) (A B : Td) : Prop where
  b1 : SG FI w bA A.b
  b2 : SG FI w bB B.b
  a1 : SG FK w aA A.a
  a2 : SG FK w aB B.a
  n2 : SG FI w nB B.n
theorem One2.below {w w1 : World} {bA bB aA aB nB : Option Addr} {A B : Td} (h : One2 w bA bB aA aB nB A B) (b : Below w.heap.size w w1) : One2 w1 bA bB aA aB nB A B := ⟨h.b1.below b, h.b2.below b, h.a1.below b, h.a2.below b, h.n2.below b⟩
theorem u32_in {x : Int} (h : (Lit.int .u32 x).wf = true) : 0 ≤ x ∧ x ≤ 4294967295 := by
  simp [Lit.wf, IntKind.min, IntKind.max, IntKind.signed, IntKind.bits] at h
  omega
set_option maxHeartbeats 8000000 in
set_option maxRecDepth 100000 in
theorem one_walk (c : Cfg) (D E L : Option Addr) (nd cd ne ce nl cl : Nat) (A : Option Addr) (xs : List Int) (cp : Nat) (dead : Bool) (w : World) (m : CM w c D E L nd cd ne ce nl cl) (hA : CL w .u32 A xs) (hx : xs.length ≤ 9223372036854775807) :
    Calls Tryz.prog 11 #[.agg #[.int .i64 c.hosts, .int .i64 c.cycle, .int .i64 c.delay, .int .i64 c.window, .int .i64 c.precision, .slice D nd cd, .slice E ne ce, .slice L nl cl, .int .i64 c.queue], .slice A xs.length cp, .bool dead] w fun e w' => e = .returned (.bool true) ∧ Below w.heap.size w w' := by
  have HM := Lib.hid m
  have HA := Lib.hid hA
  have TK := Lib.hid (fun W => ticking_any W)
  clear m hA
  go_enter Tryz.func11, Tryz.ntmps11
  go_wp2_with fail
  refine (TK.out _).mono ?_
  rintro r w1 ⟨rfl, b1⟩
  have Q1 := Lib.hid (((Stay.start w).alloc (cbx c D E L nd cd ne ce nl cl)).next b1)
  obtain ⟨q, hq⟩ : ∃ q, w.heap.size = q := ⟨_, rfl⟩
  rw [hq] at Q1 ⊢
  have HQ := Lib.hid hq
  clear b1 hq TK
  obtain ⟨a0, a1, a2, a3, a4, a5, a6, a7, a8⟩ := cells9 (Q1.out.at 0 rfl)
  have CH := Lib.hid (refCheck_any c D E L nd cd ne ce nl cl w1 (HM.out.below (HQ.out ▸ Q1.out.b)))
  by_cases hz : chk c = 0
  case neg =>
    have z1 : (chk c != 0) = true := by rw [bne_iff_ne]; exact hz
    go_wp2_with fail
    refine CH.out.mono ?_
    rintro r w2 ⟨rfl, b2⟩
    have Q2 := Lib.hid (Q1.out.next b2)
    clear a0 a1 a2 a3 a4 a5 a6 a7 a8 b2 CH Q1
    obtain ⟨a0, a1, a2, a3, a4, a5, a6, a7, a8⟩ := cells9 (Q2.out.at 0 rfl)
    go_wp2
    go_ret
    exact ⟨rfl, Q2.out.b⟩
  case pos =>
    have C := cok hz
    have cy := C.y
    have cd := C.d
    have cw := C.w
    have cpr := C.p
    have z1 : (chk c != 0) = false := by rw [hz]; rfl
    obtain ⟨g8, hg8⟩ : ∃ z, c.cycle / 8 = z := ⟨_, rfl⟩
    obtain ⟨g16, hg16⟩ : ∃ z, c.cycle / 16 = z := ⟨_, rfl⟩
    have t8 : c.cycle.tdiv 8 = g8 := (Int.tdiv_eq_ediv_of_nonneg (by omega)).trans hg8
    have t16 : c.cycle.tdiv 16 = g16 := (Int.tdiv_eq_ediv_of_nonneg (by omega)).trans hg16
    have w8 : wrap64 g8 = g8 := (wrI rfl (by omega)).2
    have w16 : wrap64 g16 = g16 := (wrI rfl (by omega)).2
    have HG8 := Lib.hid hg8
    have HG16 := Lib.hid hg16
    clear hg8 hg16
    by_cases k0 : c.cycle < 100000
    case pos =>
      have f0 : decide (c.cycle < 100000) = true := decide_eq_true k0
      clear C cy cd cw cpr
      go_wp2_with fail
      refine CH.out.mono ?_
      rintro r w2 ⟨rfl, b2⟩
      have Q2 := Lib.hid (Q1.out.next b2)
      clear a0 a1 a2 a3 a4 a5 a6 a7 a8 b2 CH Q1
      obtain ⟨a0, a1, a2, a3, a4, a5, a6, a7, a8⟩ := cells9 (Q2.out.at 0 rfl)
      go_wp2
      go_ret
      exact ⟨rfl, Q2.out.b⟩
    have f0 : decide (c.cycle < 100000) = false := decide_eq_false k0
    by_cases k1 : g8 < c.window
    case pos =>
      have f1 : decide (g8 < c.window) = true := decide_eq_true k1
      clear C cy cd cw cpr
      go_wp2_with fail
      refine CH.out.mono ?_
      rintro r w2 ⟨rfl, b2⟩
      have Q2 := Lib.hid (Q1.out.next b2)
      clear a0 a1 a2 a3 a4 a5 a6 a7 a8 b2 CH Q1
      obtain ⟨a0, a1, a2, a3, a4, a5, a6, a7, a8⟩ := cells9 (Q2.out.at 0 rfl)
      go_wp2
      go_ret
      exact ⟨rfl, Q2.out.b⟩
    have f1 : decide (g8 < c.window) = false := decide_eq_false k1
    by_cases k2 : g8 < c.delay
    case pos =>
      have f2 : decide (g8 < c.delay) = true := decide_eq_true k2
      clear C cy cd cw cpr
      go_wp2_with fail
      refine CH.out.mono ?_
      rintro r w2 ⟨rfl, b2⟩
      have Q2 := Lib.hid (Q1.out.next b2)
      clear a0 a1 a2 a3 a4 a5 a6 a7 a8 b2 CH Q1
      obtain ⟨a0, a1, a2, a3, a4, a5, a6, a7, a8⟩ := cells9 (Q2.out.at 0 rfl)
      go_wp2
      go_ret
      exact ⟨rfl, Q2.out.b⟩
    have f2 : decide (g8 < c.delay) = false := decide_eq_false k2
    by_cases k3 : g16 < c.precision
    case pos =>
      have f3 : decide (g16 < c.precision) = true := decide_eq_true k3
      clear C cy cd cw cpr
      go_wp2_with fail
      refine CH.out.mono ?_
      rintro r w2 ⟨rfl, b2⟩
      have Q2 := Lib.hid (Q1.out.next b2)
      clear a0 a1 a2 a3 a4 a5 a6 a7 a8 b2 CH Q1
      obtain ⟨a0, a1, a2, a3, a4, a5, a6, a7, a8⟩ := cells9 (Q2.out.at 0 rfl)
      go_wp2
      go_ret
      exact ⟨rfl, Q2.out.b⟩
    have f3 : decide (g16 < c.precision) = false := decide_eq_false k3
    have CC := Lib.hid C
    have NN := Lib.hid (show Near c from by have := HG8.out; have := HG16.out; exact ⟨by omega, by omega, by omega, by omega⟩)
    have HZ := Lib.hid hz
    clear C cy cd cw cpr k0 k1 k2 k3 hz
    go_wp2_with fail
    refine CH.out.mono ?_
    rintro r w2 ⟨rfl, b2⟩
    have Q2 := Lib.hid (Q1.out.next b2)
    clear a0 a1 a2 a3 a4 a5 a6 a7 a8 b2 CH Q1
    obtain ⟨a0, a1, a2, a3, a4, a5, a6, a7, a8⟩ := cells9 (Q2.out.at 0 rfl)
    go_wp2
    clear f0 f1 f2 f3 z1 t8 t16 w8 w16 HG8 HG16
    have O0 := Lib.hid (show Stay w [(q, cbx c D E L nd cd ne ce nl cl)] w2 ∧ OG FK w2 (q + 1) 60 (.slice none 0 0) (NL c.window xs 0) from ⟨Q2.out, OG.nil _ _ _⟩)
    clear a0 a1 a2 a3 a4 a5 a6 a7 a8 Q2
    go_loopw [7, 53] (fun sv iv wr => ∃ (i : Nat), (i : Int) ≤ c.hosts ∧ iv = .int .i64 i ∧ Hid (Stay w [(q, cbx c D E L nd cd ne ce nl cl)] wr ∧ OG FK wr (q + 1) 60 sv (NL c.window xs i))) (fun _ iv _ => c.hosts.toNat - (intOf iv).toNat)
    case atStart => exact ⟨0, by have := CC.out.h; omega, rfl, O0⟩
    case round =>
      clear O0
      obtain ⟨i, hi, rfl, Q⟩ := hrel
      obtain ⟨a0, a1, a2, a3, a4, a5, a6, a7, a8⟩ := cells9 (Q.out.1.at 0 rfl)
      by_cases hlt : (i : Int) < c.hosts
      · obtain ⟨As, cs, hv, sg, -⟩ := Q.out.2.form
        rw [NL.len] at hv
        subst hv
        have CW := Lib.hid CC.out.w
        have h6 := CC.out.h
        have wi : wrap64 ((i : Int) + 1) = (i : Int) + 1 := (wrI rfl (by omega)).2
        cases hxi : xs[i]? with
        | none =>
          have hge : ¬ (i : Int) < (xs.length : Int) := by have := List.getElem?_eq_none_iff.1 hxi; omega
          have HK := Lib.hid (show NL c.window xs (i + 1) = NL c.window xs i ++ [⟨0, 0, 0⟩] by rw [NL.succ]; unfold nw; rw [hxi])
          clear hxi
          have Z1 := Lib.hid (show Stay w [(q, cbx c D E L nd cd ne ce nl cl)] (wr.alloc (kb 0)) ∧ OG FK (wr.alloc (kb 0)) (q + 1) 60 (.slice As i cs) (NL c.window xs i) from ⟨Q.out.1.next (al (Below.refl _ _) _), Q.out.2.alloc _⟩)
          go_wp2_with (at_builtin; refine wpList_append_one oneK _ rfl _ _ rfl (q + 1) _ (NL c.window xs i) rfl (Z1.out.2.alloc (kb 0)) ⟨0, 0, 0⟩ _ rfl (heap_at (by first | rfl | simp) _) ?c1 (by decide) ?c2 ?_)
          case c1 =>
            rw [NL.len]
            have := CC.out.h
            omega
          case c2 =>
            have := lt_of_heap (Z1.out.1.at 0 rfl)
            first | (rw [World.size_alloc] at this; omega) | omega | (rw [World.size_alloc]; omega)
          intro v7 w7 o7 s7
          have Q7 := Lib.hid (show Stay w [(q, cbx c D E L nd cd ne ce nl cl)] w7 ∧ OG FK w7 (q + 1) 60 v7 (NL c.window xs (i + 1)) from ⟨OG.stay (Z1.out.1.next (al (Below.refl _ _) (kb 0))) (Z1.out.2.alloc (kb 0)) s7 (by have := HQ.out; omega) (fun z hz => by
            rw [List.mem_singleton] at hz
            subst hz
            exact fun e => absurd (Z1.out.2.lt _ e).1 (by dsimp only; omega)), by rw [HK.out]; exact o7⟩)
          clear o7 s7 Z1
          go_wp2
          go_roundw
          case rel => exact ⟨i + 1, by omega, by first | rfl | go_num | simp, Q7⟩
          case measure => simp only [intOf]; omega
        | some x =>
          have hlx : (i : Int) < (xs.length : Int) := by have := (List.getElem?_eq_some_iff.1 hxi).1; omega
          have HK := Lib.hid (show NL c.window xs (i + 1) = NL c.window xs i ++ [⟨0, x % (c.window + 1), 0⟩] by rw [NL.succ]; unfold nw; rw [hxi])
          obtain ⟨ad, hAd, c0, hwf⟩ := HA.out.below (show Below w.heap.size w wr from Q.out.1.b) i x hxi
          subst hAd
          have xin := u32_in hwf
          have hcw := CW.out
          obtain ⟨g1, hg1⟩ : ∃ z, c.window + 1 = z := ⟨_, rfl⟩
          obtain ⟨bx, hbx⟩ : ∃ z, x % (c.window + 1) = z := ⟨_, rfl⟩
          rw [hbx] at HK
          have hb0 : 0 ≤ bx := by rw [← hbx]; exact Int.emod_nonneg x (by omega)
          have hb1 : bx < c.window + 1 := by rw [← hbx]; exact Int.emod_lt_of_pos x (by omega)
          rw [hg1] at hbx
          have e1 : IntKind.i64.wrap x = x := (wrI rfl (by omega)).1
          have e2 : wrap64 x = x := (wrI rfl (by omega)).2
          have e3 : wrap64 (c.window + 1) = g1 := (wrI hg1 (by omega)).2
          have e4 : IntKind.i64.wrap (c.window + 1) = g1 := (wrI hg1 (by omega)).1
          have e5 : x.tmod g1 = bx := by rw [Int.tmod_eq_emod_of_nonneg xin.1]; exact hbx
          have e6 : ¬ g1 = 0 := by omega
          have e7 : wrap64 bx = bx := (wrI rfl (by omega)).2
          have e8 : (g1 == 0) = false := by rw [beq_eq_false_iff_ne]; exact e6
          have CX := Lib.hid c0
          have Z1 := Lib.hid (show Stay w [(q, cbx c D E L nd cd ne ce nl cl)] (wr.alloc (kb 0)) ∧ OG FK (wr.alloc (kb 0)) (q + 1) 60 (.slice As i cs) (NL c.window xs i) from ⟨Q.out.1.next (al (Below.refl _ _) _), Q.out.2.alloc _⟩)
          have H3 := Lib.hid (show (wr.alloc (kb 0)).heap[wr.heap.size]? = some (kb 0) from heap_at rfl _)
          have C3 := Lib.hid (cell_keep c0 (al (Below.refl _ _) (kb 0)))
          have B3 := Lib.hid (al (Below.refl _ wr) (kb 0))
          clear hxi hwf xin hcw hb0 hb1 hg1 hbx
          go_wp2_with fail
          clear a0 a1 a2 a3 a4 a5 a6 a7 a8 c0 CX sg
          generalize hzr : wr.heap.size = zr at *
          generalize wr.alloc (kb 0) = w3 at *
          have a3 : w3.drew.cell? ⟨q, 3, none⟩ = some (.int .i64 c.window) := cell_of_row _ q 3 _ _ _ (Z1.out.1.at 0 rfl)
          have c0 : w3.drew.cell? (ad.add i) = some (.int .u32 x) := C3.out
          have y1 : w3.drew.cell? ⟨zr, 1, none⟩ = some (.int .i64 0) := cell_of_row _ zr 1 _ _ _ H3.out
          have f1 : w3.drew.frozen? ⟨zr, 1, none⟩ = false := (frozen3 H3.out).2.1
          have Z5 := Lib.hid (show Stay w [(q, cbx c D E L nd cd ne ce nl cl)] (w3.setCell ⟨zr, 1, none⟩ (.int .i64 bx)).drew ∧ OG FK (w3.setCell ⟨zr, 1, none⟩ (.int .i64 bx)).drew (q + 1) 60 (.slice As i cs) (NL c.window xs i) from by
            have b5 : Below wr.heap.size wr (w3.setCell ⟨zr, 1, none⟩ (.int .i64 bx)).drew := (below_up (by rw [hzr]; exact B3.out) (kept1 w3 zr 1 (.int .i64 bx)) (Nat.le_of_eq hzr)).drew
            exact ⟨Q.out.1.next b5, Q.out.2.below b5⟩)
          have H5 := Lib.hid (show (w3.setCell ⟨zr, 1, none⟩ (.int .i64 bx)).drew.heap[zr]? = some (kb bx) from heap_setCell_same _ zr 1 _ _ _ H3.out)
          go_region
          clear a3 c0 y1 f1 e1 e2 e3 e4 e5 e6 e7 e8 C3 H3 B3 Z1
          generalize (w3.setCell ⟨zr, 1, none⟩ (.int .i64 bx)).drew = w5 at *
          obtain ⟨y0, y1, y2⟩ := cells3 H5.out
          have Z1 := Z5
          clear Z5
          go_wp2_with (at_builtin; refine wpList_append_one oneK _ rfl _ _ rfl (q + 1) _ (NL c.window xs i) rfl (Z1.out.2.alloc (kb bx)) ⟨0, bx, 0⟩ _ rfl (heap_at (by first | rfl | simp) _) ?c1 (by decide) ?c2 ?_)
          case c1 =>
            rw [NL.len]
            have := CC.out.h
            omega
          case c2 =>
            have := lt_of_heap (Z1.out.1.at 0 rfl)
            first | (rw [World.size_alloc] at this; omega) | omega | (rw [World.size_alloc]; omega)
          intro v7 w7 o7 s7
          have Q7 := Lib.hid (show Stay w [(q, cbx c D E L nd cd ne ce nl cl)] w7 ∧ OG FK w7 (q + 1) 60 v7 (NL c.window xs (i + 1)) from ⟨OG.stay (Z1.out.1.next (al (Below.refl _ _) (kb bx))) (Z1.out.2.alloc (kb bx)) s7 (by have := HQ.out; omega) (fun z hz => by
            rw [List.mem_singleton] at hz
            subst hz
            exact fun e => absurd (Z1.out.2.lt _ e).1 (by dsimp only; omega)), by rw [HK.out]; exact o7⟩)
          clear o7 s7 Z1 y0 y1 y2
          go_wp2
          go_roundw
          case rel => exact ⟨i + 1, by omega, by first | rfl | go_num | simp, Q7⟩
          case measure => simp only [intOf]; omega
      · have h6 := CC.out.h
        have hn : c.hosts = (i : Int) := by omega
        obtain ⟨As, cs, hv, sg, -⟩ := Q.out.2.form
        rw [NL.len] at hv
        subst hv
        have RR := right_rgt (l := NL c.window xs i) HZ.out NN.out (by rw [NL.len]; exact hn.symm) (NL.ok CC.out.w.1 xs i)
        have RG := Lib.hid RR.1
        have SW := one_sw RR.1 RR.2 NN.out dead
        rw [NL.len] at SW
        have HL := Lib.hid (NL.len c.window xs i)
        have H63 := Lib.hid (show i ≤ 6 by omega)
        have ST := Lib.hid Q.out.1
        have SGL := Lib.hid sg
        clear Q RR sg NN HZ CC hn h6
        generalize NL c.window xs i = l at *
        obtain ⟨TA, hTA⟩ : ∃ T, rndL c 1 l ⟨0, 0, 0, 0⟩ = T := ⟨_, rfl⟩
        obtain ⟨TB, hTB⟩ : ∃ T, rndL c 1 l (gone dead) = T := ⟨_, rfl⟩
        rw [hTA, hTB] at SW
        have hgd : LoOk (gone dead) := by cases dead <;> exact ⟨by decide, by decide, by decide, by decide⟩
        have GOA := fun (W : World) (b : Below wr.heap.size wr W) => lgo_ok c D E L nd cd ne ce nl cl 1 As l i cs ⟨0, 0, 0, 0⟩ W ((HM.out.below ST.out.b).below b) RG.out HL.out (SGL.out.below b) ⟨by decide, by decide, by decide, by decide⟩
        have GOB := fun (W : World) (b : Below wr.heap.size wr W) => lgo_ok c D E L nd cd ne ce nl cl 1 As l i cs (gone dead) W ((HM.out.below ST.out.b).below b) RG.out HL.out (SGL.out.below b) hgd
        rw [hTA] at GOA
        rw [hTB] at GOB
        have GA := Lib.hid GOA
        have GB := Lib.hid GOB
        have OS := Lib.hid SW
        clear GOA GOB SW hgd hTA hTB
        cases dead with
        | false =>
          obtain ⟨a0, a1, a2, a3, a4, a5, a6, a7, a8⟩ := cells9 ((ST.out.next (al (Below.refl _ wr) (lb 63 0 63 0))).at 0 rfl)
          go_wp2_with fail
          refine (GA.out _ (al (Below.refl _ _) _)).mono ?_
          rintro r w3 ⟨ta, rfl, TA', b3⟩
          obtain ⟨⟨sA, sc⟩, ⟨bA, bc⟩, ⟨nA, nc⟩, ⟨aA, ac⟩, k, x0, x1⟩ := ta
          have B3 := Lib.hid (show Below wr.heap.size wr w3 from (al (Below.refl _ _) _).trans (b3.mono (by rw [World.size_alloc]; omega)))
          have S3 := Lib.hid ((ST.out.alloc (lb 63 0 63 0)).next b3)
          have X3 := Lib.hid TA'
          clear a0 a1 a2 a3 a4 a5 a6 a7 a8 b3 TA' GA
          have S4 := Lib.hid (S3.out.next (al (Below.refl _ w3) (tbL (.slice sA k sc) x0 x1 (.slice bA k bc) (.slice nA k nc) (.slice aA k ac))))
          obtain ⟨a0, a1, a2, a3, a4, a5, a6, a7, a8⟩ := cells9 (S4.out.at 1 rfl)
          obtain ⟨l0, l1, l2, l3⟩ := cells4' (S4.out.at 0 rfl)
          go_wp2_with fail
          refine (GB.out _ (B3.out.trans (al (Below.refl _ _) _ |>.mono B3.out.size))).mono ?_
          rintro r w5 ⟨tb, rfl, TB', b5⟩
          obtain ⟨⟨sB, tc⟩, ⟨bB, dc⟩, ⟨nB, mc⟩, ⟨aB, ec⟩, k', y0, y1⟩ := tb
          have S5 := Lib.hid ((S3.out.alloc (tbL (.slice sA k sc) x0 x1 (.slice bA k bc) (.slice nA k nc) (.slice aA k ac))).next b5)
          have X5 := Lib.hid TB'
          have Y5 := Lib.hid (X3.out.below ((al (Below.refl _ _) _).trans (b5.mono (by rw [World.size_alloc]; omega))))
          clear a0 a1 a2 a3 a4 a5 a6 a7 a8 l0 l1 l2 l3 b5 TB' GB X3 S4
          have kk : k' = i := by have h := X5.out.k.2.2.1; rw [OS.out.n0, List.length_replicate] at h; exact h.symm
          have kj : k = k' := by have h := Y5.out.k.2.1; rw [← OS.out.b0] at h; exact h.symm.trans X5.out.k.2.1
          subst kj
          subst kk
          have HB1 := Lib.hid (og_sg Y5.out.b)
          have HB2 := Lib.hid (og_sg X5.out.b)
          have HA1 := Lib.hid (og_sg Y5.out.a)
          have HA2 := Lib.hid (og_sg X5.out.a)
          have HN2 := Lib.hid (og_sg X5.out.n)
          have k0 : ((y0 : Int) != 0) = false := by
            have h1 := X5.out.c0
            have h2 := OS.out.c0
            dsimp only at h1
            rw [if_neg (by decide)] at h2
            rw [h1, h2]
            rfl
          have k1 : ((y1 : Int) != (x1 : Int)) = false := by
            have h1 := X5.out.c1
            have h2 := Y5.out.c1
            have h3 := OS.out.c1
            dsimp only at h1 h2
            rw [if_neg (by decide), if_neg (by decide)] at h3
            rw [h1, h2, h3]
            simp
          have S6 := Lib.hid (S5.out.alloc (tbL (.slice sB k tc) y0 y1 (.slice bB k dc) (.slice nB k mc) (.slice aB k ec)))
          have SGS := Lib.hid (show One2 (w5.alloc (tbL (.slice sB k tc) y0 y1 (.slice bB k dc) (.slice nB k mc) (.slice aB k ec))) bA bB aA aB nB TA TB from
            One2.below ⟨HB1.out, HB2.out, HA1.out, HA2.out, HN2.out⟩ (al (Below.refl _ _) _))
          have LN := Lib.hid (show TB.b.length = k ∧ TB.a.length = k from ⟨X5.out.k.2.1, X5.out.k.2.2.2⟩)
          clear HB1 HB2 HA1 HA2 HN2 X5 Y5 S3 S5 B3 ST SGL HM
          go_wp2_with fail
          generalize w5.heap.size = g5 at *
          generalize w3.heap.size = g3 at *
          generalize wr.heap.size = gr at *
          generalize w5.alloc (tbL (.slice sB k tc) y0 y1 (.slice bB k dc) (.slice nB k mc) (.slice aB k ec)) = w6 at *
          have S7 := Lib.hid (S6.out.next (Below.refl _ _).drew)
          have SGS7 := Lib.hid (SGS.out.below (Below.refl _ _).drew)
          clear S6 SGS
          obtain ⟨a0, a1, a2, a3, a4, a5⟩ := cells6 (S7.out.at 1 rfl)
          obtain ⟨b0, b1, b2, b3, b4, b5⟩ := cells6 (S7.out.at 0 rfl)
          go_region
          clear a0 a1 a2 a3 a4 a5 b0 b1 b2 b3 b4 b5
          generalize w6.drew = w7 at *
          go_wp2
          clear k0 k1
          have O7 := Lib.hid (show Stay w [(g5, tbL (.slice sB k tc) y0 y1 (.slice bB k dc) (.slice nB k mc) (.slice aB k ec)), (g3, tbL (.slice sA k sc) x0 x1 (.slice bA k bc) (.slice nA k nc) (.slice aA k ac)), (gr, lb 63 0 63 0), (q, cbx c D E L nd cd ne ce nl cl)] w7 ∧ One2 w7 bA bB aA aB nB TA TB from ⟨S7.out, SGS7.out⟩)
          have k63 : (k : Int) ≤ 9223372036854775807 := by have := H63.out; omega
          clear S7 SGS7
          go_loopw [126] (fun iv wr => ∃ (j : Nat), j ≤ k ∧ iv = .int .i64 j ∧ Hid (Stay w [(g5, tbL (.slice sB k tc) y0 y1 (.slice bB k dc) (.slice nB k mc) (.slice aB k ec)), (g3, tbL (.slice sA k sc) x0 x1 (.slice bA k bc) (.slice nA k nc) (.slice aA k ac)), (gr, lb 63 0 63 0), (q, cbx c D E L nd cd ne ce nl cl)] wr ∧ One2 wr bA bB aA aB nB TA TB)) (fun iv _ => k - (intOf iv).toNat)
          case atStart => exact ⟨0, Nat.zero_le _, rfl, O7⟩
          case round =>
            clear O7
            obtain ⟨j, hj, rfl, R⟩ := hrel
            by_cases hlj : (j : Int) < (k : Int)
            · obtain ⟨z, hz⟩ : ∃ z, TB.b[j]? = some z := ⟨_, List.getElem?_eq_getElem (by have := LN.out.1; omega)⟩
              obtain ⟨st, hst⟩ : ∃ z, TB.a[j]? = some z := ⟨_, List.getElem?_eq_getElem (by have := LN.out.2; omega)⟩
              have hn1 : TB.n[j]? = some 1 := by rw [OS.out.n0, List.getElem?_replicate, if_pos (by omega)]
              have R2 := Lib.hid (show Stay w [(g5, tbL (.slice sB k tc) y0 y1 (.slice bB k dc) (.slice nB k mc) (.slice aB k ec)), (g3, tbL (.slice sA k sc) x0 x1 (.slice bA k bc) (.slice nA k nc) (.slice aA k ac)), (gr, lb 63 0 63 0), (q, cbx c D E L nd cd ne ce nl cl)] wr.drew ∧ One2 wr.drew bA bB aA aB nB TA TB from ⟨R.out.1.next (Below.refl _ _).drew, R.out.2.below (Below.refl _ _).drew⟩)
              obtain ⟨q1, o1, rfl, -, z1⟩ := fi_at R2.out.2.b1 (show TA.b[j]? = some z by rw [← OS.out.b0]; exact hz)
              obtain ⟨q2, o2, rfl, -, z2⟩ := fi_at R2.out.2.b2 hz
              obtain ⟨q3, o3, rfl, -, z3⟩ := fi_at R2.out.2.n2 hn1
              obtain ⟨q4, o4, rfl, s1, s2, s3⟩ := fk_at R2.out.2.a1 (show TA.a[j]? = some st by rw [← OS.out.a0]; exact hst)
              obtain ⟨q5, o5, rfl, s4, s5, s6⟩ := fk_at R2.out.2.a2 hst
              obtain ⟨a0, a1, a2, a3, a4, a5⟩ := cells6 (R2.out.1.at 1 rfl)
              obtain ⟨b0, b1, b2, b3, b4, b5⟩ := cells6 (R2.out.1.at 0 rfl)
              have gs := guardS
              have ns : ∀ W : World, (binOp .neq 60 (.agg #[.int .i64 st.m, .int .i64 st.b, .int .i64 st.r]) (.agg #[.int .i64 st.m, .int .i64 st.b, .int .i64 st.r])).run Tryz.prog W = .ok (.bool false) W := fun W => by rw [neq_st]; simp
              clear hz hst hn1
              go_wp2_with fail
              go_region
              clear a0 a1 a2 a3 a4 a5 b0 b1 b2 b3 b4 b5 z1 z2 z3 s1 s2 s3 s4 s5 s6
              go_wp2
              go_roundw
              case rel => exact ⟨j + 1, by omega, by first | rfl | go_num | simp, R2⟩
              case measure => simp [intOf]; omega
            · go_wp2
              go_ret
              exact ⟨rfl, R.out.1.b⟩
        | true =>
          obtain ⟨a0, a1, a2, a3, a4, a5, a6, a7, a8⟩ := cells9 ((ST.out.next (al (Below.refl _ wr) (lb 0 63 0 63))).at 0 rfl)
          go_wp2_with fail
          refine (GA.out _ (al (Below.refl _ _) _)).mono ?_
          rintro r w3 ⟨ta, rfl, TA', b3⟩
          obtain ⟨⟨sA, sc⟩, ⟨bA, bc⟩, ⟨nA, nc⟩, ⟨aA, ac⟩, k, x0, x1⟩ := ta
          have B3 := Lib.hid (show Below wr.heap.size wr w3 from (al (Below.refl _ _) _).trans (b3.mono (by rw [World.size_alloc]; omega)))
          have S3 := Lib.hid ((ST.out.alloc (lb 0 63 0 63)).next b3)
          have X3 := Lib.hid TA'
          clear a0 a1 a2 a3 a4 a5 a6 a7 a8 b3 TA' GA
          have S4 := Lib.hid (S3.out.next (al (Below.refl _ w3) (tbL (.slice sA k sc) x0 x1 (.slice bA k bc) (.slice nA k nc) (.slice aA k ac))))
          obtain ⟨a0, a1, a2, a3, a4, a5, a6, a7, a8⟩ := cells9 (S4.out.at 1 rfl)
          obtain ⟨l0, l1, l2, l3⟩ := cells4' (S4.out.at 0 rfl)
          go_wp2_with fail
          refine (GB.out _ (B3.out.trans (al (Below.refl _ _) _ |>.mono B3.out.size))).mono ?_
          rintro r w5 ⟨tb, rfl, TB', b5⟩
          obtain ⟨⟨sB, tc⟩, ⟨bB, dc⟩, ⟨nB, mc⟩, ⟨aB, ec⟩, k', y0, y1⟩ := tb
          have S5 := Lib.hid ((S3.out.alloc (tbL (.slice sA k sc) x0 x1 (.slice bA k bc) (.slice nA k nc) (.slice aA k ac))).next b5)
          have X5 := Lib.hid TB'
          have Y5 := Lib.hid (X3.out.below ((al (Below.refl _ _) _).trans (b5.mono (by rw [World.size_alloc]; omega))))
          clear a0 a1 a2 a3 a4 a5 a6 a7 a8 l0 l1 l2 l3 b5 TB' GB X3 S4
          have kk : k' = i := by have h := X5.out.k.2.2.1; rw [OS.out.n0, List.length_replicate] at h; exact h.symm
          have kj : k = k' := by have h := Y5.out.k.2.1; rw [← OS.out.b0] at h; exact h.symm.trans X5.out.k.2.1
          subst kj
          subst kk
          have HB1 := Lib.hid (og_sg Y5.out.b)
          have HB2 := Lib.hid (og_sg X5.out.b)
          have HA1 := Lib.hid (og_sg Y5.out.a)
          have HA2 := Lib.hid (og_sg X5.out.a)
          have HN2 := Lib.hid (og_sg X5.out.n)
          have k0 : ((y1 : Int) != 0) = false := by
            have h1 := X5.out.c1
            have h2 := OS.out.c0
            dsimp only at h1
            rw [if_pos rfl] at h2
            rw [h1, h2]
            rfl
          have k1 : ((y0 : Int) != (x0 : Int)) = false := by
            have h1 := X5.out.c0
            have h2 := Y5.out.c0
            have h3 := OS.out.c1
            dsimp only at h1 h2
            rw [if_pos rfl, if_pos rfl] at h3
            rw [h1, h2, h3]
            simp
          have S6 := Lib.hid (S5.out.alloc (tbL (.slice sB k tc) y0 y1 (.slice bB k dc) (.slice nB k mc) (.slice aB k ec)))
          have SGS := Lib.hid (show One2 (w5.alloc (tbL (.slice sB k tc) y0 y1 (.slice bB k dc) (.slice nB k mc) (.slice aB k ec))) bA bB aA aB nB TA TB from
            One2.below ⟨HB1.out, HB2.out, HA1.out, HA2.out, HN2.out⟩ (al (Below.refl _ _) _))
          have LN := Lib.hid (show TB.b.length = k ∧ TB.a.length = k from ⟨X5.out.k.2.1, X5.out.k.2.2.2⟩)
          clear HB1 HB2 HA1 HA2 HN2 X5 Y5 S3 S5 B3 ST SGL HM
          go_wp2_with fail
          generalize w5.heap.size = g5 at *
          generalize w3.heap.size = g3 at *
          generalize wr.heap.size = gr at *
          generalize w5.alloc (tbL (.slice sB k tc) y0 y1 (.slice bB k dc) (.slice nB k mc) (.slice aB k ec)) = w6 at *
          have S7 := Lib.hid (S6.out.next (Below.refl _ _).drew)
          have SGS7 := Lib.hid (SGS.out.below (Below.refl _ _).drew)
          clear S6 SGS
          obtain ⟨a0, a1, a2, a3, a4, a5⟩ := cells6 (S7.out.at 1 rfl)
          obtain ⟨b0, b1, b2, b3, b4, b5⟩ := cells6 (S7.out.at 0 rfl)
          go_region
          clear a0 a1 a2 a3 a4 a5 b0 b1 b2 b3 b4 b5
          generalize w6.drew = w7 at *
          go_wp2
          clear k0 k1
          have O7 := Lib.hid (show Stay w [(g5, tbL (.slice sB k tc) y0 y1 (.slice bB k dc) (.slice nB k mc) (.slice aB k ec)), (g3, tbL (.slice sA k sc) x0 x1 (.slice bA k bc) (.slice nA k nc) (.slice aA k ac)), (gr, lb 0 63 0 63), (q, cbx c D E L nd cd ne ce nl cl)] w7 ∧ One2 w7 bA bB aA aB nB TA TB from ⟨S7.out, SGS7.out⟩)
          have k63 : (k : Int) ≤ 9223372036854775807 := by have := H63.out; omega
          clear S7 SGS7
          go_loopw [126] (fun iv wr => ∃ (j : Nat), j ≤ k ∧ iv = .int .i64 j ∧ Hid (Stay w [(g5, tbL (.slice sB k tc) y0 y1 (.slice bB k dc) (.slice nB k mc) (.slice aB k ec)), (g3, tbL (.slice sA k sc) x0 x1 (.slice bA k bc) (.slice nA k nc) (.slice aA k ac)), (gr, lb 0 63 0 63), (q, cbx c D E L nd cd ne ce nl cl)] wr ∧ One2 wr bA bB aA aB nB TA TB)) (fun iv _ => k - (intOf iv).toNat)
          case atStart => exact ⟨0, Nat.zero_le _, rfl, O7⟩
          case round =>
            clear O7
            obtain ⟨j, hj, rfl, R⟩ := hrel
            by_cases hlj : (j : Int) < (k : Int)
            · obtain ⟨z, hz⟩ : ∃ z, TB.b[j]? = some z := ⟨_, List.getElem?_eq_getElem (by have := LN.out.1; omega)⟩
              obtain ⟨st, hst⟩ : ∃ z, TB.a[j]? = some z := ⟨_, List.getElem?_eq_getElem (by have := LN.out.2; omega)⟩
              have hn1 : TB.n[j]? = some 1 := by rw [OS.out.n0, List.getElem?_replicate, if_pos (by omega)]
              have R2 := Lib.hid (show Stay w [(g5, tbL (.slice sB k tc) y0 y1 (.slice bB k dc) (.slice nB k mc) (.slice aB k ec)), (g3, tbL (.slice sA k sc) x0 x1 (.slice bA k bc) (.slice nA k nc) (.slice aA k ac)), (gr, lb 0 63 0 63), (q, cbx c D E L nd cd ne ce nl cl)] wr.drew ∧ One2 wr.drew bA bB aA aB nB TA TB from ⟨R.out.1.next (Below.refl _ _).drew, R.out.2.below (Below.refl _ _).drew⟩)
              obtain ⟨q1, o1, rfl, -, z1⟩ := fi_at R2.out.2.b1 (show TA.b[j]? = some z by rw [← OS.out.b0]; exact hz)
              obtain ⟨q2, o2, rfl, -, z2⟩ := fi_at R2.out.2.b2 hz
              obtain ⟨q3, o3, rfl, -, z3⟩ := fi_at R2.out.2.n2 hn1
              obtain ⟨q4, o4, rfl, s1, s2, s3⟩ := fk_at R2.out.2.a1 (show TA.a[j]? = some st by rw [← OS.out.a0]; exact hst)
              obtain ⟨q5, o5, rfl, s4, s5, s6⟩ := fk_at R2.out.2.a2 hst
              obtain ⟨a0, a1, a2, a3, a4, a5⟩ := cells6 (R2.out.1.at 1 rfl)
              obtain ⟨b0, b1, b2, b3, b4, b5⟩ := cells6 (R2.out.1.at 0 rfl)
              have gs := guardS
              have ns : ∀ W : World, (binOp .neq 60 (.agg #[.int .i64 st.m, .int .i64 st.b, .int .i64 st.r]) (.agg #[.int .i64 st.m, .int .i64 st.b, .int .i64 st.r])).run Tryz.prog W = .ok (.bool false) W := fun W => by rw [neq_st]; simp
              clear hz hst hn1
              go_wp2_with fail
              go_region
              clear a0 a1 a2 a3 a4 a5 b0 b1 b2 b3 b4 b5 z1 z2 z3 s1 s2 s3 s4 s5 s6
              go_wp2
              go_roundw
              case rel => exact ⟨j + 1, by omega, by first | rfl | go_num | simp, R2⟩
              case measure => simp [intOf]; omega
            · go_wp2
              go_ret
              exact ⟨rfl, R.out.1.b⟩
end Go.Proofs.YtmagjekmlnpfpaaGreat.RoundW

