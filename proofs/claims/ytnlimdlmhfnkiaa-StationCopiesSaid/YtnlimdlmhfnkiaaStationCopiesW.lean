/- StationCopies, walked by what is asked of a station. -/
import Derived.Test.YtnlimdlmhfnkiaaTake
import Derived.Test.YtnlimdlmhfnkiaaStationTimedW
import Derived.Test.YtnlimdlmhfnkiaaStationCopiesP
namespace Go.Proofs.Ytnlimdlmhfnkiaa.StationW
open Shell (takeR skipR aput lset)
open Go.RowKit Shell
open ConfW (Cfg R4 CM ML chk ear lat)
open FrameW (BL OB rdE rdV dat rightD)
open PlanW (landV)
theorem wp_vv {P : Program} {c : Code} {Q : Exit → Act → World → Prop} {a : Act} {w : World} (A2 : Value → Value → Act) (S : Value → Value → World → Prop) (h : c.wp P (fun e a' w' => ∃ u v, e = Exit.normal ∧ a' = A2 u v ∧ S u v w') a w) (hm : ∀ u v W, S u v W → Q .normal (A2 u v) W) : c.wp P Q a w :=
  Code.wp_mono (fun _ _ _ ⟨u, v, h1, h2, h3⟩ => by subst h1; subst h2; exact hm u v _ h3) h
theorem cells2 {w : World} {j : Nat} {x0 x1 : Value} {t : TypeId} {fr : Nat × Nat} (h : w.heap[j]? = some (.cells #[x0, x1] t fr)) : w.cell? ⟨j, 0, none⟩ = some x0 ∧ w.cell? ⟨j, 1, none⟩ = some x1 := ⟨cell_of_row w j 0 _ _ _ h, cell_of_row w j 1 _ _ _ h⟩
abbrev gz : Obj := .cells #[.int .i64 0, .int .i64 0, .int .i64 0, .int .i64 0, .string ⟨#[]⟩, .int .i64 0, .int .i64 0] 41 (0, 0)
section
variable {SI : SIT} {w0 W : World} {X : Nat → Prop} {g N j k ka kb : Nat} {c : Cfg} {h : Int} {T : List Tn} {a b : Int} {B : List (Nat × Obj)} {ob ob2 : Obj}
theorem sq_ren (q : SQ SI w0 X g c h T a b N ((j, ob) :: B) W) {j' : Nat} (e : j = j') : SQ SI w0 X g c h T a b N ((j', ob) :: B) W := e ▸ q
theorem sq_swap (q : SQ SI w0 X g c h T a b N ((j, ob) :: (k, ob2) :: B) W) : SQ SI w0 X g c h T a b N ((k, ob2) :: (j, ob) :: B) W :=
  q.sub (fun x hx => by
    rcases List.mem_cons.1 hx with rfl | hx
    · exact List.mem_cons_of_mem _ List.mem_cons_self
    · rcases List.mem_cons.1 hx with rfl | hx
      · exact List.mem_cons_self
      · exact List.mem_cons_of_mem _ (List.mem_cons_of_mem _ hx))

theorem two7 (S : Spec SI) (q : SQ SI w0 X g c h T a b N ((ka, gz) :: (kb, gz) :: B) W) (kab : ka ≠ kb) (ha : ∀ y ∈ B, y.1 ≠ ka) (hb : ∀ y ∈ B, y.1 ≠ kb) (v1 v2 : Vg) (d : Dt) :
    SQ SI w0 X g c h T a b N ((ka, gbx v1 d 41) :: (kb, gz) :: B) (set7 W ka (.int .i64 v1.w) (.int .i64 d.c) (.int .i64 d.l) (.int .i64 d.n) (.string d.p) (.int .i64 d.s) (.int .i64 v1.k)) ∧ SQ SI w0 X g c h T a b N ((ka, gbx v1 d 41) :: (kb, gbx v2 d 41) :: B) (set7 (set7 W ka (.int .i64 v1.w) (.int .i64 d.c) (.int .i64 d.l) (.int .i64 d.n) (.string d.p) (.int .i64 d.s) (.int .i64 v1.k)) kb (.int .i64 v2.w) (.int .i64 d.c) (.int .i64 d.l) (.int .i64 d.n) (.string d.p) (.int .i64 d.s) (.int .i64 v2.k)) := by
  have q1 := q.put S (kept7 W ka (.int .i64 v1.w) (.int .i64 d.c) (.int .i64 d.l) (.int .i64 d.n) (.string d.p) (.int .i64 d.s) (.int .i64 v1.k)) (ob' := gbx v1 d 41) (put7 (q.at 0 rfl) _ _ _ _ _ _ _) (fun y hy => by
    rcases List.mem_cons.1 hy with rfl | hy
    · exact kab.symm
    · exact ha y hy)
  generalize set7 W ka (.int .i64 v1.w) (.int .i64 d.c) (.int .i64 d.l) (.int .i64 d.n) (.string d.p) (.int .i64 d.s) (.int .i64 v1.k) = W1 at *
  refine ⟨q1, ?_⟩
  have q2 := sq_swap q1
  exact sq_swap (q2.put S (kept7 W1 kb (.int .i64 v2.w) (.int .i64 d.c) (.int .i64 d.l) (.int .i64 d.n) (.string d.p) (.int .i64 d.s) (.int .i64 v2.k)) (ob' := gbx v2 d 41) (put7 (q2.at 0 rfl) _ _ _ _ _ _ _) (fun y hy => by
    rcases List.mem_cons.1 hy with rfl | hy
    · exact kab
    · exact hb y hy))
end
abbrev eb4 (e : R4) : Obj := .cells #[.int .i64 e.a, .int .u32 (e.b : Int), .int .i64 e.c, .int .i64 e.d] 56 (0, 0)
abbrev tbx (z0 z1 z2 E L : Int) : Obj := .cells #[.int .i64 z0, .int .i64 z1, .int .i64 z2, .int .i64 E, .int .i64 L] 57 (0, 0)
abbrev abx (x y : Int) : Obj := .cells #[.int .u16 x, .int .u16 y] 53 (0, 0)
/-- What is held behind k cycles. -/
def CJ (SI : SIT) (w : World) (g : Nat) (c : Cfg) (h : Int) (n : Nat) (e : R4) (k : Nat) (B : List (Nat × Obj)) (W : World) : Prop :=
  ∃ X T a b N, N ≤ 2 * k ∧ (CrewW.has e.b h = true → TopK T n e.d (k : Int)) ∧ SQ SI w X g c h T a b N B W
section
variable {SI : SIT}
set_option maxHeartbeats 32000000 in
set_option maxRecDepth 100000 in
theorem copies_walk (S : Spec SI) (c : Cfg) (D E L : Option Addr) (nd cd ne ce nl cl : Nat) (en : Int) (x y : Int) (hx : 0 ≤ x ∧ x ≤ 65535) (hy : 0 ≤ y ∧ y ≤ 65535) (w : World) (m : CM w c D E L nd cd ne ce nl cl) :
    Calls Try.prog 6 #[.agg #[.int .i64 c.hosts, .int .i64 c.cycle, .int .i64 c.delay, .int .i64 c.window, .int .i64 c.precision, .slice D nd cd, .slice E ne ce, .slice L nl cl, .int .i64 c.queue], .int .i64 en, .agg #[.int .u16 x, .int .u16 y]] w fun r w' => r = .returned (.bool true) ∧ Below w.heap.size w w' := by
  have SH := Lib.hid S
  have HM := Lib.hid m
  have s0 := ((Stay.start w).alloc (cbx c D E L nd cd ne ce nl cl)).alloc (abx x y)
  rw [World.size_alloc] at s0
  have S0 := Lib.hid s0
  have HF := Lib.hid (fun W => fixed_any S W)
  have ND := neq_g 1 0 0 0 ⟨#[]⟩ 0 0
  have KJ := Lib.hid (show ∀ W, Calls Try.prog 12 #[.pointer none, .int .i64 0, .slice none 0 0] W fun r W' => r = .returned (.agg #[.int .i64 1, .int .i64 0, .int .i64 0, .int .i64 0, .string ⟨#[]⟩, .int .i64 0, .int .i64 0]) ∧ Below W.heap.size W W' from fun W => SH.out.judge_nil 0 none 0 0 W)
  clear S m s0
  go_enter Try.func6, Try.ntmps6
  go_wp2_with fail
  refine (HF.out _).mono ?_
  rintro r w1 ⟨rfl, b1⟩
  have S1 := Lib.hid (S0.out.next b1)
  clear b1 S0 HF
  go_wp2_with fail
  refine (SH.out.forget_nil _).mono ?_
  rintro r w2 ⟨rfl, b2⟩
  have S2 := Lib.hid (S1.out.next b2)
  clear b2 S1
  go_wp2_with fail
  refine (SH.out.count_nil _).mono ?_
  rintro r w3 ⟨rfl, b3⟩
  have S3 := Lib.hid (S2.out.next b3)
  clear b3 S2
  go_wp2_with fail
  refine (KJ.out _).mono ?_
  rintro r w4 ⟨rfl, b4⟩
  have S4 := Lib.hid (S3.out.next b4)
  clear b4 S3
  obtain ⟨a0, a1, a2, a3, a4, a5, a6, a7, a8⟩ := PlanW.cells9 (S4.out.at 1 rfl)
  go_wp2_with fail
  refine (ConfW.refCheck_any c D E L nd cd ne ce nl cl _ (HM.out.below S4.out.b)).mono ?_
  rintro r w5 ⟨rfl, b5⟩
  have S5 := Lib.hid (S4.out.next b5)
  clear b5 S4 ND KJ a0 a1 a2 a3 a4 a5 a6 a7 a8
  obtain ⟨a0, a1, a2, a3, a4, a5, a6, a7, a8⟩ := PlanW.cells9 (S5.out.at 1 rfl)
  have hnE : ne ≤ 9223372036854775807 := by have := HM.out.mE; unfold maxLen at this; omega
  by_cases hz : chk c = 0
  case neg =>
    generalize chk c = z at *
    have q1 : (z != 0) = true := by rw [bne_iff_ne]; exact hz
    go_wp2
    go_ret
    exact ⟨rfl, S5.out.b⟩
  have CZ := Lib.hid hz
  rw [hz]
  by_cases h0 : en < 0
  case pos =>
    have q3 : decide (en < 0) = true := decide_eq_true h0
    go_wp2
    go_ret
    exact ⟨rfl, S5.out.b⟩
  have q3 : decide (en < 0) = false := decide_eq_false h0
  by_cases h1 : (ne : Int) ≤ en
  case pos =>
    have q4 : en ≥ (ne : Int) := h1
    have q5 : decide ((ne : Int) ≤ en) = true := decide_eq_true h1
    go_wp2
    go_ret
    exact ⟨rfl, S5.out.b⟩
  have q4 : ¬ en ≥ (ne : Int) := h1
  have q5 : decide ((ne : Int) ≤ en) = false := decide_eq_false h1
  obtain ⟨n, rfl⟩ := Int.eq_ofNat_of_zero_le (Int.not_lt.1 h0)
  obtain ⟨e, he⟩ : ∃ e, c.entries[n]? = some e := ⟨_, List.getElem?_eq_getElem (by rw [← HM.out.nE]; omega)⟩
  have WN := Lib.hid (win_of hz he)
  have q6 : (n : Int) < (ne : Int) := by omega
  obtain ⟨b, off, rfl, l0, l1, l2, l3⟩ := ml_at (HM.out.he.below S5.out.b) he
  have HSP := Lib.hid (PlanW.chk_spans hz)
  have OK := PlanW.ent_ok hz (List.mem_of_getElem? he)
  have EI := PlanW.ent_in OK
  have sp := PlanW.chk_span hz
  have HEC := Lib.hid (show -1125899906842624 ≤ e.c ∧ e.c ≤ 1125899906842624 by have := OK.lo; have := OK.hi; have := OK.tp; omega)
  have KT := Lib.hid (fun W => ConfW.times_any c D (some ⟨b, off, none⟩) L nd cd ne ce nl cl e W HSP.out HEC.out)
  unfold ConfW.tms at KT
  rw [← EI.er, ← EI.la] at KT
  generalize e.c + ConfW.tim e.d - c.precision = z0 at KT
  generalize e.c + ConfW.tim e.d + c.delay + c.precision + c.precision = z2 at KT
  generalize e.c + ConfW.tim e.d + c.delay + c.precision = z1 at KT
  have S6 := Lib.hid (S5.out.alloc (eb4 e))
  have G0 := Lib.hid S5.out.b.size
  clear S5 hz h0 h1 OK EI sp
  have g0 : (0 : Int) ≤ (n : Int) := by omega
  go_upto_region 11 with (fail)
  generalize hw6 : w5.alloc (eb4 e) = w6 at *
  generalize w5.heap.size = q1 at *
  clear hw6 l0 l1 l2 l3 a0 a1 a2 a3 a4 a5 a6 a7 a8
  obtain ⟨a0, a1, a2, a3, a4, a5, a6, a7, a8⟩ := PlanW.cells9 (S6.out.at 2 rfl)
  obtain ⟨e0, e1, e2, e3⟩ := PlanW.cells4 (S6.out.at 0 rfl)
  go_wp2_with fail
  refine (KT.out _).mono ?_
  rintro r w7 ⟨rfl, b7⟩
  have lo := WN.out.t0
  have lw := WN.out.w
  have lwd := WN.out.wd
  have lhi := WN.out.hi
  have lcy := WN.out.cy
  have LW := Lib.hid (fun (k u : Int) hk hu => land_win WN.out (k := k) (u := u) hk hu)
  have RW := Lib.hid (fun x => rem_win WN.out x)
  generalize ear c e = E at *
  generalize lat c e = F at *
  have S8 := Lib.hid ((S6.out.next b7).alloc (tbx z0 z1 z2 E F))
  have G1 := Lib.hid (S6.out.next b7).b.size
  clear b7 S6 KT a0 a1 a2 a3 a4 a5 a6 a7 a8 e0 e1 e2 e3
  go_upto_region 12 with (fail)
  generalize hw8 : w7.alloc (tbx z0 z1 z2 E F) = w8 at *
  generalize w7.heap.size = q2 at *
  clear hw8
  obtain ⟨t0, t1, t2, t3, t4⟩ := cells5 (S8.out.at 0 rfl)
  obtain ⟨e0, e1, e2, e3⟩ := PlanW.cells4 (S8.out.at 1 rfl)
  obtain ⟨wd, hwd⟩ : ∃ z, F - E = z := ⟨_, rfl⟩
  have i1 : IntKind.i64.wrap (F - E) = wd := by rw [IntKind.wrap_i64]; omega
  have i2 : wrap64 (F - E) = wd := by unfold wrap64; omega
  have i3 : IntKind.i64.wrap (wd + 1) = wd + 1 := by rw [IntKind.wrap_i64]; omega
  have i4 : wrap64 (wd + 1) = wd + 1 := by unfold wrap64; omega
  have R1 : rightD 1 (n : Int) 0 (FrameW.bs ⟨#[]⟩) e.d := by have := WN.out.n16; have := WN.out.sz; unfold rightD; simp [FrameW.bs]; omega
  have HD := Lib.hid (fun W => FrameW.refData_ok 1 (n : Int) 0 ⟨#[]⟩ e.d W R1)
  obtain ⟨ea, da⟩ := dt_dat R1
  have la : (dat 1 (n : Int) 0 (FrameW.bs ⟨#[]⟩) e.d).length ≤ 9223372036854775807 := by have := FrameW.dat_len R1; have := WN.out.sz; omega
  have lp : 0 < (dat 1 (n : Int) 0 (FrameW.bs ⟨#[]⟩) e.d).length := by have := FrameW.dat_len R1; have := WN.out.sz; omega
  generalize dat 1 (n : Int) 0 (FrameW.bs ⟨#[]⟩) e.d = ll at *
  have EA := Lib.hid ea
  have DA := Lib.hid da
  have LP := Lib.hid lp
  have LA := Lib.hid la
  clear R1 ea da la lp
  go_wp2_with fail
  refine (HD.out _).mono ?_
  rintro r w9 ⟨v9, rfl, o9, b9⟩
  obtain ⟨qb, cpl, oj, rfl, hb, hcp, hq, hoj⟩ := ob_row o9 LP.out
  have S9 := Lib.hid ((S8.out.next b9).add hoj)
  have HBB := Lib.hid (fun (W : World) (z : W.heap[qb]? = some oj) => bl_box hb hoj z)
  have HLL := Lib.hid (And.intro LA.out hcp)
  have HQB := Lib.hid (Nat.le_trans S8.out.b.size hq)
  clear o9 b9 hb hcp hq hoj S8 HD LP LA t0 t1 t2 t3 t4 e0 e1 e2 e3 i1 i2 i3 i4
  have HGE := Lib.hid (show ∀ z ∈ [(qb, oj), (q2, tbx z0 z1 z2 E F), (q1, eb4 e), (w.heap.size + 1, abx x y), (w.heap.size, cbx c D (some ⟨b, off, none⟩) L nd cd ne ce nl cl)], w.heap.size ≤ z.1 from fun z hz => by
    have := G0.out
    have := G1.out
    have := HQB.out
    simp only [List.mem_cons, List.not_mem_nil, or_false] at hz
    rcases hz with rfl | rfl | rfl | rfl | rfl <;> dsimp only <;> omega)
  have hho := PlanW.chk_hosts CZ.out
  obtain ⟨a0, a1, a2, a3, a4, a5, a6, a7, a8⟩ := PlanW.cells9 (S9.out.at 4 rfl)
  go_wp2
  clear a0 a1 a2 a3 a4 a5 a6 a7 a8
  go_loopw [76] (fun iv wr => ∃ (h : Nat), (h : Int) ≤ c.hosts ∧ iv = .int .i64 h ∧ Hid (Stay w [(qb, oj), (q2, tbx z0 z1 z2 E F), (q1, eb4 e), (w.heap.size + 1, abx x y), (w.heap.size, cbx c D (some ⟨b, off, none⟩) L nd cd ne ce nl cl)] wr)) (fun iv _ => (c.hosts - intOf iv).toNat)
  case atStart => exact ⟨0, by omega, rfl, S9⟩
  case round =>
    clear S9
    obtain ⟨h, hh, rfl, SS⟩ := hrel
    obtain ⟨a0, a1, a2, a3, a4, a5, a6, a7, a8⟩ := PlanW.cells9 (SS.out.at 4 rfl)
    by_cases hlt : (h : Int) < c.hosts
    case neg =>
      go_wp2
      go_ret
      exact ⟨rfl, SS.out.b⟩
    go_wp2_with fail
    refine (SH.out.new c D (some ⟨b, off, none⟩) L nd cd ne ce nl cl (h : Int) _ (HM.out.below SS.out.b) ⟨CZ.out, by omega, hlt⟩).mono ?_
    rintro r w10 ⟨g, X, rfl, F10, b10⟩
    have J0 := Lib.hid (show CJ SI w g c (h : Int) n e 0 [(qb, oj), (q2, tbx z0 z1 z2 E F), (q1, eb4 e), (w.heap.size + 1, abx x y), (w.heap.size, cbx c D (some ⟨b, off, none⟩) L nd cd ne ce nl cl)] w10 from ⟨X, [], 0, 0, 0, Nat.le_refl _, fun _ => topk_nil n e.d, sq_new SH.out F10 b10 SS.out HGE.out⟩)
    clear F10 b10 SS a0 a1 a2 a3 a4 a5 a6 a7 a8
    go_wp2
    go_loopw [85] (fun iv wr => ∃ (k : Nat), k ≤ 3 ∧ iv = .int .i64 k ∧ Hid (CJ SI w g c (h : Int) n e k [(qb, oj), (q2, tbx z0 z1 z2 E F), (q1, eb4 e), (w.heap.size + 1, abx x y), (w.heap.size, cbx c D (some ⟨b, off, none⟩) L nd cd ne ce nl cl)] wr)) (fun iv _ => 3 - (intOf iv).toNat)
    case atStart => exact ⟨0, by omega, rfl, J0⟩
    case round =>
      clear J0
      obtain ⟨k, hk, rfl, HC⟩ := hrel
      obtain ⟨X, T, a, b', N, hN, hT, Q0⟩ := HC.out
      have Q1 := Lib.hid Q0
      have HNI := Lib.hid hN
      have HT := Lib.hid hT
      clear Q0 HC hN hT
      by_cases hk3 : k < 3
      case neg =>
        obtain rfl : k = 3 := by omega
        have SS := Lib.hid (show Stay w [(qb, oj), (q2, tbx z0 z1 z2 E F), (q1, eb4 e), (w.heap.size + 1, abx x y), (w.heap.size, cbx c D (some ⟨b, off, none⟩) L nd cd ne ce nl cl)] wr from ⟨Q1.out.b, fun z hz => (Q1.out.bx z hz).1⟩)
        clear Q1
        go_wp2
        go_roundw
        case rel => exact ⟨h + 1, by omega, by go_num, SS⟩
        case measure => simp [intOf]; omega
      have hk3' : (k : Int) < 3 := by omega
      have hkb : 0 ≤ (k : Int) * c.cycle ∧ (k : Int) * c.cycle ≤ 2 * 1073741824 := by
        have : k = 0 ∨ k = 1 ∨ k = 2 := by omega
        rcases this with rfl | rfl | rfl <;> omega
      have lw1 := LW.out (k : Int) (x % (F - E + 1)) ⟨by omega, by omega⟩ (RW.out x)
      have lw2 := LW.out (k : Int) (y % (F - E + 1)) ⟨by omega, by omega⟩ (RW.out y)
      have rw1 := RW.out x
      have rw2 := RW.out y
      rw [hwd] at lw1 lw2 rw1 rw2
      obtain ⟨km, hkm⟩ : ∃ z, (k : Int) * c.cycle = z := ⟨_, rfl⟩
      rw [hkm] at lw1 lw2 hkb
      obtain ⟨ke, hke⟩ : ∃ z, km + E = z := ⟨_, rfl⟩
      rw [hke] at lw1 lw2
      obtain ⟨u1, hu1⟩ : ∃ z, x % (wd + 1) = z := ⟨_, rfl⟩
      obtain ⟨u2, hu2⟩ : ∃ z, y % (wd + 1) = z := ⟨_, rfl⟩
      rw [hu1] at lw1 rw1
      rw [hu2] at lw2 rw2
      obtain ⟨t1, ht1⟩ : ∃ z, ke + u1 = z := ⟨_, rfl⟩
      obtain ⟨t2, ht2⟩ : ∃ z, ke + u2 = z := ⟨_, rfl⟩
      rw [ht1] at lw1
      rw [ht2] at lw2
      have i1 : IntKind.i64.wrap ((k : Int) * c.cycle) = km := by rw [hkm, IntKind.wrap_i64]; omega
      have i2 : wrap64 ((k : Int) * c.cycle) = km := by rw [hkm]; unfold wrap64; omega
      have i3 : IntKind.i64.wrap (km + E) = ke := by rw [IntKind.wrap_i64]; omega
      have i4 : wrap64 (km + E) = ke := by unfold wrap64; omega
      have i5 : IntKind.i64.wrap (ke + u1) = t1 := by rw [IntKind.wrap_i64]; omega
      have i6 : wrap64 (ke + u1) = t1 := by unfold wrap64; omega
      have i7 : IntKind.i64.wrap (ke + u2) = t2 := by rw [IntKind.wrap_i64]; omega
      have i8 : wrap64 (ke + u2) = t2 := by unfold wrap64; omega
      have j1 : IntKind.i64.wrap x = x := by rw [IntKind.wrap_i64]; omega
      have j2 : wrap64 x = x := by unfold wrap64; omega
      have j3 : IntKind.i64.wrap y = y := by rw [IntKind.wrap_i64]; omega
      have j4 : wrap64 y = y := by unfold wrap64; omega
      have j5 : Int.tmod x (wd + 1) = u1 := by rw [Int.tmod_eq_emod_of_nonneg hx.1]; exact hu1
      have j6 : Int.tmod y (wd + 1) = u2 := by rw [Int.tmod_eq_emod_of_nonneg hy.1]; exact hu2
      have j7 : ¬ wd + 1 = 0 := by omega
      have j8 : ((wd + 1) == 0) = false := by rw [beq_eq_false_iff_ne]; exact j7
      have n1 : IntKind.i64.wrap u1 = u1 := by rw [IntKind.wrap_i64]; omega
      have n2 : wrap64 u1 = u1 := by unfold wrap64; omega
      have n3 : IntKind.i64.wrap u2 = u2 := by rw [IntKind.wrap_i64]; omega
      have n4 : wrap64 u2 = u2 := by unfold wrap64; omega
      obtain ⟨v1, v2, T1, T2, hv1, hv2, hec⟩ : ∃ v1 v2 T1 T2, (gd c (h : Int) T t1 ll = v1 ∧ nL c (h : Int) T t1 ll = T1) ∧ (gd c (h : Int) T1 t2 ll = v2 ∧ nL c (h : Int) T1 t2 ll = T2) ∧ ((CrewW.has e.b (h : Int) = false ∧ v1 = ⟨1, 0⟩ ∧ v2 = ⟨1, 0⟩) ∨ (CrewW.has e.b (h : Int) = true ∧ v1 = ⟨0, (k : Int)⟩ ∧ v2 = ⟨3, (k : Int)⟩ ∧ TopK T2 n e.d ((k + 1 : Nat) : Int))) := by
        cases hc9 : CrewW.has e.b (h : Int) with
        | false => exact ⟨_, _, T, T, copy_no WN.out lw1 hc9 EA.out DA.out, copy_no WN.out lw2 hc9 EA.out DA.out, Or.inl ⟨rfl, rfl, rfl⟩⟩
        | true =>
          have o1 := copy_one WN.out lw1 (by omega) hc9 EA.out DA.out (HT.out hc9)
          have o2 := copy_two WN.out lw2 (by omega) hc9 EA.out DA.out (topk_snoc (HT.out hc9))
          exact ⟨_, _, _, _, o1, o2, Or.inr ⟨rfl, rfl, rfl, by rw [show ((k + 1 : Nat) : Int) = (k : Int) + 1 by omega]; exact topk_snoc (HT.out hc9)⟩⟩
      have HV1 := Lib.hid hv1
      have HV2 := Lib.hid hv2
      have HEC := Lib.hid hec
      have HN1 := Lib.hid (show N ≤ 140737488355327 by have := HNI.out; omega)
      have HN2 := Lib.hid (show N + 1 ≤ 140737488355327 by have := HNI.out; omega)
      have TC := Lib.hid (Q1.out.next SH.out (Below.refl _ _).drew)
      clear hv1 hv2 hec lw1 lw2 rw1 rw2 hkm hke hu1 hu2 ht1 ht2 Q1 HT
      obtain ⟨d, hd⟩ : ∃ d, d = dE n e.d := ⟨_, rfl⟩
      have HDD := Lib.hid (show dt ll = d by rw [hd]; exact DA.out)
      clear hd
      go_wp2
      apply wp_vv (S := fun u v W => ∃ ka kb, u = .pointer (some ⟨ka, 0, none⟩) ∧ v = .pointer (some ⟨kb, 0, none⟩) ∧ W.heap[ka]? = some (gbx v1 d 41) ∧ W.heap[kb]? = some (gbx v2 d 41) ∧ ∃ X' a' b9, SQ SI w X' g c (h : Int) T2 a' b9 (N + 1 + 1) [(qb, oj), (q2, tbx z0 z1 z2 E F), (q1, eb4 e), (w.heap.size + 1, abx x y), (w.heap.size, cbx c D (some ⟨b, off, none⟩) L nd cd ne ce nl cl)] W)
      case h =>
        refine wp_region_noPanic ?_
        refine wp_region_held_drew (S := fun Z : World => Z.heap[w.heap.size]? = some (cbx c D (some ⟨b, off, none⟩) L nd cd ne ce nl cl) ∧ Z.heap[q2]? = some (tbx z0 z1 z2 E F) ∧ Z.heap[w.heap.size + 1]? = some (abx x y)) (by kernel_rfl) (⟨TC.out.at 4 rfl, TC.out.at 1 rfl, TC.out.at 3 rfl⟩) (fun hHeld => ?_)
        refine takeR 0 (some 88) ?_ ?_ ?_; rotate_left; (focus (intros; go_simp; (try with_reducible rfl)))
        simp only [aput, lset]
        refine takeR 1 (some 89) ?_ ?_ ?_; rotate_left; (focus (intros; go_simp; (try with_reducible rfl)))
        simp only [aput, lset]
        refine takeR 2 (some 90) ?_ ?_ ?_; rotate_left; (focus (intros; go_simp; (try with_reducible rfl)))
        simp only [aput, lset]
        refine takeR 3 (some 91) ?_ ?_ ?_; rotate_left; (focus (intro w hSw; (try dsimp only at hSw); obtain ⟨a0, a1, a2, a3, a4, a5, a6, a7, a8⟩ := PlanW.cells9 hSw.1; obtain ⟨s0, s1, s2, s3, s4⟩ := cells5 hSw.2.1; obtain ⟨u0, u1⟩ := cells2 hSw.2.2; go_simp; (try with_reducible rfl)))
        simp only [aput, lset]
        refine takeR 4 (some 92) ?_ ?_ ?_; rotate_left; (focus (intros; go_simp; (try with_reducible rfl)))
        simp only [aput, lset]
        refine takeR 5 (some 93) ?_ ?_ ?_; rotate_left; (focus (intros; go_simp; (try with_reducible rfl)))
        simp only [aput, lset]
        refine takeR 6 (some 94) ?_ ?_ ?_; rotate_left; (focus (intro w hSw; (try dsimp only at hSw); obtain ⟨a0, a1, a2, a3, a4, a5, a6, a7, a8⟩ := PlanW.cells9 hSw.1; obtain ⟨s0, s1, s2, s3, s4⟩ := cells5 hSw.2.1; obtain ⟨u0, u1⟩ := cells2 hSw.2.2; go_simp; (try with_reducible rfl)))
        simp only [aput, lset]
        refine takeR 7 (some 95) ?_ ?_ ?_; rotate_left; (focus (intros; go_simp; (try with_reducible rfl)))
        simp only [aput, lset]
        refine takeR 8 (some 96) ?_ ?_ ?_; rotate_left; (focus (intros; go_simp; (try with_reducible rfl)))
        simp only [aput, lset]
        refine takeR 9 (some 97) ?_ ?_ ?_; rotate_left; (focus (intro w hSw; (try dsimp only at hSw); obtain ⟨a0, a1, a2, a3, a4, a5, a6, a7, a8⟩ := PlanW.cells9 hSw.1; obtain ⟨s0, s1, s2, s3, s4⟩ := cells5 hSw.2.1; obtain ⟨u0, u1⟩ := cells2 hSw.2.2; go_simp; (try with_reducible rfl)))
        simp only [aput, lset]
        refine takeR 10 (some 98) ?_ ?_ ?_; rotate_left; (focus (intros; go_simp; (try with_reducible rfl)))
        simp only [aput, lset]
        refine takeR 11 (some 99) ?_ ?_ ?_; rotate_left; (focus (intros; go_simp; (try with_reducible rfl)))
        simp only [aput, lset]
        refine takeR 12 (some 100) ?_ ?_ ?_; rotate_left; (focus (intros; go_simp; (try with_reducible rfl)))
        simp only [aput, lset]
        refine takeR 13 (some 101) ?_ ?_ ?_; rotate_left; (focus (intros; go_simp; (try with_reducible rfl)))
        simp only [aput, lset]
        refine takeR 14 (some 102) ?_ ?_ ?_; rotate_left; (focus (intros; go_simp; (try with_reducible rfl)))
        simp only [aput, lset]
        refine takeR 16 (some 104) ?_ ?_ ?_; rotate_left; (focus (intros; go_simp; (try with_reducible rfl)))
        simp only [aput, lset]
        refine takeR 17 (some 105) ?_ ?_ ?_; rotate_left; (focus (intros; go_simp; (try with_reducible rfl)))
        simp only [aput, lset]
        refine takeR 18 (some 106) ?_ ?_ ?_; rotate_left; (focus (intros; go_simp; (try with_reducible rfl)))
        simp only [aput, lset]
        refine takeR 19 (some 107) ?_ ?_ ?_; rotate_left; (focus (intro w hSw; (try dsimp only at hSw); obtain ⟨a0, a1, a2, a3, a4, a5, a6, a7, a8⟩ := PlanW.cells9 hSw.1; obtain ⟨s0, s1, s2, s3, s4⟩ := cells5 hSw.2.1; obtain ⟨u0, u1⟩ := cells2 hSw.2.2; go_simp; (try with_reducible rfl)))
        simp only [aput, lset]
        refine takeR 20 (some 108) ?_ ?_ ?_; rotate_left; (focus (intros; go_simp; (try with_reducible rfl)))
        simp only [aput, lset]
        refine takeR 21 (some 109) ?_ ?_ ?_; rotate_left; (focus (intros; go_simp; (try with_reducible rfl)))
        simp only [aput, lset]
        refine takeR 22 (some 110) ?_ ?_ ?_; rotate_left; (focus (intro w hSw; (try dsimp only at hSw); obtain ⟨a0, a1, a2, a3, a4, a5, a6, a7, a8⟩ := PlanW.cells9 hSw.1; obtain ⟨s0, s1, s2, s3, s4⟩ := cells5 hSw.2.1; obtain ⟨u0, u1⟩ := cells2 hSw.2.2; go_simp; (try with_reducible rfl)))
        simp only [aput, lset]
        refine takeR 23 (some 111) ?_ ?_ ?_; rotate_left; (focus (intros; go_simp; (try with_reducible rfl)))
        simp only [aput, lset]
        refine takeR 24 (some 112) ?_ ?_ ?_; rotate_left; (focus (intros; go_simp; (try with_reducible rfl)))
        simp only [aput, lset]
        refine takeR 25 (some 113) ?_ ?_ ?_; rotate_left; (focus (intro w hSw; (try dsimp only at hSw); obtain ⟨a0, a1, a2, a3, a4, a5, a6, a7, a8⟩ := PlanW.cells9 hSw.1; obtain ⟨s0, s1, s2, s3, s4⟩ := cells5 hSw.2.1; obtain ⟨u0, u1⟩ := cells2 hSw.2.2; go_simp; (try with_reducible rfl)))
        simp only [aput, lset]
        refine takeR 26 (some 114) ?_ ?_ ?_; rotate_left; (focus (intros; go_simp; (try with_reducible rfl)))
        simp only [aput, lset]
        refine takeR 27 (some 115) ?_ ?_ ?_; rotate_left; (focus (intros; go_simp; (try with_reducible rfl)))
        simp only [aput, lset]
        refine takeR 28 (some 116) ?_ ?_ ?_; rotate_left; (focus (intros; go_simp; (try with_reducible rfl)))
        simp only [aput, lset]
        refine takeR 29 (some 117) ?_ ?_ ?_; rotate_left; (focus (intros; go_simp; (try with_reducible rfl)))
        simp only [aput, lset]
        refine takeR 30 (some 118) ?_ ?_ ?_; rotate_left; (focus (intros; go_simp; (try with_reducible rfl)))
        simp only [aput, lset]
        refine wpAnyH_ready (rs := [15, 32, 33]) (by kernel_rfl) (by simp) ?_
        refine AllReadyH.cons (o := ⟨some 103, _, _, _, _, _⟩) rfl (fun K hK => ?_) ?_
        · rw [if_pos (by kernel_rfl)]
          go_simp
          refine (SH.out.judge t1 _ ll cpl TC.out.p HN1.out (HBB.out _ (TC.out.at 0 rfl)) HLL.out.1 HLL.out.2).mono ?_
          rintro r15 w15 ⟨X15, rfl, f9, u9⟩
          have TC := Lib.hid (TC.out.turn SH.out f9 u9)
          rw [HV1.out.1, HV1.out.2] at TC
          rw [HV1.out.1, HDD.out]
          have hS9 : _ ∧ _ ∧ _ := ⟨TC.out.at 4 rfl, TC.out.at 1 rfl, TC.out.at 3 rfl⟩
          clear f9 u9
          go_simp
          refine hK.out _ _ (by first | with_reducible exact hS2 | with_reducible exact hS9 | assumption) (fun hHeld => ?_)
          clear hK K
          refine wpAnyH_ready (rs := [31, 32, 33]) (by kernel_rfl) (by simp) ?_
          refine AllReadyH.cons (o := ⟨some 119, _, _, _, _, _⟩) rfl (fun K hK => ?_) ?_
          · rw [if_pos (by kernel_rfl)]
            go_simp
            refine (SH.out.judge t2 _ ll cpl TC.out.p HN2.out (HBB.out _ (TC.out.at 0 rfl)) HLL.out.1 HLL.out.2).mono ?_
            rintro r31 w31 ⟨X31, rfl, f9, u9⟩
            have TC := Lib.hid (TC.out.turn SH.out f9 u9)
            rw [HV2.out.1, HV2.out.2] at TC
            rw [HV2.out.1, HDD.out]
            have hS9 : _ ∧ _ ∧ _ := ⟨TC.out.at 4 rfl, TC.out.at 1 rfl, TC.out.at 3 rfl⟩
            clear f9 u9
            go_simp
            refine hK.out _ _ (by first | with_reducible exact hS2 | with_reducible exact hS9 | assumption) (fun hHeld => ?_)
            clear hK K
            refine wpAnyH_ready (rs := [32, 33]) (by kernel_rfl) (by simp) ?_
            refine AllReadyH.cons (o := ⟨some 18, _, _, _, _, _⟩) rfl (fun K hK => ?_) ?_
            · rw [if_pos (by kernel_rfl)]
              go_simp
              have KP32 := Lib.hid (show ∀ zz ∈ [(qb, oj), (q2, tbx z0 z1 z2 E F), (q1, eb4 e), (w.heap.size + 1, abx x y), (w.heap.size, cbx c D (some ⟨b, off, none⟩) L nd cd ne ce nl cl)], zz.1 ≠ w31.heap.size from fun zz hy => Nat.ne_of_lt (by first | exact lt_of_heap (TC.out.bx zz hy).1 | (have := lt_of_heap (TC.out.bx zz hy).1; rw [World.size_alloc] at this; exact this)))
              have TC := Lib.hid (sq_ren (TC.out.box SH.out gz) (j' := w31.heap.size) (by first | rfl | exact World.size_alloc _ _))
              have hS2 : _ ∧ _ ∧ _ := ⟨TC.out.at 5 rfl, TC.out.at 2 rfl, TC.out.at 4 rfl⟩
              go_simp
              refine hK.out _ _ (by first | with_reducible exact hS2 | with_reducible exact hS9 | assumption) (fun hHeld => ?_)
              clear hK K
              refine wpAnyH_ready (rs := [33]) (by kernel_rfl) (by simp) ?_
              refine AllReadyH.cons (o := ⟨some 19, _, _, _, _, _⟩) rfl (fun K hK => ?_) AllReadyH.nil
              rw [if_pos (by kernel_rfl)]
              go_simp
              have KM := Lib.hid (show w31.heap.size ≠ w31.heap.size + 1 from Nat.ne_of_lt (by first | exact lt_of_heap (TC.out.at 0 rfl) | (have := lt_of_heap (TC.out.at 0 rfl); rw [World.size_alloc] at this; exact this)))
              have KP33 := Lib.hid (show ∀ zz ∈ [(qb, oj), (q2, tbx z0 z1 z2 E F), (q1, eb4 e), (w.heap.size + 1, abx x y), (w.heap.size, cbx c D (some ⟨b, off, none⟩) L nd cd ne ce nl cl)], zz.1 ≠ w31.heap.size + 1 from fun zz hy => Nat.ne_of_lt (by first | exact lt_of_heap (TC.out.bx zz (List.mem_cons_of_mem _ hy)).1 | (have := lt_of_heap (TC.out.bx zz (List.mem_cons_of_mem _ hy)).1; rw [World.size_alloc] at this; exact this)))
              have TC := Lib.hid (sq_ren (TC.out.box SH.out gz) (j' := w31.heap.size + 1) (by first | rfl | exact World.size_alloc _ _))
              have hS2 : _ ∧ _ ∧ _ := ⟨TC.out.at 6 rfl, TC.out.at 3 rfl, TC.out.at 5 rfl⟩
              go_simp
              refine hK.out _ _ (by first | with_reducible exact hS2 | with_reducible exact hS9 | assumption) (fun hHeld => ?_)
              clear hK K
              generalize (World.alloc (World.alloc w31 gz) gz) = wz at *
              refine wpAnyH_ready (rs := [34]) (by kernel_rfl) (by simp) ?_
              refine AllReadyH.cons (o := ⟨none, _, _, _, _, _⟩) rfl (fun K hK => ?_) AllReadyH.nil
              rw [if_pos (by kernel_rfl)]
              go_simp
              have TP := Lib.hid (two7 SH.out (sq_swap TC.out) KM.out KP32.out KP33.out v1 v2 d)
              obtain ⟨y0, y1, y2, y3, y4, y5, y6⟩ := cells7 (TC.out.at 1 rfl)
              obtain ⟨f0, f1, f2, f3, f4, f5, f6⟩ := frozen7 (TC.out.at 1 rfl)
              have hS2 : _ ∧ _ ∧ _ := ⟨TP.out.1.at 6 rfl, TP.out.1.at 3 rfl, TP.out.1.at 5 rfl⟩
              unfold set7 at hS2 TP
              go_simp
              refine hK.out _ _ (by first | with_reducible exact hS2 | with_reducible exact hS9 | assumption) (fun hHeld => ?_)
              clear hK K
              refine wpAnyH_ready (rs := [35]) (by kernel_rfl) (by simp) ?_
              refine AllReadyH.cons (o := ⟨none, _, _, _, _, _⟩) rfl (fun K hK => ?_) AllReadyH.nil
              rw [if_pos (by kernel_rfl)]
              go_simp
              clear y0 y1 y2 y3 y4 y5 y6 f0 f1 f2 f3 f4 f5 f6
              have km1 := KM.out
              have km2 := fun e => km1 (Eq.symm e)
              obtain ⟨y0, y1, y2, y3, y4, y5, y6⟩ := cells7 (TP.out.1.at 1 rfl)
              obtain ⟨f0, f1, f2, f3, f4, f5, f6⟩ := frozen7 (TP.out.1.at 1 rfl)
              obtain ⟨q0, q1, q2, q3, q4, q5, q6⟩ := cells7 (TC.out.at 0 rfl)
              obtain ⟨g0, g1, g2, g3, g4, g5, g6⟩ := frozen7 (TC.out.at 0 rfl)
              have hS2 : _ ∧ _ ∧ _ := ⟨TP.out.2.at 6 rfl, TP.out.2.at 3 rfl, TP.out.2.at 5 rfl⟩
              go_simp
              refine hK.out _ _ (by first | with_reducible exact hS2 | with_reducible exact hS9 | assumption) (fun hHeld => ?_)
              clear hK K
              refine wpAnyH_done (by kernel_rfl) ?_ _
              refine NoPanic.normal ?_
              generalize hpu : Value.pointer (some ⟨w31.heap.size, 0, none⟩) = pu
              generalize hpv : Value.pointer (some ⟨w31.heap.size + 1, 0, none⟩) = pv
              exact ⟨pu, pv, rfl, rfl, _, _, hpu.symm, hpv.symm, TP.out.2.at 0 rfl, TP.out.2.at 1 rfl, _, _, _, TP.out.2.sub (fun x hx => List.mem_cons_of_mem _ (List.mem_cons_of_mem _ hx))⟩
            refine AllReadyH.cons (o := ⟨some 19, _, _, _, _, _⟩) rfl (fun K hK => ?_) AllReadyH.nil
            rw [if_pos (by kernel_rfl)]
            go_simp
            have KP33 := Lib.hid (show ∀ zz ∈ [(qb, oj), (q2, tbx z0 z1 z2 E F), (q1, eb4 e), (w.heap.size + 1, abx x y), (w.heap.size, cbx c D (some ⟨b, off, none⟩) L nd cd ne ce nl cl)], zz.1 ≠ w31.heap.size from fun zz hy => Nat.ne_of_lt (by first | exact lt_of_heap (TC.out.bx zz hy).1 | (have := lt_of_heap (TC.out.bx zz hy).1; rw [World.size_alloc] at this; exact this)))
            have TC := Lib.hid (sq_ren (TC.out.box SH.out gz) (j' := w31.heap.size) (by first | rfl | exact World.size_alloc _ _))
            have hS2 : _ ∧ _ ∧ _ := ⟨TC.out.at 5 rfl, TC.out.at 2 rfl, TC.out.at 4 rfl⟩
            go_simp
            refine hK.out _ _ (by first | with_reducible exact hS2 | with_reducible exact hS9 | assumption) (fun hHeld => ?_)
            clear hK K
            refine wpAnyH_ready (rs := [32]) (by kernel_rfl) (by simp) ?_
            refine AllReadyH.cons (o := ⟨some 18, _, _, _, _, _⟩) rfl (fun K hK => ?_) AllReadyH.nil
            rw [if_pos (by kernel_rfl)]
            go_simp
            have KM := Lib.hid (show w31.heap.size ≠ w31.heap.size + 1 from Nat.ne_of_lt (by first | exact lt_of_heap (TC.out.at 0 rfl) | (have := lt_of_heap (TC.out.at 0 rfl); rw [World.size_alloc] at this; exact this)))
            have KP32 := Lib.hid (show ∀ zz ∈ [(qb, oj), (q2, tbx z0 z1 z2 E F), (q1, eb4 e), (w.heap.size + 1, abx x y), (w.heap.size, cbx c D (some ⟨b, off, none⟩) L nd cd ne ce nl cl)], zz.1 ≠ w31.heap.size + 1 from fun zz hy => Nat.ne_of_lt (by first | exact lt_of_heap (TC.out.bx zz (List.mem_cons_of_mem _ hy)).1 | (have := lt_of_heap (TC.out.bx zz (List.mem_cons_of_mem _ hy)).1; rw [World.size_alloc] at this; exact this)))
            have TC := Lib.hid (sq_ren (TC.out.box SH.out gz) (j' := w31.heap.size + 1) (by first | rfl | exact World.size_alloc _ _))
            have hS2 : _ ∧ _ ∧ _ := ⟨TC.out.at 6 rfl, TC.out.at 3 rfl, TC.out.at 5 rfl⟩
            go_simp
            refine hK.out _ _ (by first | with_reducible exact hS2 | with_reducible exact hS9 | assumption) (fun hHeld => ?_)
            clear hK K
            generalize (World.alloc (World.alloc w31 gz) gz) = wz at *
            refine wpAnyH_ready (rs := [34]) (by kernel_rfl) (by simp) ?_
            refine AllReadyH.cons (o := ⟨none, _, _, _, _, _⟩) rfl (fun K hK => ?_) AllReadyH.nil
            rw [if_pos (by kernel_rfl)]
            go_simp
            have TP := Lib.hid (two7 SH.out TC.out (fun e => KM.out e.symm) KP32.out KP33.out v1 v2 d)
            obtain ⟨y0, y1, y2, y3, y4, y5, y6⟩ := cells7 (TC.out.at 0 rfl)
            obtain ⟨f0, f1, f2, f3, f4, f5, f6⟩ := frozen7 (TC.out.at 0 rfl)
            have hS2 : _ ∧ _ ∧ _ := ⟨TP.out.1.at 6 rfl, TP.out.1.at 3 rfl, TP.out.1.at 5 rfl⟩
            unfold set7 at hS2 TP
            go_simp
            refine hK.out _ _ (by first | with_reducible exact hS2 | with_reducible exact hS9 | assumption) (fun hHeld => ?_)
            clear hK K
            refine wpAnyH_ready (rs := [35]) (by kernel_rfl) (by simp) ?_
            refine AllReadyH.cons (o := ⟨none, _, _, _, _, _⟩) rfl (fun K hK => ?_) AllReadyH.nil
            rw [if_pos (by kernel_rfl)]
            go_simp
            clear y0 y1 y2 y3 y4 y5 y6 f0 f1 f2 f3 f4 f5 f6
            have km1 := KM.out
            have km2 := fun e => km1 (Eq.symm e)
            obtain ⟨y0, y1, y2, y3, y4, y5, y6⟩ := cells7 (TP.out.1.at 1 rfl)
            obtain ⟨f0, f1, f2, f3, f4, f5, f6⟩ := frozen7 (TP.out.1.at 1 rfl)
            obtain ⟨q0, q1, q2, q3, q4, q5, q6⟩ := cells7 (TC.out.at 1 rfl)
            obtain ⟨g0, g1, g2, g3, g4, g5, g6⟩ := frozen7 (TC.out.at 1 rfl)
            have hS2 : _ ∧ _ ∧ _ := ⟨TP.out.2.at 6 rfl, TP.out.2.at 3 rfl, TP.out.2.at 5 rfl⟩
            go_simp
            refine hK.out _ _ (by first | with_reducible exact hS2 | with_reducible exact hS9 | assumption) (fun hHeld => ?_)
            clear hK K
            refine wpAnyH_done (by kernel_rfl) ?_ _
            refine NoPanic.normal ?_
            generalize hpu : Value.pointer (some ⟨w31.heap.size + 1, 0, none⟩) = pu
            generalize hpv : Value.pointer (some ⟨w31.heap.size, 0, none⟩) = pv
            exact ⟨pu, pv, rfl, rfl, _, _, hpu.symm, hpv.symm, TP.out.2.at 0 rfl, TP.out.2.at 1 rfl, _, _, _, TP.out.2.sub (fun x hx => List.mem_cons_of_mem _ (List.mem_cons_of_mem _ hx))⟩
          refine AllReadyH.cons (o := ⟨some 18, _, _, _, _, _⟩) rfl (fun K hK => ?_) ?_
          · rw [if_pos (by kernel_rfl)]
            go_simp
            have KP32 := Lib.hid (show ∀ zz ∈ [(qb, oj), (q2, tbx z0 z1 z2 E F), (q1, eb4 e), (w.heap.size + 1, abx x y), (w.heap.size, cbx c D (some ⟨b, off, none⟩) L nd cd ne ce nl cl)], zz.1 ≠ w15.heap.size from fun zz hy => Nat.ne_of_lt (by first | exact lt_of_heap (TC.out.bx zz hy).1 | (have := lt_of_heap (TC.out.bx zz hy).1; rw [World.size_alloc] at this; exact this)))
            have TC := Lib.hid (sq_ren (TC.out.box SH.out gz) (j' := w15.heap.size) (by first | rfl | exact World.size_alloc _ _))
            have hS2 : _ ∧ _ ∧ _ := ⟨TC.out.at 5 rfl, TC.out.at 2 rfl, TC.out.at 4 rfl⟩
            go_simp
            refine hK.out _ _ (by first | with_reducible exact hS2 | with_reducible exact hS9 | assumption) (fun hHeld => ?_)
            clear hK K
            refine wpAnyH_ready (rs := [31, 33]) (by kernel_rfl) (by simp) ?_
            refine AllReadyH.cons (o := ⟨some 119, _, _, _, _, _⟩) rfl (fun K hK => ?_) ?_
            · rw [if_pos (by kernel_rfl)]
              go_simp
              refine (SH.out.judge t2 _ ll cpl TC.out.p HN2.out (HBB.out _ (TC.out.at 1 rfl)) HLL.out.1 HLL.out.2).mono ?_
              rintro r31 w31 ⟨X31, rfl, f9, u9⟩
              have TC := Lib.hid (TC.out.turn SH.out f9 u9)
              rw [HV2.out.1, HV2.out.2] at TC
              rw [HV2.out.1, HDD.out]
              have hS9 : _ ∧ _ ∧ _ := ⟨TC.out.at 5 rfl, TC.out.at 2 rfl, TC.out.at 4 rfl⟩
              clear f9 u9
              go_simp
              refine hK.out _ _ (by first | with_reducible exact hS2 | with_reducible exact hS9 | assumption) (fun hHeld => ?_)
              clear hK K
              refine wpAnyH_ready (rs := [33]) (by kernel_rfl) (by simp) ?_
              refine AllReadyH.cons (o := ⟨some 19, _, _, _, _, _⟩) rfl (fun K hK => ?_) AllReadyH.nil
              rw [if_pos (by kernel_rfl)]
              go_simp
              have KM := Lib.hid (show w15.heap.size ≠ w31.heap.size from Nat.ne_of_lt (by first | exact lt_of_heap (TC.out.at 0 rfl) | (have := lt_of_heap (TC.out.at 0 rfl); rw [World.size_alloc] at this; exact this)))
              have KP33 := Lib.hid (show ∀ zz ∈ [(qb, oj), (q2, tbx z0 z1 z2 E F), (q1, eb4 e), (w.heap.size + 1, abx x y), (w.heap.size, cbx c D (some ⟨b, off, none⟩) L nd cd ne ce nl cl)], zz.1 ≠ w31.heap.size from fun zz hy => Nat.ne_of_lt (by first | exact lt_of_heap (TC.out.bx zz (List.mem_cons_of_mem _ hy)).1 | (have := lt_of_heap (TC.out.bx zz (List.mem_cons_of_mem _ hy)).1; rw [World.size_alloc] at this; exact this)))
              have TC := Lib.hid (sq_ren (TC.out.box SH.out gz) (j' := w31.heap.size) (by first | rfl | exact World.size_alloc _ _))
              have hS2 : _ ∧ _ ∧ _ := ⟨TC.out.at 6 rfl, TC.out.at 3 rfl, TC.out.at 5 rfl⟩
              go_simp
              refine hK.out _ _ (by first | with_reducible exact hS2 | with_reducible exact hS9 | assumption) (fun hHeld => ?_)
              clear hK K
              generalize (World.alloc w31 gz) = wz at *
              refine wpAnyH_ready (rs := [34]) (by kernel_rfl) (by simp) ?_
              refine AllReadyH.cons (o := ⟨none, _, _, _, _, _⟩) rfl (fun K hK => ?_) AllReadyH.nil
              rw [if_pos (by kernel_rfl)]
              go_simp
              have TP := Lib.hid (two7 SH.out (sq_swap TC.out) KM.out KP32.out KP33.out v1 v2 d)
              obtain ⟨y0, y1, y2, y3, y4, y5, y6⟩ := cells7 (TC.out.at 1 rfl)
              obtain ⟨f0, f1, f2, f3, f4, f5, f6⟩ := frozen7 (TC.out.at 1 rfl)
              have hS2 : _ ∧ _ ∧ _ := ⟨TP.out.1.at 6 rfl, TP.out.1.at 3 rfl, TP.out.1.at 5 rfl⟩
              unfold set7 at hS2 TP
              go_simp
              refine hK.out _ _ (by first | with_reducible exact hS2 | with_reducible exact hS9 | assumption) (fun hHeld => ?_)
              clear hK K
              refine wpAnyH_ready (rs := [35]) (by kernel_rfl) (by simp) ?_
              refine AllReadyH.cons (o := ⟨none, _, _, _, _, _⟩) rfl (fun K hK => ?_) AllReadyH.nil
              rw [if_pos (by kernel_rfl)]
              go_simp
              clear y0 y1 y2 y3 y4 y5 y6 f0 f1 f2 f3 f4 f5 f6
              have km1 := KM.out
              have km2 := fun e => km1 (Eq.symm e)
              obtain ⟨y0, y1, y2, y3, y4, y5, y6⟩ := cells7 (TP.out.1.at 1 rfl)
              obtain ⟨f0, f1, f2, f3, f4, f5, f6⟩ := frozen7 (TP.out.1.at 1 rfl)
              obtain ⟨q0, q1, q2, q3, q4, q5, q6⟩ := cells7 (TC.out.at 0 rfl)
              obtain ⟨g0, g1, g2, g3, g4, g5, g6⟩ := frozen7 (TC.out.at 0 rfl)
              have hS2 : _ ∧ _ ∧ _ := ⟨TP.out.2.at 6 rfl, TP.out.2.at 3 rfl, TP.out.2.at 5 rfl⟩
              go_simp
              refine hK.out _ _ (by first | with_reducible exact hS2 | with_reducible exact hS9 | assumption) (fun hHeld => ?_)
              clear hK K
              refine wpAnyH_done (by kernel_rfl) ?_ _
              refine NoPanic.normal ?_
              generalize hpu : Value.pointer (some ⟨w15.heap.size, 0, none⟩) = pu
              generalize hpv : Value.pointer (some ⟨w31.heap.size, 0, none⟩) = pv
              exact ⟨pu, pv, rfl, rfl, _, _, hpu.symm, hpv.symm, TP.out.2.at 0 rfl, TP.out.2.at 1 rfl, _, _, _, TP.out.2.sub (fun x hx => List.mem_cons_of_mem _ (List.mem_cons_of_mem _ hx))⟩
            refine AllReadyH.cons (o := ⟨some 19, _, _, _, _, _⟩) rfl (fun K hK => ?_) AllReadyH.nil
            rw [if_pos (by kernel_rfl)]
            go_simp
            have KM := Lib.hid (show w15.heap.size ≠ w15.heap.size + 1 from Nat.ne_of_lt (by first | exact lt_of_heap (TC.out.at 0 rfl) | (have := lt_of_heap (TC.out.at 0 rfl); rw [World.size_alloc] at this; exact this)))
            have KP33 := Lib.hid (show ∀ zz ∈ [(qb, oj), (q2, tbx z0 z1 z2 E F), (q1, eb4 e), (w.heap.size + 1, abx x y), (w.heap.size, cbx c D (some ⟨b, off, none⟩) L nd cd ne ce nl cl)], zz.1 ≠ w15.heap.size + 1 from fun zz hy => Nat.ne_of_lt (by first | exact lt_of_heap (TC.out.bx zz (List.mem_cons_of_mem _ hy)).1 | (have := lt_of_heap (TC.out.bx zz (List.mem_cons_of_mem _ hy)).1; rw [World.size_alloc] at this; exact this)))
            have TC := Lib.hid (sq_ren (TC.out.box SH.out gz) (j' := w15.heap.size + 1) (by first | rfl | exact World.size_alloc _ _))
            have hS2 : _ ∧ _ ∧ _ := ⟨TC.out.at 6 rfl, TC.out.at 3 rfl, TC.out.at 5 rfl⟩
            go_simp
            refine hK.out _ _ (by first | with_reducible exact hS2 | with_reducible exact hS9 | assumption) (fun hHeld => ?_)
            clear hK K
            refine wpAnyH_ready (rs := [31]) (by kernel_rfl) (by simp) ?_
            refine AllReadyH.cons (o := ⟨some 119, _, _, _, _, _⟩) rfl (fun K hK => ?_) AllReadyH.nil
            rw [if_pos (by kernel_rfl)]
            go_simp
            refine (SH.out.judge t2 _ ll cpl TC.out.p HN2.out (HBB.out _ (TC.out.at 2 rfl)) HLL.out.1 HLL.out.2).mono ?_
            rintro r31 w31 ⟨X31, rfl, f9, u9⟩
            have TC := Lib.hid (TC.out.turn SH.out f9 u9)
            rw [HV2.out.1, HV2.out.2] at TC
            rw [HV2.out.1, HDD.out]
            have hS9 : _ ∧ _ ∧ _ := ⟨TC.out.at 6 rfl, TC.out.at 3 rfl, TC.out.at 5 rfl⟩
            clear f9 u9
            go_simp
            refine hK.out _ _ (by first | with_reducible exact hS2 | with_reducible exact hS9 | assumption) (fun hHeld => ?_)
            clear hK K
            refine wpAnyH_ready (rs := [34]) (by kernel_rfl) (by simp) ?_
            refine AllReadyH.cons (o := ⟨none, _, _, _, _, _⟩) rfl (fun K hK => ?_) AllReadyH.nil
            rw [if_pos (by kernel_rfl)]
            go_simp
            have TP := Lib.hid (two7 SH.out (sq_swap TC.out) KM.out KP32.out KP33.out v1 v2 d)
            obtain ⟨y0, y1, y2, y3, y4, y5, y6⟩ := cells7 (TC.out.at 1 rfl)
            obtain ⟨f0, f1, f2, f3, f4, f5, f6⟩ := frozen7 (TC.out.at 1 rfl)
            have hS2 : _ ∧ _ ∧ _ := ⟨TP.out.1.at 6 rfl, TP.out.1.at 3 rfl, TP.out.1.at 5 rfl⟩
            unfold set7 at hS2 TP
            go_simp
            refine hK.out _ _ (by first | with_reducible exact hS2 | with_reducible exact hS9 | assumption) (fun hHeld => ?_)
            clear hK K
            refine wpAnyH_ready (rs := [35]) (by kernel_rfl) (by simp) ?_
            refine AllReadyH.cons (o := ⟨none, _, _, _, _, _⟩) rfl (fun K hK => ?_) AllReadyH.nil
            rw [if_pos (by kernel_rfl)]
            go_simp
            clear y0 y1 y2 y3 y4 y5 y6 f0 f1 f2 f3 f4 f5 f6
            have km1 := KM.out
            have km2 := fun e => km1 (Eq.symm e)
            obtain ⟨y0, y1, y2, y3, y4, y5, y6⟩ := cells7 (TP.out.1.at 1 rfl)
            obtain ⟨f0, f1, f2, f3, f4, f5, f6⟩ := frozen7 (TP.out.1.at 1 rfl)
            obtain ⟨q0, q1, q2, q3, q4, q5, q6⟩ := cells7 (TC.out.at 0 rfl)
            obtain ⟨g0, g1, g2, g3, g4, g5, g6⟩ := frozen7 (TC.out.at 0 rfl)
            have hS2 : _ ∧ _ ∧ _ := ⟨TP.out.2.at 6 rfl, TP.out.2.at 3 rfl, TP.out.2.at 5 rfl⟩
            go_simp
            refine hK.out _ _ (by first | with_reducible exact hS2 | with_reducible exact hS9 | assumption) (fun hHeld => ?_)
            clear hK K
            refine wpAnyH_done (by kernel_rfl) ?_ _
            refine NoPanic.normal ?_
            generalize hpu : Value.pointer (some ⟨w15.heap.size, 0, none⟩) = pu
            generalize hpv : Value.pointer (some ⟨w15.heap.size + 1, 0, none⟩) = pv
            exact ⟨pu, pv, rfl, rfl, _, _, hpu.symm, hpv.symm, TP.out.2.at 0 rfl, TP.out.2.at 1 rfl, _, _, _, TP.out.2.sub (fun x hx => List.mem_cons_of_mem _ (List.mem_cons_of_mem _ hx))⟩
          refine AllReadyH.cons (o := ⟨some 19, _, _, _, _, _⟩) rfl (fun K hK => ?_) AllReadyH.nil
          rw [if_pos (by kernel_rfl)]
          go_simp
          have KP33 := Lib.hid (show ∀ zz ∈ [(qb, oj), (q2, tbx z0 z1 z2 E F), (q1, eb4 e), (w.heap.size + 1, abx x y), (w.heap.size, cbx c D (some ⟨b, off, none⟩) L nd cd ne ce nl cl)], zz.1 ≠ w15.heap.size from fun zz hy => Nat.ne_of_lt (by first | exact lt_of_heap (TC.out.bx zz hy).1 | (have := lt_of_heap (TC.out.bx zz hy).1; rw [World.size_alloc] at this; exact this)))
          have TC := Lib.hid (sq_ren (TC.out.box SH.out gz) (j' := w15.heap.size) (by first | rfl | exact World.size_alloc _ _))
          have hS2 : _ ∧ _ ∧ _ := ⟨TC.out.at 5 rfl, TC.out.at 2 rfl, TC.out.at 4 rfl⟩
          go_simp
          refine hK.out _ _ (by first | with_reducible exact hS2 | with_reducible exact hS9 | assumption) (fun hHeld => ?_)
          clear hK K
          refine wpAnyH_ready (rs := [31, 32]) (by kernel_rfl) (by simp) ?_
          refine AllReadyH.cons (o := ⟨some 119, _, _, _, _, _⟩) rfl (fun K hK => ?_) ?_
          · rw [if_pos (by kernel_rfl)]
            go_simp
            refine (SH.out.judge t2 _ ll cpl TC.out.p HN2.out (HBB.out _ (TC.out.at 1 rfl)) HLL.out.1 HLL.out.2).mono ?_
            rintro r31 w31 ⟨X31, rfl, f9, u9⟩
            have TC := Lib.hid (TC.out.turn SH.out f9 u9)
            rw [HV2.out.1, HV2.out.2] at TC
            rw [HV2.out.1, HDD.out]
            have hS9 : _ ∧ _ ∧ _ := ⟨TC.out.at 5 rfl, TC.out.at 2 rfl, TC.out.at 4 rfl⟩
            clear f9 u9
            go_simp
            refine hK.out _ _ (by first | with_reducible exact hS2 | with_reducible exact hS9 | assumption) (fun hHeld => ?_)
            clear hK K
            refine wpAnyH_ready (rs := [32]) (by kernel_rfl) (by simp) ?_
            refine AllReadyH.cons (o := ⟨some 18, _, _, _, _, _⟩) rfl (fun K hK => ?_) AllReadyH.nil
            rw [if_pos (by kernel_rfl)]
            go_simp
            have KM := Lib.hid (show w15.heap.size ≠ w31.heap.size from Nat.ne_of_lt (by first | exact lt_of_heap (TC.out.at 0 rfl) | (have := lt_of_heap (TC.out.at 0 rfl); rw [World.size_alloc] at this; exact this)))
            have KP32 := Lib.hid (show ∀ zz ∈ [(qb, oj), (q2, tbx z0 z1 z2 E F), (q1, eb4 e), (w.heap.size + 1, abx x y), (w.heap.size, cbx c D (some ⟨b, off, none⟩) L nd cd ne ce nl cl)], zz.1 ≠ w31.heap.size from fun zz hy => Nat.ne_of_lt (by first | exact lt_of_heap (TC.out.bx zz (List.mem_cons_of_mem _ hy)).1 | (have := lt_of_heap (TC.out.bx zz (List.mem_cons_of_mem _ hy)).1; rw [World.size_alloc] at this; exact this)))
            have TC := Lib.hid (sq_ren (TC.out.box SH.out gz) (j' := w31.heap.size) (by first | rfl | exact World.size_alloc _ _))
            have hS2 : _ ∧ _ ∧ _ := ⟨TC.out.at 6 rfl, TC.out.at 3 rfl, TC.out.at 5 rfl⟩
            go_simp
            refine hK.out _ _ (by first | with_reducible exact hS2 | with_reducible exact hS9 | assumption) (fun hHeld => ?_)
            clear hK K
            generalize (World.alloc w31 gz) = wz at *
            refine wpAnyH_ready (rs := [34]) (by kernel_rfl) (by simp) ?_
            refine AllReadyH.cons (o := ⟨none, _, _, _, _, _⟩) rfl (fun K hK => ?_) AllReadyH.nil
            rw [if_pos (by kernel_rfl)]
            go_simp
            have TP := Lib.hid (two7 SH.out TC.out (fun e => KM.out e.symm) KP32.out KP33.out v1 v2 d)
            obtain ⟨y0, y1, y2, y3, y4, y5, y6⟩ := cells7 (TC.out.at 0 rfl)
            obtain ⟨f0, f1, f2, f3, f4, f5, f6⟩ := frozen7 (TC.out.at 0 rfl)
            have hS2 : _ ∧ _ ∧ _ := ⟨TP.out.1.at 6 rfl, TP.out.1.at 3 rfl, TP.out.1.at 5 rfl⟩
            unfold set7 at hS2 TP
            go_simp
            refine hK.out _ _ (by first | with_reducible exact hS2 | with_reducible exact hS9 | assumption) (fun hHeld => ?_)
            clear hK K
            refine wpAnyH_ready (rs := [35]) (by kernel_rfl) (by simp) ?_
            refine AllReadyH.cons (o := ⟨none, _, _, _, _, _⟩) rfl (fun K hK => ?_) AllReadyH.nil
            rw [if_pos (by kernel_rfl)]
            go_simp
            clear y0 y1 y2 y3 y4 y5 y6 f0 f1 f2 f3 f4 f5 f6
            have km1 := KM.out
            have km2 := fun e => km1 (Eq.symm e)
            obtain ⟨y0, y1, y2, y3, y4, y5, y6⟩ := cells7 (TP.out.1.at 1 rfl)
            obtain ⟨f0, f1, f2, f3, f4, f5, f6⟩ := frozen7 (TP.out.1.at 1 rfl)
            obtain ⟨q0, q1, q2, q3, q4, q5, q6⟩ := cells7 (TC.out.at 1 rfl)
            obtain ⟨g0, g1, g2, g3, g4, g5, g6⟩ := frozen7 (TC.out.at 1 rfl)
            have hS2 : _ ∧ _ ∧ _ := ⟨TP.out.2.at 6 rfl, TP.out.2.at 3 rfl, TP.out.2.at 5 rfl⟩
            go_simp
            refine hK.out _ _ (by first | with_reducible exact hS2 | with_reducible exact hS9 | assumption) (fun hHeld => ?_)
            clear hK K
            refine wpAnyH_done (by kernel_rfl) ?_ _
            refine NoPanic.normal ?_
            generalize hpu : Value.pointer (some ⟨w31.heap.size, 0, none⟩) = pu
            generalize hpv : Value.pointer (some ⟨w15.heap.size, 0, none⟩) = pv
            exact ⟨pu, pv, rfl, rfl, _, _, hpu.symm, hpv.symm, TP.out.2.at 0 rfl, TP.out.2.at 1 rfl, _, _, _, TP.out.2.sub (fun x hx => List.mem_cons_of_mem _ (List.mem_cons_of_mem _ hx))⟩
          refine AllReadyH.cons (o := ⟨some 18, _, _, _, _, _⟩) rfl (fun K hK => ?_) AllReadyH.nil
          rw [if_pos (by kernel_rfl)]
          go_simp
          have KM := Lib.hid (show w15.heap.size ≠ w15.heap.size + 1 from Nat.ne_of_lt (by first | exact lt_of_heap (TC.out.at 0 rfl) | (have := lt_of_heap (TC.out.at 0 rfl); rw [World.size_alloc] at this; exact this)))
          have KP32 := Lib.hid (show ∀ zz ∈ [(qb, oj), (q2, tbx z0 z1 z2 E F), (q1, eb4 e), (w.heap.size + 1, abx x y), (w.heap.size, cbx c D (some ⟨b, off, none⟩) L nd cd ne ce nl cl)], zz.1 ≠ w15.heap.size + 1 from fun zz hy => Nat.ne_of_lt (by first | exact lt_of_heap (TC.out.bx zz (List.mem_cons_of_mem _ hy)).1 | (have := lt_of_heap (TC.out.bx zz (List.mem_cons_of_mem _ hy)).1; rw [World.size_alloc] at this; exact this)))
          have TC := Lib.hid (sq_ren (TC.out.box SH.out gz) (j' := w15.heap.size + 1) (by first | rfl | exact World.size_alloc _ _))
          have hS2 : _ ∧ _ ∧ _ := ⟨TC.out.at 6 rfl, TC.out.at 3 rfl, TC.out.at 5 rfl⟩
          go_simp
          refine hK.out _ _ (by first | with_reducible exact hS2 | with_reducible exact hS9 | assumption) (fun hHeld => ?_)
          clear hK K
          refine wpAnyH_ready (rs := [31]) (by kernel_rfl) (by simp) ?_
          refine AllReadyH.cons (o := ⟨some 119, _, _, _, _, _⟩) rfl (fun K hK => ?_) AllReadyH.nil
          rw [if_pos (by kernel_rfl)]
          go_simp
          refine (SH.out.judge t2 _ ll cpl TC.out.p HN2.out (HBB.out _ (TC.out.at 2 rfl)) HLL.out.1 HLL.out.2).mono ?_
          rintro r31 w31 ⟨X31, rfl, f9, u9⟩
          have TC := Lib.hid (TC.out.turn SH.out f9 u9)
          rw [HV2.out.1, HV2.out.2] at TC
          rw [HV2.out.1, HDD.out]
          have hS9 : _ ∧ _ ∧ _ := ⟨TC.out.at 6 rfl, TC.out.at 3 rfl, TC.out.at 5 rfl⟩
          clear f9 u9
          go_simp
          refine hK.out _ _ (by first | with_reducible exact hS2 | with_reducible exact hS9 | assumption) (fun hHeld => ?_)
          clear hK K
          refine wpAnyH_ready (rs := [34]) (by kernel_rfl) (by simp) ?_
          refine AllReadyH.cons (o := ⟨none, _, _, _, _, _⟩) rfl (fun K hK => ?_) AllReadyH.nil
          rw [if_pos (by kernel_rfl)]
          go_simp
          have TP := Lib.hid (two7 SH.out TC.out (fun e => KM.out e.symm) KP32.out KP33.out v1 v2 d)
          obtain ⟨y0, y1, y2, y3, y4, y5, y6⟩ := cells7 (TC.out.at 0 rfl)
          obtain ⟨f0, f1, f2, f3, f4, f5, f6⟩ := frozen7 (TC.out.at 0 rfl)
          have hS2 : _ ∧ _ ∧ _ := ⟨TP.out.1.at 6 rfl, TP.out.1.at 3 rfl, TP.out.1.at 5 rfl⟩
          unfold set7 at hS2 TP
          go_simp
          refine hK.out _ _ (by first | with_reducible exact hS2 | with_reducible exact hS9 | assumption) (fun hHeld => ?_)
          clear hK K
          refine wpAnyH_ready (rs := [35]) (by kernel_rfl) (by simp) ?_
          refine AllReadyH.cons (o := ⟨none, _, _, _, _, _⟩) rfl (fun K hK => ?_) AllReadyH.nil
          rw [if_pos (by kernel_rfl)]
          go_simp
          clear y0 y1 y2 y3 y4 y5 y6 f0 f1 f2 f3 f4 f5 f6
          have km1 := KM.out
          have km2 := fun e => km1 (Eq.symm e)
          obtain ⟨y0, y1, y2, y3, y4, y5, y6⟩ := cells7 (TP.out.1.at 1 rfl)
          obtain ⟨f0, f1, f2, f3, f4, f5, f6⟩ := frozen7 (TP.out.1.at 1 rfl)
          obtain ⟨q0, q1, q2, q3, q4, q5, q6⟩ := cells7 (TC.out.at 1 rfl)
          obtain ⟨g0, g1, g2, g3, g4, g5, g6⟩ := frozen7 (TC.out.at 1 rfl)
          have hS2 : _ ∧ _ ∧ _ := ⟨TP.out.2.at 6 rfl, TP.out.2.at 3 rfl, TP.out.2.at 5 rfl⟩
          go_simp
          refine hK.out _ _ (by first | with_reducible exact hS2 | with_reducible exact hS9 | assumption) (fun hHeld => ?_)
          clear hK K
          refine wpAnyH_done (by kernel_rfl) ?_ _
          refine NoPanic.normal ?_
          generalize hpu : Value.pointer (some ⟨w15.heap.size + 1, 0, none⟩) = pu
          generalize hpv : Value.pointer (some ⟨w15.heap.size, 0, none⟩) = pv
          exact ⟨pu, pv, rfl, rfl, _, _, hpu.symm, hpv.symm, TP.out.2.at 0 rfl, TP.out.2.at 1 rfl, _, _, _, TP.out.2.sub (fun x hx => List.mem_cons_of_mem _ (List.mem_cons_of_mem _ hx))⟩
        refine AllReadyH.cons (o := ⟨some 18, _, _, _, _, _⟩) rfl (fun K hK => ?_) ?_
        · rw [if_pos (by kernel_rfl)]
          go_simp
          have KP32 := Lib.hid (show ∀ zz ∈ [(qb, oj), (q2, tbx z0 z1 z2 E F), (q1, eb4 e), (w.heap.size + 1, abx x y), (w.heap.size, cbx c D (some ⟨b, off, none⟩) L nd cd ne ce nl cl)], zz.1 ≠ wr.heap.size from fun zz hy => Nat.ne_of_lt (by first | exact lt_of_heap (TC.out.bx zz hy).1 | (have := lt_of_heap (TC.out.bx zz hy).1; rw [World.size_alloc] at this; exact this)))
          have TC := Lib.hid (sq_ren (TC.out.box SH.out gz) (j' := wr.heap.size) (by first | rfl | exact World.size_alloc _ _))
          have hS2 : _ ∧ _ ∧ _ := ⟨TC.out.at 5 rfl, TC.out.at 2 rfl, TC.out.at 4 rfl⟩
          go_simp
          refine hK.out _ _ (by first | with_reducible exact hS2 | with_reducible exact hS9 | assumption) (fun hHeld => ?_)
          clear hK K
          refine wpAnyH_ready (rs := [15, 33]) (by kernel_rfl) (by simp) ?_
          refine AllReadyH.cons (o := ⟨some 103, _, _, _, _, _⟩) rfl (fun K hK => ?_) ?_
          · rw [if_pos (by kernel_rfl)]
            go_simp
            refine (SH.out.judge t1 _ ll cpl TC.out.p HN1.out (HBB.out _ (TC.out.at 1 rfl)) HLL.out.1 HLL.out.2).mono ?_
            rintro r15 w15 ⟨X15, rfl, f9, u9⟩
            have TC := Lib.hid (TC.out.turn SH.out f9 u9)
            rw [HV1.out.1, HV1.out.2] at TC
            rw [HV1.out.1, HDD.out]
            have hS9 : _ ∧ _ ∧ _ := ⟨TC.out.at 5 rfl, TC.out.at 2 rfl, TC.out.at 4 rfl⟩
            clear f9 u9
            go_simp
            refine hK.out _ _ (by first | with_reducible exact hS2 | with_reducible exact hS9 | assumption) (fun hHeld => ?_)
            clear hK K
            refine wpAnyH_ready (rs := [31, 33]) (by kernel_rfl) (by simp) ?_
            refine AllReadyH.cons (o := ⟨some 119, _, _, _, _, _⟩) rfl (fun K hK => ?_) ?_
            · rw [if_pos (by kernel_rfl)]
              go_simp
              refine (SH.out.judge t2 _ ll cpl TC.out.p HN2.out (HBB.out _ (TC.out.at 1 rfl)) HLL.out.1 HLL.out.2).mono ?_
              rintro r31 w31 ⟨X31, rfl, f9, u9⟩
              have TC := Lib.hid (TC.out.turn SH.out f9 u9)
              rw [HV2.out.1, HV2.out.2] at TC
              rw [HV2.out.1, HDD.out]
              have hS9 : _ ∧ _ ∧ _ := ⟨TC.out.at 5 rfl, TC.out.at 2 rfl, TC.out.at 4 rfl⟩
              clear f9 u9
              go_simp
              refine hK.out _ _ (by first | with_reducible exact hS2 | with_reducible exact hS9 | assumption) (fun hHeld => ?_)
              clear hK K
              refine wpAnyH_ready (rs := [33]) (by kernel_rfl) (by simp) ?_
              refine AllReadyH.cons (o := ⟨some 19, _, _, _, _, _⟩) rfl (fun K hK => ?_) AllReadyH.nil
              rw [if_pos (by kernel_rfl)]
              go_simp
              have KM := Lib.hid (show wr.heap.size ≠ w31.heap.size from Nat.ne_of_lt (by first | exact lt_of_heap (TC.out.at 0 rfl) | (have := lt_of_heap (TC.out.at 0 rfl); rw [World.size_alloc] at this; exact this)))
              have KP33 := Lib.hid (show ∀ zz ∈ [(qb, oj), (q2, tbx z0 z1 z2 E F), (q1, eb4 e), (w.heap.size + 1, abx x y), (w.heap.size, cbx c D (some ⟨b, off, none⟩) L nd cd ne ce nl cl)], zz.1 ≠ w31.heap.size from fun zz hy => Nat.ne_of_lt (by first | exact lt_of_heap (TC.out.bx zz (List.mem_cons_of_mem _ hy)).1 | (have := lt_of_heap (TC.out.bx zz (List.mem_cons_of_mem _ hy)).1; rw [World.size_alloc] at this; exact this)))
              have TC := Lib.hid (sq_ren (TC.out.box SH.out gz) (j' := w31.heap.size) (by first | rfl | exact World.size_alloc _ _))
              have hS2 : _ ∧ _ ∧ _ := ⟨TC.out.at 6 rfl, TC.out.at 3 rfl, TC.out.at 5 rfl⟩
              go_simp
              refine hK.out _ _ (by first | with_reducible exact hS2 | with_reducible exact hS9 | assumption) (fun hHeld => ?_)
              clear hK K
              generalize (World.alloc w31 gz) = wz at *
              refine wpAnyH_ready (rs := [34]) (by kernel_rfl) (by simp) ?_
              refine AllReadyH.cons (o := ⟨none, _, _, _, _, _⟩) rfl (fun K hK => ?_) AllReadyH.nil
              rw [if_pos (by kernel_rfl)]
              go_simp
              have TP := Lib.hid (two7 SH.out (sq_swap TC.out) KM.out KP32.out KP33.out v1 v2 d)
              obtain ⟨y0, y1, y2, y3, y4, y5, y6⟩ := cells7 (TC.out.at 1 rfl)
              obtain ⟨f0, f1, f2, f3, f4, f5, f6⟩ := frozen7 (TC.out.at 1 rfl)
              have hS2 : _ ∧ _ ∧ _ := ⟨TP.out.1.at 6 rfl, TP.out.1.at 3 rfl, TP.out.1.at 5 rfl⟩
              unfold set7 at hS2 TP
              go_simp
              refine hK.out _ _ (by first | with_reducible exact hS2 | with_reducible exact hS9 | assumption) (fun hHeld => ?_)
              clear hK K
              refine wpAnyH_ready (rs := [35]) (by kernel_rfl) (by simp) ?_
              refine AllReadyH.cons (o := ⟨none, _, _, _, _, _⟩) rfl (fun K hK => ?_) AllReadyH.nil
              rw [if_pos (by kernel_rfl)]
              go_simp
              clear y0 y1 y2 y3 y4 y5 y6 f0 f1 f2 f3 f4 f5 f6
              have km1 := KM.out
              have km2 := fun e => km1 (Eq.symm e)
              obtain ⟨y0, y1, y2, y3, y4, y5, y6⟩ := cells7 (TP.out.1.at 1 rfl)
              obtain ⟨f0, f1, f2, f3, f4, f5, f6⟩ := frozen7 (TP.out.1.at 1 rfl)
              obtain ⟨q0, q1, q2, q3, q4, q5, q6⟩ := cells7 (TC.out.at 0 rfl)
              obtain ⟨g0, g1, g2, g3, g4, g5, g6⟩ := frozen7 (TC.out.at 0 rfl)
              have hS2 : _ ∧ _ ∧ _ := ⟨TP.out.2.at 6 rfl, TP.out.2.at 3 rfl, TP.out.2.at 5 rfl⟩
              go_simp
              refine hK.out _ _ (by first | with_reducible exact hS2 | with_reducible exact hS9 | assumption) (fun hHeld => ?_)
              clear hK K
              refine wpAnyH_done (by kernel_rfl) ?_ _
              refine NoPanic.normal ?_
              generalize hpu : Value.pointer (some ⟨wr.heap.size, 0, none⟩) = pu
              generalize hpv : Value.pointer (some ⟨w31.heap.size, 0, none⟩) = pv
              exact ⟨pu, pv, rfl, rfl, _, _, hpu.symm, hpv.symm, TP.out.2.at 0 rfl, TP.out.2.at 1 rfl, _, _, _, TP.out.2.sub (fun x hx => List.mem_cons_of_mem _ (List.mem_cons_of_mem _ hx))⟩
            refine AllReadyH.cons (o := ⟨some 19, _, _, _, _, _⟩) rfl (fun K hK => ?_) AllReadyH.nil
            rw [if_pos (by kernel_rfl)]
            go_simp
            have KM := Lib.hid (show wr.heap.size ≠ w15.heap.size from Nat.ne_of_lt (by first | exact lt_of_heap (TC.out.at 0 rfl) | (have := lt_of_heap (TC.out.at 0 rfl); rw [World.size_alloc] at this; exact this)))
            have KP33 := Lib.hid (show ∀ zz ∈ [(qb, oj), (q2, tbx z0 z1 z2 E F), (q1, eb4 e), (w.heap.size + 1, abx x y), (w.heap.size, cbx c D (some ⟨b, off, none⟩) L nd cd ne ce nl cl)], zz.1 ≠ w15.heap.size from fun zz hy => Nat.ne_of_lt (by first | exact lt_of_heap (TC.out.bx zz (List.mem_cons_of_mem _ hy)).1 | (have := lt_of_heap (TC.out.bx zz (List.mem_cons_of_mem _ hy)).1; rw [World.size_alloc] at this; exact this)))
            have TC := Lib.hid (sq_ren (TC.out.box SH.out gz) (j' := w15.heap.size) (by first | rfl | exact World.size_alloc _ _))
            have hS2 : _ ∧ _ ∧ _ := ⟨TC.out.at 6 rfl, TC.out.at 3 rfl, TC.out.at 5 rfl⟩
            go_simp
            refine hK.out _ _ (by first | with_reducible exact hS2 | with_reducible exact hS9 | assumption) (fun hHeld => ?_)
            clear hK K
            refine wpAnyH_ready (rs := [31]) (by kernel_rfl) (by simp) ?_
            refine AllReadyH.cons (o := ⟨some 119, _, _, _, _, _⟩) rfl (fun K hK => ?_) AllReadyH.nil
            rw [if_pos (by kernel_rfl)]
            go_simp
            refine (SH.out.judge t2 _ ll cpl TC.out.p HN2.out (HBB.out _ (TC.out.at 2 rfl)) HLL.out.1 HLL.out.2).mono ?_
            rintro r31 w31 ⟨X31, rfl, f9, u9⟩
            have TC := Lib.hid (TC.out.turn SH.out f9 u9)
            rw [HV2.out.1, HV2.out.2] at TC
            rw [HV2.out.1, HDD.out]
            have hS9 : _ ∧ _ ∧ _ := ⟨TC.out.at 6 rfl, TC.out.at 3 rfl, TC.out.at 5 rfl⟩
            clear f9 u9
            go_simp
            refine hK.out _ _ (by first | with_reducible exact hS2 | with_reducible exact hS9 | assumption) (fun hHeld => ?_)
            clear hK K
            refine wpAnyH_ready (rs := [34]) (by kernel_rfl) (by simp) ?_
            refine AllReadyH.cons (o := ⟨none, _, _, _, _, _⟩) rfl (fun K hK => ?_) AllReadyH.nil
            rw [if_pos (by kernel_rfl)]
            go_simp
            have TP := Lib.hid (two7 SH.out (sq_swap TC.out) KM.out KP32.out KP33.out v1 v2 d)
            obtain ⟨y0, y1, y2, y3, y4, y5, y6⟩ := cells7 (TC.out.at 1 rfl)
            obtain ⟨f0, f1, f2, f3, f4, f5, f6⟩ := frozen7 (TC.out.at 1 rfl)
            have hS2 : _ ∧ _ ∧ _ := ⟨TP.out.1.at 6 rfl, TP.out.1.at 3 rfl, TP.out.1.at 5 rfl⟩
            unfold set7 at hS2 TP
            go_simp
            refine hK.out _ _ (by first | with_reducible exact hS2 | with_reducible exact hS9 | assumption) (fun hHeld => ?_)
            clear hK K
            refine wpAnyH_ready (rs := [35]) (by kernel_rfl) (by simp) ?_
            refine AllReadyH.cons (o := ⟨none, _, _, _, _, _⟩) rfl (fun K hK => ?_) AllReadyH.nil
            rw [if_pos (by kernel_rfl)]
            go_simp
            clear y0 y1 y2 y3 y4 y5 y6 f0 f1 f2 f3 f4 f5 f6
            have km1 := KM.out
            have km2 := fun e => km1 (Eq.symm e)
            obtain ⟨y0, y1, y2, y3, y4, y5, y6⟩ := cells7 (TP.out.1.at 1 rfl)
            obtain ⟨f0, f1, f2, f3, f4, f5, f6⟩ := frozen7 (TP.out.1.at 1 rfl)
            obtain ⟨q0, q1, q2, q3, q4, q5, q6⟩ := cells7 (TC.out.at 0 rfl)
            obtain ⟨g0, g1, g2, g3, g4, g5, g6⟩ := frozen7 (TC.out.at 0 rfl)
            have hS2 : _ ∧ _ ∧ _ := ⟨TP.out.2.at 6 rfl, TP.out.2.at 3 rfl, TP.out.2.at 5 rfl⟩
            go_simp
            refine hK.out _ _ (by first | with_reducible exact hS2 | with_reducible exact hS9 | assumption) (fun hHeld => ?_)
            clear hK K
            refine wpAnyH_done (by kernel_rfl) ?_ _
            refine NoPanic.normal ?_
            generalize hpu : Value.pointer (some ⟨wr.heap.size, 0, none⟩) = pu
            generalize hpv : Value.pointer (some ⟨w15.heap.size, 0, none⟩) = pv
            exact ⟨pu, pv, rfl, rfl, _, _, hpu.symm, hpv.symm, TP.out.2.at 0 rfl, TP.out.2.at 1 rfl, _, _, _, TP.out.2.sub (fun x hx => List.mem_cons_of_mem _ (List.mem_cons_of_mem _ hx))⟩
          refine AllReadyH.cons (o := ⟨some 19, _, _, _, _, _⟩) rfl (fun K hK => ?_) AllReadyH.nil
          rw [if_pos (by kernel_rfl)]
          go_simp
          have KM := Lib.hid (show wr.heap.size ≠ wr.heap.size + 1 from Nat.ne_of_lt (by first | exact lt_of_heap (TC.out.at 0 rfl) | (have := lt_of_heap (TC.out.at 0 rfl); rw [World.size_alloc] at this; exact this)))
          have KP33 := Lib.hid (show ∀ zz ∈ [(qb, oj), (q2, tbx z0 z1 z2 E F), (q1, eb4 e), (w.heap.size + 1, abx x y), (w.heap.size, cbx c D (some ⟨b, off, none⟩) L nd cd ne ce nl cl)], zz.1 ≠ wr.heap.size + 1 from fun zz hy => Nat.ne_of_lt (by first | exact lt_of_heap (TC.out.bx zz (List.mem_cons_of_mem _ hy)).1 | (have := lt_of_heap (TC.out.bx zz (List.mem_cons_of_mem _ hy)).1; rw [World.size_alloc] at this; exact this)))
          have TC := Lib.hid (sq_ren (TC.out.box SH.out gz) (j' := wr.heap.size + 1) (by first | rfl | exact World.size_alloc _ _))
          have hS2 : _ ∧ _ ∧ _ := ⟨TC.out.at 6 rfl, TC.out.at 3 rfl, TC.out.at 5 rfl⟩
          go_simp
          refine hK.out _ _ (by first | with_reducible exact hS2 | with_reducible exact hS9 | assumption) (fun hHeld => ?_)
          clear hK K
          refine wpAnyH_ready (rs := [15]) (by kernel_rfl) (by simp) ?_
          refine AllReadyH.cons (o := ⟨some 103, _, _, _, _, _⟩) rfl (fun K hK => ?_) AllReadyH.nil
          rw [if_pos (by kernel_rfl)]
          go_simp
          refine (SH.out.judge t1 _ ll cpl TC.out.p HN1.out (HBB.out _ (TC.out.at 2 rfl)) HLL.out.1 HLL.out.2).mono ?_
          rintro r15 w15 ⟨X15, rfl, f9, u9⟩
          have TC := Lib.hid (TC.out.turn SH.out f9 u9)
          rw [HV1.out.1, HV1.out.2] at TC
          rw [HV1.out.1, HDD.out]
          have hS9 : _ ∧ _ ∧ _ := ⟨TC.out.at 6 rfl, TC.out.at 3 rfl, TC.out.at 5 rfl⟩
          clear f9 u9
          go_simp
          refine hK.out _ _ (by first | with_reducible exact hS2 | with_reducible exact hS9 | assumption) (fun hHeld => ?_)
          clear hK K
          refine wpAnyH_ready (rs := [31]) (by kernel_rfl) (by simp) ?_
          refine AllReadyH.cons (o := ⟨some 119, _, _, _, _, _⟩) rfl (fun K hK => ?_) AllReadyH.nil
          rw [if_pos (by kernel_rfl)]
          go_simp
          refine (SH.out.judge t2 _ ll cpl TC.out.p HN2.out (HBB.out _ (TC.out.at 2 rfl)) HLL.out.1 HLL.out.2).mono ?_
          rintro r31 w31 ⟨X31, rfl, f9, u9⟩
          have TC := Lib.hid (TC.out.turn SH.out f9 u9)
          rw [HV2.out.1, HV2.out.2] at TC
          rw [HV2.out.1, HDD.out]
          have hS9 : _ ∧ _ ∧ _ := ⟨TC.out.at 6 rfl, TC.out.at 3 rfl, TC.out.at 5 rfl⟩
          clear f9 u9
          go_simp
          refine hK.out _ _ (by first | with_reducible exact hS2 | with_reducible exact hS9 | assumption) (fun hHeld => ?_)
          clear hK K
          refine wpAnyH_ready (rs := [34]) (by kernel_rfl) (by simp) ?_
          refine AllReadyH.cons (o := ⟨none, _, _, _, _, _⟩) rfl (fun K hK => ?_) AllReadyH.nil
          rw [if_pos (by kernel_rfl)]
          go_simp
          have TP := Lib.hid (two7 SH.out (sq_swap TC.out) KM.out KP32.out KP33.out v1 v2 d)
          obtain ⟨y0, y1, y2, y3, y4, y5, y6⟩ := cells7 (TC.out.at 1 rfl)
          obtain ⟨f0, f1, f2, f3, f4, f5, f6⟩ := frozen7 (TC.out.at 1 rfl)
          have hS2 : _ ∧ _ ∧ _ := ⟨TP.out.1.at 6 rfl, TP.out.1.at 3 rfl, TP.out.1.at 5 rfl⟩
          unfold set7 at hS2 TP
          go_simp
          refine hK.out _ _ (by first | with_reducible exact hS2 | with_reducible exact hS9 | assumption) (fun hHeld => ?_)
          clear hK K
          refine wpAnyH_ready (rs := [35]) (by kernel_rfl) (by simp) ?_
          refine AllReadyH.cons (o := ⟨none, _, _, _, _, _⟩) rfl (fun K hK => ?_) AllReadyH.nil
          rw [if_pos (by kernel_rfl)]
          go_simp
          clear y0 y1 y2 y3 y4 y5 y6 f0 f1 f2 f3 f4 f5 f6
          have km1 := KM.out
          have km2 := fun e => km1 (Eq.symm e)
          obtain ⟨y0, y1, y2, y3, y4, y5, y6⟩ := cells7 (TP.out.1.at 1 rfl)
          obtain ⟨f0, f1, f2, f3, f4, f5, f6⟩ := frozen7 (TP.out.1.at 1 rfl)
          obtain ⟨q0, q1, q2, q3, q4, q5, q6⟩ := cells7 (TC.out.at 0 rfl)
          obtain ⟨g0, g1, g2, g3, g4, g5, g6⟩ := frozen7 (TC.out.at 0 rfl)
          have hS2 : _ ∧ _ ∧ _ := ⟨TP.out.2.at 6 rfl, TP.out.2.at 3 rfl, TP.out.2.at 5 rfl⟩
          go_simp
          refine hK.out _ _ (by first | with_reducible exact hS2 | with_reducible exact hS9 | assumption) (fun hHeld => ?_)
          clear hK K
          refine wpAnyH_done (by kernel_rfl) ?_ _
          refine NoPanic.normal ?_
          generalize hpu : Value.pointer (some ⟨wr.heap.size, 0, none⟩) = pu
          generalize hpv : Value.pointer (some ⟨wr.heap.size + 1, 0, none⟩) = pv
          exact ⟨pu, pv, rfl, rfl, _, _, hpu.symm, hpv.symm, TP.out.2.at 0 rfl, TP.out.2.at 1 rfl, _, _, _, TP.out.2.sub (fun x hx => List.mem_cons_of_mem _ (List.mem_cons_of_mem _ hx))⟩
        refine AllReadyH.cons (o := ⟨some 19, _, _, _, _, _⟩) rfl (fun K hK => ?_) AllReadyH.nil
        rw [if_pos (by kernel_rfl)]
        go_simp
        have KP33 := Lib.hid (show ∀ zz ∈ [(qb, oj), (q2, tbx z0 z1 z2 E F), (q1, eb4 e), (w.heap.size + 1, abx x y), (w.heap.size, cbx c D (some ⟨b, off, none⟩) L nd cd ne ce nl cl)], zz.1 ≠ wr.heap.size from fun zz hy => Nat.ne_of_lt (by first | exact lt_of_heap (TC.out.bx zz hy).1 | (have := lt_of_heap (TC.out.bx zz hy).1; rw [World.size_alloc] at this; exact this)))
        have TC := Lib.hid (sq_ren (TC.out.box SH.out gz) (j' := wr.heap.size) (by first | rfl | exact World.size_alloc _ _))
        have hS2 : _ ∧ _ ∧ _ := ⟨TC.out.at 5 rfl, TC.out.at 2 rfl, TC.out.at 4 rfl⟩
        go_simp
        refine hK.out _ _ (by first | with_reducible exact hS2 | with_reducible exact hS9 | assumption) (fun hHeld => ?_)
        clear hK K
        refine wpAnyH_ready (rs := [15, 32]) (by kernel_rfl) (by simp) ?_
        refine AllReadyH.cons (o := ⟨some 103, _, _, _, _, _⟩) rfl (fun K hK => ?_) ?_
        · rw [if_pos (by kernel_rfl)]
          go_simp
          refine (SH.out.judge t1 _ ll cpl TC.out.p HN1.out (HBB.out _ (TC.out.at 1 rfl)) HLL.out.1 HLL.out.2).mono ?_
          rintro r15 w15 ⟨X15, rfl, f9, u9⟩
          have TC := Lib.hid (TC.out.turn SH.out f9 u9)
          rw [HV1.out.1, HV1.out.2] at TC
          rw [HV1.out.1, HDD.out]
          have hS9 : _ ∧ _ ∧ _ := ⟨TC.out.at 5 rfl, TC.out.at 2 rfl, TC.out.at 4 rfl⟩
          clear f9 u9
          go_simp
          refine hK.out _ _ (by first | with_reducible exact hS2 | with_reducible exact hS9 | assumption) (fun hHeld => ?_)
          clear hK K
          refine wpAnyH_ready (rs := [31, 32]) (by kernel_rfl) (by simp) ?_
          refine AllReadyH.cons (o := ⟨some 119, _, _, _, _, _⟩) rfl (fun K hK => ?_) ?_
          · rw [if_pos (by kernel_rfl)]
            go_simp
            refine (SH.out.judge t2 _ ll cpl TC.out.p HN2.out (HBB.out _ (TC.out.at 1 rfl)) HLL.out.1 HLL.out.2).mono ?_
            rintro r31 w31 ⟨X31, rfl, f9, u9⟩
            have TC := Lib.hid (TC.out.turn SH.out f9 u9)
            rw [HV2.out.1, HV2.out.2] at TC
            rw [HV2.out.1, HDD.out]
            have hS9 : _ ∧ _ ∧ _ := ⟨TC.out.at 5 rfl, TC.out.at 2 rfl, TC.out.at 4 rfl⟩
            clear f9 u9
            go_simp
            refine hK.out _ _ (by first | with_reducible exact hS2 | with_reducible exact hS9 | assumption) (fun hHeld => ?_)
            clear hK K
            refine wpAnyH_ready (rs := [32]) (by kernel_rfl) (by simp) ?_
            refine AllReadyH.cons (o := ⟨some 18, _, _, _, _, _⟩) rfl (fun K hK => ?_) AllReadyH.nil
            rw [if_pos (by kernel_rfl)]
            go_simp
            have KM := Lib.hid (show wr.heap.size ≠ w31.heap.size from Nat.ne_of_lt (by first | exact lt_of_heap (TC.out.at 0 rfl) | (have := lt_of_heap (TC.out.at 0 rfl); rw [World.size_alloc] at this; exact this)))
            have KP32 := Lib.hid (show ∀ zz ∈ [(qb, oj), (q2, tbx z0 z1 z2 E F), (q1, eb4 e), (w.heap.size + 1, abx x y), (w.heap.size, cbx c D (some ⟨b, off, none⟩) L nd cd ne ce nl cl)], zz.1 ≠ w31.heap.size from fun zz hy => Nat.ne_of_lt (by first | exact lt_of_heap (TC.out.bx zz (List.mem_cons_of_mem _ hy)).1 | (have := lt_of_heap (TC.out.bx zz (List.mem_cons_of_mem _ hy)).1; rw [World.size_alloc] at this; exact this)))
            have TC := Lib.hid (sq_ren (TC.out.box SH.out gz) (j' := w31.heap.size) (by first | rfl | exact World.size_alloc _ _))
            have hS2 : _ ∧ _ ∧ _ := ⟨TC.out.at 6 rfl, TC.out.at 3 rfl, TC.out.at 5 rfl⟩
            go_simp
            refine hK.out _ _ (by first | with_reducible exact hS2 | with_reducible exact hS9 | assumption) (fun hHeld => ?_)
            clear hK K
            generalize (World.alloc w31 gz) = wz at *
            refine wpAnyH_ready (rs := [34]) (by kernel_rfl) (by simp) ?_
            refine AllReadyH.cons (o := ⟨none, _, _, _, _, _⟩) rfl (fun K hK => ?_) AllReadyH.nil
            rw [if_pos (by kernel_rfl)]
            go_simp
            have TP := Lib.hid (two7 SH.out TC.out (fun e => KM.out e.symm) KP32.out KP33.out v1 v2 d)
            obtain ⟨y0, y1, y2, y3, y4, y5, y6⟩ := cells7 (TC.out.at 0 rfl)
            obtain ⟨f0, f1, f2, f3, f4, f5, f6⟩ := frozen7 (TC.out.at 0 rfl)
            have hS2 : _ ∧ _ ∧ _ := ⟨TP.out.1.at 6 rfl, TP.out.1.at 3 rfl, TP.out.1.at 5 rfl⟩
            unfold set7 at hS2 TP
            go_simp
            refine hK.out _ _ (by first | with_reducible exact hS2 | with_reducible exact hS9 | assumption) (fun hHeld => ?_)
            clear hK K
            refine wpAnyH_ready (rs := [35]) (by kernel_rfl) (by simp) ?_
            refine AllReadyH.cons (o := ⟨none, _, _, _, _, _⟩) rfl (fun K hK => ?_) AllReadyH.nil
            rw [if_pos (by kernel_rfl)]
            go_simp
            clear y0 y1 y2 y3 y4 y5 y6 f0 f1 f2 f3 f4 f5 f6
            have km1 := KM.out
            have km2 := fun e => km1 (Eq.symm e)
            obtain ⟨y0, y1, y2, y3, y4, y5, y6⟩ := cells7 (TP.out.1.at 1 rfl)
            obtain ⟨f0, f1, f2, f3, f4, f5, f6⟩ := frozen7 (TP.out.1.at 1 rfl)
            obtain ⟨q0, q1, q2, q3, q4, q5, q6⟩ := cells7 (TC.out.at 1 rfl)
            obtain ⟨g0, g1, g2, g3, g4, g5, g6⟩ := frozen7 (TC.out.at 1 rfl)
            have hS2 : _ ∧ _ ∧ _ := ⟨TP.out.2.at 6 rfl, TP.out.2.at 3 rfl, TP.out.2.at 5 rfl⟩
            go_simp
            refine hK.out _ _ (by first | with_reducible exact hS2 | with_reducible exact hS9 | assumption) (fun hHeld => ?_)
            clear hK K
            refine wpAnyH_done (by kernel_rfl) ?_ _
            refine NoPanic.normal ?_
            generalize hpu : Value.pointer (some ⟨w31.heap.size, 0, none⟩) = pu
            generalize hpv : Value.pointer (some ⟨wr.heap.size, 0, none⟩) = pv
            exact ⟨pu, pv, rfl, rfl, _, _, hpu.symm, hpv.symm, TP.out.2.at 0 rfl, TP.out.2.at 1 rfl, _, _, _, TP.out.2.sub (fun x hx => List.mem_cons_of_mem _ (List.mem_cons_of_mem _ hx))⟩
          refine AllReadyH.cons (o := ⟨some 18, _, _, _, _, _⟩) rfl (fun K hK => ?_) AllReadyH.nil
          rw [if_pos (by kernel_rfl)]
          go_simp
          have KM := Lib.hid (show wr.heap.size ≠ w15.heap.size from Nat.ne_of_lt (by first | exact lt_of_heap (TC.out.at 0 rfl) | (have := lt_of_heap (TC.out.at 0 rfl); rw [World.size_alloc] at this; exact this)))
          have KP32 := Lib.hid (show ∀ zz ∈ [(qb, oj), (q2, tbx z0 z1 z2 E F), (q1, eb4 e), (w.heap.size + 1, abx x y), (w.heap.size, cbx c D (some ⟨b, off, none⟩) L nd cd ne ce nl cl)], zz.1 ≠ w15.heap.size from fun zz hy => Nat.ne_of_lt (by first | exact lt_of_heap (TC.out.bx zz (List.mem_cons_of_mem _ hy)).1 | (have := lt_of_heap (TC.out.bx zz (List.mem_cons_of_mem _ hy)).1; rw [World.size_alloc] at this; exact this)))
          have TC := Lib.hid (sq_ren (TC.out.box SH.out gz) (j' := w15.heap.size) (by first | rfl | exact World.size_alloc _ _))
          have hS2 : _ ∧ _ ∧ _ := ⟨TC.out.at 6 rfl, TC.out.at 3 rfl, TC.out.at 5 rfl⟩
          go_simp
          refine hK.out _ _ (by first | with_reducible exact hS2 | with_reducible exact hS9 | assumption) (fun hHeld => ?_)
          clear hK K
          refine wpAnyH_ready (rs := [31]) (by kernel_rfl) (by simp) ?_
          refine AllReadyH.cons (o := ⟨some 119, _, _, _, _, _⟩) rfl (fun K hK => ?_) AllReadyH.nil
          rw [if_pos (by kernel_rfl)]
          go_simp
          refine (SH.out.judge t2 _ ll cpl TC.out.p HN2.out (HBB.out _ (TC.out.at 2 rfl)) HLL.out.1 HLL.out.2).mono ?_
          rintro r31 w31 ⟨X31, rfl, f9, u9⟩
          have TC := Lib.hid (TC.out.turn SH.out f9 u9)
          rw [HV2.out.1, HV2.out.2] at TC
          rw [HV2.out.1, HDD.out]
          have hS9 : _ ∧ _ ∧ _ := ⟨TC.out.at 6 rfl, TC.out.at 3 rfl, TC.out.at 5 rfl⟩
          clear f9 u9
          go_simp
          refine hK.out _ _ (by first | with_reducible exact hS2 | with_reducible exact hS9 | assumption) (fun hHeld => ?_)
          clear hK K
          refine wpAnyH_ready (rs := [34]) (by kernel_rfl) (by simp) ?_
          refine AllReadyH.cons (o := ⟨none, _, _, _, _, _⟩) rfl (fun K hK => ?_) AllReadyH.nil
          rw [if_pos (by kernel_rfl)]
          go_simp
          have TP := Lib.hid (two7 SH.out TC.out (fun e => KM.out e.symm) KP32.out KP33.out v1 v2 d)
          obtain ⟨y0, y1, y2, y3, y4, y5, y6⟩ := cells7 (TC.out.at 0 rfl)
          obtain ⟨f0, f1, f2, f3, f4, f5, f6⟩ := frozen7 (TC.out.at 0 rfl)
          have hS2 : _ ∧ _ ∧ _ := ⟨TP.out.1.at 6 rfl, TP.out.1.at 3 rfl, TP.out.1.at 5 rfl⟩
          unfold set7 at hS2 TP
          go_simp
          refine hK.out _ _ (by first | with_reducible exact hS2 | with_reducible exact hS9 | assumption) (fun hHeld => ?_)
          clear hK K
          refine wpAnyH_ready (rs := [35]) (by kernel_rfl) (by simp) ?_
          refine AllReadyH.cons (o := ⟨none, _, _, _, _, _⟩) rfl (fun K hK => ?_) AllReadyH.nil
          rw [if_pos (by kernel_rfl)]
          go_simp
          clear y0 y1 y2 y3 y4 y5 y6 f0 f1 f2 f3 f4 f5 f6
          have km1 := KM.out
          have km2 := fun e => km1 (Eq.symm e)
          obtain ⟨y0, y1, y2, y3, y4, y5, y6⟩ := cells7 (TP.out.1.at 1 rfl)
          obtain ⟨f0, f1, f2, f3, f4, f5, f6⟩ := frozen7 (TP.out.1.at 1 rfl)
          obtain ⟨q0, q1, q2, q3, q4, q5, q6⟩ := cells7 (TC.out.at 1 rfl)
          obtain ⟨g0, g1, g2, g3, g4, g5, g6⟩ := frozen7 (TC.out.at 1 rfl)
          have hS2 : _ ∧ _ ∧ _ := ⟨TP.out.2.at 6 rfl, TP.out.2.at 3 rfl, TP.out.2.at 5 rfl⟩
          go_simp
          refine hK.out _ _ (by first | with_reducible exact hS2 | with_reducible exact hS9 | assumption) (fun hHeld => ?_)
          clear hK K
          refine wpAnyH_done (by kernel_rfl) ?_ _
          refine NoPanic.normal ?_
          generalize hpu : Value.pointer (some ⟨w15.heap.size, 0, none⟩) = pu
          generalize hpv : Value.pointer (some ⟨wr.heap.size, 0, none⟩) = pv
          exact ⟨pu, pv, rfl, rfl, _, _, hpu.symm, hpv.symm, TP.out.2.at 0 rfl, TP.out.2.at 1 rfl, _, _, _, TP.out.2.sub (fun x hx => List.mem_cons_of_mem _ (List.mem_cons_of_mem _ hx))⟩
        refine AllReadyH.cons (o := ⟨some 18, _, _, _, _, _⟩) rfl (fun K hK => ?_) AllReadyH.nil
        rw [if_pos (by kernel_rfl)]
        go_simp
        have KM := Lib.hid (show wr.heap.size ≠ wr.heap.size + 1 from Nat.ne_of_lt (by first | exact lt_of_heap (TC.out.at 0 rfl) | (have := lt_of_heap (TC.out.at 0 rfl); rw [World.size_alloc] at this; exact this)))
        have KP32 := Lib.hid (show ∀ zz ∈ [(qb, oj), (q2, tbx z0 z1 z2 E F), (q1, eb4 e), (w.heap.size + 1, abx x y), (w.heap.size, cbx c D (some ⟨b, off, none⟩) L nd cd ne ce nl cl)], zz.1 ≠ wr.heap.size + 1 from fun zz hy => Nat.ne_of_lt (by first | exact lt_of_heap (TC.out.bx zz (List.mem_cons_of_mem _ hy)).1 | (have := lt_of_heap (TC.out.bx zz (List.mem_cons_of_mem _ hy)).1; rw [World.size_alloc] at this; exact this)))
        have TC := Lib.hid (sq_ren (TC.out.box SH.out gz) (j' := wr.heap.size + 1) (by first | rfl | exact World.size_alloc _ _))
        have hS2 : _ ∧ _ ∧ _ := ⟨TC.out.at 6 rfl, TC.out.at 3 rfl, TC.out.at 5 rfl⟩
        go_simp
        refine hK.out _ _ (by first | with_reducible exact hS2 | with_reducible exact hS9 | assumption) (fun hHeld => ?_)
        clear hK K
        refine wpAnyH_ready (rs := [15]) (by kernel_rfl) (by simp) ?_
        refine AllReadyH.cons (o := ⟨some 103, _, _, _, _, _⟩) rfl (fun K hK => ?_) AllReadyH.nil
        rw [if_pos (by kernel_rfl)]
        go_simp
        refine (SH.out.judge t1 _ ll cpl TC.out.p HN1.out (HBB.out _ (TC.out.at 2 rfl)) HLL.out.1 HLL.out.2).mono ?_
        rintro r15 w15 ⟨X15, rfl, f9, u9⟩
        have TC := Lib.hid (TC.out.turn SH.out f9 u9)
        rw [HV1.out.1, HV1.out.2] at TC
        rw [HV1.out.1, HDD.out]
        have hS9 : _ ∧ _ ∧ _ := ⟨TC.out.at 6 rfl, TC.out.at 3 rfl, TC.out.at 5 rfl⟩
        clear f9 u9
        go_simp
        refine hK.out _ _ (by first | with_reducible exact hS2 | with_reducible exact hS9 | assumption) (fun hHeld => ?_)
        clear hK K
        refine wpAnyH_ready (rs := [31]) (by kernel_rfl) (by simp) ?_
        refine AllReadyH.cons (o := ⟨some 119, _, _, _, _, _⟩) rfl (fun K hK => ?_) AllReadyH.nil
        rw [if_pos (by kernel_rfl)]
        go_simp
        refine (SH.out.judge t2 _ ll cpl TC.out.p HN2.out (HBB.out _ (TC.out.at 2 rfl)) HLL.out.1 HLL.out.2).mono ?_
        rintro r31 w31 ⟨X31, rfl, f9, u9⟩
        have TC := Lib.hid (TC.out.turn SH.out f9 u9)
        rw [HV2.out.1, HV2.out.2] at TC
        rw [HV2.out.1, HDD.out]
        have hS9 : _ ∧ _ ∧ _ := ⟨TC.out.at 6 rfl, TC.out.at 3 rfl, TC.out.at 5 rfl⟩
        clear f9 u9
        go_simp
        refine hK.out _ _ (by first | with_reducible exact hS2 | with_reducible exact hS9 | assumption) (fun hHeld => ?_)
        clear hK K
        refine wpAnyH_ready (rs := [34]) (by kernel_rfl) (by simp) ?_
        refine AllReadyH.cons (o := ⟨none, _, _, _, _, _⟩) rfl (fun K hK => ?_) AllReadyH.nil
        rw [if_pos (by kernel_rfl)]
        go_simp
        have TP := Lib.hid (two7 SH.out TC.out (fun e => KM.out e.symm) KP32.out KP33.out v1 v2 d)
        obtain ⟨y0, y1, y2, y3, y4, y5, y6⟩ := cells7 (TC.out.at 0 rfl)
        obtain ⟨f0, f1, f2, f3, f4, f5, f6⟩ := frozen7 (TC.out.at 0 rfl)
        have hS2 : _ ∧ _ ∧ _ := ⟨TP.out.1.at 6 rfl, TP.out.1.at 3 rfl, TP.out.1.at 5 rfl⟩
        unfold set7 at hS2 TP
        go_simp
        refine hK.out _ _ (by first | with_reducible exact hS2 | with_reducible exact hS9 | assumption) (fun hHeld => ?_)
        clear hK K
        refine wpAnyH_ready (rs := [35]) (by kernel_rfl) (by simp) ?_
        refine AllReadyH.cons (o := ⟨none, _, _, _, _, _⟩) rfl (fun K hK => ?_) AllReadyH.nil
        rw [if_pos (by kernel_rfl)]
        go_simp
        clear y0 y1 y2 y3 y4 y5 y6 f0 f1 f2 f3 f4 f5 f6
        have km1 := KM.out
        have km2 := fun e => km1 (Eq.symm e)
        obtain ⟨y0, y1, y2, y3, y4, y5, y6⟩ := cells7 (TP.out.1.at 1 rfl)
        obtain ⟨f0, f1, f2, f3, f4, f5, f6⟩ := frozen7 (TP.out.1.at 1 rfl)
        obtain ⟨q0, q1, q2, q3, q4, q5, q6⟩ := cells7 (TC.out.at 1 rfl)
        obtain ⟨g0, g1, g2, g3, g4, g5, g6⟩ := frozen7 (TC.out.at 1 rfl)
        have hS2 : _ ∧ _ ∧ _ := ⟨TP.out.2.at 6 rfl, TP.out.2.at 3 rfl, TP.out.2.at 5 rfl⟩
        go_simp
        refine hK.out _ _ (by first | with_reducible exact hS2 | with_reducible exact hS9 | assumption) (fun hHeld => ?_)
        clear hK K
        refine wpAnyH_done (by kernel_rfl) ?_ _
        refine NoPanic.normal ?_
        generalize hpu : Value.pointer (some ⟨wr.heap.size + 1, 0, none⟩) = pu
        generalize hpv : Value.pointer (some ⟨wr.heap.size, 0, none⟩) = pv
        exact ⟨pu, pv, rfl, rfl, _, _, hpu.symm, hpv.symm, TP.out.2.at 0 rfl, TP.out.2.at 1 rfl, _, _, _, TP.out.2.sub (fun x hx => List.mem_cons_of_mem _ (List.mem_cons_of_mem _ hx))⟩
      case hm =>
        rintro u v W ⟨ka, kb, rfl, rfl, hka, hkb, X', a', b9, Q'⟩
        have Q9 := Lib.hid Q'
        clear TC Q'
        obtain ⟨y0, y1, y2, y3, y4, y5, y6⟩ := cells7 hka
        obtain ⟨p0, p1, p2, p3, p4, p5, p6⟩ := cells7 hkb
        obtain ⟨e0, e1, e2, e3⟩ := PlanW.cells4 (Q9.out.at 2 rfl)
        have HB9 := WN.out.b
        have hh6 : h < 6 := by omega
        have SHR := shr_has e.b h HB9 hh6
        rcases HEC.out with ⟨hs, rfl, rfl⟩ | ⟨hs, rfl, rfl, hT2⟩
        · rw [hs] at SHR
          have HX := Lib.hid (show CrewW.has e.b (h : Int) = true → TopK T2 n e.d ((k + 1 : Nat) : Int) from fun hc => by rw [hs] at hc; exact absurd hc (by decide))
          replace SHR : (bits BinOp.and IntKind.u32 ((e.b : Int) / 2 ^ h) 1 == 0) = true := SHR
          clear hs
          go_wp2
          go_roundw
          case rel => exact ⟨k + 1, by omega, by go_num, Lib.hid ⟨X', T2, a', b9, N + 1 + 1, by have := HNI.out; omega, HX.out, Q9.out⟩⟩
          case measure => simp [intOf]; omega
        · rw [hs] at SHR
          have HX := Lib.hid hT2
          replace SHR : (bits BinOp.and IntKind.u32 ((e.b : Int) / 2 ^ h) 1 == 0) = false := SHR
          clear hs hT2
          go_wp2
          go_roundw
          case rel => exact ⟨k + 1, by omega, by go_num, Lib.hid ⟨X', T2, a', b9, N + 1 + 1, by have := HNI.out; omega, fun _ => HX.out, Q9.out⟩⟩
          case measure => simp [intOf]; omega
end
end Go.Proofs.Ytnlimdlmhfnkiaa.StationW
