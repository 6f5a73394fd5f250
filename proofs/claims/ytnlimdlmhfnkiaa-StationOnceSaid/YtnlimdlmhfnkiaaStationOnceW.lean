/- StationOnce, walked by what is asked of a station. -/
import Derived.Test.YtnlimdlmhfnkiaaTake
import Derived.Test.YtnlimdlmhfnkiaaStationFixed
import Derived.Test.YtnlimdlmhfnkiaaStationPJa
namespace Go.Proofs.Ytnlimdlmhfnkiaa.StationW
open Shell (takeR skipR aput lset)
open Go.RowKit Shell
open ConfW (Cfg R4 CM ML chk)
open FrameW (BL rdE rdV)
abbrev nrw (l : List Int) (t : TypeId) : Obj := .cells (nums .i64 l).toArray t (0, 0)
theorem row_get {w : World} {g : Nat} {q : IntKind} {e : TypeId} {l : List Int} (h : w.heap[g]? = some (.cells (nums q l).toArray e (0, 0))) {i : Nat} {a : Int} (hi : l[i]? = some a) : w.cell? ⟨g, i, none⟩ = some (.int q a) := by
  rw [cell_of_row w g _ _ _ _ h, List.getElem?_toArray]
  simp [nums, hi]
theorem row_set {w : World} {g : Nat} {q : IntKind} {e : TypeId} {l : List Int} (h : w.heap[g]? = some (.cells (nums q l).toArray e (0, 0))) (i : Nat) (a : Int) : (w.setCell ⟨g, i, none⟩ (.int q a)).heap[g]? = some (.cells (nums q (l.set i a)).toArray e (0, 0)) := by
  rw [heap_setCell_same _ g i _ _ (.int q a) h]
  simp [nums, List.map_set]
theorem ops_bl2 {w W : World} {A : Option Addr} {ops : List Op} (h : OPS w A ops) {i : Nat} {o : Op} (hi : ops[i]? = some o) (hW : Below w.heap.size w W) : BL W o.A o.l ∧ o.l.length ≤ 9223372036854775807 ∧ o.l.length ≤ o.cp := by
  obtain ⟨_, _, _, _, _, _, h4, h5⟩ := (h.below hW) i o hi
  exact ⟨h4, h5⟩
section
variable {SI : SIT} {w0 W W1 W2 : World} {X : Nat → Prop} {g N K1 K2 p : Nat} {c : Cfg} {h : Int} {T : List Tn} {a b : Int} {l1 l2 : List Int} {t1 t2 : TypeId} {ob : Obj}
/-- The one row is written over. -/
theorem SQ.set1 (S : Spec SI) (q : SQ SI w0 X g c h T a b N [(K2, nrw l2 t2), (K1, nrw l1 t1), (p, ob)] W) (h12 : K1 ≠ K2) (hp : p ≠ K1) (i : Nat) (x : Int) : SQ SI w0 X g c h T a b N [(K2, nrw l2 t2), (K1, nrw (l1.set i x) t1), (p, ob)] (W.setCell ⟨K1, i, none⟩ (.int .i64 x)) := by
  have q1 : SQ SI w0 X g c h T a b N [(K1, nrw l1 t1), (K2, nrw l2 t2), (p, ob)] W := q.sub (by intro y hy; simp only [List.mem_cons, List.not_mem_nil, or_false] at hy ⊢; rcases hy with rfl | rfl | rfl <;> simp)
  have q2 := q1.put S (kept1 W K1 i (.int .i64 x)) (ob' := nrw (l1.set i x) t1) (row_set (q1.at 0 rfl) i x) (fun y hy => by
    simp only [List.mem_cons, List.not_mem_nil, or_false] at hy
    rcases hy with rfl | rfl
    · exact h12.symm
    · exact hp)
  exact q2.sub (by intro y hy; simp only [List.mem_cons, List.not_mem_nil, or_false] at hy ⊢; rcases hy with rfl | rfl | rfl <;> simp)
theorem SQ.set2 (S : Spec SI) (q : SQ SI w0 X g c h T a b N [(K2, nrw l2 t2), (K1, nrw l1 t1), (p, ob)] W) (h12 : K1 ≠ K2) (hp : p ≠ K2) (i : Nat) (x : Int) : SQ SI w0 X g c h T a b N [(K2, nrw (l2.set i x) t2), (K1, nrw l1 t1), (p, ob)] (W.setCell ⟨K2, i, none⟩ (.int .i64 x)) :=
  q.put S (kept1 W K2 i (.int .i64 x)) (row_set (q.at 0 rfl) i x) (fun y hy => by
    simp only [List.mem_cons, List.not_mem_nil, or_false] at hy
    rcases hy with rfl | rfl
    · exact h12
    · exact hp)
end
/-- What is held behind i acts. -/
def OJ (SI : SIT) (w : World) (g K1 K2 : Nat) (c : Cfg) (D E L : Option Addr) (nd cd ne ce nl cl : Nat) (h : Int) (i : Nat) (W : World) : Prop :=
  ∃ X T a b N, N ≤ i ∧ SQ SI w X g c h T a b N [(K2, nrw (nul T) 49), (K1, nrw (cyl T) 48), (w.heap.size, cbx c D E L nd cd ne ce nl cl)] W
section
variable {SI : SIT}
set_option maxHeartbeats 16000000 in
set_option maxRecDepth 100000 in
theorem once_walk (S : Spec SI) (c : Cfg) (D E L : Option Addr) (nd cd ne ce nl cl : Nat) (h : Int) (A : Option Addr) (n cp : Nat) (ops : List Op) (w : World) (m : CM w c D E L nd cd ne ce nl cl) (ho : OPS w A ops) (hn : ops.length = n) (hz : n ≤ 17592186044000) :
    Calls Try.prog 4 #[.agg #[.int .i64 c.hosts, .int .i64 c.cycle, .int .i64 c.delay, .int .i64 c.window, .int .i64 c.precision, .slice D nd cd, .slice E ne ce, .slice L nl cl, .int .i64 c.queue], .int .i64 h, .slice A n cp] w fun r w' => r = .returned (.bool true) ∧ Below w.heap.size w w' := by
  have SH := Lib.hid S
  have HM := Lib.hid m
  have HO := Lib.hid ho
  have HN := Lib.hid hn
  have HZ := Lib.hid hz
  have S0 := Lib.hid ((Stay.start w).alloc (cbx c D E L nd cd ne ce nl cl))
  have HF := Lib.hid (fun W => fixed_any S W)
  clear S m ho hn hz
  go_enter Try.func4, Try.ntmps4
  go_wp2_with fail
  refine (HF.out _).mono ?_
  rintro r w1 ⟨rfl, b1⟩
  have S1 := Lib.hid (S0.out.next b1)
  clear b1 S0 HF
  obtain ⟨a0, a1, a2, a3, a4, a5, a6, a7, a8⟩ := PlanW.cells9 (S1.out.at 0 rfl)
  go_wp2_with fail
  by_cases hz : may c h
  case neg =>
    refine (SH.out.bad c D E L nd cd ne ce nl cl h _ (HM.out.below S1.out.b) hz).mono ?_
    rintro r w2 ⟨rfl, b2⟩
    have B2 := Lib.hid (S1.out.next b2).b
    clear b2 S1 a0 a1 a2 a3 a4 a5 a6 a7 a8
    go_wp2
    go_ret
    exact ⟨rfl, B2.out⟩
  case pos =>
    have MAY := Lib.hid hz.1
    refine (SH.out.new c D E L nd cd ne ce nl cl h _ (HM.out.below S1.out.b) hz).mono ?_
    rintro r w2 ⟨g, X, rfl, F2, b2⟩
    have Q2 := Lib.hid (sq_new SH.out F2 b2 S1.out (fun x hx => by rw [List.mem_singleton] at hx; subst hx; exact Nat.le_refl _))
    have q4 := (Q2.out.box SH.out (.cells #[Value.int .i64 0, Value.int .i64 0, Value.int .i64 0, Value.int .i64 0, Value.int .i64 0, Value.int .i64 0, Value.int .i64 0, Value.int .i64 0, Value.int .i64 0, Value.int .i64 0, Value.int .i64 0, Value.int .i64 0, Value.int .i64 0, Value.int .i64 0, Value.int .i64 0, Value.int .i64 0] 48)).box SH.out (.cells #[Value.int .i64 0, Value.int .i64 0, Value.int .i64 0, Value.int .i64 0, Value.int .i64 0, Value.int .i64 0, Value.int .i64 0, Value.int .i64 0, Value.int .i64 0, Value.int .i64 0, Value.int .i64 0, Value.int .i64 0, Value.int .i64 0, Value.int .i64 0, Value.int .i64 0, Value.int .i64 0] 49)
    rw [World.size_alloc] at q4
    have Q4 := Lib.hid (show SQ SI w X g c h [] 0 0 0 [(w2.heap.size + 1, nrw (m16 0) 49), (w2.heap.size, nrw (m16 0) 48), (w.heap.size, cbx c D E L nd cd ne ce nl cl)] _ from q4)
    have HK := Lib.hid (show w2.heap.size ≠ w2.heap.size + 1 ∧ w.heap.size ≠ w2.heap.size ∧ w.heap.size ≠ w2.heap.size + 1 by have := lt_of_heap (Q2.out.at 0 rfl); omega)
    clear F2 b2 S1 hz q4 Q2 a0 a1 a2 a3 a4 a5 a6 a7 a8
    go_wp2
    generalize (w2.alloc _).alloc _ = w4 at *
    generalize hK2 : w2.heap.size + 1 = K2 at *
    generalize w2.heap.size = K1 at *
    clear hK2
    go_loopw [27] (fun iv wr => ∃ (i : Nat), i ≤ 16 ∧ iv = .int .i64 i ∧ Hid (SQ SI w X g c h [] 0 0 0 [(K2, nrw (m16 i) 49), (K1, nrw (m16 i) 48), (w.heap.size, cbx c D E L nd cd ne ce nl cl)] wr)) (fun iv _ => 16 - (intOf iv).toNat)
    case atStart => exact ⟨0, Nat.zero_le _, rfl, Q4⟩
    case round =>
      clear Q4
      obtain ⟨i, hi, rfl, HQ⟩ := hrel
      by_cases hlt : i < 16
      · have hlt' : (i : Int) < 16 := by omega
        have u1 := m16_len i (by omega)
        obtain ⟨x, hx⟩ : ∃ x, (m16 i)[i]? = some x := ⟨_, List.getElem?_eq_getElem (by omega)⟩
        have c1 := row_get (HQ.out.at 1 rfl) hx
        have f1 := frozen_of_row wr K1 i _ _ (HQ.out.at 1 rfl)
        have Q5 := Lib.hid (HQ.out.set1 SH.out HK.out.1 HK.out.2.1 i (-1))
        have c2 := row_get (Q5.out.at 0 rfl) hx
        have f2 := frozen_of_row _ K2 i _ _ (Q5.out.at 0 rfl)
        have Q6 := Lib.hid (Q5.out.set2 SH.out HK.out.1 HK.out.2.2 i (-1))
        rw [m16_set i hlt] at Q6
        clear HQ Q5 hx u1
        go_wp2
        go_roundw
        case rel => exact ⟨i + 1, by omega, by go_num, Q6⟩
        case measure => simp [intOf]; omega
      · obtain rfl : i = 16 := by omega
        have J0 := Lib.hid (show OJ SI w g K1 K2 c D E L nd cd ne ce nl cl h 0 wr from ⟨X, [], 0, 0, 0, Nat.le_refl _, by rw [← m16_end.1, ← m16_end.2]; exact HQ.out⟩)
        clear HQ
        go_wp2
        go_loopw [37] (fun iv wr => ∃ (i : Nat), i ≤ n ∧ iv = .int .i64 i ∧ Hid (OJ SI w g K1 K2 c D E L nd cd ne ce nl cl h i wr)) (fun iv _ => n - (intOf iv).toNat)
        case atStart => exact ⟨0, Nat.zero_le _, rfl, J0⟩
        case round =>
          clear J0
          obtain ⟨i, hi, rfl, HQ⟩ := hrel
          have hnn : n ≤ 9223372036854775807 := by have := HZ.out; omega
          obtain ⟨X, T, a, b, N, hN, Q0⟩ := HQ.out
          have Q1 := Lib.hid Q0
          have HNI := Lib.hid hN
          clear Q0 HQ hN
          by_cases hlt : i < n
          case neg =>
            obtain rfl : n = i := by omega
            go_wp2
            go_ret
            exact ⟨rfl, Q1.out.b⟩
          have hlt' : (i : Int) < (n : Int) := by omega
          obtain ⟨o, hoi⟩ : ∃ o, ops[i]? = some o := ⟨_, List.getElem?_eq_getElem (by rw [HN.out]; exact hlt)⟩
          obtain ⟨ot, oA, ol, oc, fo⟩ := o
          have HBL := Lib.hid (show ∀ W : World, Below w.heap.size w W → BL W oA ol ∧ ol.length ≤ 9223372036854775807 ∧ ol.length ≤ oc from fun (W : World) (hW : Below w.heap.size w W) => ops_bl2 HO.out hoi hW)
          obtain ⟨b9, off, rfl, m0, m1, m2, -, -, -⟩ := (HO.out.below Q1.out.b) i _ hoi
          dsimp only at m0 m1 m2
          have Q2 := Lib.hid (Q1.out.box SH.out (obx ⟨ot, oA, ol, oc, fo⟩))
          obtain ⟨x0, x1, x2⟩ := cells3 (Q2.out.at 0 rfl)
          have G1 := Lib.hid (fun h0 h1 => once_t (c := c) (h := h) (t := ot) (T := T) (l := ol) MAY.out h0 h1)
          have G2 := Lib.hid (fun h0 h1 h3 => once_r (c := c) (h := h) (t := ot) (T := T) (l := ol) MAY.out h0 h1 h3)
          have G3 := Lib.hid (show nL c h T ot ol = if (gd c h T ot ol).w = 0 then T ++ [⟨dt ol, (gd c h T ot ol).k⟩] else T from rfl)
          clear hoi Q1
          go_wp2_with fail
          refine (SH.out.judge ot oA ol oc Q2.out.p (by have := HNI.out; have := HZ.out; omega) (HBL.out _ Q2.out.b).1 (HBL.out _ Q2.out.b).2.1 (HBL.out _ Q2.out.b).2.2).mono ?_
          rintro r w3 ⟨X3, rfl, F3, T3⟩
          have Q3 := Lib.hid ((Q2.out.turn SH.out F3 T3).drop)
          generalize nL c h T ot ol = T1 at *
          generalize gd c h T ot ol = v at *
          generalize dt ol = d at *
          clear F3 T3 Q2 x0 x1 x2 m0 m1 m2
          obtain ⟨vw, vk⟩ := v
          obtain ⟨dc, dl, dn, dp, ds⟩ := d
          have Q4 := Lib.hid (Q3.out.box SH.out (gbx ⟨vw, vk⟩ ⟨dc, dl, dn, dp, ds⟩ 41))
          clear Q3
          go_upto_region 17 with (fail)
          generalize w3.alloc (gbx ⟨vw, vk⟩ ⟨dc, dl, dn, dp, ds⟩ 41) = w4 at *
          generalize w3.heap.size = q3 at *
          obtain ⟨y0, y1, y2, y3, y4, y5, y6⟩ := cells7 (Q4.out.at 0 rfl)
          by_cases hw : vw = 0
          case neg =>
            have g1 : (vw != 0) = true := by rw [bne_iff_ne]; exact hw
            obtain rfl : T1 = T := by have := G3.out; rwa [if_neg hw] at this
            have Q9 := Lib.hid Q4.out.drop
            clear G1 G2 G3
            go_wp2
            go_roundw
            case rel => exact ⟨_, _, _, .int .i64 ((i : Int) + 1), ⟨i + 1, by omega, by go_num, Lib.hid ⟨X3, T1, _, _, N + 1, Nat.succ_le_succ HNI.out, Q9.out⟩⟩, rfl, rfl, rfl, rfl⟩
            case measure => simp [intOf]; omega
          subst hw
          obtain rfl : T1 = T ++ [⟨⟨dc, dl, dn, dp, ds⟩, vk⟩] := G3.out
          by_cases h3 : dc = 3
          case pos =>
            subst h3
            have Q9 := Lib.hid Q4.out.drop
            have e1 := cyl_no (T := T) (x := ⟨⟨3, dl, dn, dp, ds⟩, vk⟩) (by decide : (3 : Int) ≠ 1)
            have e2 := nul_no (T := T) (x := ⟨⟨3, dl, dn, dp, ds⟩, vk⟩) (by decide : (3 : Int) ≠ 2)
            rw [← e1, ← e2] at Q9
            clear G1 G2 G3 e1 e2
            go_wp2
            go_roundw
            case rel => exact ⟨_, _, _, .int .i64 ((i : Int) + 1), ⟨i + 1, by omega, by go_num, Lib.hid ⟨X3, _, _, _, N + 1, Nat.succ_le_succ HNI.out, Q9.out⟩⟩, rfl, rfl, rfl, rfl⟩
            case measure => simp [intOf]; omega
          have g3 : (dc == 3) = false := by rw [beq_eq_false_iff_ne]; exact h3
          by_cases h1 : dc = 1
          case pos =>
            subst h1
            obtain ⟨l, hl, hdl, hlt9⟩ := G1.out rfl rfl
            obtain rfl : dl = (l : Int) := hdl
            have HX := Lib.hid (cyl_get T hl)
            generalize lastOf (isE l) (·.k) T = z at *
            have g4 : decide (vk ≤ z) = false := decide_eq_false (Int.not_le.2 hlt9)
            have g5 : ¬ vk ≤ z := Int.not_le.2 hlt9
            have g6 : ¬ (l : Int) < 0 := by omega
            have g7 : ¬ (l : Int) > 15 := by omega
            have g8 : (l : Int) < 16 := by omega
            have E1 := Lib.hid (cyl_yes (T := T) (x := ⟨⟨1, (l : Int), dn, dp, ds⟩, vk⟩) hl rfl rfl)
            have E2 := Lib.hid (nul_no (T := T) (x := ⟨⟨1, (l : Int), dn, dp, ds⟩, vk⟩) (by decide : (1 : Int) ≠ 2))
            have HL16 := Lib.hid hl
            clear G1 G2 G3 hl hlt9
            go_wp2
            apply wp_one
            case h =>
              refine wp_region_noPanic ?_
              refine wp_region_held_drew (S := fun Z : World => Z.heap[q3]? = some (gbx ⟨0, vk⟩ ⟨1, (l : Int), dn, dp, ds⟩ 41) ∧ Z.heap[K1]? = some (nrw (cyl T) 48)) (by kernel_rfl) (⟨Q4.out.at 0 rfl, Q4.out.at 2 rfl⟩) (fun hHeld => ?_)
              refine takeR 0 (some 70) ?_ ?_ ?_; rotate_left; (focus (intros; go_simp; (try with_reducible rfl)))
              simp only [aput, lset]
              refine takeR 1 (some 71) ?_ ?_ ?_; rotate_left; (focus (intro w hSw; (try dsimp only at hSw); obtain ⟨y0, y1, y2, y3, y4, y5, y6⟩ := cells7 hSw.1; have c9 := row_get hSw.2 HX.out; go_simp; (try with_reducible rfl)))
              simp only [aput, lset]
              refine takeR 2 (some 72) ?_ ?_ ?_; rotate_left; (focus (intros; go_simp; (try with_reducible rfl)))
              simp only [aput, lset]
              refine takeR 3 (some 73) ?_ ?_ ?_; rotate_left; (focus (intros; go_simp; (try with_reducible rfl)))
              simp only [aput, lset]
              refine takeR 4 (some 74) ?_ ?_ ?_; rotate_left; (focus (intro w hSw; (try dsimp only at hSw); obtain ⟨y0, y1, y2, y3, y4, y5, y6⟩ := cells7 hSw.1; have c9 := row_get hSw.2 HX.out; go_simp; (try with_reducible rfl)))
              simp only [aput, lset]
              refine takeR 5 (some 75) ?_ ?_ ?_; rotate_left; (focus (intros; go_simp; (try with_reducible rfl)))
              simp only [aput, lset]
              refine takeR 6 (some 76) ?_ ?_ ?_; rotate_left; (focus (intro w hSw; (try dsimp only at hSw); obtain ⟨y0, y1, y2, y3, y4, y5, y6⟩ := cells7 hSw.1; have c9 := row_get hSw.2 HX.out; go_simp; (try with_reducible rfl)))
              simp only [aput, lset]
              refine takeR 7 (some 77) ?_ ?_ ?_; rotate_left; (focus (intros; go_simp; (try with_reducible rfl)))
              simp only [aput, lset]
              refine wpAnyH_done (by kernel_rfl) ?_ _
              exact NoPanic.normal ⟨rfl, rfl, rfl⟩
            case hm =>
              have Q5 := Lib.hid (Q4.out.next SH.out (Below.refl _ _).drew)
              clear Q4 y0 y1 y2 y3 y4 y5 y6
              generalize w4.drew = w5 at *
              obtain ⟨y0, y1, y2, y3, y4, y5, y6⟩ := cells7 (Q5.out.at 0 rfl)
              have c9 := row_get (Q5.out.at 2 rfl) HX.out
              have f9 := frozen_of_row w5 K1 l _ _ (Q5.out.at 2 rfl)
              have Q6 := Lib.hid (Q5.out.drop.set1 SH.out HK.out.1 HK.out.2.1 l vk)
              rw [← E1.out, ← E2.out] at Q6
              clear Q5
              go_wp2
              go_roundw
              case rel => exact ⟨_, _, _, .int .i64 ((i : Int) + 1), ⟨i + 1, by omega, by go_num, Lib.hid ⟨X3, _, _, _, N + 1, Nat.succ_le_succ HNI.out, Q6.out⟩⟩, rfl, rfl, rfl, rfl⟩
              case measure => simp [intOf]; omega
          have g1 : (dc == 1) = false := by rw [beq_eq_false_iff_ne]; exact h1
          obtain ⟨l, hl, hdl, h2, hlt9⟩ := G2.out rfl h1 h3
          obtain rfl : dl = (l : Int) := hdl
          obtain rfl : dc = 2 := h2
          have HX := Lib.hid (nul_get T hl)
          generalize lastOf (isL l) (·.d.n) T = z at *
          have g4 : decide (dn ≤ z) = false := decide_eq_false (Int.not_le.2 hlt9)
          have g5 : ¬ dn ≤ z := Int.not_le.2 hlt9
          have g6 : ¬ (l : Int) < 0 := by omega
          have g7 : ¬ (l : Int) > 15 := by omega
          have g8 : (l : Int) < 16 := by omega
          have E1 := Lib.hid (nul_yes (T := T) (x := ⟨⟨2, (l : Int), dn, dp, ds⟩, vk⟩) hl rfl rfl)
          have E2 := Lib.hid (cyl_no (T := T) (x := ⟨⟨2, (l : Int), dn, dp, ds⟩, vk⟩) (by decide : (2 : Int) ≠ 1))
          have HL16 := Lib.hid hl
          clear G1 G2 G3 hl hlt9
          go_wp2
          apply wp_one
          case h =>
            refine wp_region_noPanic ?_
            refine wp_region_held_drew (S := fun Z : World => Z.heap[q3]? = some (gbx ⟨0, vk⟩ ⟨2, (l : Int), dn, dp, ds⟩ 41) ∧ Z.heap[K2]? = some (nrw (nul T) 49)) (by kernel_rfl) (⟨Q4.out.at 0 rfl, Q4.out.at 1 rfl⟩) (fun hHeld => ?_)
            refine takeR 0 (some 84) ?_ ?_ ?_; rotate_left; (focus (intros; go_simp; (try with_reducible rfl)))
            simp only [aput, lset]
            refine takeR 1 (some 85) ?_ ?_ ?_; rotate_left; (focus (intros; go_simp; (try with_reducible rfl)))
            simp only [aput, lset]
            refine takeR 2 (some 86) ?_ ?_ ?_; rotate_left; (focus (intro w hSw; (try dsimp only at hSw); obtain ⟨y0, y1, y2, y3, y4, y5, y6⟩ := cells7 hSw.1; have c9 := row_get hSw.2 HX.out; go_simp; (try with_reducible rfl)))
            simp only [aput, lset]
            refine takeR 3 (some 87) ?_ ?_ ?_; rotate_left; (focus (intros; go_simp; (try with_reducible rfl)))
            simp only [aput, lset]
            refine takeR 4 (some 88) ?_ ?_ ?_; rotate_left; (focus (intros; go_simp; (try with_reducible rfl)))
            simp only [aput, lset]
            refine takeR 5 (some 89) ?_ ?_ ?_; rotate_left; (focus (intro w hSw; (try dsimp only at hSw); obtain ⟨y0, y1, y2, y3, y4, y5, y6⟩ := cells7 hSw.1; have c9 := row_get hSw.2 HX.out; go_simp; (try with_reducible rfl)))
            simp only [aput, lset]
            refine takeR 6 (some 90) ?_ ?_ ?_; rotate_left; (focus (intros; go_simp; (try with_reducible rfl)))
            simp only [aput, lset]
            refine takeR 7 (some 91) ?_ ?_ ?_; rotate_left; (focus (intro w hSw; (try dsimp only at hSw); obtain ⟨y0, y1, y2, y3, y4, y5, y6⟩ := cells7 hSw.1; have c9 := row_get hSw.2 HX.out; go_simp; (try with_reducible rfl)))
            simp only [aput, lset]
            refine takeR 8 (some 92) ?_ ?_ ?_; rotate_left; (focus (intros; go_simp; (try with_reducible rfl)))
            simp only [aput, lset]
            refine wpAnyH_done (by kernel_rfl) ?_ _
            exact NoPanic.normal ⟨rfl, rfl, rfl⟩
          case hm =>
            have Q5 := Lib.hid (Q4.out.next SH.out (Below.refl _ _).drew)
            clear Q4 y0 y1 y2 y3 y4 y5 y6
            generalize w4.drew = w5 at *
            obtain ⟨y0, y1, y2, y3, y4, y5, y6⟩ := cells7 (Q5.out.at 0 rfl)
            have c9 := row_get (Q5.out.at 1 rfl) HX.out
            have f9 := frozen_of_row w5 K2 l _ _ (Q5.out.at 1 rfl)
            have Q6 := Lib.hid (Q5.out.drop.set2 SH.out HK.out.1 HK.out.2.2 l dn)
            rw [← E1.out, ← E2.out] at Q6
            clear Q5
            go_wp2
            go_roundw
            case rel => exact ⟨_, _, _, .int .i64 ((i : Int) + 1), ⟨i + 1, by omega, by go_num, Lib.hid ⟨X3, _, _, _, N + 1, Nat.succ_le_succ HNI.out, Q6.out⟩⟩, rfl, rfl, rfl, rfl⟩
            case measure => simp [intOf]; omega
end
end Go.Proofs.Ytnlimdlmhfnkiaa.StationW
