/- RelayKeeps, walked by what is asked of a relay. -/
import Derived.Test.YtecgpibidcifpaaTake
import Derived.Test.YtecgpibidcifpaaRelayTimedW
import Derived.Test.YtecgpibidcifpaaRelayBudgetW
import Derived.Test.YtecgpibidcifpaaRelayJudgesW
import Derived.Test.YtecgpibidcifpaaFrameR
import Derived.Test.YtecgpibidcifpaaConfCp
import Derived.Test.YtecgpibidcifpaaConfCpB
namespace Go.Proofs.Ytecgpibidcifpaa.RelayW
open Shell (takeR skipR aput lset)
open Go.RowKit Shell
open ConfW (Cfg R4 CM ML chk Own Sh ents)
open BucketW (Bk pas tk b0 fit)
open FrameW (BL rdE rdV)
section
variable {RI : RIT}
/-- What New has told: a relay, or the error. -/
def NewEnd (RI : RIT) (lo : Nat) (c : Cfg) (ra : Value) (e : Int) (W : World) : Prop := (chk c ≠ 0 ∧ ra = .pointer none ∧ e = 1) ∨ (chk c = 0 ∧ e = 0 ∧ ∃ g X, ra = .pointer (some ⟨g, 0, none⟩) ∧ RI lo X g c (bs0 c) ds0 0 W)
theorem new_both (S : Spec RI) (c : Cfg) (D E L : Option Addr) (nd cd ne ce nl cl : Nat) (W : World) (m : CM W c D E L nd cd ne ce nl cl) : Calls Try.prog 9 #[.agg #[.int .i64 c.hosts, .int .i64 c.cycle, .int .i64 c.delay, .int .i64 c.window, .int .i64 c.precision, .slice D nd cd, .slice E ne ce, .slice L nl cl, .int .i64 c.queue]] W fun r W' => ∃ ra e, r = .returned (.tuple #[ra, .int .i64 e]) ∧ Below W.heap.size W W' ∧ NewEnd RI W.heap.size c ra e W' := by
  by_cases hz : chk c = 0
  · exact (S.new c D E L nd cd ne ce nl cl W m hz).mono fun r W' ⟨g, X, h1, h2, h3⟩ => ⟨_, _, h1, h3, Or.inr ⟨hz, rfl, g, X, rfl, h2⟩⟩
  · exact (S.bad c D E L nd cd ne ce nl cl W m hz).mono fun r W' ⟨h1, h3⟩ => ⟨_, _, h1, h3, Or.inl ⟨hz, rfl, rfl⟩⟩
/-- A row of bytes is told by the blocks that it lies in. -/
theorem row_keep {W : World} {base c : Nat} {A : Option Addr} {l : List Int} (h : FrameW.OB W base (.slice A l.length c) l) : ∃ R : List (Nat × Obj), (∀ x ∈ R, (Value.slice A l.length c).ownBlock = some x.1 ∧ W.heap[x.1]? = some x.2) ∧ ∀ W', (∀ x ∈ R, W'.heap[x.1]? = some x.2) → BL W' A l := by
  have tell : ∀ W', FrameW.OB W' base (.slice A l.length c) l → BL W' A l := fun W' h' => by
    obtain ⟨A', c', e, hb, -, -⟩ := h'.form
    injection e with e1
    subst e1
    exact hb
  rcases h.1.2 with h1 | ⟨g, cap, cur, e, h2, h3, h4⟩
  · exact ⟨[], by simp, fun W' _ => tell W' ⟨⟨h.1.1, Or.inl h1⟩, h.2⟩⟩
  · refine ⟨[(g, _)], fun x hx => ?_, fun W' hW => tell W' ⟨⟨h.1.1, Or.inr ⟨g, cap, cur, e, h2, hW _ List.mem_cons_self, h4⟩⟩, h.2⟩⟩
    rw [List.mem_singleton] at hx
    subst hx
    exact ⟨by rw [e]; rfl, h3⟩
/-- The copied bytes: a relay and boxes are kept, and the row lies beside them. -/
theorem app_rel (S : Spec RI) {w w6 w7 : World} {X : Nat → Prop} {g c7 : Nat} {c : Cfg} {bs : List Bk} {ds : List Int} {N : Nat} {B : List (Nat × Obj)} {A7 : Option Addr} {l : List Int} {ob : Obj} (Q6 : RA RI w X g c bs ds N B w6) (Q7 : RA RI w X g c bs ds N B (w6.alloc ob)) (O7 : FrameW.OB w7 w6.heap.size (.slice A7 l.length c7) l) (ST7 : Shell.Step (w6.alloc ob) (.slice (some ⟨w6.heap.size, 0, none⟩) 0 0) w7 (.slice A7 l.length c7)) :
    ∃ R, RA RI w X g c bs ds N (B ++ R) w7 ∧ ∀ W', (∀ x ∈ B ++ R, W'.heap[x.1]? = some x.2) → BL W' A7 l := by
  obtain ⟨R, h1, h2⟩ := row_keep O7
  have q : RA RI w X g c bs ds N B w7 := by
    refine RQ.step S Q7 ST7 (fun b hb => ?_) (fun x hx hb => ?_)
    · obtain rfl : w6.heap.size = b := by simpa [Value.ownBlock] using hb
      exact ⟨⟨fun hX => absurd (S.foot Q6.p _ hX).2 (Nat.lt_irrefl _), fun h => h⟩, Q6.b.size⟩
    · have e : w6.heap.size = x.1 := by simpa [Value.ownBlock] using hb
      have := lt_of_heap (Q6.bx x hx).1
      omega
  refine ⟨R, ⟨q.p, q.r, q.b, fun x hx => ?_, q.dj⟩, fun W' hW => h2 W' (fun x hx => hW x (List.mem_append_right _ hx))⟩
  rcases List.mem_append.1 hx with hx | hx
  · exact q.bx x hx
  · obtain ⟨e1, e2⟩ := h1 x hx
    have e3 := (O7.lt x.1 e1).1
    refine ⟨e2, ⟨fun hX => ?_, fun h => h⟩, Nat.le_trans Q6.b.size e3⟩
    have := (S.foot Q6.p _ hX).2
    omega
/-- The document's own buckets, asked for beside a relay. -/
theorem ask_rel (S : Spec RI) {w W W1 : World} {X : Nat → Prop} {g : Nat} {c : Cfg} {bs : List Bk} {ds : List Int} {N : Nat} {B : List (Nat × Obj)} {vl : Value} (h : RA RI w X g c bs ds N B W) (G : OG F14 W1 W.heap.size 76 vl (es0 c)) (b : Below W.heap.size W W1) : RQ RI w X g c bs ds N (fun b => vl.ownBlock = some b) (bs0 c) (es0 c) vl B W1 :=
  ⟨S.frame h.p b.size (fun j hj => b.block j (S.foot h.p j hj).2), rb_new (G.base h.b.size), h.b.trans (b.mono h.b.size), fun y hy => ⟨row_below b (h.bx y hy).1, ⟨(h.bx y hy).2.1.1, fun hX => by
    have := (G.lt _ hX).1
    have := lt_of_heap (h.bx y hy).1
    omega⟩, (h.bx y hy).2.2⟩, fun j hj hx => by
    have := (G.lt _ hx).1
    have := (S.foot h.p j hj).2
    omega⟩
theorem ra_ren {w W : World} {X XR : Nat → Prop} {g N j : Nat} {c : Cfg} {bs br : List Bk} {ds : List Int} {es : List TB} {vl : Value} {B : List (Nat × Obj)} {ob : Obj} (t : RQ RI w X g c bs ds N XR br es vl ((j, ob) :: B) W) {j' : Nat} (e : j = j') : RQ RI w X g c bs ds N XR br es vl ((j', ob) :: B) W := e ▸ t
/-- A stretch of code whose ways out meet, but for three values and the world. -/
theorem wp_v3 {P : Program} {c : Code} {Q : Exit → Act → World → Prop} {a : Act} {w : World} (A3 : Value → Value → Value → Act) (S : Value → Value → Value → World → Prop) (h : c.wp P (fun e a' w' => ∃ u v x, e = Exit.normal ∧ a' = A3 u v x ∧ S u v x w') a w) (hm : ∀ u v x W, S u v x W → Q .normal (A3 u v x) W) : c.wp P Q a w :=
  Code.wp_mono (fun _ _ _ ⟨u, v, x, h1, h2, h3⟩ => by subst h1; subst h2; exact hm u v x _ h3) h
set_option maxHeartbeats 16000000 in
set_option maxRecDepth 100000 in
/-- The two loops that write over the copy, what the nil relay tells, the bytes copied and both judged (a drawn region of three orders). -/
theorem keeps_walk (S : Spec RI) (c : Cfg) (D E L : Option Addr) (nd cd ne ce nl cl : Nat) (o : Op) (w : World) (h : CM w c D E L nd cd ne ce nl cl) (hb : BL w o.A o.l) (hl1 : o.l.length ≤ 9223372036854775807) (hl2 : o.l.length ≤ o.cp) (hn : o.A = none → o.cp = 0) (hl3 : o.l.length ≤ 140737488355328) (bd : nd * 24 ≤ 140737488355328) (br : ∀ r ∈ c.delays, r.length * 8 ≤ 140737488355328) (be : ne * 32 ≤ 140737488355328) (bl : nl * 32 ≤ 140737488355328) (hw1 : ∀ r ∈ c.delays, Wf .i64 r ∧ r.length ≤ maxLen) (hw2 : ∀ e ∈ c.entries, e.b < 4294967296) (hw3 : ∀ e ∈ c.links, e.b < 4294967296) :
    Calls Try.prog 6 #[.agg #[.int .i64 c.hosts, .int .i64 c.cycle, .int .i64 c.delay, .int .i64 c.window, .int .i64 c.precision, .slice D nd cd, .slice E ne ce, .slice L nl cl, .int .i64 c.queue], .agg #[.int .i64 o.t, .int .i64 o.lc, .int .i64 o.fr, .slice o.A o.l.length o.cp]] w fun r w' => r = .returned (.bool true) ∧ Below w.heap.size w w' := by
  have SH := Lib.hid S
  have HM := Lib.hid h
  have HB := Lib.hid (fun (W : World) (hW : Below w.heap.size w W) => hb.below hW)
  have H1 := Lib.hid hl1
  have H2 := Lib.hid hl2
  have H3 := Lib.hid hl3
  have HN := Lib.hid hn
  have S0 := ((Stay.start w).alloc (cbx c D E L nd cd ne ce nl cl)).alloc (obx o)
  rw [World.size_alloc] at S0
  have HS0 := Lib.hid S0
  have HF := Lib.hid (fun W => fixed_any S W)
  have HC := Lib.hid (fun W (hW : CM W c D E L nd cd ne ce nl cl) => ConfW.refCopy_any c D E L nd cd ne ce nl cl W hW bd br be bl)
  have HW := Lib.hid (And.intro hw1 (And.intro hw2 hw3))
  clear S h hb hl1 hl2 hl3 hn S0 bd br be bl hw1 hw2 hw3
  go_enter Try.func6, Try.ntmps6
  go_wp2_with fail
  refine (HF.out _).mono ?_
  rintro r w1 ⟨rfl, b1⟩
  have S1 := Lib.hid (HS0.out.next b1)
  clear b1 HS0 HF
  obtain ⟨a0, a1, a2, a3, a4, a5, a6, a7, a8⟩ := PlanW.cells9 (S1.out.at 1 rfl)
  go_wp2_with fail
  refine (HC.out _ (HM.out.below S1.out.b)).mono ?_
  rintro r w2 ⟨vs, vD, vE, vL, rfl, b2, own2⟩
  have S2 := Lib.hid (S1.out.next b2)
  have OW2 := Lib.hid own2
  have L2 := Lib.hid b2.size
  have LB := Lib.hid (fun (x : Nat × Obj) (hx : x ∈ [(w.heap.size + 1, obx o), (w.heap.size, cbx c D E L nd cd ne ce nl cl)]) => lt_of_heap (S1.out.h x hx))
  have LW := Lib.hid S1.out.b.size
  obtain ⟨D2, E2, G2, cd2, ce2, cl2, rfl, rfl, rfl, m2⟩ := own2.mem HW.out.1 HW.out.2.1 HW.out.2.2
  have M2 := Lib.hid m2
  clear b2 S1 own2 m2 HC a0 a1 a2 a3 a4 a5 a6 a7 a8
  have S3 := Lib.hid (S2.out.alloc (cbx c D2 E2 G2 c.delays.length cd2 c.entries.length ce2 c.links.length cl2))
  have M3 := Lib.hid (M2.out.below (al (Below.refl _ _) (cbx c D2 E2 G2 c.delays.length cd2 c.entries.length ce2 c.links.length cl2)))
  obtain ⟨a0, a1, a2, a3, a4, a5, a6, a7, a8⟩ := PlanW.cells9 (S3.out.at 0 rfl)
  go_wp2_with fail
  refine (new_both SH.out c D2 E2 G2 c.delays.length cd2 c.entries.length ce2 c.links.length cl2 _ M3.out).mono ?_
  rintro r w4 ⟨ra, e, rfl, b4, ne4⟩
  have S4 := Lib.hid (S3.out.next b4)
  have NE := Lib.hid ne4
  have B24 := Lib.hid (show Below w2.heap.size w2 w4 from (al (Below.refl _ _) (cbx c D2 E2 G2 c.delays.length cd2 c.entries.length ce2 c.links.length cl2)).trans (b4.mono (by rw [World.size_alloc]; omega)))
  have OW4 := Lib.hid (OW2.out.up (Nat.le_refl _) (ConfW.Up.of _ B24.out))
  have LG := Lib.hid (show ∀ (v : Value) (b size n : Nat) (e : TypeId) (xs : List Value), w2.ownsRow b e size v n xs → ∀ g, v.ownBlock = some g → g < w2.heap.size from fun v b size n e xs h g hg => (h.lt g hg).2)
  have hLE : c.entries.length ≤ 9223372036854775807 := by have := M2.out.mE; unfold maxLen at this; omega
  have hLL : c.links.length ≤ 9223372036854775807 := by have := M2.out.mL; unfold maxLen at this; omega
  have SB := Lib.hid (Sh.refl w1.heap.size w2.heap.size w4)
  have LX := Lib.hid (show w4.heap.size = w4.heap.size from rfl)
  clear b4 ne4 S3 M3 S2 a0 a1 a2 a3 a4 a5 a6 a7 a8 LX
  obtain ⟨a0, a1, a2, a3, a4, a5, a6, a7, a8⟩ := PlanW.cells9 (S4.out.at 0 rfl)
  go_wp2_with fail
  clear a0 a1 a2 a3 a4 a5 a6 a7 a8
  go_loopw [27] (fun iv wr => ∃ (i : Nat), i ≤ c.entries.length ∧ iv = .int .i64 i ∧ Hid (Sh w1.heap.size w2.heap.size w4 wr)) (fun iv _ => c.entries.length - (intOf iv).toNat)
  case atStart => exact ⟨0, Nat.zero_le _, rfl, SB⟩
  case round =>
    clear SB
    obtain ⟨i, hi1, rfl, HS⟩ := hrel
    obtain ⟨a0, a1, a2, a3, a4, a5, a6, a7, a8⟩ := PlanW.cells9 ((HS.out.out w2.heap.size (Or.inr (Nat.le_refl _))).trans (S4.out.at 0 rfl))
    by_cases hlt : (i : Int) < (c.entries.length : Int)
    · obtain ⟨x, hx⟩ : ∃ x, c.entries[i]? = some x := ⟨_, List.getElem?_eq_getElem (by omega)⟩
      have hz : (ents c.entries)[i * 4]? = some (ConfW.fld x 0) := by rw [show i * 4 = i * 4 + 0 from rfl, ConfW.ents_at _ _ _ (by decide), hx]; rfl
      obtain ⟨g, cap, u', hA2, g1, g2, tc, tf⟩ := HS.out.cell OW4.out.ent (Nat.le_refl _) (LG.out _ _ _ _ _ _ OW2.out.ent) hz
      injection hA2 with hA3 _ hA4
      subst hA3
      subst hA4
      have ST := Lib.hid (HS.out.set g1 g2 (i * 4) (.int .i64 99))
      clear hz g1 g2 hx
      go_wp2
      go_roundw
      case rel => exact ⟨i + 1, by omega, by go_num, Lib.hid ST.out⟩
      case measure => simp [intOf]; omega
    · go_wp2_with fail
      clear hlt hi1 a0 a1 a2 a3 a4 a5 a6 a7 a8
      go_loopw [39] (fun iv wr => ∃ (i : Nat), i ≤ c.links.length ∧ iv = .int .i64 i ∧ Hid (Sh w1.heap.size w2.heap.size w4 wr)) (fun iv _ => c.links.length - (intOf iv).toNat)
      case atStart => exact ⟨0, Nat.zero_le _, rfl, HS⟩
      case round =>
        clear HS
        obtain ⟨i, hi1, rfl, HS⟩ := hrel
        obtain ⟨a0, a1, a2, a3, a4, a5, a6, a7, a8⟩ := PlanW.cells9 ((HS.out.out w2.heap.size (Or.inr (Nat.le_refl _))).trans (S4.out.at 0 rfl))
        by_cases hlt : (i : Int) < (c.links.length : Int)
        · obtain ⟨x, hx⟩ : ∃ x, c.links[i]? = some x := ⟨_, List.getElem?_eq_getElem (by omega)⟩
          have hz : (ents c.links)[i * 4 + 2]? = some (ConfW.fld x 2) := by rw [ConfW.ents_at _ _ _ (by decide), hx]; rfl
          obtain ⟨g, cap, u', hA2, g1, g2, tc, tf⟩ := HS.out.cell OW4.out.lnk (Nat.le_refl _) (LG.out _ _ _ _ _ _ OW2.out.lnk) hz
          injection hA2 with hA3 _ hA4
          subst hA3
          subst hA4
          have ST := Lib.hid (HS.out.set g1 g2 (i * 4 + 2) (.int .i64 0))
          clear hz g1 g2 hx
          go_wp2
          go_roundw
          case rel => exact ⟨i + 1, by omega, by go_num, Lib.hid ST.out⟩
          case measure => simp [intOf]; omega
        · go_wp2_with fail
          clear hlt hi1 a0 a1 a2 a3 a4 a5 a6 a7 a8
          refine (SH.out.judge_nil 0 0 0 none 0 0 wr).mono ?_
          rintro r w5 ⟨hr, b5⟩
          obtain rfl : r = .returned (.agg #[.int .i64 1, .int .i64 0, .int .i64 0, .int .i64 0, .string ⟨#[]⟩, .int .i64 0, .int .u32 0, .int .i64 0]) := hr
          have NV := fun W => FrameW.neq_of_eql (eql_v 1 0 0 0 ⟨#[]⟩ 0 0 0 W)
          go_wp2_with fail
          refine (SH.out.dropped_nil 1 w5).mono ?_
          rintro r w6 ⟨rfl, b6⟩
          have B6 := b5.trans (b6.mono b5.size)
          have S6 := Lib.hid (show Stay w [(w.heap.size + 1, obx o), (w.heap.size, cbx c D E L nd cd ne ce nl cl)] w6 from
            ⟨(S4.out.b.trans (HS.out.below LW.out)).trans (B6.mono (Nat.le_trans S4.out.b.size (Nat.le_of_eq HS.out.size.symm))), fun x hx => row_below B6 ((HS.out.out x.1 (Or.inl (LB.out x hx))).trans (S4.out.h x (List.mem_cons_of_mem _ hx)))⟩)
          have K6 := Lib.hid (fun (j : Nat) (h1 : w2.heap.size ≤ j) (h2 : j < w4.heap.size) => (B6.block j (by rw [HS.out.size]; exact h2)).trans (HS.out.out j (Or.inr h1)))
          have Z6 := Lib.hid (show w4.heap.size ≤ w6.heap.size from Nat.le_trans (Nat.le_of_eq HS.out.size.symm) B6.size)
          clear NV b5 b6 B6 HS
          rcases NE.out with ⟨-, rfl, rfl⟩ | ⟨hz, rfl, g, X, rfl, hri⟩
          · go_wp2
            go_ret
            exact ⟨rfl, S6.out.b⟩
          · have Q6 := Lib.hid (show RA RI w X g c (bs0 c) ds0 0 [(w.heap.size + 1, obx o), (w.heap.size, cbx c D E L nd cd ne ce nl cl)] w6 from by
              have hft : ∀ j, X j → w2.heap.size < j ∧ j < w4.heap.size := fun j hj => by
                have := SH.out.foot hri j hj
                rw [World.size_alloc] at this
                omega
              have hw12 : w.heap.size ≤ w2.heap.size := Nat.le_trans LW.out L2.out
              refine ⟨SH.out.lower (SH.out.frame hri Z6.out (fun j hj => K6.out j (Nat.le_of_lt (hft j hj).1) (hft j hj).2)) (by rw [World.size_alloc]; omega), rb_none _ _ _, S6.out.b, fun x hx => ⟨S6.out.h x hx, ⟨fun hX => ?_, fun h => h⟩, ?_⟩, fun _ _ h => h⟩
              · have h8 := (hft _ hX).1
                have h9 := LB.out x hx
                have := L2.out
                omega
              · simp only [List.mem_cons, List.not_mem_nil, or_false] at hx
                rcases hx with rfl | rfl
                · exact Nat.le_succ _
                · exact Nat.le_refl _)
            clear hri K6 Z6 S6 S4 NE OW4 LG OW2 M2 B24 LB LW L2
            have Q7 := Lib.hid (Q6.out.next SH.out (al (Below.refl w6.heap.size w6) (.cells #[] 5)))
            have EO := Lib.hid (FrameW.empty_ob w6 (Nat.le_refl w6.heap.size))
            obtain ⟨x0, x1, x2, x3⟩ := PlanW.cells4 (Q7.out.at 0 rfl)
            go_wp2_with (at_builtin; refine FrameW.wpList_append_any _ rfl _ _ rfl w6.heap.size _ [] rfl EO.out o.A o.l.length o.cp o.l rfl rfl (HB.out _ Q7.out.b) HN.out (by simpa using H3.out) (by rw [World.size_alloc]; exact Nat.le_succ _) ?_; intro v7 w7 o7 st7; have O7 := Lib.hid (show FrameW.OB w7 w6.heap.size v7 o.l from o7); have ST7 := Lib.hid (show Shell.Step (w6.alloc (.cells #[] 5)) (.slice (some ⟨w6.heap.size, 0, none⟩) 0 0) w7 v7 from ⟨st7.g, st7.m⟩); obtain ⟨A7, c7, hv7, hb7, hc7, -⟩ := O7.out.form; subst hv7; have HB7 := Lib.hid hb7; have C7 := Lib.hid hc7; obtain ⟨R7, q8, t7⟩ := app_rel SH.out Q6.out Q7.out O7.out ST7.out; have Q8 := Lib.hid q8; have TB7 := Lib.hid t7; clear o7 st7 x0 x1 x2 x3 q8 t7 hb7 hc7; obtain ⟨x0, x1, x2, x3⟩ := PlanW.cells4 (Q8.out.at 0 rfl))
            clear Q6 Q7 EO ST7 O7
            obtain ⟨d, hd⟩ : ∃ d, dt o.l = d := ⟨_, rfl⟩
            obtain ⟨v, hv⟩ : ∃ v, jd c (bs0 c) o.t o.lc o.fr o.l = v := ⟨_, rfl⟩
            have HD := Lib.hid hd
            have HV := Lib.hid hv
            clear hd hv
            refine (SH.out.judge o.t o.lc o.fr A7 o.l c7 Q8.out.p (Nat.zero_le _) HB7.out H1.out C7.out).mono ?_
            rintro r w8 ⟨X8, rfl, p8, u8⟩
            rw [HD.out, HV.out]
            have Q9 := Lib.hid (Q8.out.turnP SH.out p8 u8)
            have Q10 := Lib.hid (Q9.out.box SH.out (vby v d))
            clear p8 u8 Q8 x0 x1 x2 x3 HB7 C7
            go_wp2_with fail
            generalize World.alloc _ _ = w10 at *
            have HZ := Lib.hid hz
            have HBZ := Lib.hid (show nl * 48 ≤ 140737488351232 by rw [HM.out.nL]; have := lnk_len hz; omega)
            have TC := Lib.hid (Q10.out.next SH.out (Below.refl _ _).drew)
            clear hz Q9 Q10
            go_wp2_with fail
            apply wp_v3 (S := fun _ _ x W => ∃ k, x = .pointer (some ⟨k, 0, none⟩) ∧ W.heap[k]? = some (vbx v d) ∧ (∀ y ∈ ((w8.heap.size, vby v d) :: ([(w.heap.size + 1, obx o), (w.heap.size, cbx c D E L nd cd ne ce nl cl)] ++ R7)), W.heap[y.1]? = some y.2) ∧ Below w.heap.size w W)
            case h =>
              refine wp_region_noPanic ?_
              refine wp_region_held_drew (S := fun Z : World => Z.heap[w.heap.size + 1]? = some (obx o) ∧ Z.heap[w.heap.size]? = some (cbx c D E L nd cd ne ce nl cl)) (by kernel_rfl) (And.intro (TC.out.at 1 rfl) (TC.out.at 2 rfl)) (fun hHeld => ?_)
              refine takeR 0 (some 75) ?_ ?_ ?_; rotate_left; (focus (intro w hSw; (try dsimp only at hSw); obtain ⟨x0, x1, x2, x3⟩ := PlanW.cells4 hSw.1; obtain ⟨a0, a1, a2, a3, a4, a5, a6, a7, a8⟩ := PlanW.cells9 hSw.2; go_simp; (try with_reducible rfl)))
              simp only [aput, lset]
              refine takeR 1 (some 76) ?_ ?_ ?_; rotate_left; (focus (intro w hSw; (try dsimp only at hSw); obtain ⟨x0, x1, x2, x3⟩ := PlanW.cells4 hSw.1; obtain ⟨a0, a1, a2, a3, a4, a5, a6, a7, a8⟩ := PlanW.cells9 hSw.2; go_simp; (try with_reducible rfl)))
              simp only [aput, lset]
              refine takeR 3 (some 78) ?_ ?_ ?_; rotate_left; (focus (intros; go_simp; (try with_reducible rfl)))
              simp only [aput, lset]
              refine takeR 4 (some 79) ?_ ?_ ?_; rotate_left; (focus (intro w hSw; (try dsimp only at hSw); obtain ⟨x0, x1, x2, x3⟩ := PlanW.cells4 hSw.1; obtain ⟨a0, a1, a2, a3, a4, a5, a6, a7, a8⟩ := PlanW.cells9 hSw.2; go_simp; (try with_reducible rfl)))
              simp only [aput, lset]
              refine takeR 5 (some 80) ?_ ?_ ?_; rotate_left; (focus (intros; go_simp; (try with_reducible rfl)))
              simp only [aput, lset]
              refine takeR 6 (some 81) ?_ ?_ ?_; rotate_left; (focus (intro w hSw; (try dsimp only at hSw); obtain ⟨x0, x1, x2, x3⟩ := PlanW.cells4 hSw.1; obtain ⟨a0, a1, a2, a3, a4, a5, a6, a7, a8⟩ := PlanW.cells9 hSw.2; go_simp; (try with_reducible rfl)))
              simp only [aput, lset]
              refine takeR 7 (some 82) ?_ ?_ ?_; rotate_left; (focus (intros; go_simp; (try with_reducible rfl)))
              simp only [aput, lset]
              refine takeR 8 (some 83) ?_ ?_ ?_; rotate_left; (focus (intro w hSw; (try dsimp only at hSw); obtain ⟨x0, x1, x2, x3⟩ := PlanW.cells4 hSw.1; obtain ⟨a0, a1, a2, a3, a4, a5, a6, a7, a8⟩ := PlanW.cells9 hSw.2; go_simp; (try with_reducible rfl)))
              simp only [aput, lset]
              refine takeR 9 (some 84) ?_ ?_ ?_; rotate_left; (focus (intros; go_simp; (try with_reducible rfl)))
              simp only [aput, lset]
              refine takeR 10 (some 85) ?_ ?_ ?_; rotate_left; (focus (intro w hSw; (try dsimp only at hSw); obtain ⟨x0, x1, x2, x3⟩ := PlanW.cells4 hSw.1; obtain ⟨a0, a1, a2, a3, a4, a5, a6, a7, a8⟩ := PlanW.cells9 hSw.2; go_simp; (try with_reducible rfl)))
              simp only [aput, lset]
              refine wpAnyH_ready (rs := [2, 15]) (by kernel_rfl) (by simp) ?_
              refine AllReadyH.cons (o := ⟨some 77, _, _, _, _, _⟩) rfl (fun K hK => ?_) ?_
              · rw [if_pos (by kernel_rfl)]
                go_simp
                refine (refBuckets_any c D E L nd cd ne ce nl cl _ (HM.out.below TC.out.b) HBZ.out).mono ?_
                rintro r2 w12 ⟨vl, rfl, G12, b12⟩
                have TC := Lib.hid (ask_rel SH.out TC.out G12 b12)
                clear G12 b12
                have hS2 := And.intro (TC.out.at 1 rfl) (TC.out.at 2 rfl)
                go_simp
                refine hK.out _ _ (by first | assumption | with_reducible exact hS2) (fun hHeld => ?_)
                clear hK K
                refine wpAnyH_ready (rs := [11, 15]) (by kernel_rfl) (by simp) ?_
                refine AllReadyH.cons (o := ⟨some 86, _, _, _, _, _⟩) rfl (fun K hK => ?_) ?_
                · rw [if_pos (by kernel_rfl)]
                  go_simp
                  refine (refJudge_any c D E L nd cd ne ce nl cl o.t o.lc o.fr o.A o.l o.cp 0 w _ _ _ _ _ HM.out HZ.out TC.out.b TC.out.r (gd_zero c) (Nat.zero_le _) (HB.out _ TC.out.b) H1.out H2.out).mono ?_
                  rintro r11 w13 ⟨vl', XR', es', rfl, R13, T13⟩
                  rw [HD.out, HV.out]
                  have TC := Lib.hid (TC.out.turnR SH.out R13 T13)
                  clear R13 T13
                  have hS2 := And.intro (TC.out.at 1 rfl) (TC.out.at 2 rfl)
                  go_simp
                  refine hK.out _ _ (by first | assumption | with_reducible exact hS2) (fun hHeld => ?_)
                  clear hK K
                  refine takeR 12 (some 74) ?_ ?_ ?_; rotate_left; (focus (intros; go_simp; (try with_reducible rfl)))
                  simp only [aput, lset]
                  refine takeR 13 (some 87) ?_ ?_ ?_; rotate_left; (focus (intros; go_simp; (try with_reducible rfl)))
                  simp only [aput, lset]
                  refine takeR 14 (some 88) ?_ ?_ ?_; rotate_left; (focus (intros; go_simp; (try with_reducible rfl)))
                  simp only [aput, lset]
                  refine wpAnyH_ready (rs := [15]) (by kernel_rfl) (by simp) ?_
                  refine AllReadyH.cons (o := ⟨some 14, _, _, _, _, _⟩) rfl (fun K hK => ?_) AllReadyH.nil
                  rw [if_pos (by kernel_rfl)]
                  go_simp
                  have KN := Lib.hid (show ∀ b ∈ ((w8.heap.size, vby v d) :: ([(w.heap.size + 1, obx o), (w.heap.size, cbx c D E L nd cd ne ce nl cl)] ++ R7)), b.1 ≠ w13.heap.size from fun b hb => Nat.ne_of_lt (lt_of_heap (TC.out.bx b hb).1))
                  have TC := Lib.hid (ra_ren (TC.out.box SH.out vbz) (j' := w13.heap.size) rfl)
                  have hS2 := And.intro (TC.out.at 2 rfl) (TC.out.at 3 rfl)
                  go_simp
                  refine hK.out _ _ (by first | assumption | with_reducible exact hS2) (fun hHeld => ?_)
                  clear hK K
                  refine takeR 16 (some 13) ?_ ?_ ?_; rotate_left; (focus (intros; go_simp; (try with_reducible rfl)))
                  simp only [aput, lset]
                  generalize World.alloc w13 vbz = wz at *
                  refine wpAnyH_ready (rs := [17]) (by kernel_rfl) (by simp) ?_
                  refine AllReadyH.cons (o := ⟨none, _, _, _, _, _⟩) rfl (fun K hK => ?_) AllReadyH.nil
                  rw [if_pos (by kernel_rfl)]
                  go_simp
                  obtain ⟨y0, y1, y2, y3, y4, y5, y6, y7⟩ := cells8 (TC.out.at 0 rfl)
                  obtain ⟨f0, f1, f2, f3, f4, f5, f6, f7⟩ := frozen8 (TC.out.at 0 rfl)
                  have TC := Lib.hid (TC.out.put SH.out (kept8 wz w13.heap.size (.int .i64 v.w) (.int .i64 d.c) (.int .i64 d.l) (.int .i64 d.n) (.string d.p) (.int .i64 d.s) (.int .u32 (v.u : Int)) (.int .i64 v.a)) (ob' := vbx v d) (put8 (TC.out.at 0 rfl) _ _ _ _ _ _ _ _) KN.out)
                  unfold set8 at TC
                  have hS2 := And.intro (TC.out.at 2 rfl) (TC.out.at 3 rfl)
                  go_simp
                  refine hK.out _ _ (by first | assumption | with_reducible exact hS2) (fun hHeld => ?_)
                  clear hK K
                  refine wpAnyH_done (by kernel_rfl) ?_ _
                  refine NoPanic.normal ?_
                  generalize hpp : Value.pointer (some ⟨w13.heap.size, 0, none⟩) = pp
                  exact ⟨vl, vl', pp, rfl, rfl, _, hpp.symm, TC.out.at 0 rfl, fun y hy => (TC.out.bx y (List.mem_cons_of_mem _ hy)).1, TC.out.b⟩
                refine AllReadyH.cons (o := ⟨some 14, _, _, _, _, _⟩) rfl (fun K hK => ?_) AllReadyH.nil
                rw [if_pos (by kernel_rfl)]
                go_simp
                have KN := Lib.hid (show ∀ b ∈ ((w8.heap.size, vby v d) :: ([(w.heap.size + 1, obx o), (w.heap.size, cbx c D E L nd cd ne ce nl cl)] ++ R7)), b.1 ≠ w12.heap.size from fun b hb => Nat.ne_of_lt (lt_of_heap (TC.out.bx b hb).1))
                have TC := Lib.hid (ra_ren (TC.out.box SH.out vbz) (j' := w12.heap.size) rfl)
                have hS2 := And.intro (TC.out.at 2 rfl) (TC.out.at 3 rfl)
                go_simp
                refine hK.out _ _ (by first | assumption | with_reducible exact hS2) (fun hHeld => ?_)
                clear hK K
                refine wpAnyH_ready (rs := [11]) (by kernel_rfl) (by simp) ?_
                refine AllReadyH.cons (o := ⟨some 86, _, _, _, _, _⟩) rfl (fun K hK => ?_) AllReadyH.nil
                rw [if_pos (by kernel_rfl)]
                go_simp
                refine (refJudge_any c D E L nd cd ne ce nl cl o.t o.lc o.fr o.A o.l o.cp 0 w _ _ _ _ _ HM.out HZ.out TC.out.b TC.out.r (gd_zero c) (Nat.zero_le _) (HB.out _ TC.out.b) H1.out H2.out).mono ?_
                rintro r11 w13 ⟨vl', XR', es', rfl, R13, T13⟩
                rw [HD.out, HV.out]
                have TC := Lib.hid (TC.out.turnR SH.out R13 T13)
                clear R13 T13
                have hS2 := And.intro (TC.out.at 2 rfl) (TC.out.at 3 rfl)
                go_simp
                refine hK.out _ _ (by first | assumption | with_reducible exact hS2) (fun hHeld => ?_)
                clear hK K
                refine takeR 12 (some 74) ?_ ?_ ?_; rotate_left; (focus (intros; go_simp; (try with_reducible rfl)))
                simp only [aput, lset]
                refine takeR 13 (some 87) ?_ ?_ ?_; rotate_left; (focus (intros; go_simp; (try with_reducible rfl)))
                simp only [aput, lset]
                refine takeR 14 (some 88) ?_ ?_ ?_; rotate_left; (focus (intros; go_simp; (try with_reducible rfl)))
                simp only [aput, lset]
                refine takeR 16 (some 13) ?_ ?_ ?_; rotate_left; (focus (intros; go_simp; (try with_reducible rfl)))
                simp only [aput, lset]
                refine wpAnyH_ready (rs := [17]) (by kernel_rfl) (by simp) ?_
                refine AllReadyH.cons (o := ⟨none, _, _, _, _, _⟩) rfl (fun K hK => ?_) AllReadyH.nil
                rw [if_pos (by kernel_rfl)]
                go_simp
                obtain ⟨y0, y1, y2, y3, y4, y5, y6, y7⟩ := cells8 (TC.out.at 0 rfl)
                obtain ⟨f0, f1, f2, f3, f4, f5, f6, f7⟩ := frozen8 (TC.out.at 0 rfl)
                have TC := Lib.hid (TC.out.put SH.out (kept8 w13 w12.heap.size (.int .i64 v.w) (.int .i64 d.c) (.int .i64 d.l) (.int .i64 d.n) (.string d.p) (.int .i64 d.s) (.int .u32 (v.u : Int)) (.int .i64 v.a)) (ob' := vbx v d) (put8 (TC.out.at 0 rfl) _ _ _ _ _ _ _ _) KN.out)
                unfold set8 at TC
                have hS2 := And.intro (TC.out.at 2 rfl) (TC.out.at 3 rfl)
                go_simp
                refine hK.out _ _ (by first | assumption | with_reducible exact hS2) (fun hHeld => ?_)
                clear hK K
                refine wpAnyH_done (by kernel_rfl) ?_ _
                refine NoPanic.normal ?_
                generalize hpp : Value.pointer (some ⟨w12.heap.size, 0, none⟩) = pp
                exact ⟨vl, vl', pp, rfl, rfl, _, hpp.symm, TC.out.at 0 rfl, fun y hy => (TC.out.bx y (List.mem_cons_of_mem _ hy)).1, TC.out.b⟩
              refine AllReadyH.cons (o := ⟨some 14, _, _, _, _, _⟩) rfl (fun K hK => ?_) AllReadyH.nil
              rw [if_pos (by kernel_rfl)]
              go_simp
              have KN := Lib.hid (show ∀ b ∈ ((w8.heap.size, vby v d) :: ([(w.heap.size + 1, obx o), (w.heap.size, cbx c D E L nd cd ne ce nl cl)] ++ R7)), b.1 ≠ w10.heap.size from fun b hb => Nat.ne_of_lt (lt_of_heap (TC.out.bx b hb).1))
              have TC := Lib.hid (ra_ren (TC.out.box SH.out vbz) (j' := w10.heap.size) rfl)
              have hS2 := And.intro (TC.out.at 2 rfl) (TC.out.at 3 rfl)
              go_simp
              refine hK.out _ _ (by first | assumption | with_reducible exact hS2) (fun hHeld => ?_)
              clear hK K
              refine wpAnyH_ready (rs := [2]) (by kernel_rfl) (by simp) ?_
              refine AllReadyH.cons (o := ⟨some 77, _, _, _, _, _⟩) rfl (fun K hK => ?_) AllReadyH.nil
              rw [if_pos (by kernel_rfl)]
              go_simp
              refine (refBuckets_any c D E L nd cd ne ce nl cl _ (HM.out.below TC.out.b) HBZ.out).mono ?_
              rintro r2 w12 ⟨vl, rfl, G12, b12⟩
              have TC := Lib.hid (ask_rel SH.out TC.out G12 b12)
              clear G12 b12
              have hS2 := And.intro (TC.out.at 2 rfl) (TC.out.at 3 rfl)
              go_simp
              refine hK.out _ _ (by first | assumption | with_reducible exact hS2) (fun hHeld => ?_)
              clear hK K
              refine wpAnyH_ready (rs := [11]) (by kernel_rfl) (by simp) ?_
              refine AllReadyH.cons (o := ⟨some 86, _, _, _, _, _⟩) rfl (fun K hK => ?_) AllReadyH.nil
              rw [if_pos (by kernel_rfl)]
              go_simp
              refine (refJudge_any c D E L nd cd ne ce nl cl o.t o.lc o.fr o.A o.l o.cp 0 w _ _ _ _ _ HM.out HZ.out TC.out.b TC.out.r (gd_zero c) (Nat.zero_le _) (HB.out _ TC.out.b) H1.out H2.out).mono ?_
              rintro r11 w13 ⟨vl', XR', es', rfl, R13, T13⟩
              rw [HD.out, HV.out]
              have TC := Lib.hid (TC.out.turnR SH.out R13 T13)
              clear R13 T13
              have hS2 := And.intro (TC.out.at 2 rfl) (TC.out.at 3 rfl)
              go_simp
              refine hK.out _ _ (by first | assumption | with_reducible exact hS2) (fun hHeld => ?_)
              clear hK K
              refine takeR 12 (some 74) ?_ ?_ ?_; rotate_left; (focus (intros; go_simp; (try with_reducible rfl)))
              simp only [aput, lset]
              refine takeR 13 (some 87) ?_ ?_ ?_; rotate_left; (focus (intros; go_simp; (try with_reducible rfl)))
              simp only [aput, lset]
              refine takeR 14 (some 88) ?_ ?_ ?_; rotate_left; (focus (intros; go_simp; (try with_reducible rfl)))
              simp only [aput, lset]
              refine takeR 16 (some 13) ?_ ?_ ?_; rotate_left; (focus (intros; go_simp; (try with_reducible rfl)))
              simp only [aput, lset]
              refine wpAnyH_ready (rs := [17]) (by kernel_rfl) (by simp) ?_
              refine AllReadyH.cons (o := ⟨none, _, _, _, _, _⟩) rfl (fun K hK => ?_) AllReadyH.nil
              rw [if_pos (by kernel_rfl)]
              go_simp
              obtain ⟨y0, y1, y2, y3, y4, y5, y6, y7⟩ := cells8 (TC.out.at 0 rfl)
              obtain ⟨f0, f1, f2, f3, f4, f5, f6, f7⟩ := frozen8 (TC.out.at 0 rfl)
              have TC := Lib.hid (TC.out.put SH.out (kept8 w13 w10.heap.size (.int .i64 v.w) (.int .i64 d.c) (.int .i64 d.l) (.int .i64 d.n) (.string d.p) (.int .i64 d.s) (.int .u32 (v.u : Int)) (.int .i64 v.a)) (ob' := vbx v d) (put8 (TC.out.at 0 rfl) _ _ _ _ _ _ _ _) KN.out)
              unfold set8 at TC
              have hS2 := And.intro (TC.out.at 2 rfl) (TC.out.at 3 rfl)
              go_simp
              refine hK.out _ _ (by first | assumption | with_reducible exact hS2) (fun hHeld => ?_)
              clear hK K
              refine wpAnyH_done (by kernel_rfl) ?_ _
              refine NoPanic.normal ?_
              generalize hpp : Value.pointer (some ⟨w10.heap.size, 0, none⟩) = pp
              exact ⟨vl, vl', pp, rfl, rfl, _, hpp.symm, TC.out.at 0 rfl, fun y hy => (TC.out.bx y (List.mem_cons_of_mem _ hy)).1, TC.out.b⟩
            case hm =>
              rintro u1 u2 u3 W ⟨k, rfl, hk, hBx, hbw⟩
              have BW := Lib.hid hbw
              have B7 := Lib.hid (TB7.out W (fun x hx => hBx x (List.mem_cons_of_mem _ hx)))
              clear TC hbw
              obtain ⟨y0, y1, y2, y3, y4, y5, y6, y7⟩ := cells8 hk
              obtain ⟨p0, p1, p2, p3, p4, p5, p6, p7⟩ := cells8 (hBx _ List.mem_cons_self)
              obtain ⟨x0, x1, x2, x3⟩ := PlanW.cells4 (hBx _ (List.mem_cons_of_mem _ List.mem_cons_self))
              clear hk hBx
              have CV1 := FrameW.conv_str (c := c7) B7.out rfl
              have CV2 := FrameW.conv_str (c := o.cp) (HB.out _ BW.out) rfl
              have ED := FrameW.eql_dat d.c d.l d.n d.p d.s
              go_wp2
              go_ret
              exact ⟨rfl, BW.out⟩
end
end Go.Proofs.Ytecgpibidcifpaa.RelayW
