/- RelayTimed, walked by what is asked of a relay. -/
import Derived.Test.YtecgpibidcifpaaTake
import Derived.Test.YtecgpibidcifpaaRelayFixed
namespace Go.Proofs.Ytecgpibidcifpaa.RelayW
open Shell (takeR skipR aput lset)
open Go.RowKit Shell
open ConfW (Cfg R4 CM ML chk)
open BucketW (Bk pas tk b0 fit)
open FrameW (BL rdE rdV)
/-- What becomes of a frame that isn't rated hangs on no bucket. -/
theorem jd_same {c : Cfg} {bs br : List Bk} {t lo fr : Int} {l : List Int} (h : (dt l).c ≠ 2) : jd c bs t lo fr l = jd c br t lo fr l := by
  unfold jd jv
  by_cases h0 : rdE l = 0
  · rw [if_pos h0, if_pos h0]
    have ok := dt_ok h0
    by_cases c1 : (dt l).c = 1
    · rw [if_pos c1, if_pos c1]
    · have c3 : (dt l).c = 3 := by have := ok.c; omega
      rw [if_neg c1, if_neg c1, if_pos c3, if_pos c3]
  · rw [if_neg h0, if_neg h0]
set_option maxRecDepth 100000 in
theorem eql_v (a c l n : Int) (p : ByteArray) (s u x : Int) (w : World) : (binOp .eql 44 (.agg #[.int .i64 a, .int .i64 c, .int .i64 l, .int .i64 n, .string p, .int .i64 s, .int .u32 u, .int .i64 x]) (.agg #[.int .i64 a, .int .i64 c, .int .i64 l, .int .i64 n, .string p, .int .i64 s, .int .u32 u, .int .i64 x])).run Try.prog w = .ok (.bool true) w := by
  have u3 := Try.underlying3
  have u4 := Try.underlying9
  have u5 := Try.underlying42
  have u6 := Try.underlying2
  have a3 := Try.isAgg3
  have z3 := Try.sizeOf3
  have a4 := Try.isAgg9
  have z4 := Try.sizeOf9
  have a5 := Try.isAgg42
  have z5 := Try.sizeOf42
  have a6 := Try.isAgg2
  have z6 := Try.sizeOf2
  have hS : Try.prog.underlying 44 = some (.struct (Try.prog.fieldsOf 44)) := by kernel_rfl
  have hp : Try.prog.stoodInHeld 44 = false := by kernel_rfl
  have hS2 : Try.prog.underlying 41 = some (.struct (Try.prog.fieldsOf 41)) := by kernel_rfl
  have hp2 : Try.prog.stoodInHeld 41 = false := by kernel_rfl
  have a7 := Try.isAgg41
  have z7 := Try.sizeOf41
  have hd : ∀ w, (Op.equalIn (9998 + 1) 41 (.agg #[.int .i64 c, .int .i64 l, .int .i64 n, .string p, .int .i64 s]) (.agg #[.int .i64 c, .int .i64 l, .int .i64 n, .string p, .int .i64 s])).run Try.prog w = .ok true w := by
    intro w
    rw [run_equalIn_agg w 9998 41 _ _ hS2 hp2]
    simp only [Program.fieldsOf, Try.underlying41]
    go_simp
  rw [run_eql_struct, show (10000 : Nat) = (9998 + 1) + 1 from rfl, run_equalIn_agg w (9998 + 1) 44 _ _ hS hp]
  simp only [Program.fieldsOf, Try.underlying44]
  clear hS2 hp2
  generalize 9998 = d9 at *
  go_simp
section
variable {RI : RIT}
/-- Two relays side by side, and boxes. -/
structure TW (RI : RIT) (w0 : World) (g h : Nat) (c : Cfg) (bs : List Bk) (ds : List Int) (N : Nat) (br : List Bk) (dr : List Int) (M : Nat) (B : List (Nat × Obj)) (W : World) : Prop where
  e : ∃ X Y, RI w0.heap.size X g c bs ds N W ∧ RI w0.heap.size Y h c br dr M W ∧ (∀ j, X j → ¬ Y j) ∧ ∀ b ∈ B, ¬ X b.1 ∧ ¬ Y b.1
  b : Below w0.heap.size w0 W
  bx : ∀ b ∈ B, W.heap[b.1]? = some b.2
variable {w0 W W1 : World} {g h N M N' M' : Nat} {c : Cfg} {bs bs' br br' : List Bk} {ds ds' dr dr' : List Int} {B B' : List (Nat × Obj)} {j : Nat} {ob ob' : Obj} {X X' Y Y' : Nat → Prop}
theorem TW.next (S : Spec RI) (t : TW RI w0 g h c bs ds N br dr M B W) (b : Below W.heap.size W W1) : TW RI w0 g h c bs ds N br dr M B W1 := by
  obtain ⟨X, Y, p, q, dj, nb⟩ := t.e
  exact ⟨⟨X, Y, S.frame p b.size (fun j hj => b.block j (S.foot p j hj).2), S.frame q b.size (fun j hj => b.block j (S.foot q j hj).2), dj, nb⟩, t.b.trans (b.mono t.b.size), fun y hy => row_below b (t.bx y hy)⟩
theorem TW.box (S : Spec RI) (t : TW RI w0 g h c bs ds N br dr M B W) (ob : Obj) : TW RI w0 g h c bs ds N br dr M ((W.heap.size, ob) :: B) (W.alloc ob) := by
  have t1 := t.next S (al (Below.refl W.heap.size W) ob)
  obtain ⟨X, Y, p, q, dj, nb⟩ := t.e
  have b := al (Below.refl W.heap.size W) ob
  refine ⟨⟨X, Y, S.frame p b.size (fun j hj => b.block j (S.foot p j hj).2), S.frame q b.size (fun j hj => b.block j (S.foot q j hj).2), dj, fun y hy => ?_⟩, t1.b, fun y hy => ?_⟩
  · rcases List.mem_cons.1 hy with rfl | hy
    · exact ⟨fun hX => absurd (S.foot p _ hX).2 (Nat.lt_irrefl _), fun hX => absurd (S.foot q _ hX).2 (Nat.lt_irrefl _)⟩
    · exact nb y hy
  · rcases List.mem_cons.1 hy with rfl | hy
    · exact heap_alloc_new _ _
    · exact t1.bx y hy
theorem TW.at (t : TW RI w0 g h c bs ds N br dr M B W) (i : Nat) (hi : B[i]? = some (j, ob)) : W.heap[j]? = some ob := t.bx (j, ob) (List.mem_of_getElem? hi)
theorem TW.sub (t : TW RI w0 g h c bs ds N br dr M B W) (hB : ∀ x ∈ B', x ∈ B) : TW RI w0 g h c bs ds N br dr M B' W := by
  obtain ⟨X, Y, p, q, dj, nb⟩ := t.e
  exact ⟨⟨X, Y, p, q, dj, fun y hy => nb y (hB y hy)⟩, t.b, fun y hy => t.bx y (hB y hy)⟩
theorem TW.ren (t : TW RI w0 g h c bs ds N br dr M ((j, ob) :: B) W) {j' : Nat} (e : j = j') : TW RI w0 g h c bs ds N br dr M ((j', ob) :: B) W := e ▸ t
/-- The one judges. -/
theorem TW.one (S : Spec RI) (t : TW RI w0 g h c bs ds N br dr M B W) (x lc fr : Int) (A : Option Addr) (l : List Int) (cp : Nat) (hN : N ≤ 17592186044000) (hb : BL W A l) (hl : l.length ≤ 9223372036854775807) (hc : l.length ≤ cp) :
    Calls Try.prog 12 #[.pointer (some ⟨g, 0, none⟩), .int .i64 x, .int .i64 lc, .int .i64 fr, .slice A l.length cp] W fun r W' => r = .returned (vv (dt l) (jd c bs x lc fr l)) ∧ TW RI w0 g h c (jb c bs x fr l) (tally ds (jd c bs x lc fr l).w) (N + 1) br dr M B W' := by
  obtain ⟨X, Y, p, q, dj, nb⟩ := t.e
  refine (S.judge x lc fr A l cp p hN hb hl hc).mono ?_
  rintro r W' ⟨X', hr, p', u⟩
  refine ⟨hr, ⟨X', Y, p', S.frame q u.size (fun j hj => u.block j (S.foot q j hj).2 (fun hx => dj j hx hj)), fun j hj hy => ?_, fun y hy => ⟨(u.bx (t.bx y hy) (nb y hy).1).2, (nb y hy).2⟩⟩, t.b.trans (u.below (fun j hj => (S.foot p j hj).1) t.b.size), fun y hy => (u.bx (t.bx y hy) (nb y hy).1).1⟩
  rcases u.foot j hj with h1 | h1
  · exact dj j h1 hy
  · have := (S.foot q j hy).2; omega
theorem TW.two (S : Spec RI) (t : TW RI w0 g h c bs ds N br dr M B W) (x lc fr : Int) (A : Option Addr) (l : List Int) (cp : Nat) (hN : M ≤ 17592186044000) (hb : BL W A l) (hl : l.length ≤ 9223372036854775807) (hc : l.length ≤ cp) :
    Calls Try.prog 12 #[.pointer (some ⟨h, 0, none⟩), .int .i64 x, .int .i64 lc, .int .i64 fr, .slice A l.length cp] W fun r W' => r = .returned (vv (dt l) (jd c br x lc fr l)) ∧ TW RI w0 g h c bs ds N (jb c br x fr l) (tally dr (jd c br x lc fr l).w) (M + 1) B W' := by
  obtain ⟨X, Y, p, q, dj, nb⟩ := t.e
  refine (S.judge x lc fr A l cp q hN hb hl hc).mono ?_
  rintro r W' ⟨Y', hr, q', u⟩
  refine ⟨hr, ⟨X, Y', S.frame p u.size (fun j hj => u.block j (S.foot p j hj).2 (fun hy => dj j hj hy)), q', fun j hj hy => ?_, fun y hy => ⟨(nb y hy).1, (u.bx (t.bx y hy) (nb y hy).2).2⟩⟩, t.b.trans (u.below (fun j hj => (S.foot q j hj).1) t.b.size), fun y hy => (u.bx (t.bx y hy) (nb y hy).2).1⟩
  rcases u.foot j hy with h1 | h1
  · exact dj j hj h1
  · have := (S.foot p j hj).2; omega
end
section
variable {RI : RIT}
/-- A stretch of code whose ways out meet, but for two values and the world. -/
theorem wp_vv {P : Program} {c : Code} {Q : Exit → Act → World → Prop} {a : Act} {w : World} (A2 : Value → Value → Act) (S : Value → Value → World → Prop) (h : c.wp P (fun e a' w' => ∃ u v, e = Exit.normal ∧ a' = A2 u v ∧ S u v w') a w) (hm : ∀ u v W, S u v W → Q .normal (A2 u v) W) : c.wp P Q a w :=
  Code.wp_mono (fun _ _ _ ⟨u, v, h1, h2, h3⟩ => by subst h1; subst h2; exact hm u v _ h3) h
theorem ops_bl3 {w W : World} {A : Option Addr} {ops : List Op} (h : OPS w A ops) {i : Nat} {o : Op} (hi : ops[i]? = some o) (hW : Below w.heap.size w W) : BL W o.A o.l ∧ o.l.length ≤ 9223372036854775807 ∧ o.l.length ≤ o.cp := by
  obtain ⟨_, _, _, _, _, _, _, h4, h5⟩ := (h.below hW) i o hi
  exact ⟨h4, h5⟩
abbrev vyz : Obj := .cells #[.int .i64 0, .int .i64 0, .int .i64 0, .int .i64 0, .string ⟨#[]⟩, .int .i64 0, .int .u32 0, .int .i64 0] 44 (0, 0)
/-- Two verdicts laid, one behind the other. -/
theorem two_put {w W : World} {k m p : Nat} {d : Dt} {v1 v2 : Vd} {ob : Obj} (hb : Below w.heap.size w W) (hk : W.heap[k]? = some vyz) (hm : W.heap[m]? = some vyz) (hp : W.heap[p]? = some ob) (km : k ≠ m) (pk : p ≠ k) (pm : p ≠ m) (wk : w.heap.size ≤ k) (wm : w.heap.size ≤ m) :
    ((set8 W k (.int .i64 v1.w) (.int .i64 d.c) (.int .i64 d.l) (.int .i64 d.n) (.string d.p) (.int .i64 d.s) (.int .u32 (v1.u : Int)) (.int .i64 v1.a)).heap[p]? = some ob ∧ (set8 W k (.int .i64 v1.w) (.int .i64 d.c) (.int .i64 d.l) (.int .i64 d.n) (.string d.p) (.int .i64 d.s) (.int .u32 (v1.u : Int)) (.int .i64 v1.a)).heap[m]? = some vyz) ∧ (set8 (set8 W k (.int .i64 v1.w) (.int .i64 d.c) (.int .i64 d.l) (.int .i64 d.n) (.string d.p) (.int .i64 d.s) (.int .u32 (v1.u : Int)) (.int .i64 v1.a)) m (.int .i64 v2.w) (.int .i64 d.c) (.int .i64 d.l) (.int .i64 d.n) (.string d.p) (.int .i64 d.s) (.int .u32 (v2.u : Int)) (.int .i64 v2.a)).heap[p]? = some ob ∧ (set8 (set8 W k (.int .i64 v1.w) (.int .i64 d.c) (.int .i64 d.l) (.int .i64 d.n) (.string d.p) (.int .i64 d.s) (.int .u32 (v1.u : Int)) (.int .i64 v1.a)) m (.int .i64 v2.w) (.int .i64 d.c) (.int .i64 d.l) (.int .i64 d.n) (.string d.p) (.int .i64 d.s) (.int .u32 (v2.u : Int)) (.int .i64 v2.a)).heap[k]? = some (vby v1 d) ∧ (set8 (set8 W k (.int .i64 v1.w) (.int .i64 d.c) (.int .i64 d.l) (.int .i64 d.n) (.string d.p) (.int .i64 d.s) (.int .u32 (v1.u : Int)) (.int .i64 v1.a)) m (.int .i64 v2.w) (.int .i64 d.c) (.int .i64 d.l) (.int .i64 d.n) (.string d.p) (.int .i64 d.s) (.int .u32 (v2.u : Int)) (.int .i64 v2.a)).heap[m]? = some (vby v2 d) ∧ Below w.heap.size w (set8 (set8 W k (.int .i64 v1.w) (.int .i64 d.c) (.int .i64 d.l) (.int .i64 d.n) (.string d.p) (.int .i64 d.s) (.int .u32 (v1.u : Int)) (.int .i64 v1.a)) m (.int .i64 v2.w) (.int .i64 d.c) (.int .i64 d.l) (.int .i64 d.n) (.string d.p) (.int .i64 d.s) (.int .u32 (v2.u : Int)) (.int .i64 v2.a)) := by
  have K1 := kept8 W k (.int .i64 v1.w) (.int .i64 d.c) (.int .i64 d.l) (.int .i64 d.n) (.string d.p) (.int .i64 d.s) (.int .u32 (v1.u : Int)) (.int .i64 v1.a)
  have P1 := put8 hk (.int .i64 v1.w) (.int .i64 d.c) (.int .i64 d.l) (.int .i64 d.n) (.string d.p) (.int .i64 d.s) (.int .u32 (v1.u : Int)) (.int .i64 v1.a)
  generalize set8 W k (.int .i64 v1.w) (.int .i64 d.c) (.int .i64 d.l) (.int .i64 d.n) (.string d.p) (.int .i64 d.s) (.int .u32 (v1.u : Int)) (.int .i64 v1.a) = W1 at *
  have K2 := kept8 W1 m (.int .i64 v2.w) (.int .i64 d.c) (.int .i64 d.l) (.int .i64 d.n) (.string d.p) (.int .i64 d.s) (.int .u32 (v2.u : Int)) (.int .i64 v2.a)
  have m1 := (K1.block m (fun e => km e.symm) (lt_of_heap hm)).trans hm
  have p1 := (K1.block p pk (lt_of_heap hp)).trans hp
  have P2 := put8 m1 (.int .i64 v2.w) (.int .i64 d.c) (.int .i64 d.l) (.int .i64 d.n) (.string d.p) (.int .i64 d.s) (.int .u32 (v2.u : Int)) (.int .i64 v2.a)
  generalize set8 W1 m (.int .i64 v2.w) (.int .i64 d.c) (.int .i64 d.l) (.int .i64 d.n) (.string d.p) (.int .i64 d.s) (.int .u32 (v2.u : Int)) (.int .i64 v2.a) = W2 at *
  exact ⟨⟨p1, m1⟩, (K2.block p pm (lt_of_heap p1)).trans p1, (K2.block k km (lt_of_heap P1)).trans P1, P2, (hb.trans (K1.below wk hb.size)).trans (K2.below wm (Nat.le_trans hb.size K1.size))⟩
set_option maxHeartbeats 64000000 in
set_option maxRecDepth 100000 in
theorem timed_walk (S : Spec RI) (c : Cfg) (D E L : Option Addr) (nd cd ne ce nl cl : Nat) (A : Option Addr) (n cp : Nat) (ops : List Op) (o : Op) (w : World) (h : CM w c D E L nd cd ne ce nl cl) (ho : OPS w A ops) (hn : ops.length = n) (hnz : n ≤ 17592186000000) (hb : BL w o.A o.l) (hl1 : o.l.length ≤ 9223372036854775807) (hl2 : o.l.length ≤ o.cp) :
    Calls Try.prog 5 #[.agg #[.int .i64 c.hosts, .int .i64 c.cycle, .int .i64 c.delay, .int .i64 c.window, .int .i64 c.precision, .slice D nd cd, .slice E ne ce, .slice L nl cl, .int .i64 c.queue], .slice A n cp, .agg #[.int .i64 o.t, .int .i64 o.lc, .int .i64 o.fr, .slice o.A o.l.length o.cp]] w fun r w' => r = .returned (.bool true) ∧ Below w.heap.size w w' := by
  have HO := Lib.hid ho
  have HN := Lib.hid hn
  have H3 := Lib.hid hnz
  have SH := Lib.hid S
  have HM := Lib.hid h
  have HB := Lib.hid (fun (W : World) (hW : Below w.heap.size w W) => hb.below hW)
  have H1 := Lib.hid hl1
  have H2 := Lib.hid hl2
  have S0 := ((Stay.start w).alloc (cbx c D E L nd cd ne ce nl cl)).alloc (obx o)
  rw [World.size_alloc] at S0
  have HS0 := Lib.hid S0
  have HF := Lib.hid (fun W => fixed_any S W)
  clear S h ho hn hnz hb hl1 hl2 S0
  go_enter Try.func5, Try.ntmps5
  go_wp2_with fail
  refine (HF.out _).mono ?_
  rintro r w1 ⟨rfl, b1⟩
  have S1 := Lib.hid (HS0.out.next b1)
  clear b1 HS0 HF
  obtain ⟨a0, a1, a2, a3, a4, a5, a6, a7, a8⟩ := PlanW.cells9 (S1.out.at 1 rfl)
  go_wp2_with fail
  by_cases hz : chk c = 0
  case neg =>
    refine (SH.out.bad c D E L nd cd ne ce nl cl _ (HM.out.below S1.out.b) hz).mono ?_
    rintro r w2 ⟨rfl, b2⟩
    have S2 := Lib.hid (S1.out.next b2)
    clear b2 S1 a0 a1 a2 a3 a4 a5 a6 a7 a8
    obtain ⟨a0, a1, a2, a3, a4, a5, a6, a7, a8⟩ := PlanW.cells9 (S2.out.at 1 rfl)
    go_wp2_with fail
    refine (SH.out.bad c D E L nd cd ne ce nl cl _ (HM.out.below S2.out.b) hz).mono ?_
    rintro r w3 ⟨rfl, b3⟩
    have B3 := Lib.hid (S2.out.next b3).b
    clear b3 S2 a0 a1 a2 a3 a4 a5 a6 a7 a8
    go_wp2
    go_ret
    exact ⟨rfl, B3.out⟩
  case pos =>
    refine (SH.out.new c D E L nd cd ne ce nl cl _ (HM.out.below S1.out.b) hz).mono ?_
    rintro r w2 ⟨g, X, rfl, F2, b2⟩
    have S2 := Lib.hid (S1.out.next b2)
    have F2' := Lib.hid F2
    have LB := Lib.hid (fun (x : Nat × Obj) (hx : x ∈ [(w.heap.size + 1, obx o), (w.heap.size, cbx c D E L nd cd ne ce nl cl)]) => lt_of_heap (S1.out.h x hx))
    have LW := Lib.hid S1.out.b.size
    clear F2 b2 S1 a0 a1 a2 a3 a4 a5 a6 a7 a8
    obtain ⟨a0, a1, a2, a3, a4, a5, a6, a7, a8⟩ := PlanW.cells9 (S2.out.at 1 rfl)
    go_wp2_with fail
    refine (SH.out.new c D E L nd cd ne ce nl cl _ (HM.out.below S2.out.b) hz).mono ?_
    rintro r w3 ⟨g', Y, rfl, G3, b3⟩
    have T3 := Lib.hid (show TW RI w g g' c (runB c ops 0) (runD c ops 0) 0 (bs0 c) ds0 0 [(w.heap.size + 1, obx o), (w.heap.size, cbx c D E L nd cd ne ce nl cl)] w3 from
      ⟨⟨X, Y, SH.out.lower (SH.out.frame F2'.out b3.size (fun j hj => b3.block j (SH.out.foot F2'.out j hj).2)) LW.out, SH.out.lower G3 S2.out.b.size, fun j hj hy => (by
        have := (SH.out.foot F2'.out j hj).2
        have := (SH.out.foot G3 j hy).1
        omega), fun x hx => ⟨fun hX => (by have := (SH.out.foot F2'.out _ hX).1; have := LB.out x hx; omega), fun hX => (by have := (SH.out.foot G3 _ hX).1; have := lt_of_heap (S2.out.h x hx); omega)⟩⟩, (S2.out.next b3).b, (S2.out.next b3).h⟩)
    clear G3 b3 S2 F2' LB LW a0 a1 a2 a3 a4 a5 a6 a7 a8
    go_wp2
    go_loopw [33] (fun iv wr => ∃ (i : Nat), i ≤ n ∧ iv = .int .i64 i ∧ Hid (TW RI w g g' c (runB c ops i) (runD c ops i) i (bs0 c) ds0 0 [(w.heap.size + 1, obx o), (w.heap.size, cbx c D E L nd cd ne ce nl cl)] wr)) (fun iv _ => n - (intOf iv).toNat)
    case atStart => exact ⟨0, Nat.zero_le _, rfl, T3⟩
    case round =>
      clear T3
      obtain ⟨i, hi, rfl, HT⟩ := hrel
      have hnn := H3.out
      by_cases hlt : i < n
      · have hlt' : (i : Int) < (n : Int) := by omega
        obtain ⟨z, hoi⟩ : ∃ z, ops[i]? = some z := ⟨_, List.getElem?_eq_getElem (by rw [HN.out]; exact hlt)⟩
        have HBL := Lib.hid (fun (W : World) (hW : Below w.heap.size w W) => ops_bl3 HO.out hoi hW)
        have E1 := Lib.hid (runB_at c hoi)
        have E2 := Lib.hid (runD_at c hoi)
        obtain ⟨b2, off2, rfl, m0, m1, m2, m3, -, -, -⟩ := (HO.out.below HT.out.b) i z hoi
        have T2 := Lib.hid (HT.out.box SH.out (obx z))
        clear hoi
        obtain ⟨x0, x1, x2, x3⟩ := PlanW.cells4 (T2.out.at 0 rfl)
        go_wp2_with fail
        refine (T2.out.one SH.out z.t z.lc z.fr z.A z.l z.cp (by omega) (HBL.out _ T2.out.b).1 (HBL.out _ T2.out.b).2.1 (HBL.out _ T2.out.b).2.2).mono ?_
        rintro r w4 ⟨rfl, t4⟩
        rw [← E1.out, ← E2.out] at t4
        have T4 := Lib.hid (t4.sub (B' := [(w.heap.size + 1, obx o), (w.heap.size, cbx c D E L nd cd ne ce nl cl)]) (fun x hx => List.mem_cons_of_mem _ hx))
        clear t4 T2 HT x0 x1 x2 x3 m0 m1 m2 m3
        go_wp2
        go_roundw
        case rel => exact ⟨i + 1, by omega, by go_num, T4⟩
        case measure => simp [intOf]; omega
      · obtain rfl : n = i := by omega
        obtain ⟨d, hd⟩ : ∃ d, dt o.l = d := ⟨_, rfl⟩
        obtain ⟨v1, hv1⟩ : ∃ v, jd c (runB c ops n) o.t o.lc o.fr o.l = v := ⟨_, rfl⟩
        obtain ⟨v2, hv2⟩ : ∃ v, jd c (bs0 c) o.t o.lc o.fr o.l = v := ⟨_, rfl⟩
        have HSame := Lib.hid (show d.c ≠ 2 → v1 = v2 from fun hc => by rw [← hv1, ← hv2]; exact jd_same (by rw [hd]; exact hc))
        have HD := Lib.hid hd
        have HV1 := Lib.hid hv1
        have HV2 := Lib.hid hv2
        have HNZ := Lib.hid (show n ≤ 17592186044000 by omega)
        have TC := Lib.hid (HT.out.next SH.out (Below.refl _ _).drew)
        clear hd hv1 hv2 hlt hi hnn
        go_wp2
        apply wp_vv (S := fun u v W => ∃ ka kb, u = .pointer (some ⟨ka, 0, none⟩) ∧ v = .pointer (some ⟨kb, 0, none⟩) ∧ W.heap[ka]? = some (vby v1 d) ∧ W.heap[kb]? = some (vby v2 d) ∧ Below w.heap.size w W)
        case h =>
          refine wp_region_noPanic ?_
          refine wp_region_held_drew (S := fun Z : World => Z.heap[w.heap.size + 1]? = some (obx o)) (by kernel_rfl) (TC.out.at 0 rfl) (fun hHeld => ?_)
          refine takeR 0 (some 48) ?_ ?_ ?_; rotate_left; (focus (intros; go_simp; (try with_reducible rfl)))
          simp only [aput, lset]
          refine takeR 1 (some 49) ?_ ?_ ?_; rotate_left; (focus (intros; go_simp; (try with_reducible rfl)))
          simp only [aput, lset]
          refine takeR 2 (some 50) ?_ ?_ ?_; rotate_left; (focus (intro w hSw; (try dsimp only at hSw); obtain ⟨x0, x1, x2, x3⟩ := PlanW.cells4 hSw; go_simp; (try with_reducible rfl)))
          simp only [aput, lset]
          refine takeR 3 (some 51) ?_ ?_ ?_; rotate_left; (focus (intros; go_simp; (try with_reducible rfl)))
          simp only [aput, lset]
          refine takeR 4 (some 52) ?_ ?_ ?_; rotate_left; (focus (intro w hSw; (try dsimp only at hSw); obtain ⟨x0, x1, x2, x3⟩ := PlanW.cells4 hSw; go_simp; (try with_reducible rfl)))
          simp only [aput, lset]
          refine takeR 5 (some 53) ?_ ?_ ?_; rotate_left; (focus (intros; go_simp; (try with_reducible rfl)))
          simp only [aput, lset]
          refine takeR 6 (some 54) ?_ ?_ ?_; rotate_left; (focus (intro w hSw; (try dsimp only at hSw); obtain ⟨x0, x1, x2, x3⟩ := PlanW.cells4 hSw; go_simp; (try with_reducible rfl)))
          simp only [aput, lset]
          refine takeR 7 (some 55) ?_ ?_ ?_; rotate_left; (focus (intros; go_simp; (try with_reducible rfl)))
          simp only [aput, lset]
          refine takeR 8 (some 56) ?_ ?_ ?_; rotate_left; (focus (intro w hSw; (try dsimp only at hSw); obtain ⟨x0, x1, x2, x3⟩ := PlanW.cells4 hSw; go_simp; (try with_reducible rfl)))
          simp only [aput, lset]
          refine takeR 10 (some 58) ?_ ?_ ?_; rotate_left; (focus (intros; go_simp; (try with_reducible rfl)))
          simp only [aput, lset]
          refine takeR 11 (some 59) ?_ ?_ ?_; rotate_left; (focus (intros; go_simp; (try with_reducible rfl)))
          simp only [aput, lset]
          refine takeR 12 (some 60) ?_ ?_ ?_; rotate_left; (focus (intro w hSw; (try dsimp only at hSw); obtain ⟨x0, x1, x2, x3⟩ := PlanW.cells4 hSw; go_simp; (try with_reducible rfl)))
          simp only [aput, lset]
          refine takeR 13 (some 61) ?_ ?_ ?_; rotate_left; (focus (intros; go_simp; (try with_reducible rfl)))
          simp only [aput, lset]
          refine takeR 14 (some 62) ?_ ?_ ?_; rotate_left; (focus (intro w hSw; (try dsimp only at hSw); obtain ⟨x0, x1, x2, x3⟩ := PlanW.cells4 hSw; go_simp; (try with_reducible rfl)))
          simp only [aput, lset]
          refine takeR 15 (some 63) ?_ ?_ ?_; rotate_left; (focus (intros; go_simp; (try with_reducible rfl)))
          simp only [aput, lset]
          refine takeR 16 (some 64) ?_ ?_ ?_; rotate_left; (focus (intro w hSw; (try dsimp only at hSw); obtain ⟨x0, x1, x2, x3⟩ := PlanW.cells4 hSw; go_simp; (try with_reducible rfl)))
          simp only [aput, lset]
          refine takeR 17 (some 65) ?_ ?_ ?_; rotate_left; (focus (intros; go_simp; (try with_reducible rfl)))
          simp only [aput, lset]
          refine takeR 18 (some 66) ?_ ?_ ?_; rotate_left; (focus (intro w hSw; (try dsimp only at hSw); obtain ⟨x0, x1, x2, x3⟩ := PlanW.cells4 hSw; go_simp; (try with_reducible rfl)))
          simp only [aput, lset]
          refine wpAnyH_ready (rs := [9, 20, 21]) (by kernel_rfl) (by simp) ?_
          refine AllReadyH.cons (o := ⟨some 57, _, _, _, _, _⟩) rfl (fun K hK => ?_) ?_
          · rw [if_pos (by kernel_rfl)]
            go_simp
            refine (TC.out.one SH.out o.t o.lc o.fr o.A o.l o.cp HNZ.out (HB.out _ TC.out.b) H1.out H2.out).mono ?_
            rintro r9 w9 ⟨rfl, t9⟩
            rw [HD.out, HV1.out]
            have TC := Lib.hid t9
            have hS9 := TC.out.at 0 rfl
            clear t9
            go_simp
            refine hK.out _ _ (by first | assumption | with_reducible exact hS2) (fun hHeld => ?_)
            clear hK K
            refine wpAnyH_ready (rs := [19, 20, 21]) (by kernel_rfl) (by simp) ?_
            refine AllReadyH.cons (o := ⟨some 67, _, _, _, _, _⟩) rfl (fun K hK => ?_) ?_
            · rw [if_pos (by kernel_rfl)]
              go_simp
              refine (TC.out.two SH.out o.t o.lc o.fr o.A o.l o.cp (Nat.zero_le _) (HB.out _ TC.out.b) H1.out H2.out).mono ?_
              rintro r19 w19 ⟨rfl, t9⟩
              rw [HD.out, HV2.out]
              have TC := Lib.hid t9
              have hS9 := TC.out.at 0 rfl
              clear t9
              go_simp
              refine hK.out _ _ (by first | assumption | with_reducible exact hS2) (fun hHeld => ?_)
              clear hK K
              refine wpAnyH_ready (rs := [20, 21]) (by kernel_rfl) (by simp) ?_
              refine AllReadyH.cons (o := ⟨some 13, _, _, _, _, _⟩) rfl (fun K hK => ?_) ?_
              · rw [if_pos (by kernel_rfl)]
                go_simp
                have KP20 := Lib.hid (show w.heap.size + 1 < w19.heap.size from (by first | exact lt_of_heap (TC.out.at 0 rfl) | (have := lt_of_heap (TC.out.at 0 rfl); rw [World.size_alloc] at this; exact this)))
                have TC := Lib.hid ((TC.out.box SH.out vyz).ren (j' := w19.heap.size) (by first | rfl | exact World.size_alloc _ _))
                have hS2 := TC.out.at 1 rfl
                go_simp
                refine hK.out _ _ (by first | assumption | with_reducible exact hS2) (fun hHeld => ?_)
                clear hK K
                refine wpAnyH_ready (rs := [21]) (by kernel_rfl) (by simp) ?_
                refine AllReadyH.cons (o := ⟨some 14, _, _, _, _, _⟩) rfl (fun K hK => ?_) AllReadyH.nil
                rw [if_pos (by kernel_rfl)]
                go_simp
                have KM := Lib.hid (show w19.heap.size ≠ w19.heap.size + 1 from Nat.ne_of_lt (by first | exact lt_of_heap (TC.out.at 0 rfl) | (have := lt_of_heap (TC.out.at 0 rfl); rw [World.size_alloc] at this; exact this)))
                have KP21 := Lib.hid (show w.heap.size + 1 < w19.heap.size + 1 from (by first | exact lt_of_heap (TC.out.at 1 rfl) | (have := lt_of_heap (TC.out.at 1 rfl); rw [World.size_alloc] at this; exact this)))
                have TC := Lib.hid ((TC.out.box SH.out vyz).ren (j' := w19.heap.size + 1) (by first | rfl | exact World.size_alloc _ _))
                have hS2 := TC.out.at 2 rfl
                go_simp
                refine hK.out _ _ (by first | assumption | with_reducible exact hS2) (fun hHeld => ?_)
                clear hK K
                generalize (World.alloc (World.alloc w19 vyz) vyz) = wz at *
                refine wpAnyH_ready (rs := [22]) (by kernel_rfl) (by simp) ?_
                refine AllReadyH.cons (o := ⟨none, _, _, _, _, _⟩) rfl (fun K hK => ?_) AllReadyH.nil
                rw [if_pos (by kernel_rfl)]
                go_simp
                have tp := two_put (d := d) (v1 := v1) (v2 := v2) TC.out.b (TC.out.at 1 rfl) (TC.out.at 0 rfl) (TC.out.at 2 rfl) KM.out (Nat.ne_of_lt KP20.out) (Nat.ne_of_lt KP21.out) (by have := KP20.out; omega) (by have := KP21.out; omega)
                have TP := Lib.hid tp
                clear tp
                obtain ⟨y0, y1, y2, y3, y4, y5, y6, y7⟩ := cells8 (TC.out.at 1 rfl)
                obtain ⟨f0, f1, f2, f3, f4, f5, f6, f7⟩ := frozen8 (TC.out.at 1 rfl)
                have hS2 := TP.out.1.1
                unfold set8 at hS2 TP
                go_simp
                refine hK.out _ _ (by first | assumption | with_reducible exact hS2) (fun hHeld => ?_)
                clear hK K
                refine wpAnyH_ready (rs := [23]) (by kernel_rfl) (by simp) ?_
                refine AllReadyH.cons (o := ⟨none, _, _, _, _, _⟩) rfl (fun K hK => ?_) AllReadyH.nil
                rw [if_pos (by kernel_rfl)]
                go_simp
                clear y0 y1 y2 y3 y4 y5 y6 y7 f0 f1 f2 f3 f4 f5 f6 f7
                have km1 := KM.out
                have km2 := fun e => km1 (Eq.symm e)
                obtain ⟨y0, y1, y2, y3, y4, y5, y6, y7⟩ := cells8 TP.out.1.2
                obtain ⟨f0, f1, f2, f3, f4, f5, f6, f7⟩ := frozen8 TP.out.1.2
                obtain ⟨q0, q1, q2, q3, q4, q5, q6, q7⟩ := cells8 (TC.out.at 0 rfl)
                obtain ⟨g0, g1, g2, g3, g4, g5, g6, g7⟩ := frozen8 (TC.out.at 0 rfl)
                have hS2 := TP.out.2.1
                go_simp
                refine hK.out _ _ (by first | assumption | with_reducible exact hS2) (fun hHeld => ?_)
                clear hK K
                refine wpAnyH_done (by kernel_rfl) ?_ _
                refine NoPanic.normal ?_
                generalize hpu : Value.pointer (some ⟨w19.heap.size, 0, none⟩) = pu
                generalize hpv : Value.pointer (some ⟨w19.heap.size + 1, 0, none⟩) = pv
                exact ⟨pu, pv, rfl, rfl, _, _, hpu.symm, hpv.symm, TP.out.2.2.1, TP.out.2.2.2.1, TP.out.2.2.2.2⟩
              refine AllReadyH.cons (o := ⟨some 14, _, _, _, _, _⟩) rfl (fun K hK => ?_) AllReadyH.nil
              rw [if_pos (by kernel_rfl)]
              go_simp
              have KP21 := Lib.hid (show w.heap.size + 1 < w19.heap.size from (by first | exact lt_of_heap (TC.out.at 0 rfl) | (have := lt_of_heap (TC.out.at 0 rfl); rw [World.size_alloc] at this; exact this)))
              have TC := Lib.hid ((TC.out.box SH.out vyz).ren (j' := w19.heap.size) (by first | rfl | exact World.size_alloc _ _))
              have hS2 := TC.out.at 1 rfl
              go_simp
              refine hK.out _ _ (by first | assumption | with_reducible exact hS2) (fun hHeld => ?_)
              clear hK K
              refine wpAnyH_ready (rs := [20]) (by kernel_rfl) (by simp) ?_
              refine AllReadyH.cons (o := ⟨some 13, _, _, _, _, _⟩) rfl (fun K hK => ?_) AllReadyH.nil
              rw [if_pos (by kernel_rfl)]
              go_simp
              have KM := Lib.hid (show w19.heap.size ≠ w19.heap.size + 1 from Nat.ne_of_lt (by first | exact lt_of_heap (TC.out.at 0 rfl) | (have := lt_of_heap (TC.out.at 0 rfl); rw [World.size_alloc] at this; exact this)))
              have KP20 := Lib.hid (show w.heap.size + 1 < w19.heap.size + 1 from (by first | exact lt_of_heap (TC.out.at 1 rfl) | (have := lt_of_heap (TC.out.at 1 rfl); rw [World.size_alloc] at this; exact this)))
              have TC := Lib.hid ((TC.out.box SH.out vyz).ren (j' := w19.heap.size + 1) (by first | rfl | exact World.size_alloc _ _))
              have hS2 := TC.out.at 2 rfl
              go_simp
              refine hK.out _ _ (by first | assumption | with_reducible exact hS2) (fun hHeld => ?_)
              clear hK K
              generalize (World.alloc (World.alloc w19 vyz) vyz) = wz at *
              refine wpAnyH_ready (rs := [22]) (by kernel_rfl) (by simp) ?_
              refine AllReadyH.cons (o := ⟨none, _, _, _, _, _⟩) rfl (fun K hK => ?_) AllReadyH.nil
              rw [if_pos (by kernel_rfl)]
              go_simp
              have tp := two_put (d := d) (v1 := v1) (v2 := v2) TC.out.b (TC.out.at 0 rfl) (TC.out.at 1 rfl) (TC.out.at 2 rfl) (fun e => KM.out e.symm) (Nat.ne_of_lt KP20.out) (Nat.ne_of_lt KP21.out) (by have := KP20.out; omega) (by have := KP21.out; omega)
              have TP := Lib.hid tp
              clear tp
              obtain ⟨y0, y1, y2, y3, y4, y5, y6, y7⟩ := cells8 (TC.out.at 0 rfl)
              obtain ⟨f0, f1, f2, f3, f4, f5, f6, f7⟩ := frozen8 (TC.out.at 0 rfl)
              have hS2 := TP.out.1.1
              unfold set8 at hS2 TP
              go_simp
              refine hK.out _ _ (by first | assumption | with_reducible exact hS2) (fun hHeld => ?_)
              clear hK K
              refine wpAnyH_ready (rs := [23]) (by kernel_rfl) (by simp) ?_
              refine AllReadyH.cons (o := ⟨none, _, _, _, _, _⟩) rfl (fun K hK => ?_) AllReadyH.nil
              rw [if_pos (by kernel_rfl)]
              go_simp
              clear y0 y1 y2 y3 y4 y5 y6 y7 f0 f1 f2 f3 f4 f5 f6 f7
              have km1 := KM.out
              have km2 := fun e => km1 (Eq.symm e)
              obtain ⟨y0, y1, y2, y3, y4, y5, y6, y7⟩ := cells8 TP.out.1.2
              obtain ⟨f0, f1, f2, f3, f4, f5, f6, f7⟩ := frozen8 TP.out.1.2
              obtain ⟨q0, q1, q2, q3, q4, q5, q6, q7⟩ := cells8 (TC.out.at 1 rfl)
              obtain ⟨g0, g1, g2, g3, g4, g5, g6, g7⟩ := frozen8 (TC.out.at 1 rfl)
              have hS2 := TP.out.2.1
              go_simp
              refine hK.out _ _ (by first | assumption | with_reducible exact hS2) (fun hHeld => ?_)
              clear hK K
              refine wpAnyH_done (by kernel_rfl) ?_ _
              refine NoPanic.normal ?_
              generalize hpu : Value.pointer (some ⟨w19.heap.size + 1, 0, none⟩) = pu
              generalize hpv : Value.pointer (some ⟨w19.heap.size, 0, none⟩) = pv
              exact ⟨pu, pv, rfl, rfl, _, _, hpu.symm, hpv.symm, TP.out.2.2.1, TP.out.2.2.2.1, TP.out.2.2.2.2⟩
            refine AllReadyH.cons (o := ⟨some 13, _, _, _, _, _⟩) rfl (fun K hK => ?_) ?_
            · rw [if_pos (by kernel_rfl)]
              go_simp
              have KP20 := Lib.hid (show w.heap.size + 1 < w9.heap.size from (by first | exact lt_of_heap (TC.out.at 0 rfl) | (have := lt_of_heap (TC.out.at 0 rfl); rw [World.size_alloc] at this; exact this)))
              have TC := Lib.hid ((TC.out.box SH.out vyz).ren (j' := w9.heap.size) (by first | rfl | exact World.size_alloc _ _))
              have hS2 := TC.out.at 1 rfl
              go_simp
              refine hK.out _ _ (by first | assumption | with_reducible exact hS2) (fun hHeld => ?_)
              clear hK K
              refine wpAnyH_ready (rs := [19, 21]) (by kernel_rfl) (by simp) ?_
              refine AllReadyH.cons (o := ⟨some 67, _, _, _, _, _⟩) rfl (fun K hK => ?_) ?_
              · rw [if_pos (by kernel_rfl)]
                go_simp
                refine (TC.out.two SH.out o.t o.lc o.fr o.A o.l o.cp (Nat.zero_le _) (HB.out _ TC.out.b) H1.out H2.out).mono ?_
                rintro r19 w19 ⟨rfl, t9⟩
                rw [HD.out, HV2.out]
                have TC := Lib.hid t9
                have hS9 := TC.out.at 1 rfl
                clear t9
                go_simp
                refine hK.out _ _ (by first | assumption | with_reducible exact hS2) (fun hHeld => ?_)
                clear hK K
                refine wpAnyH_ready (rs := [21]) (by kernel_rfl) (by simp) ?_
                refine AllReadyH.cons (o := ⟨some 14, _, _, _, _, _⟩) rfl (fun K hK => ?_) AllReadyH.nil
                rw [if_pos (by kernel_rfl)]
                go_simp
                have KM := Lib.hid (show w9.heap.size ≠ w19.heap.size from Nat.ne_of_lt (by first | exact lt_of_heap (TC.out.at 0 rfl) | (have := lt_of_heap (TC.out.at 0 rfl); rw [World.size_alloc] at this; exact this)))
                have KP21 := Lib.hid (show w.heap.size + 1 < w19.heap.size from (by first | exact lt_of_heap (TC.out.at 1 rfl) | (have := lt_of_heap (TC.out.at 1 rfl); rw [World.size_alloc] at this; exact this)))
                have TC := Lib.hid ((TC.out.box SH.out vyz).ren (j' := w19.heap.size) (by first | rfl | exact World.size_alloc _ _))
                have hS2 := TC.out.at 2 rfl
                go_simp
                refine hK.out _ _ (by first | assumption | with_reducible exact hS2) (fun hHeld => ?_)
                clear hK K
                generalize (World.alloc w19 vyz) = wz at *
                refine wpAnyH_ready (rs := [22]) (by kernel_rfl) (by simp) ?_
                refine AllReadyH.cons (o := ⟨none, _, _, _, _, _⟩) rfl (fun K hK => ?_) AllReadyH.nil
                rw [if_pos (by kernel_rfl)]
                go_simp
                have tp := two_put (d := d) (v1 := v1) (v2 := v2) TC.out.b (TC.out.at 1 rfl) (TC.out.at 0 rfl) (TC.out.at 2 rfl) KM.out (Nat.ne_of_lt KP20.out) (Nat.ne_of_lt KP21.out) (by have := KP20.out; omega) (by have := KP21.out; omega)
                have TP := Lib.hid tp
                clear tp
                obtain ⟨y0, y1, y2, y3, y4, y5, y6, y7⟩ := cells8 (TC.out.at 1 rfl)
                obtain ⟨f0, f1, f2, f3, f4, f5, f6, f7⟩ := frozen8 (TC.out.at 1 rfl)
                have hS2 := TP.out.1.1
                unfold set8 at hS2 TP
                go_simp
                refine hK.out _ _ (by first | assumption | with_reducible exact hS2) (fun hHeld => ?_)
                clear hK K
                refine wpAnyH_ready (rs := [23]) (by kernel_rfl) (by simp) ?_
                refine AllReadyH.cons (o := ⟨none, _, _, _, _, _⟩) rfl (fun K hK => ?_) AllReadyH.nil
                rw [if_pos (by kernel_rfl)]
                go_simp
                clear y0 y1 y2 y3 y4 y5 y6 y7 f0 f1 f2 f3 f4 f5 f6 f7
                have km1 := KM.out
                have km2 := fun e => km1 (Eq.symm e)
                obtain ⟨y0, y1, y2, y3, y4, y5, y6, y7⟩ := cells8 TP.out.1.2
                obtain ⟨f0, f1, f2, f3, f4, f5, f6, f7⟩ := frozen8 TP.out.1.2
                obtain ⟨q0, q1, q2, q3, q4, q5, q6, q7⟩ := cells8 (TC.out.at 0 rfl)
                obtain ⟨g0, g1, g2, g3, g4, g5, g6, g7⟩ := frozen8 (TC.out.at 0 rfl)
                have hS2 := TP.out.2.1
                go_simp
                refine hK.out _ _ (by first | assumption | with_reducible exact hS2) (fun hHeld => ?_)
                clear hK K
                refine wpAnyH_done (by kernel_rfl) ?_ _
                refine NoPanic.normal ?_
                generalize hpu : Value.pointer (some ⟨w9.heap.size, 0, none⟩) = pu
                generalize hpv : Value.pointer (some ⟨w19.heap.size, 0, none⟩) = pv
                exact ⟨pu, pv, rfl, rfl, _, _, hpu.symm, hpv.symm, TP.out.2.2.1, TP.out.2.2.2.1, TP.out.2.2.2.2⟩
              refine AllReadyH.cons (o := ⟨some 14, _, _, _, _, _⟩) rfl (fun K hK => ?_) AllReadyH.nil
              rw [if_pos (by kernel_rfl)]
              go_simp
              have KM := Lib.hid (show w9.heap.size ≠ w9.heap.size + 1 from Nat.ne_of_lt (by first | exact lt_of_heap (TC.out.at 0 rfl) | (have := lt_of_heap (TC.out.at 0 rfl); rw [World.size_alloc] at this; exact this)))
              have KP21 := Lib.hid (show w.heap.size + 1 < w9.heap.size + 1 from (by first | exact lt_of_heap (TC.out.at 1 rfl) | (have := lt_of_heap (TC.out.at 1 rfl); rw [World.size_alloc] at this; exact this)))
              have TC := Lib.hid ((TC.out.box SH.out vyz).ren (j' := w9.heap.size + 1) (by first | rfl | exact World.size_alloc _ _))
              have hS2 := TC.out.at 2 rfl
              go_simp
              refine hK.out _ _ (by first | assumption | with_reducible exact hS2) (fun hHeld => ?_)
              clear hK K
              refine wpAnyH_ready (rs := [19]) (by kernel_rfl) (by simp) ?_
              refine AllReadyH.cons (o := ⟨some 67, _, _, _, _, _⟩) rfl (fun K hK => ?_) AllReadyH.nil
              rw [if_pos (by kernel_rfl)]
              go_simp
              refine (TC.out.two SH.out o.t o.lc o.fr o.A o.l o.cp (Nat.zero_le _) (HB.out _ TC.out.b) H1.out H2.out).mono ?_
              rintro r19 w19 ⟨rfl, t9⟩
              rw [HD.out, HV2.out]
              have TC := Lib.hid t9
              have hS9 := TC.out.at 2 rfl
              clear t9
              go_simp
              refine hK.out _ _ (by first | assumption | with_reducible exact hS2) (fun hHeld => ?_)
              clear hK K
              refine wpAnyH_ready (rs := [22]) (by kernel_rfl) (by simp) ?_
              refine AllReadyH.cons (o := ⟨none, _, _, _, _, _⟩) rfl (fun K hK => ?_) AllReadyH.nil
              rw [if_pos (by kernel_rfl)]
              go_simp
              have tp := two_put (d := d) (v1 := v1) (v2 := v2) TC.out.b (TC.out.at 1 rfl) (TC.out.at 0 rfl) (TC.out.at 2 rfl) KM.out (Nat.ne_of_lt KP20.out) (Nat.ne_of_lt KP21.out) (by have := KP20.out; omega) (by have := KP21.out; omega)
              have TP := Lib.hid tp
              clear tp
              obtain ⟨y0, y1, y2, y3, y4, y5, y6, y7⟩ := cells8 (TC.out.at 1 rfl)
              obtain ⟨f0, f1, f2, f3, f4, f5, f6, f7⟩ := frozen8 (TC.out.at 1 rfl)
              have hS2 := TP.out.1.1
              unfold set8 at hS2 TP
              go_simp
              refine hK.out _ _ (by first | assumption | with_reducible exact hS2) (fun hHeld => ?_)
              clear hK K
              refine wpAnyH_ready (rs := [23]) (by kernel_rfl) (by simp) ?_
              refine AllReadyH.cons (o := ⟨none, _, _, _, _, _⟩) rfl (fun K hK => ?_) AllReadyH.nil
              rw [if_pos (by kernel_rfl)]
              go_simp
              clear y0 y1 y2 y3 y4 y5 y6 y7 f0 f1 f2 f3 f4 f5 f6 f7
              have km1 := KM.out
              have km2 := fun e => km1 (Eq.symm e)
              obtain ⟨y0, y1, y2, y3, y4, y5, y6, y7⟩ := cells8 TP.out.1.2
              obtain ⟨f0, f1, f2, f3, f4, f5, f6, f7⟩ := frozen8 TP.out.1.2
              obtain ⟨q0, q1, q2, q3, q4, q5, q6, q7⟩ := cells8 (TC.out.at 0 rfl)
              obtain ⟨g0, g1, g2, g3, g4, g5, g6, g7⟩ := frozen8 (TC.out.at 0 rfl)
              have hS2 := TP.out.2.1
              go_simp
              refine hK.out _ _ (by first | assumption | with_reducible exact hS2) (fun hHeld => ?_)
              clear hK K
              refine wpAnyH_done (by kernel_rfl) ?_ _
              refine NoPanic.normal ?_
              generalize hpu : Value.pointer (some ⟨w9.heap.size, 0, none⟩) = pu
              generalize hpv : Value.pointer (some ⟨w9.heap.size + 1, 0, none⟩) = pv
              exact ⟨pu, pv, rfl, rfl, _, _, hpu.symm, hpv.symm, TP.out.2.2.1, TP.out.2.2.2.1, TP.out.2.2.2.2⟩
            refine AllReadyH.cons (o := ⟨some 14, _, _, _, _, _⟩) rfl (fun K hK => ?_) AllReadyH.nil
            rw [if_pos (by kernel_rfl)]
            go_simp
            have KP21 := Lib.hid (show w.heap.size + 1 < w9.heap.size from (by first | exact lt_of_heap (TC.out.at 0 rfl) | (have := lt_of_heap (TC.out.at 0 rfl); rw [World.size_alloc] at this; exact this)))
            have TC := Lib.hid ((TC.out.box SH.out vyz).ren (j' := w9.heap.size) (by first | rfl | exact World.size_alloc _ _))
            have hS2 := TC.out.at 1 rfl
            go_simp
            refine hK.out _ _ (by first | assumption | with_reducible exact hS2) (fun hHeld => ?_)
            clear hK K
            refine wpAnyH_ready (rs := [19, 20]) (by kernel_rfl) (by simp) ?_
            refine AllReadyH.cons (o := ⟨some 67, _, _, _, _, _⟩) rfl (fun K hK => ?_) ?_
            · rw [if_pos (by kernel_rfl)]
              go_simp
              refine (TC.out.two SH.out o.t o.lc o.fr o.A o.l o.cp (Nat.zero_le _) (HB.out _ TC.out.b) H1.out H2.out).mono ?_
              rintro r19 w19 ⟨rfl, t9⟩
              rw [HD.out, HV2.out]
              have TC := Lib.hid t9
              have hS9 := TC.out.at 1 rfl
              clear t9
              go_simp
              refine hK.out _ _ (by first | assumption | with_reducible exact hS2) (fun hHeld => ?_)
              clear hK K
              refine wpAnyH_ready (rs := [20]) (by kernel_rfl) (by simp) ?_
              refine AllReadyH.cons (o := ⟨some 13, _, _, _, _, _⟩) rfl (fun K hK => ?_) AllReadyH.nil
              rw [if_pos (by kernel_rfl)]
              go_simp
              have KM := Lib.hid (show w9.heap.size ≠ w19.heap.size from Nat.ne_of_lt (by first | exact lt_of_heap (TC.out.at 0 rfl) | (have := lt_of_heap (TC.out.at 0 rfl); rw [World.size_alloc] at this; exact this)))
              have KP20 := Lib.hid (show w.heap.size + 1 < w19.heap.size from (by first | exact lt_of_heap (TC.out.at 1 rfl) | (have := lt_of_heap (TC.out.at 1 rfl); rw [World.size_alloc] at this; exact this)))
              have TC := Lib.hid ((TC.out.box SH.out vyz).ren (j' := w19.heap.size) (by first | rfl | exact World.size_alloc _ _))
              have hS2 := TC.out.at 2 rfl
              go_simp
              refine hK.out _ _ (by first | assumption | with_reducible exact hS2) (fun hHeld => ?_)
              clear hK K
              generalize (World.alloc w19 vyz) = wz at *
              refine wpAnyH_ready (rs := [22]) (by kernel_rfl) (by simp) ?_
              refine AllReadyH.cons (o := ⟨none, _, _, _, _, _⟩) rfl (fun K hK => ?_) AllReadyH.nil
              rw [if_pos (by kernel_rfl)]
              go_simp
              have tp := two_put (d := d) (v1 := v1) (v2 := v2) TC.out.b (TC.out.at 0 rfl) (TC.out.at 1 rfl) (TC.out.at 2 rfl) (fun e => KM.out e.symm) (Nat.ne_of_lt KP20.out) (Nat.ne_of_lt KP21.out) (by have := KP20.out; omega) (by have := KP21.out; omega)
              have TP := Lib.hid tp
              clear tp
              obtain ⟨y0, y1, y2, y3, y4, y5, y6, y7⟩ := cells8 (TC.out.at 0 rfl)
              obtain ⟨f0, f1, f2, f3, f4, f5, f6, f7⟩ := frozen8 (TC.out.at 0 rfl)
              have hS2 := TP.out.1.1
              unfold set8 at hS2 TP
              go_simp
              refine hK.out _ _ (by first | assumption | with_reducible exact hS2) (fun hHeld => ?_)
              clear hK K
              refine wpAnyH_ready (rs := [23]) (by kernel_rfl) (by simp) ?_
              refine AllReadyH.cons (o := ⟨none, _, _, _, _, _⟩) rfl (fun K hK => ?_) AllReadyH.nil
              rw [if_pos (by kernel_rfl)]
              go_simp
              clear y0 y1 y2 y3 y4 y5 y6 y7 f0 f1 f2 f3 f4 f5 f6 f7
              have km1 := KM.out
              have km2 := fun e => km1 (Eq.symm e)
              obtain ⟨y0, y1, y2, y3, y4, y5, y6, y7⟩ := cells8 TP.out.1.2
              obtain ⟨f0, f1, f2, f3, f4, f5, f6, f7⟩ := frozen8 TP.out.1.2
              obtain ⟨q0, q1, q2, q3, q4, q5, q6, q7⟩ := cells8 (TC.out.at 1 rfl)
              obtain ⟨g0, g1, g2, g3, g4, g5, g6, g7⟩ := frozen8 (TC.out.at 1 rfl)
              have hS2 := TP.out.2.1
              go_simp
              refine hK.out _ _ (by first | assumption | with_reducible exact hS2) (fun hHeld => ?_)
              clear hK K
              refine wpAnyH_done (by kernel_rfl) ?_ _
              refine NoPanic.normal ?_
              generalize hpu : Value.pointer (some ⟨w19.heap.size, 0, none⟩) = pu
              generalize hpv : Value.pointer (some ⟨w9.heap.size, 0, none⟩) = pv
              exact ⟨pu, pv, rfl, rfl, _, _, hpu.symm, hpv.symm, TP.out.2.2.1, TP.out.2.2.2.1, TP.out.2.2.2.2⟩
            refine AllReadyH.cons (o := ⟨some 13, _, _, _, _, _⟩) rfl (fun K hK => ?_) AllReadyH.nil
            rw [if_pos (by kernel_rfl)]
            go_simp
            have KM := Lib.hid (show w9.heap.size ≠ w9.heap.size + 1 from Nat.ne_of_lt (by first | exact lt_of_heap (TC.out.at 0 rfl) | (have := lt_of_heap (TC.out.at 0 rfl); rw [World.size_alloc] at this; exact this)))
            have KP20 := Lib.hid (show w.heap.size + 1 < w9.heap.size + 1 from (by first | exact lt_of_heap (TC.out.at 1 rfl) | (have := lt_of_heap (TC.out.at 1 rfl); rw [World.size_alloc] at this; exact this)))
            have TC := Lib.hid ((TC.out.box SH.out vyz).ren (j' := w9.heap.size + 1) (by first | rfl | exact World.size_alloc _ _))
            have hS2 := TC.out.at 2 rfl
            go_simp
            refine hK.out _ _ (by first | assumption | with_reducible exact hS2) (fun hHeld => ?_)
            clear hK K
            refine wpAnyH_ready (rs := [19]) (by kernel_rfl) (by simp) ?_
            refine AllReadyH.cons (o := ⟨some 67, _, _, _, _, _⟩) rfl (fun K hK => ?_) AllReadyH.nil
            rw [if_pos (by kernel_rfl)]
            go_simp
            refine (TC.out.two SH.out o.t o.lc o.fr o.A o.l o.cp (Nat.zero_le _) (HB.out _ TC.out.b) H1.out H2.out).mono ?_
            rintro r19 w19 ⟨rfl, t9⟩
            rw [HD.out, HV2.out]
            have TC := Lib.hid t9
            have hS9 := TC.out.at 2 rfl
            clear t9
            go_simp
            refine hK.out _ _ (by first | assumption | with_reducible exact hS2) (fun hHeld => ?_)
            clear hK K
            refine wpAnyH_ready (rs := [22]) (by kernel_rfl) (by simp) ?_
            refine AllReadyH.cons (o := ⟨none, _, _, _, _, _⟩) rfl (fun K hK => ?_) AllReadyH.nil
            rw [if_pos (by kernel_rfl)]
            go_simp
            have tp := two_put (d := d) (v1 := v1) (v2 := v2) TC.out.b (TC.out.at 0 rfl) (TC.out.at 1 rfl) (TC.out.at 2 rfl) (fun e => KM.out e.symm) (Nat.ne_of_lt KP20.out) (Nat.ne_of_lt KP21.out) (by have := KP20.out; omega) (by have := KP21.out; omega)
            have TP := Lib.hid tp
            clear tp
            obtain ⟨y0, y1, y2, y3, y4, y5, y6, y7⟩ := cells8 (TC.out.at 0 rfl)
            obtain ⟨f0, f1, f2, f3, f4, f5, f6, f7⟩ := frozen8 (TC.out.at 0 rfl)
            have hS2 := TP.out.1.1
            unfold set8 at hS2 TP
            go_simp
            refine hK.out _ _ (by first | assumption | with_reducible exact hS2) (fun hHeld => ?_)
            clear hK K
            refine wpAnyH_ready (rs := [23]) (by kernel_rfl) (by simp) ?_
            refine AllReadyH.cons (o := ⟨none, _, _, _, _, _⟩) rfl (fun K hK => ?_) AllReadyH.nil
            rw [if_pos (by kernel_rfl)]
            go_simp
            clear y0 y1 y2 y3 y4 y5 y6 y7 f0 f1 f2 f3 f4 f5 f6 f7
            have km1 := KM.out
            have km2 := fun e => km1 (Eq.symm e)
            obtain ⟨y0, y1, y2, y3, y4, y5, y6, y7⟩ := cells8 TP.out.1.2
            obtain ⟨f0, f1, f2, f3, f4, f5, f6, f7⟩ := frozen8 TP.out.1.2
            obtain ⟨q0, q1, q2, q3, q4, q5, q6, q7⟩ := cells8 (TC.out.at 1 rfl)
            obtain ⟨g0, g1, g2, g3, g4, g5, g6, g7⟩ := frozen8 (TC.out.at 1 rfl)
            have hS2 := TP.out.2.1
            go_simp
            refine hK.out _ _ (by first | assumption | with_reducible exact hS2) (fun hHeld => ?_)
            clear hK K
            refine wpAnyH_done (by kernel_rfl) ?_ _
            refine NoPanic.normal ?_
            generalize hpu : Value.pointer (some ⟨w9.heap.size + 1, 0, none⟩) = pu
            generalize hpv : Value.pointer (some ⟨w9.heap.size, 0, none⟩) = pv
            exact ⟨pu, pv, rfl, rfl, _, _, hpu.symm, hpv.symm, TP.out.2.2.1, TP.out.2.2.2.1, TP.out.2.2.2.2⟩
          refine AllReadyH.cons (o := ⟨some 13, _, _, _, _, _⟩) rfl (fun K hK => ?_) ?_
          · rw [if_pos (by kernel_rfl)]
            go_simp
            have KP20 := Lib.hid (show w.heap.size + 1 < wr.heap.size from (by first | exact lt_of_heap (TC.out.at 0 rfl) | (have := lt_of_heap (TC.out.at 0 rfl); rw [World.size_alloc] at this; exact this)))
            have TC := Lib.hid ((TC.out.box SH.out vyz).ren (j' := wr.heap.size) (by first | rfl | exact World.size_alloc _ _))
            have hS2 := TC.out.at 1 rfl
            go_simp
            refine hK.out _ _ (by first | assumption | with_reducible exact hS2) (fun hHeld => ?_)
            clear hK K
            refine wpAnyH_ready (rs := [9, 21]) (by kernel_rfl) (by simp) ?_
            refine AllReadyH.cons (o := ⟨some 57, _, _, _, _, _⟩) rfl (fun K hK => ?_) ?_
            · rw [if_pos (by kernel_rfl)]
              go_simp
              refine (TC.out.one SH.out o.t o.lc o.fr o.A o.l o.cp HNZ.out (HB.out _ TC.out.b) H1.out H2.out).mono ?_
              rintro r9 w9 ⟨rfl, t9⟩
              rw [HD.out, HV1.out]
              have TC := Lib.hid t9
              have hS9 := TC.out.at 1 rfl
              clear t9
              go_simp
              refine hK.out _ _ (by first | assumption | with_reducible exact hS2) (fun hHeld => ?_)
              clear hK K
              refine wpAnyH_ready (rs := [19, 21]) (by kernel_rfl) (by simp) ?_
              refine AllReadyH.cons (o := ⟨some 67, _, _, _, _, _⟩) rfl (fun K hK => ?_) ?_
              · rw [if_pos (by kernel_rfl)]
                go_simp
                refine (TC.out.two SH.out o.t o.lc o.fr o.A o.l o.cp (Nat.zero_le _) (HB.out _ TC.out.b) H1.out H2.out).mono ?_
                rintro r19 w19 ⟨rfl, t9⟩
                rw [HD.out, HV2.out]
                have TC := Lib.hid t9
                have hS9 := TC.out.at 1 rfl
                clear t9
                go_simp
                refine hK.out _ _ (by first | assumption | with_reducible exact hS2) (fun hHeld => ?_)
                clear hK K
                refine wpAnyH_ready (rs := [21]) (by kernel_rfl) (by simp) ?_
                refine AllReadyH.cons (o := ⟨some 14, _, _, _, _, _⟩) rfl (fun K hK => ?_) AllReadyH.nil
                rw [if_pos (by kernel_rfl)]
                go_simp
                have KM := Lib.hid (show wr.heap.size ≠ w19.heap.size from Nat.ne_of_lt (by first | exact lt_of_heap (TC.out.at 0 rfl) | (have := lt_of_heap (TC.out.at 0 rfl); rw [World.size_alloc] at this; exact this)))
                have KP21 := Lib.hid (show w.heap.size + 1 < w19.heap.size from (by first | exact lt_of_heap (TC.out.at 1 rfl) | (have := lt_of_heap (TC.out.at 1 rfl); rw [World.size_alloc] at this; exact this)))
                have TC := Lib.hid ((TC.out.box SH.out vyz).ren (j' := w19.heap.size) (by first | rfl | exact World.size_alloc _ _))
                have hS2 := TC.out.at 2 rfl
                go_simp
                refine hK.out _ _ (by first | assumption | with_reducible exact hS2) (fun hHeld => ?_)
                clear hK K
                generalize (World.alloc w19 vyz) = wz at *
                refine wpAnyH_ready (rs := [22]) (by kernel_rfl) (by simp) ?_
                refine AllReadyH.cons (o := ⟨none, _, _, _, _, _⟩) rfl (fun K hK => ?_) AllReadyH.nil
                rw [if_pos (by kernel_rfl)]
                go_simp
                have tp := two_put (d := d) (v1 := v1) (v2 := v2) TC.out.b (TC.out.at 1 rfl) (TC.out.at 0 rfl) (TC.out.at 2 rfl) KM.out (Nat.ne_of_lt KP20.out) (Nat.ne_of_lt KP21.out) (by have := KP20.out; omega) (by have := KP21.out; omega)
                have TP := Lib.hid tp
                clear tp
                obtain ⟨y0, y1, y2, y3, y4, y5, y6, y7⟩ := cells8 (TC.out.at 1 rfl)
                obtain ⟨f0, f1, f2, f3, f4, f5, f6, f7⟩ := frozen8 (TC.out.at 1 rfl)
                have hS2 := TP.out.1.1
                unfold set8 at hS2 TP
                go_simp
                refine hK.out _ _ (by first | assumption | with_reducible exact hS2) (fun hHeld => ?_)
                clear hK K
                refine wpAnyH_ready (rs := [23]) (by kernel_rfl) (by simp) ?_
                refine AllReadyH.cons (o := ⟨none, _, _, _, _, _⟩) rfl (fun K hK => ?_) AllReadyH.nil
                rw [if_pos (by kernel_rfl)]
                go_simp
                clear y0 y1 y2 y3 y4 y5 y6 y7 f0 f1 f2 f3 f4 f5 f6 f7
                have km1 := KM.out
                have km2 := fun e => km1 (Eq.symm e)
                obtain ⟨y0, y1, y2, y3, y4, y5, y6, y7⟩ := cells8 TP.out.1.2
                obtain ⟨f0, f1, f2, f3, f4, f5, f6, f7⟩ := frozen8 TP.out.1.2
                obtain ⟨q0, q1, q2, q3, q4, q5, q6, q7⟩ := cells8 (TC.out.at 0 rfl)
                obtain ⟨g0, g1, g2, g3, g4, g5, g6, g7⟩ := frozen8 (TC.out.at 0 rfl)
                have hS2 := TP.out.2.1
                go_simp
                refine hK.out _ _ (by first | assumption | with_reducible exact hS2) (fun hHeld => ?_)
                clear hK K
                refine wpAnyH_done (by kernel_rfl) ?_ _
                refine NoPanic.normal ?_
                generalize hpu : Value.pointer (some ⟨wr.heap.size, 0, none⟩) = pu
                generalize hpv : Value.pointer (some ⟨w19.heap.size, 0, none⟩) = pv
                exact ⟨pu, pv, rfl, rfl, _, _, hpu.symm, hpv.symm, TP.out.2.2.1, TP.out.2.2.2.1, TP.out.2.2.2.2⟩
              refine AllReadyH.cons (o := ⟨some 14, _, _, _, _, _⟩) rfl (fun K hK => ?_) AllReadyH.nil
              rw [if_pos (by kernel_rfl)]
              go_simp
              have KM := Lib.hid (show wr.heap.size ≠ w9.heap.size from Nat.ne_of_lt (by first | exact lt_of_heap (TC.out.at 0 rfl) | (have := lt_of_heap (TC.out.at 0 rfl); rw [World.size_alloc] at this; exact this)))
              have KP21 := Lib.hid (show w.heap.size + 1 < w9.heap.size from (by first | exact lt_of_heap (TC.out.at 1 rfl) | (have := lt_of_heap (TC.out.at 1 rfl); rw [World.size_alloc] at this; exact this)))
              have TC := Lib.hid ((TC.out.box SH.out vyz).ren (j' := w9.heap.size) (by first | rfl | exact World.size_alloc _ _))
              have hS2 := TC.out.at 2 rfl
              go_simp
              refine hK.out _ _ (by first | assumption | with_reducible exact hS2) (fun hHeld => ?_)
              clear hK K
              refine wpAnyH_ready (rs := [19]) (by kernel_rfl) (by simp) ?_
              refine AllReadyH.cons (o := ⟨some 67, _, _, _, _, _⟩) rfl (fun K hK => ?_) AllReadyH.nil
              rw [if_pos (by kernel_rfl)]
              go_simp
              refine (TC.out.two SH.out o.t o.lc o.fr o.A o.l o.cp (Nat.zero_le _) (HB.out _ TC.out.b) H1.out H2.out).mono ?_
              rintro r19 w19 ⟨rfl, t9⟩
              rw [HD.out, HV2.out]
              have TC := Lib.hid t9
              have hS9 := TC.out.at 2 rfl
              clear t9
              go_simp
              refine hK.out _ _ (by first | assumption | with_reducible exact hS2) (fun hHeld => ?_)
              clear hK K
              refine wpAnyH_ready (rs := [22]) (by kernel_rfl) (by simp) ?_
              refine AllReadyH.cons (o := ⟨none, _, _, _, _, _⟩) rfl (fun K hK => ?_) AllReadyH.nil
              rw [if_pos (by kernel_rfl)]
              go_simp
              have tp := two_put (d := d) (v1 := v1) (v2 := v2) TC.out.b (TC.out.at 1 rfl) (TC.out.at 0 rfl) (TC.out.at 2 rfl) KM.out (Nat.ne_of_lt KP20.out) (Nat.ne_of_lt KP21.out) (by have := KP20.out; omega) (by have := KP21.out; omega)
              have TP := Lib.hid tp
              clear tp
              obtain ⟨y0, y1, y2, y3, y4, y5, y6, y7⟩ := cells8 (TC.out.at 1 rfl)
              obtain ⟨f0, f1, f2, f3, f4, f5, f6, f7⟩ := frozen8 (TC.out.at 1 rfl)
              have hS2 := TP.out.1.1
              unfold set8 at hS2 TP
              go_simp
              refine hK.out _ _ (by first | assumption | with_reducible exact hS2) (fun hHeld => ?_)
              clear hK K
              refine wpAnyH_ready (rs := [23]) (by kernel_rfl) (by simp) ?_
              refine AllReadyH.cons (o := ⟨none, _, _, _, _, _⟩) rfl (fun K hK => ?_) AllReadyH.nil
              rw [if_pos (by kernel_rfl)]
              go_simp
              clear y0 y1 y2 y3 y4 y5 y6 y7 f0 f1 f2 f3 f4 f5 f6 f7
              have km1 := KM.out
              have km2 := fun e => km1 (Eq.symm e)
              obtain ⟨y0, y1, y2, y3, y4, y5, y6, y7⟩ := cells8 TP.out.1.2
              obtain ⟨f0, f1, f2, f3, f4, f5, f6, f7⟩ := frozen8 TP.out.1.2
              obtain ⟨q0, q1, q2, q3, q4, q5, q6, q7⟩ := cells8 (TC.out.at 0 rfl)
              obtain ⟨g0, g1, g2, g3, g4, g5, g6, g7⟩ := frozen8 (TC.out.at 0 rfl)
              have hS2 := TP.out.2.1
              go_simp
              refine hK.out _ _ (by first | assumption | with_reducible exact hS2) (fun hHeld => ?_)
              clear hK K
              refine wpAnyH_done (by kernel_rfl) ?_ _
              refine NoPanic.normal ?_
              generalize hpu : Value.pointer (some ⟨wr.heap.size, 0, none⟩) = pu
              generalize hpv : Value.pointer (some ⟨w9.heap.size, 0, none⟩) = pv
              exact ⟨pu, pv, rfl, rfl, _, _, hpu.symm, hpv.symm, TP.out.2.2.1, TP.out.2.2.2.1, TP.out.2.2.2.2⟩
            refine AllReadyH.cons (o := ⟨some 14, _, _, _, _, _⟩) rfl (fun K hK => ?_) AllReadyH.nil
            rw [if_pos (by kernel_rfl)]
            go_simp
            have KM := Lib.hid (show wr.heap.size ≠ wr.heap.size + 1 from Nat.ne_of_lt (by first | exact lt_of_heap (TC.out.at 0 rfl) | (have := lt_of_heap (TC.out.at 0 rfl); rw [World.size_alloc] at this; exact this)))
            have KP21 := Lib.hid (show w.heap.size + 1 < wr.heap.size + 1 from (by first | exact lt_of_heap (TC.out.at 1 rfl) | (have := lt_of_heap (TC.out.at 1 rfl); rw [World.size_alloc] at this; exact this)))
            have TC := Lib.hid ((TC.out.box SH.out vyz).ren (j' := wr.heap.size + 1) (by first | rfl | exact World.size_alloc _ _))
            have hS2 := TC.out.at 2 rfl
            go_simp
            refine hK.out _ _ (by first | assumption | with_reducible exact hS2) (fun hHeld => ?_)
            clear hK K
            refine wpAnyH_ready (rs := [9]) (by kernel_rfl) (by simp) ?_
            refine AllReadyH.cons (o := ⟨some 57, _, _, _, _, _⟩) rfl (fun K hK => ?_) AllReadyH.nil
            rw [if_pos (by kernel_rfl)]
            go_simp
            refine (TC.out.one SH.out o.t o.lc o.fr o.A o.l o.cp HNZ.out (HB.out _ TC.out.b) H1.out H2.out).mono ?_
            rintro r9 w9 ⟨rfl, t9⟩
            rw [HD.out, HV1.out]
            have TC := Lib.hid t9
            have hS9 := TC.out.at 2 rfl
            clear t9
            go_simp
            refine hK.out _ _ (by first | assumption | with_reducible exact hS2) (fun hHeld => ?_)
            clear hK K
            refine wpAnyH_ready (rs := [19]) (by kernel_rfl) (by simp) ?_
            refine AllReadyH.cons (o := ⟨some 67, _, _, _, _, _⟩) rfl (fun K hK => ?_) AllReadyH.nil
            rw [if_pos (by kernel_rfl)]
            go_simp
            refine (TC.out.two SH.out o.t o.lc o.fr o.A o.l o.cp (Nat.zero_le _) (HB.out _ TC.out.b) H1.out H2.out).mono ?_
            rintro r19 w19 ⟨rfl, t9⟩
            rw [HD.out, HV2.out]
            have TC := Lib.hid t9
            have hS9 := TC.out.at 2 rfl
            clear t9
            go_simp
            refine hK.out _ _ (by first | assumption | with_reducible exact hS2) (fun hHeld => ?_)
            clear hK K
            refine wpAnyH_ready (rs := [22]) (by kernel_rfl) (by simp) ?_
            refine AllReadyH.cons (o := ⟨none, _, _, _, _, _⟩) rfl (fun K hK => ?_) AllReadyH.nil
            rw [if_pos (by kernel_rfl)]
            go_simp
            have tp := two_put (d := d) (v1 := v1) (v2 := v2) TC.out.b (TC.out.at 1 rfl) (TC.out.at 0 rfl) (TC.out.at 2 rfl) KM.out (Nat.ne_of_lt KP20.out) (Nat.ne_of_lt KP21.out) (by have := KP20.out; omega) (by have := KP21.out; omega)
            have TP := Lib.hid tp
            clear tp
            obtain ⟨y0, y1, y2, y3, y4, y5, y6, y7⟩ := cells8 (TC.out.at 1 rfl)
            obtain ⟨f0, f1, f2, f3, f4, f5, f6, f7⟩ := frozen8 (TC.out.at 1 rfl)
            have hS2 := TP.out.1.1
            unfold set8 at hS2 TP
            go_simp
            refine hK.out _ _ (by first | assumption | with_reducible exact hS2) (fun hHeld => ?_)
            clear hK K
            refine wpAnyH_ready (rs := [23]) (by kernel_rfl) (by simp) ?_
            refine AllReadyH.cons (o := ⟨none, _, _, _, _, _⟩) rfl (fun K hK => ?_) AllReadyH.nil
            rw [if_pos (by kernel_rfl)]
            go_simp
            clear y0 y1 y2 y3 y4 y5 y6 y7 f0 f1 f2 f3 f4 f5 f6 f7
            have km1 := KM.out
            have km2 := fun e => km1 (Eq.symm e)
            obtain ⟨y0, y1, y2, y3, y4, y5, y6, y7⟩ := cells8 TP.out.1.2
            obtain ⟨f0, f1, f2, f3, f4, f5, f6, f7⟩ := frozen8 TP.out.1.2
            obtain ⟨q0, q1, q2, q3, q4, q5, q6, q7⟩ := cells8 (TC.out.at 0 rfl)
            obtain ⟨g0, g1, g2, g3, g4, g5, g6, g7⟩ := frozen8 (TC.out.at 0 rfl)
            have hS2 := TP.out.2.1
            go_simp
            refine hK.out _ _ (by first | assumption | with_reducible exact hS2) (fun hHeld => ?_)
            clear hK K
            refine wpAnyH_done (by kernel_rfl) ?_ _
            refine NoPanic.normal ?_
            generalize hpu : Value.pointer (some ⟨wr.heap.size, 0, none⟩) = pu
            generalize hpv : Value.pointer (some ⟨wr.heap.size + 1, 0, none⟩) = pv
            exact ⟨pu, pv, rfl, rfl, _, _, hpu.symm, hpv.symm, TP.out.2.2.1, TP.out.2.2.2.1, TP.out.2.2.2.2⟩
          refine AllReadyH.cons (o := ⟨some 14, _, _, _, _, _⟩) rfl (fun K hK => ?_) AllReadyH.nil
          rw [if_pos (by kernel_rfl)]
          go_simp
          have KP21 := Lib.hid (show w.heap.size + 1 < wr.heap.size from (by first | exact lt_of_heap (TC.out.at 0 rfl) | (have := lt_of_heap (TC.out.at 0 rfl); rw [World.size_alloc] at this; exact this)))
          have TC := Lib.hid ((TC.out.box SH.out vyz).ren (j' := wr.heap.size) (by first | rfl | exact World.size_alloc _ _))
          have hS2 := TC.out.at 1 rfl
          go_simp
          refine hK.out _ _ (by first | assumption | with_reducible exact hS2) (fun hHeld => ?_)
          clear hK K
          refine wpAnyH_ready (rs := [9, 20]) (by kernel_rfl) (by simp) ?_
          refine AllReadyH.cons (o := ⟨some 57, _, _, _, _, _⟩) rfl (fun K hK => ?_) ?_
          · rw [if_pos (by kernel_rfl)]
            go_simp
            refine (TC.out.one SH.out o.t o.lc o.fr o.A o.l o.cp HNZ.out (HB.out _ TC.out.b) H1.out H2.out).mono ?_
            rintro r9 w9 ⟨rfl, t9⟩
            rw [HD.out, HV1.out]
            have TC := Lib.hid t9
            have hS9 := TC.out.at 1 rfl
            clear t9
            go_simp
            refine hK.out _ _ (by first | assumption | with_reducible exact hS2) (fun hHeld => ?_)
            clear hK K
            refine wpAnyH_ready (rs := [19, 20]) (by kernel_rfl) (by simp) ?_
            refine AllReadyH.cons (o := ⟨some 67, _, _, _, _, _⟩) rfl (fun K hK => ?_) ?_
            · rw [if_pos (by kernel_rfl)]
              go_simp
              refine (TC.out.two SH.out o.t o.lc o.fr o.A o.l o.cp (Nat.zero_le _) (HB.out _ TC.out.b) H1.out H2.out).mono ?_
              rintro r19 w19 ⟨rfl, t9⟩
              rw [HD.out, HV2.out]
              have TC := Lib.hid t9
              have hS9 := TC.out.at 1 rfl
              clear t9
              go_simp
              refine hK.out _ _ (by first | assumption | with_reducible exact hS2) (fun hHeld => ?_)
              clear hK K
              refine wpAnyH_ready (rs := [20]) (by kernel_rfl) (by simp) ?_
              refine AllReadyH.cons (o := ⟨some 13, _, _, _, _, _⟩) rfl (fun K hK => ?_) AllReadyH.nil
              rw [if_pos (by kernel_rfl)]
              go_simp
              have KM := Lib.hid (show wr.heap.size ≠ w19.heap.size from Nat.ne_of_lt (by first | exact lt_of_heap (TC.out.at 0 rfl) | (have := lt_of_heap (TC.out.at 0 rfl); rw [World.size_alloc] at this; exact this)))
              have KP20 := Lib.hid (show w.heap.size + 1 < w19.heap.size from (by first | exact lt_of_heap (TC.out.at 1 rfl) | (have := lt_of_heap (TC.out.at 1 rfl); rw [World.size_alloc] at this; exact this)))
              have TC := Lib.hid ((TC.out.box SH.out vyz).ren (j' := w19.heap.size) (by first | rfl | exact World.size_alloc _ _))
              have hS2 := TC.out.at 2 rfl
              go_simp
              refine hK.out _ _ (by first | assumption | with_reducible exact hS2) (fun hHeld => ?_)
              clear hK K
              generalize (World.alloc w19 vyz) = wz at *
              refine wpAnyH_ready (rs := [22]) (by kernel_rfl) (by simp) ?_
              refine AllReadyH.cons (o := ⟨none, _, _, _, _, _⟩) rfl (fun K hK => ?_) AllReadyH.nil
              rw [if_pos (by kernel_rfl)]
              go_simp
              have tp := two_put (d := d) (v1 := v1) (v2 := v2) TC.out.b (TC.out.at 0 rfl) (TC.out.at 1 rfl) (TC.out.at 2 rfl) (fun e => KM.out e.symm) (Nat.ne_of_lt KP20.out) (Nat.ne_of_lt KP21.out) (by have := KP20.out; omega) (by have := KP21.out; omega)
              have TP := Lib.hid tp
              clear tp
              obtain ⟨y0, y1, y2, y3, y4, y5, y6, y7⟩ := cells8 (TC.out.at 0 rfl)
              obtain ⟨f0, f1, f2, f3, f4, f5, f6, f7⟩ := frozen8 (TC.out.at 0 rfl)
              have hS2 := TP.out.1.1
              unfold set8 at hS2 TP
              go_simp
              refine hK.out _ _ (by first | assumption | with_reducible exact hS2) (fun hHeld => ?_)
              clear hK K
              refine wpAnyH_ready (rs := [23]) (by kernel_rfl) (by simp) ?_
              refine AllReadyH.cons (o := ⟨none, _, _, _, _, _⟩) rfl (fun K hK => ?_) AllReadyH.nil
              rw [if_pos (by kernel_rfl)]
              go_simp
              clear y0 y1 y2 y3 y4 y5 y6 y7 f0 f1 f2 f3 f4 f5 f6 f7
              have km1 := KM.out
              have km2 := fun e => km1 (Eq.symm e)
              obtain ⟨y0, y1, y2, y3, y4, y5, y6, y7⟩ := cells8 TP.out.1.2
              obtain ⟨f0, f1, f2, f3, f4, f5, f6, f7⟩ := frozen8 TP.out.1.2
              obtain ⟨q0, q1, q2, q3, q4, q5, q6, q7⟩ := cells8 (TC.out.at 1 rfl)
              obtain ⟨g0, g1, g2, g3, g4, g5, g6, g7⟩ := frozen8 (TC.out.at 1 rfl)
              have hS2 := TP.out.2.1
              go_simp
              refine hK.out _ _ (by first | assumption | with_reducible exact hS2) (fun hHeld => ?_)
              clear hK K
              refine wpAnyH_done (by kernel_rfl) ?_ _
              refine NoPanic.normal ?_
              generalize hpu : Value.pointer (some ⟨w19.heap.size, 0, none⟩) = pu
              generalize hpv : Value.pointer (some ⟨wr.heap.size, 0, none⟩) = pv
              exact ⟨pu, pv, rfl, rfl, _, _, hpu.symm, hpv.symm, TP.out.2.2.1, TP.out.2.2.2.1, TP.out.2.2.2.2⟩
            refine AllReadyH.cons (o := ⟨some 13, _, _, _, _, _⟩) rfl (fun K hK => ?_) AllReadyH.nil
            rw [if_pos (by kernel_rfl)]
            go_simp
            have KM := Lib.hid (show wr.heap.size ≠ w9.heap.size from Nat.ne_of_lt (by first | exact lt_of_heap (TC.out.at 0 rfl) | (have := lt_of_heap (TC.out.at 0 rfl); rw [World.size_alloc] at this; exact this)))
            have KP20 := Lib.hid (show w.heap.size + 1 < w9.heap.size from (by first | exact lt_of_heap (TC.out.at 1 rfl) | (have := lt_of_heap (TC.out.at 1 rfl); rw [World.size_alloc] at this; exact this)))
            have TC := Lib.hid ((TC.out.box SH.out vyz).ren (j' := w9.heap.size) (by first | rfl | exact World.size_alloc _ _))
            have hS2 := TC.out.at 2 rfl
            go_simp
            refine hK.out _ _ (by first | assumption | with_reducible exact hS2) (fun hHeld => ?_)
            clear hK K
            refine wpAnyH_ready (rs := [19]) (by kernel_rfl) (by simp) ?_
            refine AllReadyH.cons (o := ⟨some 67, _, _, _, _, _⟩) rfl (fun K hK => ?_) AllReadyH.nil
            rw [if_pos (by kernel_rfl)]
            go_simp
            refine (TC.out.two SH.out o.t o.lc o.fr o.A o.l o.cp (Nat.zero_le _) (HB.out _ TC.out.b) H1.out H2.out).mono ?_
            rintro r19 w19 ⟨rfl, t9⟩
            rw [HD.out, HV2.out]
            have TC := Lib.hid t9
            have hS9 := TC.out.at 2 rfl
            clear t9
            go_simp
            refine hK.out _ _ (by first | assumption | with_reducible exact hS2) (fun hHeld => ?_)
            clear hK K
            refine wpAnyH_ready (rs := [22]) (by kernel_rfl) (by simp) ?_
            refine AllReadyH.cons (o := ⟨none, _, _, _, _, _⟩) rfl (fun K hK => ?_) AllReadyH.nil
            rw [if_pos (by kernel_rfl)]
            go_simp
            have tp := two_put (d := d) (v1 := v1) (v2 := v2) TC.out.b (TC.out.at 0 rfl) (TC.out.at 1 rfl) (TC.out.at 2 rfl) (fun e => KM.out e.symm) (Nat.ne_of_lt KP20.out) (Nat.ne_of_lt KP21.out) (by have := KP20.out; omega) (by have := KP21.out; omega)
            have TP := Lib.hid tp
            clear tp
            obtain ⟨y0, y1, y2, y3, y4, y5, y6, y7⟩ := cells8 (TC.out.at 0 rfl)
            obtain ⟨f0, f1, f2, f3, f4, f5, f6, f7⟩ := frozen8 (TC.out.at 0 rfl)
            have hS2 := TP.out.1.1
            unfold set8 at hS2 TP
            go_simp
            refine hK.out _ _ (by first | assumption | with_reducible exact hS2) (fun hHeld => ?_)
            clear hK K
            refine wpAnyH_ready (rs := [23]) (by kernel_rfl) (by simp) ?_
            refine AllReadyH.cons (o := ⟨none, _, _, _, _, _⟩) rfl (fun K hK => ?_) AllReadyH.nil
            rw [if_pos (by kernel_rfl)]
            go_simp
            clear y0 y1 y2 y3 y4 y5 y6 y7 f0 f1 f2 f3 f4 f5 f6 f7
            have km1 := KM.out
            have km2 := fun e => km1 (Eq.symm e)
            obtain ⟨y0, y1, y2, y3, y4, y5, y6, y7⟩ := cells8 TP.out.1.2
            obtain ⟨f0, f1, f2, f3, f4, f5, f6, f7⟩ := frozen8 TP.out.1.2
            obtain ⟨q0, q1, q2, q3, q4, q5, q6, q7⟩ := cells8 (TC.out.at 1 rfl)
            obtain ⟨g0, g1, g2, g3, g4, g5, g6, g7⟩ := frozen8 (TC.out.at 1 rfl)
            have hS2 := TP.out.2.1
            go_simp
            refine hK.out _ _ (by first | assumption | with_reducible exact hS2) (fun hHeld => ?_)
            clear hK K
            refine wpAnyH_done (by kernel_rfl) ?_ _
            refine NoPanic.normal ?_
            generalize hpu : Value.pointer (some ⟨w9.heap.size, 0, none⟩) = pu
            generalize hpv : Value.pointer (some ⟨wr.heap.size, 0, none⟩) = pv
            exact ⟨pu, pv, rfl, rfl, _, _, hpu.symm, hpv.symm, TP.out.2.2.1, TP.out.2.2.2.1, TP.out.2.2.2.2⟩
          refine AllReadyH.cons (o := ⟨some 13, _, _, _, _, _⟩) rfl (fun K hK => ?_) AllReadyH.nil
          rw [if_pos (by kernel_rfl)]
          go_simp
          have KM := Lib.hid (show wr.heap.size ≠ wr.heap.size + 1 from Nat.ne_of_lt (by first | exact lt_of_heap (TC.out.at 0 rfl) | (have := lt_of_heap (TC.out.at 0 rfl); rw [World.size_alloc] at this; exact this)))
          have KP20 := Lib.hid (show w.heap.size + 1 < wr.heap.size + 1 from (by first | exact lt_of_heap (TC.out.at 1 rfl) | (have := lt_of_heap (TC.out.at 1 rfl); rw [World.size_alloc] at this; exact this)))
          have TC := Lib.hid ((TC.out.box SH.out vyz).ren (j' := wr.heap.size + 1) (by first | rfl | exact World.size_alloc _ _))
          have hS2 := TC.out.at 2 rfl
          go_simp
          refine hK.out _ _ (by first | assumption | with_reducible exact hS2) (fun hHeld => ?_)
          clear hK K
          refine wpAnyH_ready (rs := [9]) (by kernel_rfl) (by simp) ?_
          refine AllReadyH.cons (o := ⟨some 57, _, _, _, _, _⟩) rfl (fun K hK => ?_) AllReadyH.nil
          rw [if_pos (by kernel_rfl)]
          go_simp
          refine (TC.out.one SH.out o.t o.lc o.fr o.A o.l o.cp HNZ.out (HB.out _ TC.out.b) H1.out H2.out).mono ?_
          rintro r9 w9 ⟨rfl, t9⟩
          rw [HD.out, HV1.out]
          have TC := Lib.hid t9
          have hS9 := TC.out.at 2 rfl
          clear t9
          go_simp
          refine hK.out _ _ (by first | assumption | with_reducible exact hS2) (fun hHeld => ?_)
          clear hK K
          refine wpAnyH_ready (rs := [19]) (by kernel_rfl) (by simp) ?_
          refine AllReadyH.cons (o := ⟨some 67, _, _, _, _, _⟩) rfl (fun K hK => ?_) AllReadyH.nil
          rw [if_pos (by kernel_rfl)]
          go_simp
          refine (TC.out.two SH.out o.t o.lc o.fr o.A o.l o.cp (Nat.zero_le _) (HB.out _ TC.out.b) H1.out H2.out).mono ?_
          rintro r19 w19 ⟨rfl, t9⟩
          rw [HD.out, HV2.out]
          have TC := Lib.hid t9
          have hS9 := TC.out.at 2 rfl
          clear t9
          go_simp
          refine hK.out _ _ (by first | assumption | with_reducible exact hS2) (fun hHeld => ?_)
          clear hK K
          refine wpAnyH_ready (rs := [22]) (by kernel_rfl) (by simp) ?_
          refine AllReadyH.cons (o := ⟨none, _, _, _, _, _⟩) rfl (fun K hK => ?_) AllReadyH.nil
          rw [if_pos (by kernel_rfl)]
          go_simp
          have tp := two_put (d := d) (v1 := v1) (v2 := v2) TC.out.b (TC.out.at 0 rfl) (TC.out.at 1 rfl) (TC.out.at 2 rfl) (fun e => KM.out e.symm) (Nat.ne_of_lt KP20.out) (Nat.ne_of_lt KP21.out) (by have := KP20.out; omega) (by have := KP21.out; omega)
          have TP := Lib.hid tp
          clear tp
          obtain ⟨y0, y1, y2, y3, y4, y5, y6, y7⟩ := cells8 (TC.out.at 0 rfl)
          obtain ⟨f0, f1, f2, f3, f4, f5, f6, f7⟩ := frozen8 (TC.out.at 0 rfl)
          have hS2 := TP.out.1.1
          unfold set8 at hS2 TP
          go_simp
          refine hK.out _ _ (by first | assumption | with_reducible exact hS2) (fun hHeld => ?_)
          clear hK K
          refine wpAnyH_ready (rs := [23]) (by kernel_rfl) (by simp) ?_
          refine AllReadyH.cons (o := ⟨none, _, _, _, _, _⟩) rfl (fun K hK => ?_) AllReadyH.nil
          rw [if_pos (by kernel_rfl)]
          go_simp
          clear y0 y1 y2 y3 y4 y5 y6 y7 f0 f1 f2 f3 f4 f5 f6 f7
          have km1 := KM.out
          have km2 := fun e => km1 (Eq.symm e)
          obtain ⟨y0, y1, y2, y3, y4, y5, y6, y7⟩ := cells8 TP.out.1.2
          obtain ⟨f0, f1, f2, f3, f4, f5, f6, f7⟩ := frozen8 TP.out.1.2
          obtain ⟨q0, q1, q2, q3, q4, q5, q6, q7⟩ := cells8 (TC.out.at 1 rfl)
          obtain ⟨g0, g1, g2, g3, g4, g5, g6, g7⟩ := frozen8 (TC.out.at 1 rfl)
          have hS2 := TP.out.2.1
          go_simp
          refine hK.out _ _ (by first | assumption | with_reducible exact hS2) (fun hHeld => ?_)
          clear hK K
          refine wpAnyH_done (by kernel_rfl) ?_ _
          refine NoPanic.normal ?_
          generalize hpu : Value.pointer (some ⟨wr.heap.size + 1, 0, none⟩) = pu
          generalize hpv : Value.pointer (some ⟨wr.heap.size, 0, none⟩) = pv
          exact ⟨pu, pv, rfl, rfl, _, _, hpu.symm, hpv.symm, TP.out.2.2.1, TP.out.2.2.2.1, TP.out.2.2.2.2⟩
        case hm =>
          rintro u v W ⟨ka, kb, rfl, rfl, hka, hkb, hbw⟩
          have BW := Lib.hid hbw
          clear TC HT hbw
          obtain ⟨y0, y1, y2, y3, y4, y5, y6, y7⟩ := cells8 hka
          obtain ⟨p0, p1, p2, p3, p4, p5, p6, p7⟩ := cells8 hkb
          clear hka hkb
          by_cases hc : d.c = 2
          · have g1 : (d.c == 2) = true := by rw [beq_iff_eq]; exact hc
            clear hc
            go_wp2
            go_ret
            exact ⟨rfl, BW.out⟩
          · have g1 : (d.c == 2) = false := by rw [beq_eq_false_iff_ne]; exact hc
            have hs := HSame.out hc
            subst hs
            have EV := eql_v v1.w d.c d.l d.n d.p d.s v1.u v1.a
            clear hc
            go_wp2
            go_ret
            exact ⟨rfl, BW.out⟩
end
end Go.Proofs.Ytecgpibidcifpaa.RelayW
