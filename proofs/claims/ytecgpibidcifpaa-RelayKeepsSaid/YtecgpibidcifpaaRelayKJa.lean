/- The document's own Judge: where a bucket is asked. -/
import Derived.Test.YtecgpibidcifpaaTake
import Derived.Test.YtecgpibidcifpaaRelayPJa
import Derived.Test.YtecgpibidcifpaaFrameLayJa
import Derived.Test.YtecgpibidcifpaaCrewAJa
import Derived.Test.YtecgpibidcifpaaConfY
import Derived.Test.YtecgpibidcifpaaConfLay
import Derived.Test.YtecgpibidcifpaaStr1
namespace Go.Proofs.Ytecgpibidcifpaa.RelayW
open Shell (takeR skipR aput lset)
open Go.RowKit Shell
open ConfW (Cfg R4 CM ML chk)
open BucketW (Bk pas tk b0 fit)
open FrameW (BL rdE rdV)
/-- Boxes beside a row that has turned. -/
theorem stay_step {w0 w w1 : World} {L : List (Nat × Obj)} {v v' : Value} (S : Stay w0 L w) (s : Step w v w1 v') (hb : ∀ k, v.ownBlock = some k → w0.heap.size ≤ k) (hL : ∀ x ∈ L, v.ownBlock ≠ some x.1) : Stay w0 L w1 :=
  ⟨S.b.grown s.g S.b.size hb, fun x hx => (s.g.block _ (lt_of_heap (S.h x hx)) (fun e => hL x hx e.symm)).trans (S.h x hx)⟩
theorem rj_facts2 {w0 w2 : World} {q p : Nat} {d : Dt} {M : List (Nat × Obj)} (S : Stay w0 ((q, dbx d) :: (p, vbx v0 d0) :: M) w2) (hq : p ≠ q) (hp : w0.heap.size ≤ p) (v : Vd) :
    (set8 w2 p (.int .i64 v.w) (.int .i64 d.c) (.int .i64 d.l) (.int .i64 d.n) (.string d.p) (.int .i64 d.s) (.int .u32 (v.u : Int)) (.int .i64 v.a)).heap[q]? = some (dbx d) ∧ Below w0.heap.size w0 (set8 w2 p (.int .i64 v.w) (.int .i64 d.c) (.int .i64 d.l) (.int .i64 d.n) (.string d.p) (.int .i64 d.s) (.int .u32 (v.u : Int)) (.int .i64 v.a)) ∧ (set8 w2 p (.int .i64 v.w) (.int .i64 d.c) (.int .i64 d.l) (.int .i64 d.n) (.string d.p) (.int .i64 d.s) (.int .u32 (v.u : Int)) (.int .i64 v.a)).heap[p]? = some (vbx v d) :=
  ⟨((kept8 w2 p (.int .i64 v.w) (.int .i64 d.c) (.int .i64 d.l) (.int .i64 d.n) (.string d.p) (.int .i64 d.s) (.int .u32 (v.u : Int)) (.int .i64 v.a)).block q (fun e => hq e.symm) (lt_of_heap (S.at 0 rfl))).trans (S.at 0 rfl), S.b.trans ((kept8 w2 p (.int .i64 v.w) (.int .i64 d.c) (.int .i64 d.l) (.int .i64 d.n) (.string d.p) (.int .i64 d.s) (.int .u32 (v.u : Int)) (.int .i64 v.a)).below hp S.b.size), put8 (S.at 1 rfl) (.int .i64 v.w) (.int .i64 d.c) (.int .i64 d.l) (.int .i64 d.n) (.string d.p) (.int .i64 d.s) (.int .u32 (v.u : Int)) (.int .i64 v.a)⟩
theorem rok_end {c : Cfg} {w0 w wr W : World} {e : R4} {s : Bk} {xs : List Int} {t mm : Int} {A3 : Option Addr} {c3 n p B : Nat} {es : List TB} {tx te : TB} {v5 : Value} {E0 : Ending} {vd : Value}
    (o2 : xs.length = s.n) (htk : tk e.c c.delay s t = ⟨s.n + 1, t, mm, s.r⟩) (htx : tx = ⟨A3, s.n + 1, c3, e.c, c.delay, mm⟩)
    (G : OG F14 wr B 76 v5 (es.set n tx)) (R : OR wr w0.heap.size 2 .i64 (.slice A3 (s.n + 1) c3) (xs ++ [t])) (T : Step w te.v wr (.slice A3 (s.n + 1) c3)) (K : Kept p wr W) (hp : w.heap.size ≤ p) (hB : p < B) (hb : ∀ k, (Value.slice A3 (s.n + 1) c3).ownBlock = some k → k < B) (hpn : (Value.slice A3 (s.n + 1) c3).ownBlock ≠ some p) (hE : E0 = .returned (.tuple #[v5, vd])) :
    ∃ v' te' B, E0 = .returned (.tuple #[v', vd]) ∧ OG F14 W B 76 v' (es.set n te') ∧ Std w0.heap.size c e (tk e.c c.delay s t) te' W ∧ Step w te.v W te'.v ∧ w.heap.size ≤ B ∧ (∀ k, te'.v.ownBlock = some k → k < B) := by
  subst htx
  refine ⟨v5, _, B, hE, G.kept K (fun h => by have := (G.lt _ h).1; omega), ?_, BucketW.step_kept T K hp, Nat.le_trans hp (Nat.le_of_lt hB), hb⟩
  rw [htk]
  exact ⟨rfl, rfl, rfl, xs ++ [t], BucketW.or_kept R K hpn, by simp [o2], fun _ => by simp⟩
/-- Where a bucket of the list lies. -/
theorem sg4 {w : World} {A : Option Addr} {es : List TB} (h : SG F14 w A es) {k : Nat} {x : TB} (hk : es[k]? = some x) : ∃ b off, A = some ⟨b, off, none⟩ ∧ w.cell? ⟨b, off + k * 4, none⟩ = some (.int .i64 x.g) ∧ w.cell? ⟨b, off + k * 4 + 1, none⟩ = some (.int .i64 x.j) ∧ w.cell? ⟨b, off + k * 4 + 2, none⟩ = some (.slice x.A x.n x.r) ∧ w.cell? ⟨b, off + k * 4 + 3, none⟩ = some (.int .i64 x.m) := by
  obtain ⟨b, off, hA, -, hc⟩ := h k x hk
  exact ⟨b, off, hA, hc 0 _ rfl, hc 1 _ rfl, hc 2 _ rfl, hc 3 _ rfl⟩
set_option maxHeartbeats 4000000 in
set_option maxRecDepth 100000 in
theorem rj_r3 (c : Cfg) (D E L : Option Addr) (nd cd ne ce nl cl : Nat) (t lo fr : Int) (Av : Option Addr) (es : List TB) (cv : Nat) (A : Option Addr) (l : List Int) (cp : Nat) (w : World) (h : CM w c D E L nd cd ne ce nl cl) (hb : BL w A l) (hl : l.length ≤ 9223372036854775807) (hc : l.length ≤ cp) (d : Dt) (hd : dt l = d) (he : rdE l = 0)
    (base : Nat) (e : R4) (s : Bk) (te : TB) (h1 : d.c = 2) (h2 : lnkAt c d.l = some e) (h3 : e.a = fr) (h4 : d.s ≤ e.d) (hs : SG F14 w Av es) (ht : es[d.l.toNat]? = some te) (sd : Std base c e s te w) (hr : BucketW.rgt e.c c.delay = true) (F : fit e.c c.delay s) (hN : s.n < 4611686018427387904) (hp : pas c.delay s t = false) :
    Calls Try.prog 13 #[.agg #[.int .i64 c.hosts, .int .i64 c.cycle, .int .i64 c.delay, .int .i64 c.window, .int .i64 c.precision, .slice D nd cd, .slice E ne ce, .slice L nl cl, .int .i64 c.queue], .slice Av nl cv, .int .i64 t, .int .i64 lo, .int .i64 fr, .slice A l.length cp] w fun r w' => r = .returned (.tuple #[.slice Av nl cv, vv d ⟨4, 0, 0⟩]) ∧ Below w.heap.size w w' := by
  have S0 := ((Stay.start w).alloc (cbx c D E L nd cd ne ce nl cl)).alloc (vbx v0 d0)
  rw [World.size_alloc] at S0
  have S1 := Lib.hid S0
  have HR := Lib.hid (FrameW.refReadData_any A cp l _ (hb.below S0.b) hl hc)
  have ok := dt_ok he
  rw [rdV_dt, he, hd] at HR
  rw [hd] at ok
  have HM := Lib.hid h
  have hnE : ne ≤ 9223372036854775807 := by have := h.mE; unfold maxLen at this; omega
  have hnL : nl ≤ 9223372036854775807 := by have := h.mL; unfold maxLen at this; omega
  obtain ⟨n, hn, hk, hlt⟩ := lnk_at h2 ok.l.1
  rw [← h.nL] at hlt
  obtain ⟨dc, dl, dn, dp, ds⟩ := d
  obtain rfl : dc = 2 := h1
  obtain rfl : dl = (n : Int) := hn
  have g1 : (n : Int) < (nl : Int) := by omega
  have g4 : decide (nl ≤ n) = false := decide_eq_false (by omega)
  clear h2
  have g2 : (e.a != fr) = false := by rw [bne_eq_false_iff_eq]; exact h3
  have g3 : decide (e.d < ds) = false := decide_eq_false (by show ¬ e.d < ds; exact Int.not_lt.2 h4)
  obtain ⟨xs, o1, o2, o3⟩ := sd.row
  have sg := sd.g
  have sj := sd.j
  have sm := sd.m
  obtain ⟨tA, tn, tr, tg, tj, tm⟩ := te
  obtain rfl : tg = e.c := sg
  obtain rfl : tj = c.delay := sj
  obtain rfl : tm = s.m := sm
  have HS := Lib.hid hs
  have HT := Lib.hid (show es[n]? = some ⟨tA, tn, tr, e.c, c.delay, s.m⟩ from ht)
  have HO := Lib.hid o1
  clear h3 h4 sd hs ht o1
  clear S0 hb hl hc hd he h ok
  go_enter Try.func13, Try.ntmps13
  go_wp2_with fail
  refine HR.out.mono ?_
  rintro r w1 ⟨rfl, b1⟩
  have HPQ := Lib.hid (show w.heap.size + 1 ≠ w1.heap.size ∧ w.heap.size ≠ w1.heap.size by
    have := lt_of_heap (S1.out.at 0 rfl)
    have := b1.size
    omega)
  have S2 := Lib.hid ((S1.out.next b1).alloc (dbx ⟨2, (n : Int), dn, dp, ds⟩))
  clear b1 S1 HR
  obtain ⟨z0, z1, z2, z3, z4⟩ := cells5 (S2.out.at 0 rfl)
  obtain ⟨a0, a1, a2, a3, a4, a5, a6, a7, a8⟩ := PlanW.cells9 (S2.out.at 2 rfl)
  obtain ⟨b, off, rfl, l0, l1, l2, l3⟩ := ml_at (HM.out.hl.below S2.out.b) hk
  obtain ⟨vb, voff, rfl, u0, u1, u2, u3⟩ := sg4 (HS.out.below S2.out.b) HT.out
  go_wp2
  generalize w1.alloc (dbx ⟨2, (n : Int), dn, dp, ds⟩) = w2 at *
  generalize w1.heap.size = q at *
  apply wp_one
  case h =>
    refine wp_region_noPanic ?_
    refine wp_region_held_drew (S := fun Z : World => Z.heap[w.heap.size]? = some (cbx c D E (some ⟨b, off, none⟩) nd cd ne ce nl cl : Obj) ∧ Z.heap[q]? = some (dbx ⟨2, (n : Int), dn, dp, ds⟩) ∧ Z.cell? ⟨b, off + n * 4, none⟩ = some (.int .i64 e.a) ∧ Z.cell? ⟨b, off + n * 4 + 3, none⟩ = some (.int .i64 e.d)) (by kernel_rfl) (⟨S2.out.drew.at 2 rfl, S2.out.drew.at 0 rfl, l0, l3⟩) (fun hHeld => ?_)
    refine takeR 0 (some 114) ?_ ?_ ?_; rotate_left; (focus (intros; go_simp; (try with_reducible rfl)))
    simp only [aput, lset]
    refine takeR 1 (some 115) ?_ ?_ ?_; rotate_left; (focus (intro w hSw; (try dsimp only at hSw); obtain ⟨a0, a1, a2, a3, a4, a5, a6, a7, a8⟩ := PlanW.cells9 hSw.1; obtain ⟨z0, z1, z2, z3, z4⟩ := cells5 hSw.2.1; have l0 := hSw.2.2.1; have l3 := hSw.2.2.2; go_simp; (try with_reducible rfl)))
    simp only [aput, lset]
    refine takeR 2 (some 116) ?_ ?_ ?_; rotate_left; (focus (intros; go_simp; (try with_reducible rfl)))
    simp only [aput, lset]
    refine takeR 3 (some 117) ?_ ?_ ?_; rotate_left; (focus (intro w hSw; (try dsimp only at hSw); obtain ⟨a0, a1, a2, a3, a4, a5, a6, a7, a8⟩ := PlanW.cells9 hSw.1; obtain ⟨z0, z1, z2, z3, z4⟩ := cells5 hSw.2.1; have l0 := hSw.2.2.1; have l3 := hSw.2.2.2; go_simp; (try with_reducible rfl)))
    simp only [aput, lset]
    refine takeR 4 (some 118) ?_ ?_ ?_; rotate_left; (focus (intros; go_simp; (try with_reducible rfl)))
    simp only [aput, lset]
    refine takeR 5 (some 119) ?_ ?_ ?_; rotate_left; (focus (intros; go_simp; (try with_reducible rfl)))
    simp only [aput, lset]
    refine takeR 6 (some 120) ?_ ?_ ?_; rotate_left; (focus (intros; go_simp; (try with_reducible rfl)))
    simp only [aput, lset]
    refine takeR 7 (some 121) ?_ ?_ ?_; rotate_left; (focus (intros; go_simp; (try with_reducible rfl)))
    simp only [aput, lset]
    refine takeR 8 (some 122) ?_ ?_ ?_; rotate_left; (focus (intro w hSw; (try dsimp only at hSw); obtain ⟨a0, a1, a2, a3, a4, a5, a6, a7, a8⟩ := PlanW.cells9 hSw.1; obtain ⟨z0, z1, z2, z3, z4⟩ := cells5 hSw.2.1; have l0 := hSw.2.2.1; have l3 := hSw.2.2.2; go_simp; (try with_reducible rfl)))
    simp only [aput, lset]
    refine takeR 9 (some 123) ?_ ?_ ?_; rotate_left; (focus (intros; go_simp; (try with_reducible rfl)))
    simp only [aput, lset]
    refine takeR 10 (some 124) ?_ ?_ ?_; rotate_left; (focus (intro w hSw; (try dsimp only at hSw); obtain ⟨a0, a1, a2, a3, a4, a5, a6, a7, a8⟩ := PlanW.cells9 hSw.1; obtain ⟨z0, z1, z2, z3, z4⟩ := cells5 hSw.2.1; have l0 := hSw.2.2.1; have l3 := hSw.2.2.2; go_simp; (try with_reducible rfl)))
    simp only [aput, lset]
    refine takeR 11 (some 125) ?_ ?_ ?_; rotate_left; (focus (intros; go_simp; (try with_reducible rfl)))
    simp only [aput, lset]
    refine takeR 12 (some 126) ?_ ?_ ?_; rotate_left; (focus (intros; go_simp; (try with_reducible rfl)))
    simp only [aput, lset]
    refine takeR 13 (some 127) ?_ ?_ ?_; rotate_left; (focus (intro w hSw; (try dsimp only at hSw); obtain ⟨a0, a1, a2, a3, a4, a5, a6, a7, a8⟩ := PlanW.cells9 hSw.1; obtain ⟨z0, z1, z2, z3, z4⟩ := cells5 hSw.2.1; have l0 := hSw.2.2.1; have l3 := hSw.2.2.2; go_simp; (try with_reducible rfl)))
    simp only [aput, lset]
    refine takeR 14 (some 128) ?_ ?_ ?_; rotate_left; (focus (intros; go_simp; (try with_reducible rfl)))
    simp only [aput, lset]
    refine takeR 15 (some 129) ?_ ?_ ?_; rotate_left; (focus (intros; go_simp; (try with_reducible rfl)))
    simp only [aput, lset]
    refine takeR 16 (some 130) ?_ ?_ ?_; rotate_left; (focus (intros; go_simp; (try with_reducible rfl)))
    simp only [aput, lset]
    refine takeR 17 (some 131) ?_ ?_ ?_; rotate_left; (focus (intros; go_simp; (try with_reducible rfl)))
    simp only [aput, lset]
    refine takeR 18 (some 132) ?_ ?_ ?_; rotate_left; (focus (intros; go_simp; (try with_reducible rfl)))
    simp only [aput, lset]
    refine takeR 19 (some 133) ?_ ?_ ?_; rotate_left; (focus (intro w hSw; (try dsimp only at hSw); obtain ⟨a0, a1, a2, a3, a4, a5, a6, a7, a8⟩ := PlanW.cells9 hSw.1; obtain ⟨z0, z1, z2, z3, z4⟩ := cells5 hSw.2.1; have l0 := hSw.2.2.1; have l3 := hSw.2.2.2; go_simp; (try with_reducible rfl)))
    simp only [aput, lset]
    refine takeR 20 (some 134) ?_ ?_ ?_; rotate_left; (focus (intros; go_simp; (try with_reducible rfl)))
    simp only [aput, lset]
    refine takeR 21 (some 135) ?_ ?_ ?_; rotate_left; (focus (intro w hSw; (try dsimp only at hSw); obtain ⟨a0, a1, a2, a3, a4, a5, a6, a7, a8⟩ := PlanW.cells9 hSw.1; obtain ⟨z0, z1, z2, z3, z4⟩ := cells5 hSw.2.1; have l0 := hSw.2.2.1; have l3 := hSw.2.2.2; go_simp; (try with_reducible rfl)))
    simp only [aput, lset]
    refine takeR 22 (some 136) ?_ ?_ ?_; rotate_left; (focus (intros; go_simp; (try with_reducible rfl)))
    simp only [aput, lset]
    refine takeR 23 (some 137) ?_ ?_ ?_; rotate_left; (focus (intros; go_simp; (try with_reducible rfl)))
    simp only [aput, lset]
    refine takeR 24 (some 138) ?_ ?_ ?_; rotate_left; (focus (intro w hSw; (try dsimp only at hSw); obtain ⟨a0, a1, a2, a3, a4, a5, a6, a7, a8⟩ := PlanW.cells9 hSw.1; obtain ⟨z0, z1, z2, z3, z4⟩ := cells5 hSw.2.1; have l0 := hSw.2.2.1; have l3 := hSw.2.2.2; go_simp; (try with_reducible rfl)))
    simp only [aput, lset]
    refine takeR 25 (some 139) ?_ ?_ ?_; rotate_left; (focus (intros; go_simp; (try with_reducible rfl)))
    simp only [aput, lset]
    refine takeR 26 (some 140) ?_ ?_ ?_; rotate_left; (focus (intro w hSw; (try dsimp only at hSw); obtain ⟨a0, a1, a2, a3, a4, a5, a6, a7, a8⟩ := PlanW.cells9 hSw.1; obtain ⟨z0, z1, z2, z3, z4⟩ := cells5 hSw.2.1; have l0 := hSw.2.2.1; have l3 := hSw.2.2.2; go_simp; (try with_reducible rfl)))
    simp only [aput, lset]
    refine takeR 27 (some 141) ?_ ?_ ?_; rotate_left; (focus (intros; go_simp; (try with_reducible rfl)))
    simp only [aput, lset]
    refine takeR 28 (some 142) ?_ ?_ ?_; rotate_left; (focus (intros; go_simp; (try with_reducible rfl)))
    simp only [aput, lset]
    refine wpAnyH_done (by kernel_rfl) ?_ _
    exact NoPanic.normal ⟨rfl, rfl, rfl⟩
  case hm =>
    have HK := Lib.hid (BucketW.refTake_no e.c c.delay base (TB.v ⟨tA, tn, tr, e.c, c.delay, s.m⟩) xs s.n s.l s.m t _ hr F (HO.out.below S2.out.drew.b) o2 o3 hN hp)
    unfold TB.v at HK
    clear F hr o2 o3 hN hp
    go_wp2_with fail
    refine HK.out.mono ?_
    rintro r w3 ⟨rfl, b3⟩
    have S3 := Lib.hid (((S2.out.drew.next b3).alloc (BucketW.rb e.c c.delay (.slice tA tn tr) s.m)).sub (M := [(q, dbx ⟨2, (n : Int), dn, dp, ds⟩), (w.heap.size + 1, vbx v0 d0), (w.heap.size, cbx c D E (some ⟨b, off, none⟩) nd cd ne ce nl cl)]) (fun x hx => List.mem_cons_of_mem _ hx))
    clear b3 HK S2 z0 z1 z2 z3 z4 a0 a1 a2 a3 a4 a5 a6 a7 a8 l0 l1 l2 l3 u0 u1 u2 u3
    obtain ⟨z0, z1, z2, z3, z4⟩ := cells5 (S3.out.at 0 rfl)
    go_wp2
    generalize w3.alloc (BucketW.rb e.c c.delay (.slice tA tn tr) s.m) = w4 at *
    obtain ⟨hn, he, hv⟩ := rj_facts S3.out HPQ.out.1 ⟨4, 0, 0⟩
    have HN := Lib.hid (at_drew hn)
    have HE := Lib.hid he.drew
    have HV := Lib.hid (at_drew hv)
    clear hn he hv
    apply wp_one
    case h =>
      refine wp_region_noPanic ?_
      refine wp_region_held_drew (S := fun Z : World => Z.heap[q]? = some (dbx ⟨2, (n : Int), dn, dp, ds⟩)) (by kernel_rfl) (S3.out.drew.at 0 rfl) (fun hHeld => ?_)
      refine takeR 0 (some 158) ?_ ?_ ?_; rotate_left; (focus (intros; go_simp; (try with_reducible rfl)))
      simp only [aput, lset]
      refine takeR 3 (some 12) ?_ ?_ ?_; rotate_left; (focus (intros; go_simp; (try with_reducible rfl)))
      simp only [aput, lset]
      refine takeR 1 (some 159) ?_ ?_ ?_; rotate_left; (focus (intro w hSw; (try dsimp only at hSw); obtain ⟨x0, x1, x2, x3, x4⟩ := cells5 hSw; go_simp; (try with_reducible rfl)))
      simp only [aput, lset]
      refine takeR 2 (some 160) ?_ ?_ ?_; rotate_left; (focus (intros; go_simp; (try with_reducible rfl)))
      simp only [aput, lset]
      obtain ⟨y0, y1, y2, y3, y4, y5, y6, y7⟩ := cells8 (S3.out.at 1 rfl)
      obtain ⟨f0, f1, f2, f3, f4, f5, f6, f7⟩ := frozen8 (S3.out.at 1 rfl)
      refine wpAnyH_ready (rs := [4]) (by kernel_rfl) (by simp) ?_
      refine AllReadyH.cons (o := ⟨none, _, _, _, _, _⟩) rfl (fun K hK => ?_) AllReadyH.nil
      rw [if_pos (by kernel_rfl)]
      go_simp
      refine hK.out _ _ (by exact HN.out) (fun hHeld => ?_)
      clear hK K
      refine wpAnyH_done (by kernel_rfl) ?_ _
      exact NoPanic.normal ⟨rfl, rfl, rfl⟩
    case hm =>
      go_wp2
      exact ret_v rfl rfl HV.out ⟨rfl, HE.out⟩
set_option maxHeartbeats 4000000 in
set_option maxRecDepth 100000 in
theorem rj_ok (c : Cfg) (D E L : Option Addr) (nd cd ne ce nl cl : Nat) (t lo fr : Int) (Av : Option Addr) (es : List TB) (cv : Nat) (A : Option Addr) (l : List Int) (cp : Nat) (w : World) (h : CM w c D E L nd cd ne ce nl cl) (hb : BL w A l) (hl : l.length ≤ 9223372036854775807) (hc : l.length ≤ cp) (d : Dt) (hd : dt l = d) (he : rdE l = 0)
    (w0 : World) (h0 : CM w0 c D E L nd cd ne ce nl cl) (hB : Below w0.heap.size w0 w) (e : R4) (s : Bk) (te : TB) (h1 : d.c = 2) (h2 : lnkAt c d.l = some e) (h3 : e.a = fr) (h4 : d.s ≤ e.d) (hs : SG F14 w Av es) (hL : es.length = nl) (hZ : nl * 48 ≤ 140737488351232) (hA : ∀ a, Av = some a → some a.block ≠ te.v.ownBlock) (hS : ∀ a, Av = some a → a.block < w.heap.size) (ht : es[d.l.toNat]? = some te) (sd : Std w0.heap.size c e s te w) (hr : BucketW.rgt e.c c.delay = true) (hN : (s.n + 1) * 8 ≤ 140737488355328) (hp : pas c.delay s t = true) :
    Calls Try.prog 13 #[.agg #[.int .i64 c.hosts, .int .i64 c.cycle, .int .i64 c.delay, .int .i64 c.window, .int .i64 c.precision, .slice D nd cd, .slice E ne ce, .slice L nl cl, .int .i64 c.queue], .slice Av nl cv, .int .i64 t, .int .i64 lo, .int .i64 fr, .slice A l.length cp] w fun r w' => ∃ v' te' B, r = .returned (.tuple #[v', vv d ⟨0, e.b, 0⟩]) ∧ OG F14 w' B 76 v' (es.set d.l.toNat te') ∧ Std w0.heap.size c e (tk e.c c.delay s t) te' w' ∧ Step w te.v w' te'.v ∧ w.heap.size ≤ B ∧ (∀ k, te'.v.ownBlock = some k → k < B) := by
  have S0 := ((Stay.start w).alloc (cbx c D E L nd cd ne ce nl cl)).alloc (vbx v0 d0)
  rw [World.size_alloc] at S0
  have S1 := Lib.hid S0
  have HR := Lib.hid (FrameW.refReadData_any A cp l _ (hb.below S0.b) hl hc)
  have ok := dt_ok he
  rw [rdV_dt, he, hd] at HR
  rw [hd] at ok
  have HM := Lib.hid h
  have hnE : ne ≤ 9223372036854775807 := by have := h.mE; unfold maxLen at this; omega
  have hnL : nl ≤ 9223372036854775807 := by have := h.mL; unfold maxLen at this; omega
  obtain ⟨n, hn, hk, hlt⟩ := lnk_at h2 ok.l.1
  rw [← h.nL] at hlt
  obtain ⟨dc, dl, dn, dp, ds⟩ := d
  obtain rfl : dc = 2 := h1
  obtain rfl : dl = (n : Int) := hn
  have g1 : (n : Int) < (nl : Int) := by omega
  have g4 : decide (nl ≤ n) = false := decide_eq_false (by omega)
  clear h2
  have g2 : (e.a != fr) = false := by rw [bne_eq_false_iff_eq]; exact h3
  have g3 : decide (e.d < ds) = false := decide_eq_false (by show ¬ e.d < ds; exact Int.not_lt.2 h4)
  obtain ⟨xs, o1, o2, o3⟩ := sd.row
  have sg := sd.g
  have sj := sd.j
  have sm := sd.m
  obtain ⟨tA, tn, tr, tg, tj, tm⟩ := te
  obtain rfl : tg = e.c := sg
  obtain rfl : tj = c.delay := sj
  obtain rfl : tm = s.m := sm
  have HS := Lib.hid hs
  have HT := Lib.hid (show es[n]? = some ⟨tA, tn, tr, e.c, c.delay, s.m⟩ from ht)
  have HO := Lib.hid o1
  clear h3 h4 sd hs ht o1
  have HC := Lib.hid h0
  have HW := Lib.hid hB
  have HL := Lib.hid hL
  have HZ := Lib.hid hZ
  have HA := Lib.hid hA
  have HLT := Lib.hid (show ∀ k, (TB.v ⟨tA, tn, tr, e.c, c.delay, s.m⟩).ownBlock = some k → w0.heap.size ≤ k ∧ k < w.heap.size from HO.out.lt)
  have HTK := Lib.hid (BucketW.tk_yes (g := e.c) hp)
  clear h0 hB hL hZ hA
  clear S0 hb hl hc hd he h ok
  go_enter Try.func13, Try.ntmps13
  go_wp2_with fail
  refine HR.out.mono ?_
  rintro r w1 ⟨rfl, b1⟩
  have HPQ := Lib.hid (show w.heap.size + 1 ≠ w1.heap.size ∧ w.heap.size ≠ w1.heap.size by
    have := lt_of_heap (S1.out.at 0 rfl)
    have := b1.size
    omega)
  have S2 := Lib.hid ((S1.out.next b1).alloc (dbx ⟨2, (n : Int), dn, dp, ds⟩))
  clear b1 S1 HR
  obtain ⟨z0, z1, z2, z3, z4⟩ := cells5 (S2.out.at 0 rfl)
  obtain ⟨a0, a1, a2, a3, a4, a5, a6, a7, a8⟩ := PlanW.cells9 (S2.out.at 2 rfl)
  obtain ⟨b, off, rfl, l0, l1, l2, l3⟩ := ml_at (HM.out.hl.below S2.out.b) hk
  obtain ⟨vb, voff, rfl, u0, u1, u2, u3⟩ := sg4 (HS.out.below S2.out.b) HT.out
  have HQ2 := Lib.hid (show w.heap.size + 1 < w1.heap.size by
    have h1 := lt_of_heap (S2.out.at 1 rfl)
    rw [World.size_alloc] at h1
    have := HPQ.out.1
    omega)
  go_wp2
  generalize w1.alloc (dbx ⟨2, (n : Int), dn, dp, ds⟩) = w2 at *
  generalize w1.heap.size = q at *
  apply wp_one
  case h =>
    refine wp_region_noPanic ?_
    refine wp_region_held_drew (S := fun Z : World => Z.heap[w.heap.size]? = some (cbx c D E (some ⟨b, off, none⟩) nd cd ne ce nl cl : Obj) ∧ Z.heap[q]? = some (dbx ⟨2, (n : Int), dn, dp, ds⟩) ∧ Z.cell? ⟨b, off + n * 4, none⟩ = some (.int .i64 e.a) ∧ Z.cell? ⟨b, off + n * 4 + 3, none⟩ = some (.int .i64 e.d)) (by kernel_rfl) (⟨S2.out.drew.at 2 rfl, S2.out.drew.at 0 rfl, l0, l3⟩) (fun hHeld => ?_)
    refine takeR 0 (some 114) ?_ ?_ ?_; rotate_left; (focus (intros; go_simp; (try with_reducible rfl)))
    simp only [aput, lset]
    refine takeR 1 (some 115) ?_ ?_ ?_; rotate_left; (focus (intro w hSw; (try dsimp only at hSw); obtain ⟨a0, a1, a2, a3, a4, a5, a6, a7, a8⟩ := PlanW.cells9 hSw.1; obtain ⟨z0, z1, z2, z3, z4⟩ := cells5 hSw.2.1; have l0 := hSw.2.2.1; have l3 := hSw.2.2.2; go_simp; (try with_reducible rfl)))
    simp only [aput, lset]
    refine takeR 2 (some 116) ?_ ?_ ?_; rotate_left; (focus (intros; go_simp; (try with_reducible rfl)))
    simp only [aput, lset]
    refine takeR 3 (some 117) ?_ ?_ ?_; rotate_left; (focus (intro w hSw; (try dsimp only at hSw); obtain ⟨a0, a1, a2, a3, a4, a5, a6, a7, a8⟩ := PlanW.cells9 hSw.1; obtain ⟨z0, z1, z2, z3, z4⟩ := cells5 hSw.2.1; have l0 := hSw.2.2.1; have l3 := hSw.2.2.2; go_simp; (try with_reducible rfl)))
    simp only [aput, lset]
    refine takeR 4 (some 118) ?_ ?_ ?_; rotate_left; (focus (intros; go_simp; (try with_reducible rfl)))
    simp only [aput, lset]
    refine takeR 5 (some 119) ?_ ?_ ?_; rotate_left; (focus (intros; go_simp; (try with_reducible rfl)))
    simp only [aput, lset]
    refine takeR 6 (some 120) ?_ ?_ ?_; rotate_left; (focus (intros; go_simp; (try with_reducible rfl)))
    simp only [aput, lset]
    refine takeR 7 (some 121) ?_ ?_ ?_; rotate_left; (focus (intros; go_simp; (try with_reducible rfl)))
    simp only [aput, lset]
    refine takeR 8 (some 122) ?_ ?_ ?_; rotate_left; (focus (intro w hSw; (try dsimp only at hSw); obtain ⟨a0, a1, a2, a3, a4, a5, a6, a7, a8⟩ := PlanW.cells9 hSw.1; obtain ⟨z0, z1, z2, z3, z4⟩ := cells5 hSw.2.1; have l0 := hSw.2.2.1; have l3 := hSw.2.2.2; go_simp; (try with_reducible rfl)))
    simp only [aput, lset]
    refine takeR 9 (some 123) ?_ ?_ ?_; rotate_left; (focus (intros; go_simp; (try with_reducible rfl)))
    simp only [aput, lset]
    refine takeR 10 (some 124) ?_ ?_ ?_; rotate_left; (focus (intro w hSw; (try dsimp only at hSw); obtain ⟨a0, a1, a2, a3, a4, a5, a6, a7, a8⟩ := PlanW.cells9 hSw.1; obtain ⟨z0, z1, z2, z3, z4⟩ := cells5 hSw.2.1; have l0 := hSw.2.2.1; have l3 := hSw.2.2.2; go_simp; (try with_reducible rfl)))
    simp only [aput, lset]
    refine takeR 11 (some 125) ?_ ?_ ?_; rotate_left; (focus (intros; go_simp; (try with_reducible rfl)))
    simp only [aput, lset]
    refine takeR 12 (some 126) ?_ ?_ ?_; rotate_left; (focus (intros; go_simp; (try with_reducible rfl)))
    simp only [aput, lset]
    refine takeR 13 (some 127) ?_ ?_ ?_; rotate_left; (focus (intro w hSw; (try dsimp only at hSw); obtain ⟨a0, a1, a2, a3, a4, a5, a6, a7, a8⟩ := PlanW.cells9 hSw.1; obtain ⟨z0, z1, z2, z3, z4⟩ := cells5 hSw.2.1; have l0 := hSw.2.2.1; have l3 := hSw.2.2.2; go_simp; (try with_reducible rfl)))
    simp only [aput, lset]
    refine takeR 14 (some 128) ?_ ?_ ?_; rotate_left; (focus (intros; go_simp; (try with_reducible rfl)))
    simp only [aput, lset]
    refine takeR 15 (some 129) ?_ ?_ ?_; rotate_left; (focus (intros; go_simp; (try with_reducible rfl)))
    simp only [aput, lset]
    refine takeR 16 (some 130) ?_ ?_ ?_; rotate_left; (focus (intros; go_simp; (try with_reducible rfl)))
    simp only [aput, lset]
    refine takeR 17 (some 131) ?_ ?_ ?_; rotate_left; (focus (intros; go_simp; (try with_reducible rfl)))
    simp only [aput, lset]
    refine takeR 18 (some 132) ?_ ?_ ?_; rotate_left; (focus (intros; go_simp; (try with_reducible rfl)))
    simp only [aput, lset]
    refine takeR 19 (some 133) ?_ ?_ ?_; rotate_left; (focus (intro w hSw; (try dsimp only at hSw); obtain ⟨a0, a1, a2, a3, a4, a5, a6, a7, a8⟩ := PlanW.cells9 hSw.1; obtain ⟨z0, z1, z2, z3, z4⟩ := cells5 hSw.2.1; have l0 := hSw.2.2.1; have l3 := hSw.2.2.2; go_simp; (try with_reducible rfl)))
    simp only [aput, lset]
    refine takeR 20 (some 134) ?_ ?_ ?_; rotate_left; (focus (intros; go_simp; (try with_reducible rfl)))
    simp only [aput, lset]
    refine takeR 21 (some 135) ?_ ?_ ?_; rotate_left; (focus (intro w hSw; (try dsimp only at hSw); obtain ⟨a0, a1, a2, a3, a4, a5, a6, a7, a8⟩ := PlanW.cells9 hSw.1; obtain ⟨z0, z1, z2, z3, z4⟩ := cells5 hSw.2.1; have l0 := hSw.2.2.1; have l3 := hSw.2.2.2; go_simp; (try with_reducible rfl)))
    simp only [aput, lset]
    refine takeR 22 (some 136) ?_ ?_ ?_; rotate_left; (focus (intros; go_simp; (try with_reducible rfl)))
    simp only [aput, lset]
    refine takeR 23 (some 137) ?_ ?_ ?_; rotate_left; (focus (intros; go_simp; (try with_reducible rfl)))
    simp only [aput, lset]
    refine takeR 24 (some 138) ?_ ?_ ?_; rotate_left; (focus (intro w hSw; (try dsimp only at hSw); obtain ⟨a0, a1, a2, a3, a4, a5, a6, a7, a8⟩ := PlanW.cells9 hSw.1; obtain ⟨z0, z1, z2, z3, z4⟩ := cells5 hSw.2.1; have l0 := hSw.2.2.1; have l3 := hSw.2.2.2; go_simp; (try with_reducible rfl)))
    simp only [aput, lset]
    refine takeR 25 (some 139) ?_ ?_ ?_; rotate_left; (focus (intros; go_simp; (try with_reducible rfl)))
    simp only [aput, lset]
    refine takeR 26 (some 140) ?_ ?_ ?_; rotate_left; (focus (intro w hSw; (try dsimp only at hSw); obtain ⟨a0, a1, a2, a3, a4, a5, a6, a7, a8⟩ := PlanW.cells9 hSw.1; obtain ⟨z0, z1, z2, z3, z4⟩ := cells5 hSw.2.1; have l0 := hSw.2.2.1; have l3 := hSw.2.2.2; go_simp; (try with_reducible rfl)))
    simp only [aput, lset]
    refine takeR 27 (some 141) ?_ ?_ ?_; rotate_left; (focus (intros; go_simp; (try with_reducible rfl)))
    simp only [aput, lset]
    refine takeR 28 (some 142) ?_ ?_ ?_; rotate_left; (focus (intros; go_simp; (try with_reducible rfl)))
    simp only [aput, lset]
    refine wpAnyH_done (by kernel_rfl) ?_ _
    exact NoPanic.normal ⟨rfl, rfl, rfl⟩
  case hm =>
    have HK := Lib.hid (BucketW.refTake_ok e.c c.delay w0.heap.size (TB.v ⟨tA, tn, tr, e.c, c.delay, s.m⟩) xs s.n s.l s.m t _ hr (HO.out.below S2.out.drew.b) o2 o3 hN (Nat.le_trans HW.out.size S2.out.drew.b.size) hp)
    have S2' := Lib.hid (show Stay w0 [(q, dbx ⟨2, (n : Int), dn, dp, ds⟩), (w.heap.size + 1, vbx v0 d0), (w.heap.size, cbx c D E (some ⟨b, off, none⟩) nd cd ne ce nl cl)] w2.drew from ⟨HW.out.trans (S2.out.drew.b.mono HW.out.size), S2.out.drew.h⟩)
    unfold TB.v at HK
    clear hr o3 hN hp
    go_wp2_with fail
    refine HK.out.mono ?_
    rintro r w3 ⟨v3, rfl, r3, t3⟩
    obtain ⟨A3, c3, rfl, -⟩ := r3.form
    rw [show (xs ++ [t]).length = s.n + 1 by rw [List.length_append, o2]; rfl] at r3 t3 ⊢
    have S3 := Lib.hid (stay_step S2'.out t3 (fun k hk => (HLT.out k hk).1) (fun x hx e => by
      have h9 := (HLT.out _ e).2
      simp only [List.mem_cons, List.not_mem_nil, or_false] at hx
      rcases hx with rfl | rfl | rfl <;> dsimp only at h9 <;> have := HQ2.out <;> omega))
    have HRP := Lib.hid (show (Value.slice A3 (s.n + 1) c3).ownBlock ≠ some (w.heap.size + 1) from fun h => by
      rcases t3.m with h1 | ⟨k, h1, h2⟩
      · have h3 : (TB.v ⟨tA, tn, tr, e.c, c.delay, s.m⟩).ownBlock = some (w.heap.size + 1) := h1.symm.trans h
        have := (HLT.out _ h3).2
        omega
      · rw [h] at h1
        cases h1
        have := lt_of_heap (S2.out.drew.at 1 rfl)
        omega)
    have T3 := Lib.hid ((Step.of (S2.out.b.drew) _).trans t3)
    have R3 := Lib.hid r3
    have V3 := Lib.hid (HS.out.step T3.out HA.out)
    clear r3 t3 S2 S2' HK HO HS z0 z1 z2 z3 z4 a0 a1 a2 a3 a4 a5 a6 a7 a8 l0 l1 l2 l3 u0 u1 u2 u3
    generalize hmm : BucketW.mk e.c s.n s.m t = mm at *
    have S4 := Lib.hid (S3.out.alloc (BucketW.rb e.c c.delay (.slice A3 (s.n + 1) c3) mm))
    have R4 := Lib.hid (R3.out.alloc (BucketW.rb e.c c.delay (.slice A3 (s.n + 1) c3) mm))
    have T4 := Lib.hid (T3.out.trans (Step.alloc _ _ (BucketW.rb e.c c.delay (.slice A3 (s.n + 1) c3) mm)))
    have V4 := Lib.hid (V3.out.below (al (Below.refl _ _) (BucketW.rb e.c c.delay (.slice A3 (s.n + 1) c3) mm)))
    clear S3 R3 T3 V3
    go_wp2
    generalize w3.alloc (BucketW.rb e.c c.delay (.slice A3 (s.n + 1) c3) mm) = w4 at *
    have HX := Lib.hid (show q ≤ w4.heap.size from Nat.le_of_lt (lt_of_heap (S4.out.at 1 rfl)))
    generalize w3.heap.size = x at *
    obtain ⟨tx, htx⟩ : ∃ tx : TB, tx = ⟨A3, s.n + 1, c3, e.c, c.delay, mm⟩ := ⟨_, rfl⟩
    have HTX := Lib.hid htx
    have HRL := Lib.hid (fun k hk => (R4.out.lt k hk).2)
    clear htx
    have HNS := Lib.hid (lt_of_get HT.out)
    go_loopw [20, 21] (fun mv iv wr => ∃ (i : Nat), i ≤ nl ∧ iv = .int .i64 i ∧ Hid (Below w4.heap.size w4 wr ∧ OG F14 wr w4.heap.size 76 mv ((es.set n tx).take i))) (fun _ iv _ => nl - (intOf iv).toNat)
    case atStart => exact ⟨0, Nat.zero_le _, rfl, Lib.hid ⟨Below.refl _ _, OG.nil _ _ _⟩⟩
    case round =>
      obtain ⟨i, hi, rfl, HQ⟩ := hrel
      obtain ⟨z0, z1, z2, z3, z4⟩ := cells5 ((S4.out.next HQ.out.1).at 1 rfl)
      obtain ⟨x0, x1, x2, x3⟩ := PlanW.cells4 ((S4.out.next HQ.out.1).at 0 rfl)
      by_cases hlt : i < nl
      · have hlt' : (i : Int) < (nl : Int) := by omega
        by_cases hin : i = n
        · subst hin
          have htx := HTX.out
          subst htx
          have hsn : (es.set i ⟨A3, s.n + 1, c3, e.c, c.delay, mm⟩)[i]? = some ⟨A3, s.n + 1, c3, e.c, c.delay, mm⟩ := by rw [List.getElem?_set_self HNS.out]
          go_wp2_with (at_builtin; refine wpList_append_one one14 _ rfl _ _ rfl w4.heap.size _ ((es.set i ⟨A3, s.n + 1, c3, e.c, c.delay, mm⟩).take i) rfl (HQ.out.2.alloc _) ⟨A3, s.n + 1, c3, e.c, c.delay, mm⟩ _ rfl (heap_at rfl _) ?c1 (by decide) ?c2 ?_)
          case c1 =>
            (try simp only [List.length_take, List.length_set])
            have := HZ.out
            have := HL.out
            omega
          case c2 => have := HQ.out.1.size; omega
          intro v7 w7 o7 s7
          have O7 := Lib.hid (show OG F14 w7 w4.heap.size 76 v7 ((es.set i ⟨A3, s.n + 1, c3, e.c, c.delay, mm⟩).take (i + 1)) by rw [List.take_add_one, hsn]; exact o7)
          have B7 := Lib.hid ((HQ.out.1.alloc HQ.out.1.size (.cells (F14.cs ⟨A3, s.n + 1, c3, e.c, c.delay, mm⟩).toArray 76)).trans (s7.belowG (HQ.out.2.alloc _) (Nat.le_trans HQ.out.1.size (by rw [World.size_alloc]; omega))))
          clear o7 s7
          go_wp2
          go_roundw
          case rel => exact ⟨i + 1, by omega, by go_num, Lib.hid ⟨B7.out, O7.out⟩⟩
          case measure => simp [intOf]; omega

        · have hne : ((i : Int) == (n : Int)) = false := by rw [beq_eq_false_iff_ne]; omega
          obtain ⟨ti, hti⟩ : ∃ ti, es[i]? = some ti := ⟨_, List.getElem?_eq_getElem (by rw [HL.out]; exact hlt)⟩
          have hsn : (es.set n tx)[i]? = some ti := by rw [List.getElem?_set_ne (fun e => hin e.symm)]; exact hti
          obtain ⟨vb', voff', hvA, u0, u1, u2, u3⟩ := sg4 (V4.out.below HQ.out.1) hti
          cases hvA
          go_wp2_with (at_builtin; refine wpList_append_one one14 _ rfl _ _ rfl w4.heap.size _ ((es.set n tx).take i) rfl (HQ.out.2.alloc _) ti _ rfl (heap_at rfl _) ?c1 (by decide) ?c2 ?_)
          case c1 =>
            (try simp only [List.length_take, List.length_set])
            have := HZ.out
            have := HL.out
            omega
          case c2 => have := HQ.out.1.size; omega
          intro v7 w7 o7 s7
          have O7 := Lib.hid (show OG F14 w7 w4.heap.size 76 v7 ((es.set n tx).take (i + 1)) by rw [List.take_add_one, hsn]; exact o7)
          have B7 := Lib.hid ((HQ.out.1.alloc HQ.out.1.size (.cells (F14.cs ti).toArray 76)).trans (s7.belowG (HQ.out.2.alloc _) (Nat.le_trans HQ.out.1.size (by rw [World.size_alloc]; omega))))
          clear o7 s7
          go_wp2
          go_roundw
          case rel => exact ⟨i + 1, by omega, by go_num, Lib.hid ⟨B7.out, O7.out⟩⟩
          case measure => simp [intOf]; omega

      · obtain rfl : nl = i := by omega
        have G5 := Lib.hid (show OG F14 wr w4.heap.size 76 u20 (es.set n tx) by
          have h9 := HQ.out.2
          rw [List.take_of_length_le (by rw [List.length_set, HL.out]; exact Nat.le_refl _)] at h9
          exact h9)
        have S5 := Lib.hid ((S4.out.next HQ.out.1).drop)
        have T5 := Lib.hid (T4.out.trans (Step.of HQ.out.1 _))
        have R5 := Lib.hid (R4.out.below HQ.out.1)
        have B5 := Lib.hid HQ.out.1.size
        clear HQ T4 R4 S4 V4 z0 z1 z2 z3 z4 x0 x1 x2 x3
        obtain ⟨a0, a1, a2, a3, a4, a5, a6, a7, a8⟩ := PlanW.cells9 (S5.out.at 2 rfl)
        obtain ⟨z0, z1, z2, z3, z4⟩ := cells5 (S5.out.at 0 rfl)
        go_wp2
        obtain ⟨hn, he, hv⟩ := rj_facts2 S5.out HPQ.out.1 (Nat.le_succ_of_le HW.out.size) ⟨0, e.b, 0⟩
        have m1 := ml_cell HC.out.hl hk S5.out.b
        have HB := Lib.hid (ml_cell HC.out.hl hk (he.drew))
        have HC2 := Lib.hid (at_drew (((kept8 wr (w.heap.size + 1) (.int .i64 0) (.int .i64 2) (.int .i64 (n : Int)) (.int .i64 dn) (.string dp) (.int .i64 ds) (.int .u32 (e.b : Int)) (.int .i64 0)).block w.heap.size (Nat.ne_of_lt (Nat.lt_succ_self _)) (lt_of_heap (S5.out.at 2 rfl))).trans (S5.out.at 2 rfl)))
        have HN := Lib.hid (And.intro HC2.out (And.intro (at_drew hn) HB.out))
        have HV := Lib.hid (at_drew hv)
        have KF := Lib.hid ((kept8 wr (w.heap.size + 1) (.int .i64 0) (.int .i64 2) (.int .i64 (n : Int)) (.int .i64 dn) (.string dp) (.int .i64 ds) (.int .u32 (e.b : Int)) (.int .i64 0)).drew)
        clear hn he hv HB HC2
        apply wp_one
        case h =>
          refine wp_region_noPanic ?_
          refine wp_region_held_drew (S := fun Z : World => Z.heap[w.heap.size]? = some (cbx c D E (some ⟨b, off, none⟩) nd cd ne ce nl cl : Obj) ∧ Z.heap[q]? = some (dbx ⟨2, (n : Int), dn, dp, ds⟩) ∧ Z.cell? ⟨b, off + n * 4 + 1, none⟩ = some (.int .u32 (e.b : Int))) (by kernel_rfl) (⟨S5.out.drew.at 2 rfl, S5.out.drew.at 0 rfl, m1⟩) (fun hHeld => ?_)
          refine takeR 0 (some 182) ?_ ?_ ?_; rotate_left; (focus (intros; go_simp; (try with_reducible rfl)))
          simp only [aput, lset]
          refine takeR 10 (some 12) ?_ ?_ ?_; rotate_left; (focus (intros; go_simp; (try with_reducible rfl)))
          simp only [aput, lset]
          refine takeR 1 (some 183) ?_ ?_ ?_; rotate_left; (focus (intro w hSw; (try dsimp only at hSw); obtain ⟨a0, a1, a2, a3, a4, a5, a6, a7, a8⟩ := PlanW.cells9 hSw.1; obtain ⟨z0, z1, z2, z3, z4⟩ := cells5 hSw.2.1; have m1 := hSw.2.2; go_simp; (try with_reducible rfl)))
          simp only [aput, lset]
          refine takeR 2 (some 184) ?_ ?_ ?_; rotate_left; (focus (intros; go_simp; (try with_reducible rfl)))
          simp only [aput, lset]
          refine takeR 3 (some 185) ?_ ?_ ?_; rotate_left; (focus (intro w hSw; (try dsimp only at hSw); obtain ⟨a0, a1, a2, a3, a4, a5, a6, a7, a8⟩ := PlanW.cells9 hSw.1; obtain ⟨z0, z1, z2, z3, z4⟩ := cells5 hSw.2.1; have m1 := hSw.2.2; go_simp; (try with_reducible rfl)))
          simp only [aput, lset]
          refine takeR 4 (some 186) ?_ ?_ ?_; rotate_left; (focus (intros; go_simp; (try with_reducible rfl)))
          simp only [aput, lset]
          refine takeR 5 (some 187) ?_ ?_ ?_; rotate_left; (focus (intro w hSw; (try dsimp only at hSw); obtain ⟨a0, a1, a2, a3, a4, a5, a6, a7, a8⟩ := PlanW.cells9 hSw.1; obtain ⟨z0, z1, z2, z3, z4⟩ := cells5 hSw.2.1; have m1 := hSw.2.2; go_simp; (try with_reducible rfl)))
          simp only [aput, lset]
          refine takeR 6 (some 188) ?_ ?_ ?_; rotate_left; (focus (intros; go_simp; (try with_reducible rfl)))
          simp only [aput, lset]
          refine takeR 7 (some 189) ?_ ?_ ?_; rotate_left; (focus (intros; go_simp; (try with_reducible rfl)))
          simp only [aput, lset]
          refine takeR 8 (some 190) ?_ ?_ ?_; rotate_left; (focus (intro w hSw; (try dsimp only at hSw); obtain ⟨a0, a1, a2, a3, a4, a5, a6, a7, a8⟩ := PlanW.cells9 hSw.1; obtain ⟨z0, z1, z2, z3, z4⟩ := cells5 hSw.2.1; have m1 := hSw.2.2; go_simp; (try with_reducible rfl)))
          simp only [aput, lset]
          refine takeR 9 (some 191) ?_ ?_ ?_; rotate_left; (focus (intros; go_simp; (try with_reducible rfl)))
          simp only [aput, lset]
          obtain ⟨y0, y1, y2, y3, y4, y5, y6, y7⟩ := cells8 (S5.out.at 1 rfl)
          obtain ⟨f0, f1, f2, f3, f4, f5, f6, f7⟩ := frozen8 (S5.out.at 1 rfl)
          refine wpAnyH_ready (rs := [11]) (by kernel_rfl) (by simp) ?_
          refine AllReadyH.cons (o := ⟨none, _, _, _, _, _⟩) rfl (fun K hK => ?_) AllReadyH.nil
          rw [if_pos (by kernel_rfl)]
          go_simp
          refine hK.out _ _ (by exact HN.out) (fun hHeld => ?_)
          clear hK K
          refine wpAnyH_done (by kernel_rfl) ?_ _
          exact NoPanic.normal ⟨rfl, rfl, rfl⟩
        case hm =>
          go_wp2
          have RE := rok_end (s := s) (xs := xs) (t := t) (te := ⟨tA, tn, tr, e.c, c.delay, s.m⟩) (vd := vv ⟨2, (n : Int), dn, dp, ds⟩ ⟨0, e.b, 0⟩) o2 HTK.out HTX.out G5.out R5.out T5.out KF.out (Nat.le_succ _) (Nat.lt_of_lt_of_le HQ2.out HX.out) HRL.out HRP.out rfl
          refine ret_v rfl rfl HV.out ?_
          obtain ⟨v', te', B, r1, r2⟩ := RE
          exact ⟨v', r1, te', B, r2⟩
end Go.Proofs.Ytecgpibidcifpaa.RelayW

/- The document's own Judge, whatever the frame. -/
namespace Go.Proofs.Ytecgpibidcifpaa.RelayW
open Go.RowKit Shell
open ConfW (Cfg R4 CM ML chk)
open BucketW (Bk pas tk b0 fit)
open FrameW (BL rdE rdV)
theorem lnk_ok {c : Cfg} {k : R4} (h : chk c = 0) (hk : k ∈ c.links) : ((0 ≤ k.a ∧ k.a ≤ c.hosts - 1) ∧ k.b ≠ 0 ∧ k.b < 2 ^ c.hosts.toNat ∧ CrewW.has k.b k.a = false) ∧ (64 ≤ k.d ∧ k.d ≤ 1518) ∧ 1 ≤ k.c ∧ k.c ≤ 1073741824 := by
  have h1 := (ConfW.chk_ok h).2.2.2.2.2.2
  unfold ConfW.linkOk at h1
  rw [Bool.and_eq_true, List.all_eq_true] at h1
  have h2 := h1.2 k hk
  unfold ConfW.lnk ConfW.wayE at h2
  rw [Bool.and_eq_true, ConfW.way_iff, ConfW.btw_iff] at h2
  exact ⟨⟨h2.1.1, h2.1.2.1, h2.1.2.2.1, h2.1.2.2.2.1⟩, h2.1.2.2.2.2, h2.2⟩
theorem lnk_len {c : Cfg} (h : chk c = 0) : c.links.length ≤ 16 := by
  have h1 := (ConfW.chk_ok h).2.2.2.2.2.2
  unfold ConfW.linkOk at h1
  rw [Bool.and_eq_true, decide_eq_true_eq] at h1
  exact h1.1
theorem lnk_rgt {c : Cfg} {k : R4} (h : chk c = 0) (hk : k ∈ c.links) : BucketW.rgt k.c c.delay = true := by
  have h1 := (lnk_ok h hk).2.2
  have h2 := (PlanW.chk_span h).2.1
  exact BucketW.rgt_iff.2 ⟨⟨by omega, by omega⟩, by omega, by omega⟩
/-- Buckets that may be, behind N frames. -/
structure Gd (c : Cfg) (N : Nat) (bs : List Bk) : Prop where
  len : bs.length = c.links.length
  few : ∀ (i : Nat) (s : Bk), bs[i]? = some s → s.n + s.r ≤ N
  ft : ∀ (i : Nat) (s : Bk) (k : R4), bs[i]? = some s → c.links[i]? = some k → fit k.c c.delay s
theorem tk_more (g j t : Int) (s : Bk) : (tk g j s t).n + (tk g j s t).r = s.n + s.r + 1 := by
  cases hp : pas j s t with
  | true => rw [BucketW.tk_yes hp]; dsimp only; omega
  | false => rw [BucketW.tk_no hp]; dsimp only; omega
theorem gd_zero (c : Cfg) : Gd c 0 (bs0 c) := by
  have h : ∀ (i : Nat) (s : Bk), (bs0 c)[i]? = some s → s = b0 := fun i s hs => by
    unfold bs0 at hs
    rw [List.getElem?_map, Option.map_eq_some_iff] at hs
    obtain ⟨_, _, h⟩ := hs
    exact h.symm
  exact ⟨bs0_len c, fun i s hs => by rw [h i s hs]; decide, fun i s k hs _ => by rw [h i s hs]; exact BucketW.fit0 _ _⟩
theorem Gd.up {c : Cfg} {N M : Nat} {bs : List Bk} (h : Gd c N bs) (hn : N ≤ M) : Gd c M bs := ⟨h.len, fun i s hs => Nat.le_trans (h.few i s hs) hn, h.ft⟩
/-- The link that is asked, its number, its bucket. -/
theorem asked {c : Cfg} {fr e : Int} {d : Dt} {k : R4} (h : askv c fr e d = some k) : e = 0 ∧ d.c ≠ 1 ∧ d.c ≠ 3 ∧ lnkAt c d.l = some k ∧ k.a = fr ∧ d.s ≤ k.d := by
  unfold askv at h
  by_cases h1 : e = 0
  · rw [if_pos h1] at h
    by_cases h2 : d.c = 1
    · rw [if_pos h2] at h; cases h
    · rw [if_neg h2] at h
      by_cases h3 : d.c = 3
      · rw [if_pos h3] at h; cases h
      · rw [if_neg h3] at h
        unfold asks at h
        cases h4 : lnkAt c d.l with
        | none => rw [h4] at h; cases h
        | some k' =>
          rw [h4] at h
          dsimp only at h
          by_cases h5 : k'.a = fr ∧ d.s ≤ k'.d
          · rw [if_pos h5] at h
            cases h
            exact ⟨h1, h2, h3, rfl, h5.1, h5.2⟩
          · rw [if_neg h5] at h; cases h
  · rw [if_neg h1] at h; cases h
theorem bkt_at {bs : List Bk} {d : Dt} {s : Bk} (h : bs[d.l.toNat]? = some s) : bkt bs d = s := by unfold bkt; rw [h]; rfl
theorem Gd.next {c : Cfg} {N : Nat} {bs : List Bk} (hz : chk c = 0) (h : Gd c N bs) (t fr e : Int) (d : Dt) : Gd c (N + 1) (jbv c bs t fr e d) := by
  unfold jbv
  cases ha : askv c fr e d with
  | none => exact h.up (Nat.le_succ _)
  | some k =>
    obtain ⟨-, -, -, hk, -, -⟩ := asked ha
    have hi : d.l.toNat < bs.length := by rw [h.len]; exact lt_of_get hk
    obtain ⟨s, hs⟩ : ∃ s, bs[d.l.toNat]? = some s := ⟨_, List.getElem?_eq_getElem hi⟩
    rw [bkt_at hs]
    refine ⟨by rw [List.length_set]; exact h.len, fun i x hx => ?_, fun i x k' hx hk' => ?_⟩
    · rw [List.getElem?_set] at hx
      split at hx
      · (try rw [if_pos hi] at hx)
        simp only [Option.some.injEq] at hx
        subst hx
        rw [tk_more]
        have := h.few _ s hs
        omega
      · have := h.few i x hx
        omega
    · rw [List.getElem?_set] at hx
      split at hx
      · rename_i hii
        (try rw [if_pos hi] at hx)
        simp only [Option.some.injEq] at hx
        subst hx
        subst hii
        have hkk : k' = k := by rw [show c.links[d.l.toNat]? = some k from hk] at hk'; exact (Option.some.inj hk').symm
        subst hkk
        exact BucketW.tk_fit (PlanW.chk_span hz).2.1.1 (h.ft _ s k' hs hk)
      · exact h.ft i x k' hx hk'
/-- A bucket that refused: the document's own is as it was. -/
theorem RB.same {base : Nat} {X : Nat → Prop} {c : Cfg} {bs : List Bk} {es : List TB} {vl : Value} {w : World} (h : RB base X c bs es vl w) {n : Nat} {s : Bk} (hs : bs[n]? = some s) (r : Nat) : RB base X c (bs.set n ⟨s.n, s.l, s.m, r⟩) es vl w := by
  refine { h with len := by rw [List.length_set]; exact h.len, std := fun i k x e h1 h2 h3 => ?_ }
  rw [List.getElem?_set] at h2
  split at h2
  · rename_i hi
    split at h2
    · simp only [Option.some.injEq] at h2
      subst h2; subst hi
      have g := h.std n k s e h1 hs h3
      exact ⟨g.g, g.j, g.m, g.row⟩
    · cases h2
  · exact h.std i k x e h1 h2 h3
/-- A bucket that let a frame pass: its times have grown, the list is new. -/
theorem RB.passed {base : Nat} {X : Nat → Prop} {c : Cfg} {bs : List Bk} {es : List TB} {vl v' : Value} {w w' : World} (h : RB base X c bs es vl w) (hb : base ≤ w.heap.size) {n B : Nat} {k : R4} {te te' : TB} {s' : Bk} (hk : c.links[n]? = some k) (ht : es[n]? = some te)
    (G : OG F14 w' B 76 v' (es.set n te')) (S : Std base c k s' te' w') (T : Step w te.v w' te'.v) (hB : w.heap.size ≤ B) (hl : ∀ b, te'.v.ownBlock = some b → b < B) :
    RB base (fun b => v'.ownBlock = some b ∨ ∃ (i : Nat) (e : TB), (es.set n te')[i]? = some e ∧ e.v.ownBlock = some b) c (bs.set n s') (es.set n te') v' w' ∧ Turn X (fun b => v'.ownBlock = some b ∨ ∃ (i : Nat) (e : TB), (es.set n te')[i]? = some e ∧ e.v.ownBlock = some b) w w' := by
  have hn : n < es.length := lt_of_get ht
  have get : ∀ (i : Nat) (e : TB), (es.set n te')[i]? = some e → (i = n ∧ e = te') ∨ (i ≠ n ∧ es[i]? = some e) := by
    intro i e he
    rw [List.getElem?_set] at he
    split at he
    · rename_i hi
      (try rw [if_pos hn] at he)
      exact Or.inl ⟨hi.symm, (Option.some.inj he).symm⟩
    · rename_i hi
      exact Or.inr ⟨fun e => hi e.symm, he⟩
  -- the new bucket's block: the elder's, or a new one
  have own : ∀ b, te'.v.ownBlock = some b → te.v.ownBlock = some b ∨ w.heap.size ≤ b := by
    intro b hb
    rcases T.m with h1 | ⟨j, h1, h2⟩
    · exact Or.inl (h1.symm.trans hb)
    · rw [hb] at h1; cases h1; exact Or.inr h2
  have old : ∀ (i : Nat) (e : TB) (b : Nat), es[i]? = some e → e.v.ownBlock = some b → base ≤ b ∧ b < w.heap.size := fun i e b h1 h2 => h.bx b (h.ft i e b h1 h2)
  have keep : ∀ (i : Nat) (e : TB) (b : Nat), i ≠ n → es[i]? = some e → e.v.ownBlock = some b → w'.heap[b]? = w.heap[b]? := fun i e b hi h1 h2 =>
    T.g.block b (old i e b h1 h2).2 (fun hh => h.ap i n e te b h1 ht hi h2 hh.symm)
  obtain ⟨xs, hor, -⟩ := S.row
  refine ⟨⟨G.base (Nat.le_trans hb hB), by rw [List.length_set, List.length_set]; exact h.len, fun i k' x e h1 h2 h3 => ?_, fun i j e f b h1 h2 hij h3 h4 => ?_, fun i e b h1 h2 h3 => ?_, fun i e b h1 h2 => Or.inr ⟨i, e, h1, h2⟩, fun b hb => Or.inl hb, fun b hb => ?_⟩, ⟨T.g.os, T.g.tape, T.g.output, T.g.size, fun j hj hx => T.g.block j hj (fun hh => hx (h.ft n te j ht hh.symm)), fun j hj => ?_⟩⟩
  · rcases get i e h3 with ⟨rfl, rfl⟩ | ⟨hi, he⟩
    · rw [List.getElem?_set_self (by rw [← h.len]; exact hn)] at h2
      cases h2
      rw [hk] at h1
      cases h1
      exact S
    · rw [List.getElem?_set_ne (fun e => hi e.symm)] at h2
      exact (h.std i k' x e h1 h2 he).block (fun b hb => keep i e b hi he hb)
  · rcases get i e h1 with ⟨rfl, rfl⟩ | ⟨hi, he⟩
    · rcases get j f h2 with ⟨rfl, rfl⟩ | ⟨hj, hf⟩
      · exact hij rfl
      · rcases own b h3 with g | g
        · exact h.ap _ j te f b ht hf (fun e => hj e.symm) g h4
        · have := (old j f b hf h4).2; omega
    · rcases get j f h2 with ⟨rfl, rfl⟩ | ⟨hj, hf⟩
      · rcases own b h4 with g | g
        · exact h.ap i _ e te b he ht hi h3 g
        · have := (old i e b he h3).2; omega
      · exact h.ap i j e f b he hf hij h3 h4
  · have h5 := (G.lt b h3).1
    rcases get i e h1 with ⟨rfl, rfl⟩ | ⟨hi, he⟩
    · have := hl b h2; omega
    · have := (old i e b he h2).2; omega
  · rcases hb with hb | ⟨i, e, h1, h2⟩
    · have := G.lt b hb; omega
    · rcases get i e h1 with ⟨rfl, rfl⟩ | ⟨hi, he⟩
      · exact hor.lt b h2
      · have h5 := old i e b he h2
        have := T.g.size
        omega
  · rcases hj with hj | ⟨i, e, h1, h2⟩
    · have := (G.lt j hj).1; exact Or.inr (by omega)
    · rcases get i e h1 with ⟨rfl, rfl⟩ | ⟨hi, he⟩
      · rcases own j h2 with g | g
        · exact Or.inl (h.ft _ te j ht g)
        · exact Or.inr g
      · exact Or.inl (h.ft i e j he h2)
theorem refJudge_any (c : Cfg) (D E L : Option Addr) (nd cd ne ce nl cl : Nat) (t lo fr : Int) (A : Option Addr) (l : List Int) (cp N : Nat) (w0 w : World) (X : Nat → Prop) (bs : List Bk) (es : List TB) (vl : Value) (h0 : CM w0 c D E L nd cd ne ce nl cl) (hz : chk c = 0) (hB : Below w0.heap.size w0 w) (R : RB w0.heap.size X c bs es vl w) (g : Gd c N bs) (hN : N ≤ 17592186044000) (hb : BL w A l) (hl : l.length ≤ 9223372036854775807) (hc : l.length ≤ cp) :
    Calls Try.prog 13 #[.agg #[.int .i64 c.hosts, .int .i64 c.cycle, .int .i64 c.delay, .int .i64 c.window, .int .i64 c.precision, .slice D nd cd, .slice E ne ce, .slice L nl cl, .int .i64 c.queue], vl, .int .i64 t, .int .i64 lo, .int .i64 fr, .slice A l.length cp] w fun r w' => ∃ vl' X' es', r = .returned (.tuple #[vl', vv (dt l) (jd c bs t lo fr l)]) ∧ RB w0.heap.size X' c (jb c bs t fr l) es' vl' w' ∧ Turn X X' w w' := by
  have h := h0.below hB
  have keep : ∀ (v : Vd), jd c bs t lo fr l = v → jb c bs t fr l = bs → (Calls Try.prog 13 #[.agg #[.int .i64 c.hosts, .int .i64 c.cycle, .int .i64 c.delay, .int .i64 c.window, .int .i64 c.precision, .slice D nd cd, .slice E ne ce, .slice L nl cl, .int .i64 c.queue], vl, .int .i64 t, .int .i64 lo, .int .i64 fr, .slice A l.length cp] w fun r w' => r = .returned (.tuple #[vl, vv (dt l) v]) ∧ Below w.heap.size w w') →
      Calls Try.prog 13 #[.agg #[.int .i64 c.hosts, .int .i64 c.cycle, .int .i64 c.delay, .int .i64 c.window, .int .i64 c.precision, .slice D nd cd, .slice E ne ce, .slice L nl cl, .int .i64 c.queue], vl, .int .i64 t, .int .i64 lo, .int .i64 fr, .slice A l.length cp] w fun r w' => ∃ vl' X' es', r = .returned (.tuple #[vl', vv (dt l) (jd c bs t lo fr l)]) ∧ RB w0.heap.size X' c (jb c bs t fr l) es' vl' w' ∧ Turn X X' w w' := by
    intro v e1 e2 hh
    rw [e1, e2]
    exact hh.mono fun r w' ⟨h1, h2⟩ => ⟨vl, X, es, h1, R.below h2, Turn.of h2⟩
  by_cases he : rdE l = 0
  case neg =>
    have hd : dt l = d0 := by unfold dt; rw [if_neg he]; rfl
    refine keep ⟨1, 0, 0⟩ (by unfold jd jv; rw [if_neg he]) (by unfold jb jbv askv; rw [if_neg he]) ?_
    rw [hd]
    exact rj_bad c D E L nd cd ne ce nl cl t lo fr vl A l cp w hb hl hc he
  have ok := dt_ok he
  obtain ⟨d, hd⟩ : ∃ d, dt l = d := ⟨_, rfl⟩
  have ejd : jd c bs t lo fr l = jv c bs t lo fr 0 d := by unfold jd; rw [he, hd]
  have ejb : jb c bs t fr l = jbv c bs t fr 0 d := by unfold jb; rw [he, hd]
  rw [ejd, ejb, hd] at keep ⊢
  rw [hd] at ok
  by_cases c1 : d.c = 1
  · have a0 : jbv c bs t fr 0 d = bs := by unfold jbv askv; rw [if_pos rfl, if_pos c1]
    have a1 : jv c bs t lo fr 0 d = vT c lo fr d := by unfold jv; rw [if_pos rfl, if_pos c1]
    cases h2 : entAt c d.l with
    | none => exact keep ⟨1, 0, 0⟩ (by rw [a1]; unfold vT; rw [h2]) a0 (rj_t0 c D E L nd cd ne ce nl cl t lo fr vl A l cp w h hb hl hc d hd he c1 h2)
    | some e =>
      by_cases h3 : e.a = fr
      · by_cases h4 : e.d = d.s
        · obtain ⟨x, b⟩ : ∃ x b, PlanW.relayV c d.l lo = (x, b) := ⟨_, _, rfl⟩
          obtain ⟨b, h5⟩ := b
          cases b with
          | true => exact keep ⟨0, e.b, x⟩ (by rw [a1]; unfold vT; rw [h2]; dsimp only; rw [if_pos ⟨h3, h4⟩, h5]; rfl) a0 (rj_t4 c D E L nd cd ne ce nl cl t lo fr vl A l cp w h hb hl hc d hd he e x c1 h2 h3 h4 h5)
          | false => exact keep ⟨2, 0, 0⟩ (by rw [a1]; unfold vT; rw [h2]; dsimp only; rw [if_pos ⟨h3, h4⟩, h5]; rfl) a0 (rj_t3 c D E L nd cd ne ce nl cl t lo fr vl A l cp w h hb hl hc d hd he e x c1 h2 h3 h4 h5)
        · exact keep ⟨1, 0, 0⟩ (by rw [a1]; unfold vT; rw [h2]; dsimp only; rw [if_neg (fun hh => h4 hh.2)]) a0 (rj_t2 c D E L nd cd ne ce nl cl t lo fr vl A l cp w h hb hl hc d hd he e c1 h2 h3 h4)
      · exact keep ⟨1, 0, 0⟩ (by rw [a1]; unfold vT; rw [h2]; dsimp only; rw [if_neg (fun hh => h3 hh.1)]) a0 (rj_t1 c D E L nd cd ne ce nl cl t lo fr vl A l cp w h hb hl hc d hd he e c1 h2 h3)
  by_cases c3 : d.c = 3
  · have a0 : jbv c bs t fr 0 d = bs := by unfold jbv askv; rw [if_pos rfl, if_neg c1, if_pos c3]
    have a1 : jv c bs t lo fr 0 d = vE c fr d := by unfold jv; rw [if_pos rfl, if_neg c1, if_pos c3]
    by_cases h2 : d.l < c.hosts
    · by_cases h3 : d.l = fr
      · exact keep ⟨1, 0, 0⟩ (by rw [a1]; unfold vE; rw [if_neg (fun hh => hh.2 h3)]) a0 (rj_e1 c D E L nd cd ne ce nl cl t lo fr vl A l cp w h hb hl hc d hd he c3 h2 h3)
      · exact keep ⟨0, CrewW.of [d.l], 0⟩ (by rw [a1]; unfold vE; rw [if_pos ⟨h2, h3⟩]) a0 (rj_e2 c D E L nd cd ne ce nl cl t lo fr vl A l cp w h hb hl hc d hd he c3 h2 h3)
    · exact keep ⟨1, 0, 0⟩ (by rw [a1]; unfold vE; rw [if_neg (fun hh => h2 hh.1)]) a0 (rj_e0 c D E L nd cd ne ce nl cl t lo fr vl A l cp w h hb hl hc d hd he c3 (Int.not_lt.1 h2))
  have c2 : d.c = 2 := by have := ok.c; omega
  have a1 : jv c bs t lo fr 0 d = vR c bs t fr d := by unfold jv; rw [if_pos rfl, if_neg c1, if_neg c3]
  cases h2 : lnkAt c d.l with
  | none =>
    have ha : asks c fr d = none := by unfold asks; rw [h2]
    exact keep ⟨1, 0, 0⟩ (by rw [a1]; unfold vR; rw [ha]) (by unfold jbv askv; rw [if_pos rfl, if_neg c1, if_neg c3, ha]) (rj_r0 c D E L nd cd ne ce nl cl t lo fr vl A l cp w h hb hl hc d hd he c2 h2)
  | some e =>
    by_cases h3 : e.a = fr
    case neg =>
      have ha : asks c fr d = none := by unfold asks; rw [h2]; dsimp only; rw [if_neg (fun hh => h3 hh.1)]
      exact keep ⟨1, 0, 0⟩ (by rw [a1]; unfold vR; rw [ha]) (by unfold jbv askv; rw [if_pos rfl, if_neg c1, if_neg c3, ha]) (rj_r1 c D E L nd cd ne ce nl cl t lo fr vl A l cp w h hb hl hc d hd he e c2 h2 h3)
    by_cases h4 : d.s ≤ e.d
    case neg =>
      have ha : asks c fr d = none := by unfold asks; rw [h2]; dsimp only; rw [if_neg (fun hh => h4 hh.2)]
      exact keep ⟨1, 0, 0⟩ (by rw [a1]; unfold vR; rw [ha]) (by unfold jbv askv; rw [if_pos rfl, if_neg c1, if_neg c3, ha]) (rj_r2 c D E L nd cd ne ce nl cl t lo fr vl A l cp w h hb hl hc d hd he e c2 h2 h3 (Int.not_le.1 h4))
    have ha : asks c fr d = some e := by unfold asks; rw [h2]; dsimp only; rw [if_pos ⟨h3, h4⟩]
    have haa : askv c fr 0 d = some e := by unfold askv; rw [if_pos rfl, if_neg c1, if_neg c3, ha]
    have hk : c.links[d.l.toNat]? = some e := h2
    have hin : d.l.toNat < bs.length := by rw [g.len]; exact lt_of_get hk
    obtain ⟨s, hs⟩ : ∃ s, bs[d.l.toNat]? = some s := ⟨_, List.getElem?_eq_getElem hin⟩
    obtain ⟨te, ht⟩ : ∃ te, es[d.l.toNat]? = some te := ⟨_, List.getElem?_eq_getElem (by rw [R.len]; exact hin)⟩
    have hrg := lnk_rgt hz (List.mem_of_getElem? hk)
    have hft := g.ft _ s e hs hk
    have hfew := g.few _ s hs
    have hst := R.std _ e s te hk hs ht
    have hL : es.length = nl := by rw [R.len, g.len]; exact h.nL.symm
    have hnl := lnk_len hz
    obtain ⟨Av, cv, hvl, hsg, -, -, hav⟩ := R.og.form
    rw [hL] at hvl
    have eb : bkt bs d = s := bkt_at hs
    have e2 : jbv c bs t fr 0 d = bs.set d.l.toNat (tk e.c c.delay s t) := by unfold jbv; rw [haa]; dsimp only; rw [eb]
    cases hp : pas c.delay s t with
    | false =>
      have e1 : jv c bs t lo fr 0 d = ⟨4, 0, 0⟩ := by rw [a1]; unfold vR; rw [ha]; dsimp only; rw [eb, hp]; rfl
      rw [e1, e2, BucketW.tk_no hp]
      rw [hvl]
      refine (rj_r3 c D E L nd cd ne ce nl cl t lo fr Av es cv A l cp w h hb hl hc d hd he w0.heap.size e s te c2 h2 h3 h4 hsg ht hst hrg hft (by omega) hp).mono ?_
      rintro r w' ⟨h1, h2⟩
      rw [← hvl] at h1
      exact ⟨vl, X, es, h1, (R.same hs _).below h2, Turn.of h2⟩
    | true =>
      have e1 : jv c bs t lo fr 0 d = ⟨0, e.b, 0⟩ := by rw [a1]; unfold vR; rw [ha]; dsimp only; rw [eb, hp]; rfl
      rw [e1, e2]
      have hA : ∀ a, Av = some a → some a.block ≠ te.v.ownBlock := by
        intro a ha2 hh
        have hvo : vl.ownBlock = some a.block := by
          obtain ⟨q1, q2, -, -⟩ := hav a ha2
          rw [hvl, ha2]
          obtain ⟨ab, ao, asp⟩ := a
          dsimp only at q1 q2
          subst q1; subst q2
          rfl
        exact R.rw _ te a.block ht hh.symm hvo
      rw [hvl]
      refine (rj_ok c D E L nd cd ne ce nl cl t lo fr Av es cv A l cp w h hb hl hc d hd he w0 h0 hB e s te c2 h2 h3 h4 hsg hL (by rw [h.nL]; omega) hA (fun a ha2 => (hav a ha2).2.2.2) ht hst hrg (by omega) hp).mono ?_
      rintro r w' ⟨v', te', B, h1, G, S, T, hB', hl'⟩
      obtain ⟨q1, q2⟩ := R.passed hB.size hk ht G S T hB' hl'
      exact ⟨v', _, _, h1, q1, q2⟩
end Go.Proofs.Ytecgpibidcifpaa.RelayW

/- What is asked of a relay, whatever it is made of: the laws are walked by this alone. -/
namespace Go.Proofs.Ytecgpibidcifpaa.RelayW
open Go.RowKit Shell
open ConfW (Cfg R4 CM ML chk)
open BucketW (Bk pas tk b0 fit)
open FrameW (BL rdE rdV)
/-- A relay in memory: lo (its blocks lie behind it), X (its blocks), g (where it is), its configuration, its buckets, how often each reason was told, how many frames it has judged. -/
abbrev RIT := Nat → (Nat → Prop) → Nat → Cfg → List Bk → List Int → Nat → World → Prop
structure Spec (RI : RIT) : Prop where
  frame : ∀ {lo : Nat} {X : Nat → Prop} {g : Nat} {c : Cfg} {bs : List Bk} {ds : List Int} {N : Nat} {W W1 : World}, RI lo X g c bs ds N W → W.heap.size ≤ W1.heap.size → (∀ j, X j → W1.heap[j]? = W.heap[j]?) → RI lo X g c bs ds N W1
  foot : ∀ {lo : Nat} {X : Nat → Prop} {g : Nat} {c : Cfg} {bs : List Bk} {ds : List Int} {N : Nat} {W : World}, RI lo X g c bs ds N W → ∀ j, X j → lo ≤ j ∧ j < W.heap.size
  lower : ∀ {lo lo' : Nat} {X : Nat → Prop} {g : Nat} {c : Cfg} {bs : List Bk} {ds : List Int} {N : Nat} {W : World}, RI lo X g c bs ds N W → lo' ≤ lo → RI lo' X g c bs ds N W
  bad : ∀ (c : Cfg) (D E L : Option Addr) (nd cd ne ce nl cl : Nat) (W : World), CM W c D E L nd cd ne ce nl cl → chk c ≠ 0 → Calls Try.prog 9 #[.agg #[.int .i64 c.hosts, .int .i64 c.cycle, .int .i64 c.delay, .int .i64 c.window, .int .i64 c.precision, .slice D nd cd, .slice E ne ce, .slice L nl cl, .int .i64 c.queue]] W fun r W' => r = .returned (.tuple #[.pointer none, .int .i64 1]) ∧ Below W.heap.size W W'
  new : ∀ (c : Cfg) (D E L : Option Addr) (nd cd ne ce nl cl : Nat) (W : World), CM W c D E L nd cd ne ce nl cl → chk c = 0 → Calls Try.prog 9 #[.agg #[.int .i64 c.hosts, .int .i64 c.cycle, .int .i64 c.delay, .int .i64 c.window, .int .i64 c.precision, .slice D nd cd, .slice E ne ce, .slice L nl cl, .int .i64 c.queue]] W fun r W' => ∃ g X, r = .returned (.tuple #[.pointer (some ⟨g, 0, none⟩), .int .i64 0]) ∧ RI W.heap.size X g c (bs0 c) ds0 0 W' ∧ Below W.heap.size W W'
  judge : ∀ {lo : Nat} {X : Nat → Prop} {g : Nat} {c : Cfg} {bs : List Bk} {ds : List Int} {N : Nat} {W : World} (t lc fr : Int) (A : Option Addr) (l : List Int) (cp : Nat), RI lo X g c bs ds N W → N ≤ 17592186044000 → BL W A l → l.length ≤ 9223372036854775807 → l.length ≤ cp →
    Calls Try.prog 12 #[.pointer (some ⟨g, 0, none⟩), .int .i64 t, .int .i64 lc, .int .i64 fr, .slice A l.length cp] W fun r W' => ∃ X', r = .returned (vv (dt l) (jd c bs t lc fr l)) ∧ RI lo X' g c (jb c bs t fr l) (tally ds (jd c bs t lc fr l).w) (N + 1) W' ∧ Turn X X' W W'
  dropped : ∀ {lo : Nat} {X : Nat → Prop} {g : Nat} {c : Cfg} {bs : List Bk} {ds : List Int} {N : Nat} {W : World} (y : Int), RI lo X g c bs ds N W → Calls Try.prog 14 #[.pointer (some ⟨g, 0, none⟩), .int .i64 y] W fun r W' => r = .returned (.int .i64 (drp ds y)) ∧ ∃ X', RI lo X' g c bs ds N W' ∧ Turn X X' W W'
  judge_nil : ∀ (t lc fr : Int) (A : Option Addr) (n cp : Nat) (W : World), Calls Try.prog 12 #[.pointer none, .int .i64 t, .int .i64 lc, .int .i64 fr, .slice A n cp] W fun r W' => r = .returned (vv d0 ⟨1, 0, 0⟩) ∧ Below W.heap.size W W'
  dropped_nil : ∀ (y : Int) (W : World), Calls Try.prog 14 #[.pointer none, .int .i64 y] W fun r W' => r = .returned (.int .i64 0) ∧ Below W.heap.size W W'
/-- A frame that comes, and when, and from whom. -/
structure Op where
  t : Int
  lc : Int
  fr : Int
  A : Option Addr
  l : List Int
  cp : Nat
/-- They came in. -/
def OPS (w : World) (A : Option Addr) (ops : List Op) : Prop :=
  ∀ (k : Nat) (o : Op), ops[k]? = some o → ∃ b off, A = some ⟨b, off, none⟩ ∧ w.cell? ⟨b, off + k * 4, none⟩ = some (.int .i64 o.t) ∧ w.cell? ⟨b, off + k * 4 + 1, none⟩ = some (.int .i64 o.lc) ∧ w.cell? ⟨b, off + k * 4 + 2, none⟩ = some (.int .i64 o.fr) ∧ w.cell? ⟨b, off + k * 4 + 3, none⟩ = some (.slice o.A o.l.length o.cp) ∧ BL w o.A o.l ∧ o.l.length ≤ 9223372036854775807 ∧ o.l.length ≤ o.cp
theorem OPS.below {w w1 : World} {A : Option Addr} {ops : List Op} (h : OPS w A ops) (b : Below w.heap.size w w1) : OPS w1 A ops := by
  intro k o hk
  obtain ⟨g, off, hA, h0, h1, h2, h3, h4, h5⟩ := h k o hk
  exact ⟨g, off, hA, cell_keep h0 b, cell_keep h1 b, cell_keep h2 b, cell_keep h3 b, h4.below b, h5⟩
abbrev obx (o : Op) : Obj := .cells #[.int .i64 o.t, .int .i64 o.lc, .int .i64 o.fr, .slice o.A o.l.length o.cp] 39 (0, 0)
/-- The relay's own verdict in a box. -/
abbrev vby (v : Vd) (d : Dt) : Obj := .cells #[.int .i64 v.w, .int .i64 d.c, .int .i64 d.l, .int .i64 d.n, .string d.p, .int .i64 d.s, .int .u32 (v.u : Int), .int .i64 v.a] 44 (0, 0)
abbrev nrow (l : List Int) : Obj := .cells (nums .i64 l).toArray 3 (0, 0)
section
variable {RI : RIT}
/-- A relay from w0 on, the document's own buckets, and boxes of the call's own. -/
structure RQ (RI : RIT) (w0 : World) (X : Nat → Prop) (g : Nat) (c : Cfg) (bs : List Bk) (ds : List Int) (N : Nat) (XR : Nat → Prop) (br : List Bk) (es : List TB) (vl : Value) (B : List (Nat × Obj)) (W : World) : Prop where
  p : RI w0.heap.size X g c bs ds N W
  r : RB w0.heap.size XR c br es vl W
  b : Below w0.heap.size w0 W
  bx : ∀ b ∈ B, W.heap[b.1]? = some b.2 ∧ (¬ X b.1 ∧ ¬ XR b.1) ∧ w0.heap.size ≤ b.1
  dj : ∀ j, X j → ¬ XR j
variable {w0 W W1 : World} {X X' XR XR' : Nat → Prop} {g N N' : Nat} {c : Cfg} {bs bs' br br' : List Bk} {ds ds' : List Int} {es es' : List TB} {vl vl' : Value} {B B' : List (Nat × Obj)} {j : Nat} {ob ob' : Obj}
theorem RQ.next (S : Spec RI) (h : RQ RI w0 X g c bs ds N XR br es vl B W) (b : Below W.heap.size W W1) : RQ RI w0 X g c bs ds N XR br es vl B W1 :=
  ⟨S.frame h.p b.size (fun j hj => b.block j (S.foot h.p j hj).2), h.r.below b, h.b.trans (b.mono h.b.size), fun y hy => ⟨row_below b (h.bx y hy).1, (h.bx y hy).2⟩, h.dj⟩
theorem RQ.turnP (S : Spec RI) (h : RQ RI w0 X g c bs ds N XR br es vl B W) (q : RI w0.heap.size X' g c bs' ds' N' W1) (u : Turn X X' W W1) : RQ RI w0 X' g c bs' ds' N' XR br es vl B W1 :=
  ⟨q, h.r.frame u.size (fun j hj => u.block j (h.r.bx j hj).2 (fun hx => h.dj j hx hj)), h.b.trans (u.below (fun j hj => (S.foot h.p j hj).1) h.b.size), fun y hy => ⟨(u.bx (h.bx y hy).1 (h.bx y hy).2.1.1).1, ⟨(u.bx (h.bx y hy).1 (h.bx y hy).2.1.1).2, (h.bx y hy).2.1.2⟩, (h.bx y hy).2.2⟩, fun j hj hr => by
    rcases u.foot j hj with h1 | h1
    · exact h.dj j h1 hr
    · have := (h.r.bx j hr).2; omega⟩
theorem RQ.turnR (S : Spec RI) (h : RQ RI w0 X g c bs ds N XR br es vl B W) (q : RB w0.heap.size XR' c br' es' vl' W1) (u : Turn XR XR' W W1) : RQ RI w0 X g c bs ds N XR' br' es' vl' B W1 :=
  ⟨S.frame h.p u.size (fun j hj => u.block j (S.foot h.p j hj).2 (fun hr => h.dj j hj hr)), q, h.b.trans (u.below (fun j hj => (h.r.bx j hj).1) h.b.size), fun y hy => ⟨(u.bx (h.bx y hy).1 (h.bx y hy).2.1.2).1, ⟨(h.bx y hy).2.1.1, (u.bx (h.bx y hy).1 (h.bx y hy).2.1.2).2⟩, (h.bx y hy).2.2⟩, fun j hj hr => by
    rcases u.foot j hr with h1 | h1
    · exact h.dj j hj h1
    · have := (S.foot h.p j hj).2; omega⟩
theorem RQ.box (S : Spec RI) (h : RQ RI w0 X g c bs ds N XR br es vl B W) (ob : Obj) : RQ RI w0 X g c bs ds N XR br es vl ((W.heap.size, ob) :: B) (W.alloc ob) := by
  have h1 := h.next S (al (Below.refl W.heap.size W) ob)
  refine ⟨h1.p, h1.r, h1.b, fun y hy => ?_, h1.dj⟩
  rcases List.mem_cons.1 hy with rfl | hy
  · exact ⟨heap_alloc_new _ _, ⟨fun hX => absurd (S.foot h.p _ hX).2 (Nat.lt_irrefl _), fun hX => absurd (h.r.bx _ hX).2 (Nat.lt_irrefl _)⟩, h.b.size⟩
  · exact h1.bx y hy
theorem RQ.at (h : RQ RI w0 X g c bs ds N XR br es vl B W) (i : Nat) (hi : B[i]? = some (j, ob)) : W.heap[j]? = some ob := (h.bx (j, ob) (List.mem_of_getElem? hi)).1
theorem RQ.sub (h : RQ RI w0 X g c bs ds N XR br es vl B W) (hB : ∀ x ∈ B', x ∈ B) : RQ RI w0 X g c bs ds N XR br es vl B' W := ⟨h.p, h.r, h.b, fun y hy => h.bx y (hB y hy), h.dj⟩
theorem RQ.add (h : RQ RI w0 X g c bs ds N XR br es vl B W) (hx : W.heap[j]? = some ob) (hX : ¬ X j) (hR : ¬ XR j) (hj : w0.heap.size ≤ j) : RQ RI w0 X g c bs ds N XR br es vl ((j, ob) :: B) W :=
  ⟨h.p, h.r, h.b, fun y hy => (by
    rcases List.mem_cons.1 hy with rfl | hy
    · exact ⟨hx, ⟨hX, hR⟩, hj⟩
    · exact h.bx y hy), h.dj⟩
theorem RQ.put (S : Spec RI) (h : RQ RI w0 X g c bs ds N XR br es vl ((j, ob) :: B) W) (kp : Kept j W W1) (hn : W1.heap[j]? = some ob') (hB : ∀ b ∈ B, b.1 ≠ j) : RQ RI w0 X g c bs ds N XR br es vl ((j, ob') :: B) W1 := by
  obtain ⟨h1, h2, h3⟩ := h.bx _ List.mem_cons_self
  refine ⟨S.frame h.p kp.size (fun i hi => kp.block i (fun e => h2.1 (e ▸ hi)) (S.foot h.p i hi).2), h.r.frame kp.size (fun i hi => kp.block i (fun e => h2.2 (e ▸ hi)) (h.r.bx i hi).2), h.b.trans (kp.below h3 h.b.size), fun b hb => ?_, h.dj⟩
  rcases List.mem_cons.1 hb with rfl | hb
  · exact ⟨hn, h2, h3⟩
  · obtain ⟨g1, g2, g3⟩ := h.bx b (List.mem_cons_of_mem _ hb)
    exact ⟨(kp.block b.1 (hB b hb) (lt_of_heap g1)).trans g1, g2, g3⟩
end
/-- A row of bytes of one's own, and where it lies. -/
theorem ob_row {w : World} {base : Nat} {v : Value} {xs : List Int} (h : FrameW.OB w base v xs) (hl : 0 < xs.length) : ∃ g cp o, v = .slice (some ⟨g, 0, none⟩) xs.length cp ∧ BL w (some ⟨g, 0, none⟩) xs ∧ xs.length ≤ cp ∧ base ≤ g ∧ w.heap[g]? = some o := by
  obtain ⟨A, c, hv, hb, hc, -⟩ := h.form
  rcases h.1.2 with ⟨_, h0⟩ | ⟨g, cap, cur, hv2, hge, hg, -⟩
  · omega
  · have e := hv.symm.trans hv2
    injection e with e1 e2 e3
    subst e1
    exact ⟨g, c, _, hv, hb, hc, hge, hg⟩
theorem bl_box {w w1 : World} {g : Nat} {xs : List Int} {o : Obj} (h : BL w (some ⟨g, 0, none⟩) xs) (h0 : w.heap[g]? = some o) (h1 : w1.heap[g]? = some o) : BL w1 (some ⟨g, 0, none⟩) xs := by
  intro k x hk
  obtain ⟨a, ha, hc, hx⟩ := h k x hk
  cases ha
  refine ⟨_, rfl, ?_, hx⟩
  rw [World.cell?_of_block (show w1.heap[((⟨g, 0, none⟩ : Addr).add k).block]? = w.heap[((⟨g, 0, none⟩ : Addr).add k).block]? from ?_)]
  · exact hc
  · have e : ((⟨g, 0, none⟩ : Addr).add k).block = g := by unfold Addr.add; split <;> rfl
    rw [e, h1, h0]
/-- The buckets, and the counts, behind a script's first i frames. -/
def runB (c : Cfg) (ops : List Op) : Nat → List Bk
  | 0 => bs0 c
  | i + 1 => match ops[i]? with | some o => jb c (runB c ops i) o.t o.fr o.l | none => runB c ops i
def runD (c : Cfg) (ops : List Op) : Nat → List Int
  | 0 => ds0
  | i + 1 => match ops[i]? with | some o => tally (runD c ops i) (jd c (runB c ops i) o.t o.lc o.fr o.l).w | none => runD c ops i
theorem runB_at (c : Cfg) {ops : List Op} {i : Nat} {o : Op} (h : ops[i]? = some o) : runB c ops (i + 1) = jb c (runB c ops i) o.t o.fr o.l := by rw [runB, h]
theorem runD_at (c : Cfg) {ops : List Op} {i : Nat} {o : Op} (h : ops[i]? = some o) : runD c ops (i + 1) = tally (runD c ops i) (jd c (runB c ops i) o.t o.lc o.fr o.l).w := by rw [runD, h]
theorem runB_gd {c : Cfg} (hz : chk c = 0) (ops : List Op) : ∀ i, Gd c i (runB c ops i)
  | 0 => gd_zero c
  | i + 1 => by
    have h := runB_gd hz ops i
    rw [runB]
    cases ops[i]? with
    | none => exact h.up (Nat.le_succ _)
    | some o => exact h.next hz o.t o.fr _ _
theorem runD_in (c : Cfg) (ops : List Op) : ∀ i, (runD c ops i).length = 9 ∧ ∀ x ∈ runD c ops i, 0 ≤ x ∧ x ≤ i
  | 0 => ⟨rfl, show ∀ x ∈ ds0, 0 ≤ x ∧ x ≤ ((0 : Nat) : Int) by decide⟩
  | i + 1 => by
    obtain ⟨h1, h2⟩ := runD_in c ops i
    rw [runD]
    cases ops[i]? with
    | none => exact ⟨h1, fun x hx => by have := h2 x hx; omega⟩
    | some o =>
      refine ⟨by rw [tally_len]; exact h1, fun x hx => ?_⟩
      rcases List.mem_or_eq_of_mem_set hx with h3 | h3
      · have := h2 x h3; omega
      · have h4 : 0 ≤ ((runD c ops i)[(jd c (runB c ops i) o.t o.lc o.fr o.l).w.toNat]?).getD 0 ∧ ((runD c ops i)[(jd c (runB c ops i) o.t o.lc o.fr o.l).w.toNat]?).getD 0 ≤ i := by
          cases hq : (runD c ops i)[(jd c (runB c ops i) o.t o.lc o.fr o.l).w.toNat]? with
          | none => exact ⟨by decide, by simp⟩
          | some y => exact h2 y (List.mem_of_getElem? hq)
        omega
end Go.Proofs.Ytecgpibidcifpaa.RelayW

/- The landed relay in memory: plain. -/
namespace Go.Proofs.Ytecgpibidcifpaa.RelayW
open Go.RowKit Shell
open ConfW (Cfg R4 CM ML chk Dup Up own_up)
open BucketW (Bk pas tk b0 fit bb)
open FrameW (BL rdE rdV)
/-- A row of pointers. -/
def PR (W : World) (B : Option Addr) (ks : List Nat) : Prop := ∀ (i k : Nat), ks[i]? = some k → ∃ b, B = some ⟨b, 0, none⟩ ∧ W.cell? ⟨b, i, none⟩ = some (.pointer (some ⟨k, 0, none⟩))
/-- The relay's box: its configuration, its buckets, what was dropped (x1 to x7). -/
abbrev rbx (c : Cfg) (D E L : Option Addr) (nd cd ne ce nl cl : Nat) (B : Option Addr) (nb cb : Nat) (x1 x2 x3 x4 x5 x6 x7 : Int) : Obj := .cells #[.int .i64 c.hosts, .int .i64 c.cycle, .int .i64 c.delay, .int .i64 c.window, .int .i64 c.precision, .slice D nd cd, .slice E ne ce, .slice L nl cl, .int .i64 c.queue, .slice B nb cb, .int .i64 0, .int .i64 x1, .int .i64 x2, .int .i64 x3, .int .i64 x4, .int .i64 x5, .int .i64 x6, .int .i64 x7] 68 (0, 0)
/-- How often each reason was told, by letters. -/
abbrev dsl (x0 x1 x2 x3 x4 x5 x6 x7 : Int) : List Int := [x0, x1, x2, x3, x4, x5, x6, x7, 0]
/-- The landed relay in memory. -/
structure RM (lo : Nat) (X : Nat → Prop) (g : Nat) (c : Cfg) (bs : List Bk) (N : Nat) (D E L : Option Addr) (nd cd ne ce nl cl : Nat) (B : Option Addr) (cb : Nat) (ks : List Nat) (Y : Nat → Prop) (x1 x2 x3 x4 x5 x6 x7 : Int) (W : World) : Prop where
  z : chk c = 0
  gd : Gd c N bs
  kl : ks.length = nl
  box : W.heap[g]? = some (rbx c D E L nd cd ne ce nl cl B nl cb x1 x2 x3 x4 x5 x6 x7)
  kp : ∀ W1 : World, W.heap.size ≤ W1.heap.size → (∀ j, Y j → W1.heap[j]? = W.heap[j]?) → CM W1 c D E L nd cd ne ce nl cl ∧ PR W1 B ks
  bk : ∀ (i k : Nat) (s : Bk) (r : R4), ks[i]? = some k → bs[i]? = some s → c.links[i]? = some r → W.heap[k]? = some (bb r.c c.delay s)
  dk : ∀ (i j k : Nat), ks[i]? = some k → ks[j]? = some k → i = j
  yg : ¬ Y g
  yk : ∀ (i k : Nat), ks[i]? = some k → ¬ Y k ∧ k ≠ g ∧ X k
  xy : ∀ j, Y j → X j
  xg : X g
  bx : ∀ j, X j → lo ≤ j ∧ j < W.heap.size
  py : ∀ a, B = some a → Y a.block
section
variable {lo lo' g N M : Nat} {X : Nat → Prop} {c : Cfg} {bs : List Bk} {D E L : Option Addr} {nd cd ne ce nl cl : Nat} {B : Option Addr} {cb : Nat} {ks : List Nat} {Y : Nat → Prop} {x1 x2 x3 x4 x5 x6 x7 y1 y2 y3 y4 y5 y6 y7 : Int} {W W1 : World}
theorem RM.frame (h : RM lo X g c bs N D E L nd cd ne ce nl cl B cb ks Y x1 x2 x3 x4 x5 x6 x7 W) (hs : W.heap.size ≤ W1.heap.size) (hx : ∀ j, X j → W1.heap[j]? = W.heap[j]?) : RM lo X g c bs N D E L nd cd ne ce nl cl B cb ks Y x1 x2 x3 x4 x5 x6 x7 W1 :=
  ⟨h.z, h.gd, h.kl, (hx g h.xg).trans h.box, fun W2 hs2 hy => h.kp W2 (Nat.le_trans hs hs2) (fun j hj => (hy j hj).trans (hx j (h.xy j hj))), fun i k s r h1 h2 h3 => (hx k (h.yk i k h1).2.2).trans (h.bk i k s r h1 h2 h3), h.dk, h.yg, h.yk, h.xy, h.xg, fun j hj => ⟨(h.bx j hj).1, Nat.lt_of_lt_of_le (h.bx j hj).2 hs⟩, h.py⟩
theorem RM.next (h : RM lo X g c bs N D E L nd cd ne ce nl cl B cb ks Y x1 x2 x3 x4 x5 x6 x7 W) (b : Below W.heap.size W W1) : RM lo X g c bs N D E L nd cd ne ce nl cl B cb ks Y x1 x2 x3 x4 x5 x6 x7 W1 := h.frame b.size (fun j hj => b.block j (h.bx j hj).2)
theorem RM.cm (h : RM lo X g c bs N D E L nd cd ne ce nl cl B cb ks Y x1 x2 x3 x4 x5 x6 x7 W) : CM W c D E L nd cd ne ce nl cl := (h.kp W (Nat.le_refl _) (fun _ _ => rfl)).1
theorem RM.pr (h : RM lo X g c bs N D E L nd cd ne ce nl cl B cb ks Y x1 x2 x3 x4 x5 x6 x7 W) : PR W B ks := (h.kp W (Nat.le_refl _) (fun _ _ => rfl)).2
theorem RM.count (h : RM lo X g c bs N D E L nd cd ne ce nl cl B cb ks Y x1 x2 x3 x4 x5 x6 x7 W) (k : Kept g W W1) (hn : W1.heap[g]? = some (rbx c D E L nd cd ne ce nl cl B nl cb y1 y2 y3 y4 y5 y6 y7)) : RM lo X g c bs N D E L nd cd ne ce nl cl B cb ks Y y1 y2 y3 y4 y5 y6 y7 W1 ∧ Turn X X W W1 :=
  ⟨⟨h.z, h.gd, h.kl, hn, fun W2 hs2 hy => h.kp W2 (Nat.le_trans k.size hs2) (fun j hj => (hy j hj).trans (k.block j (fun e => h.yg (e ▸ hj)) (h.bx j (h.xy j hj)).2)), fun i q s r h1 h2 h3 => (k.block q (h.yk i q h1).2.1 (h.bx q (h.yk i q h1).2.2).2).trans (h.bk i q s r h1 h2 h3), h.dk, h.yg, h.yk, h.xy, h.xg, fun j hj => ⟨(h.bx j hj).1, Nat.lt_of_lt_of_le (h.bx j hj).2 k.size⟩, h.py⟩,
   ⟨k.os, k.tape, k.output, k.size, fun j hj hx => k.block j (fun e => hx (e ▸ h.xg)) hj, fun _ hj => Or.inl hj⟩⟩
theorem RM.up (h : RM lo X g c bs N D E L nd cd ne ce nl cl B cb ks Y x1 x2 x3 x4 x5 x6 x7 W) (hn : N ≤ M) : RM lo X g c bs M D E L nd cd ne ce nl cl B cb ks Y x1 x2 x3 x4 x5 x6 x7 W := { h with gd := h.gd.up hn }
/-- A bucket was asked. -/
theorem RM.took (h : RM lo X g c bs N D E L nd cd ne ce nl cl B cb ks Y x1 x2 x3 x4 x5 x6 x7 W) {i k : Nat} {s s' : Bk} {r : R4} (hk : ks[i]? = some k) (hs : bs[i]? = some s) (hr : c.links[i]? = some r) (kp : Kept k W W1) (hn : W1.heap[k]? = some (bb r.c c.delay s')) (gd : Gd c M (bs.set i s')) : RM lo X g c (bs.set i s') M D E L nd cd ne ce nl cl B cb ks Y x1 x2 x3 x4 x5 x6 x7 W1 ∧ Turn X X W W1 := by
  obtain ⟨k1, k2, k3⟩ := h.yk i k hk
  refine ⟨⟨h.z, gd, h.kl, (kp.block g (fun e => k2 e.symm) (h.bx g h.xg).2).trans h.box, fun W2 hs2 hy => h.kp W2 (Nat.le_trans kp.size hs2) (fun j hj => (hy j hj).trans (kp.block j (fun e => k1 (e ▸ hj)) (h.bx j (h.xy j hj)).2)), fun j q s2 r2 h1 h2 h3 => ?_, h.dk, h.yg, h.yk, h.xy, h.xg, fun j hj => ⟨(h.bx j hj).1, Nat.lt_of_lt_of_le (h.bx j hj).2 kp.size⟩, h.py⟩,
    ⟨kp.os, kp.tape, kp.output, kp.size, fun j hj hx => kp.block j (fun e => hx (e ▸ k3)) hj, fun _ hj => Or.inl hj⟩⟩
  by_cases e : j = i
  · subst e
    rw [hk] at h1; cases h1
    rw [hr] at h3; cases h3
    rw [List.getElem?_set_self (lt_of_get hs)] at h2
    cases h2
    exact hn
  · rw [List.getElem?_set_ne (fun e' => e e'.symm)] at h2
    exact (kp.block q (fun e' => e (h.dk j i k (e' ▸ h1) hk)) (h.bx q (h.yk j q h1).2.2).2).trans (h.bk j q s2 r2 h1 h2 h3)
end
/-- The landed relay is what a law asks of one. -/
def RI0 (lo : Nat) (X : Nat → Prop) (g : Nat) (c : Cfg) (bs : List Bk) (ds : List Int) (N : Nat) (W : World) : Prop :=
  ∃ D E L nd cd ne ce nl cl B cb ks Y x0 x1 x2 x3 x4 x5 x6 x7, RM lo X g c bs N D E L nd cd ne ce nl cl B cb ks Y x1 x2 x3 x4 x5 x6 x7 W ∧ ds = dsl x0 x1 x2 x3 x4 x5 x6 x7 ∧ ∀ x ∈ ds, 0 ≤ x ∧ x ≤ N
/-- A configuration of a call's own is known by its blocks. -/
theorem dup_up {w w1 : World} {lo gd : Nat} {c : Cfg} {vs : List Value} {vE vL : Value} (h : Dup w lo c gd vs vE vL) (u : Up lo w w1) : Dup w1 lo c gd vs vE vL :=
  ⟨h.hg, (u.block gd h.hg (lt_of_heap h.hd)).trans h.hd, h.len, fun j r hj => by
    obtain ⟨v, hv, ho⟩ := h.row j r hj
    exact ⟨v, hv, own_up ho (Nat.le_succ_of_le h.hg) u⟩, h.far, own_up h.ent (Nat.le_succ_of_le h.hg) u, own_up h.lnk (Nat.le_succ_of_le h.hg) u⟩
end Go.Proofs.Ytecgpibidcifpaa.RelayW

/- The landed relay: frames of effort, timed frames. -/
namespace Go.Proofs.Ytecgpibidcifpaa.RelayW
open Shell (takeR skipR aput lset)
open Go.RowKit Shell
open ConfW (Cfg R4 CM ML chk)
open BucketW (Bk pas tk b0 fit bb)
open FrameW (BL rdE rdV)
open PlanW (relayV)
/-- An entry's, or a link's, own box. -/
abbrev ebx (e : R4) (t : TypeId) : Obj := .cells #[.int .i64 e.a, .int .u32 (e.b : Int), .int .i64 e.c, .int .i64 e.d] t (0, 0)
abbrev zbx (t : TypeId) : Obj := .cells #[.int .i64 0, .int .u32 0, .int .i64 0, .int .i64 0] t (0, 0)
/-- Four numbers stored into a box of the call's own. -/
theorem store4 {w0 w : World} {L : List (Nat × Obj)} {g : Nat} {t : TypeId} {v0 v1 v2 v3 : Value} (S : Stay w0 L w) (B : w.heap[g]? = some (.cells #[v0, v1, v2, v3] t (0, 0))) (hw : w0.heap.size ≤ g) (hL : ∀ x ∈ L, x.1 ≠ g) (x0 x1 x2 x3 : Value) :
    Stay w0 ((g, .cells #[x0, x1, x2, x3] t (0, 0)) :: L) ((((w.setCell ⟨g, 0, none⟩ x0).setCell ⟨g, 1, none⟩ x1).setCell ⟨g, 2, none⟩ x2).setCell ⟨g, 3, none⟩ x3) :=
  (S.add B).turn ((kept3 w g x0 x1 x2).trans (kept1 _ g 3 x3)) (PlanW.put4 B x0 x1 x2 x3) hw hL
set_option maxHeartbeats 4000000 in
set_option maxRecDepth 100000 in
theorem eff_any (c : Cfg) (D E L : Option Addr) (nd cd ne ce nl cl : Nat) (B : Option Addr) (nb cb : Nat) (x1 x2 x3 x4 x5 x6 x7 : Int) (g : Nat) (fr : Int) (d : Dt) (ok : DOk d) (W : World) (h : W.heap[g]? = some (rbx c D E L nd cd ne ce nl cl B nb cb x1 x2 x3 x4 x5 x6 x7)) :
    Calls Try.prog 61 #[.pointer (some ⟨g, 0, none⟩), .int .i64 fr, .agg #[.int .i64 d.c, .int .i64 d.l, .int .i64 d.n, .string d.p, .int .i64 d.s]] W fun r W' => r = .returned (.tuple #[.int .u32 ((vE c fr d).u : Int), .int .i64 (vE c fr d).w]) ∧ Below W.heap.size W W' := by
  have S1 := Lib.hid (((Stay.start W).add h).alloc (dbx d))
  have HL := Lib.hid ok.l
  obtain ⟨v, hv⟩ : ∃ v, vE c fr d = v := ⟨_, rfl⟩
  rw [hv]
  unfold vE at hv
  obtain ⟨dc, dl, dn, dp, ds⟩ := d
  dsimp only at hv
  clear h ok
  by_cases h1 : dl < c.hosts
  case neg =>
    rw [if_neg (fun hh => h1 hh.1)] at hv
    subst hv
    have g0 : dl ≥ c.hosts := Int.not_lt.1 h1
    have g1 : decide (c.hosts ≤ dl) = true := decide_eq_true g0
    clear h1
    go_enter Try.func61, Try.ntmps61
    go_wp2
    generalize W.alloc (dbx ⟨dc, dl, dn, dp, ds⟩) = w2 at *
    apply wp_one
    case h =>
      refine wp_region_noPanic ?_
      refine wp_region_held_drew (S := fun Z : World => Stay W [(W.heap.size, dbx ⟨dc, dl, dn, dp, ds⟩), (g, rbx c D E L nd cd ne ce nl cl B nb cb x1 x2 x3 x4 x5 x6 x7)] Z) (by kernel_rfl) (S1.out.drew) (fun hHeld => ?_)
      refine takeR 0 (some 8) ?_ ?_ ?_; rotate_left; (focus (intros; go_simp; (try with_reducible rfl)))
      simp only [aput, lset]
      refine takeR 1 (some 9) ?_ ?_ ?_; rotate_left; (focus (intro w hSw; (try dsimp only at hSw); obtain ⟨z0, z1, z2, z3, z4⟩ := cells5 (Stay.at hSw 0 rfl); have a0 := cell_of_row _ g 0 _ _ _ (Stay.at hSw 1 rfl); go_simp; (try with_reducible rfl)))
      simp only [aput, lset]
      refine takeR 2 (some 10) ?_ ?_ ?_; rotate_left; (focus (intros; go_simp; (try with_reducible rfl)))
      simp only [aput, lset]
      refine takeR 3 (some 11) ?_ ?_ ?_; rotate_left; (focus (intros; go_simp; (try with_reducible rfl)))
      simp only [aput, lset]
      refine takeR 4 (some 12) ?_ ?_ ?_; rotate_left; (focus (intros; go_simp; (try with_reducible rfl)))
      simp only [aput, lset]
      refine takeR 5 (some 13) ?_ ?_ ?_; rotate_left; (focus (intros; go_simp; (try with_reducible rfl)))
      simp only [aput, lset]
      refine takeR 6 (some 14) ?_ ?_ ?_; rotate_left; (focus (intro w hSw; (try dsimp only at hSw); obtain ⟨z0, z1, z2, z3, z4⟩ := cells5 (Stay.at hSw 0 rfl); have a0 := cell_of_row _ g 0 _ _ _ (Stay.at hSw 1 rfl); go_simp; (try with_reducible rfl)))
      simp only [aput, lset]
      refine takeR 7 (some 15) ?_ ?_ ?_; rotate_left; (focus (intros; go_simp; (try with_reducible rfl)))
      simp only [aput, lset]
      refine takeR 8 (some 16) ?_ ?_ ?_; rotate_left; (focus (intros; go_simp; (try with_reducible rfl)))
      simp only [aput, lset]
      refine skipR 9 (some 17) ?_
      simp only [aput, lset]
      refine skipR 10 (some 18) ?_
      simp only [aput, lset]
      refine skipR 11 (some 19) ?_
      simp only [aput, lset]
      refine skipR 12 (some 20) ?_
      simp only [aput, lset]
      refine takeR 13 (some 21) ?_ ?_ ?_; rotate_left; (focus (intros; go_simp; (try with_reducible rfl)))
      simp only [aput, lset]
      refine wpAnyH_done (by kernel_rfl) ?_ _
      exact NoPanic.normal ⟨rfl, rfl, rfl⟩
    case hm =>
      go_wp2
      go_ret2
      exact ⟨rfl, S1.out.b.drew⟩
  by_cases h2 : dl = fr
  case pos =>
    rw [if_neg (fun hh => hh.2 h2)] at hv
    subst hv
    have g1 : decide (c.hosts ≤ dl) = false := decide_eq_false (by omega)
    have g2 : (dl == fr) = true := by rw [beq_iff_eq]; exact h2
    clear h1 h2
    go_enter Try.func61, Try.ntmps61
    go_wp2
    generalize W.alloc (dbx ⟨dc, dl, dn, dp, ds⟩) = w2 at *
    apply wp_one
    case h =>
      refine wp_region_noPanic ?_
      refine wp_region_held_drew (S := fun Z : World => Stay W [(W.heap.size, dbx ⟨dc, dl, dn, dp, ds⟩), (g, rbx c D E L nd cd ne ce nl cl B nb cb x1 x2 x3 x4 x5 x6 x7)] Z) (by kernel_rfl) (S1.out.drew) (fun hHeld => ?_)
      refine takeR 0 (some 8) ?_ ?_ ?_; rotate_left; (focus (intros; go_simp; (try with_reducible rfl)))
      simp only [aput, lset]
      refine takeR 1 (some 9) ?_ ?_ ?_; rotate_left; (focus (intro w hSw; (try dsimp only at hSw); obtain ⟨z0, z1, z2, z3, z4⟩ := cells5 (Stay.at hSw 0 rfl); have a0 := cell_of_row _ g 0 _ _ _ (Stay.at hSw 1 rfl); go_simp; (try with_reducible rfl)))
      simp only [aput, lset]
      refine takeR 2 (some 10) ?_ ?_ ?_; rotate_left; (focus (intros; go_simp; (try with_reducible rfl)))
      simp only [aput, lset]
      refine takeR 3 (some 11) ?_ ?_ ?_; rotate_left; (focus (intros; go_simp; (try with_reducible rfl)))
      simp only [aput, lset]
      refine takeR 4 (some 12) ?_ ?_ ?_; rotate_left; (focus (intros; go_simp; (try with_reducible rfl)))
      simp only [aput, lset]
      refine takeR 5 (some 13) ?_ ?_ ?_; rotate_left; (focus (intros; go_simp; (try with_reducible rfl)))
      simp only [aput, lset]
      refine takeR 6 (some 14) ?_ ?_ ?_; rotate_left; (focus (intro w hSw; (try dsimp only at hSw); obtain ⟨z0, z1, z2, z3, z4⟩ := cells5 (Stay.at hSw 0 rfl); have a0 := cell_of_row _ g 0 _ _ _ (Stay.at hSw 1 rfl); go_simp; (try with_reducible rfl)))
      simp only [aput, lset]
      refine takeR 7 (some 15) ?_ ?_ ?_; rotate_left; (focus (intros; go_simp; (try with_reducible rfl)))
      simp only [aput, lset]
      refine takeR 8 (some 16) ?_ ?_ ?_; rotate_left; (focus (intros; go_simp; (try with_reducible rfl)))
      simp only [aput, lset]
      refine takeR 9 (some 17) ?_ ?_ ?_; rotate_left; (focus (intros; go_simp; (try with_reducible rfl)))
      simp only [aput, lset]
      refine takeR 10 (some 18) ?_ ?_ ?_; rotate_left; (focus (intro w hSw; (try dsimp only at hSw); obtain ⟨z0, z1, z2, z3, z4⟩ := cells5 (Stay.at hSw 0 rfl); have a0 := cell_of_row _ g 0 _ _ _ (Stay.at hSw 1 rfl); go_simp; (try with_reducible rfl)))
      simp only [aput, lset]
      refine takeR 11 (some 19) ?_ ?_ ?_; rotate_left; (focus (intros; go_simp; (try with_reducible rfl)))
      simp only [aput, lset]
      refine takeR 12 (some 20) ?_ ?_ ?_; rotate_left; (focus (intros; go_simp; (try with_reducible rfl)))
      simp only [aput, lset]
      refine takeR 13 (some 21) ?_ ?_ ?_; rotate_left; (focus (intros; go_simp; (try with_reducible rfl)))
      simp only [aput, lset]
      refine wpAnyH_done (by kernel_rfl) ?_ _
      exact NoPanic.normal ⟨rfl, rfl, rfl⟩
    case hm =>
      go_wp2
      go_ret2
      exact ⟨rfl, S1.out.b.drew⟩
  rw [if_pos ⟨h1, h2⟩] at hv
  subst hv
  have g1 : decide (c.hosts ≤ dl) = false := decide_eq_false (by omega)
  have g2 : (dl == fr) = false := by rw [beq_eq_false_iff_ne]; exact h2
  clear h1 h2
  have S2 := Lib.hid S1.out.drew
  have HC := Lib.hid (fun w2 : World => (show CL (w2.alloc (.cells #[.int .i64 dl] 3)).drew .i64 (some ⟨w2.heap.size, 0, none⟩) [dl] from new_cl w2 .i64 [dl] 3 (Wf.one (BucketW.i64_in (by have : 0 ≤ dl ∧ dl ≤ 255 := HL.out; omega) (by have : 0 ≤ dl ∧ dl ≤ 255 := HL.out; omega)))))
  go_enter Try.func61, Try.ntmps61
  go_wp2
  generalize W.alloc (dbx ⟨dc, dl, dn, dp, ds⟩) = w2 at *
  apply wp_one
  case h =>
    refine wp_region_noPanic ?_
    refine wp_region_held_drew (S := fun Z : World => Stay W [(W.heap.size, dbx ⟨dc, dl, dn, dp, ds⟩), (g, rbx c D E L nd cd ne ce nl cl B nb cb x1 x2 x3 x4 x5 x6 x7)] Z) (by kernel_rfl) (S1.out.drew) (fun hHeld => ?_)
    refine takeR 0 (some 8) ?_ ?_ ?_; rotate_left; (focus (intros; go_simp; (try with_reducible rfl)))
    simp only [aput, lset]
    refine takeR 1 (some 9) ?_ ?_ ?_; rotate_left; (focus (intro w hSw; (try dsimp only at hSw); obtain ⟨z0, z1, z2, z3, z4⟩ := cells5 (Stay.at hSw 0 rfl); have a0 := cell_of_row _ g 0 _ _ _ (Stay.at hSw 1 rfl); go_simp; (try with_reducible rfl)))
    simp only [aput, lset]
    refine takeR 2 (some 10) ?_ ?_ ?_; rotate_left; (focus (intros; go_simp; (try with_reducible rfl)))
    simp only [aput, lset]
    refine takeR 3 (some 11) ?_ ?_ ?_; rotate_left; (focus (intros; go_simp; (try with_reducible rfl)))
    simp only [aput, lset]
    refine takeR 4 (some 12) ?_ ?_ ?_; rotate_left; (focus (intros; go_simp; (try with_reducible rfl)))
    simp only [aput, lset]
    refine takeR 5 (some 13) ?_ ?_ ?_; rotate_left; (focus (intros; go_simp; (try with_reducible rfl)))
    simp only [aput, lset]
    refine takeR 6 (some 14) ?_ ?_ ?_; rotate_left; (focus (intro w hSw; (try dsimp only at hSw); obtain ⟨z0, z1, z2, z3, z4⟩ := cells5 (Stay.at hSw 0 rfl); have a0 := cell_of_row _ g 0 _ _ _ (Stay.at hSw 1 rfl); go_simp; (try with_reducible rfl)))
    simp only [aput, lset]
    refine takeR 7 (some 15) ?_ ?_ ?_; rotate_left; (focus (intros; go_simp; (try with_reducible rfl)))
    simp only [aput, lset]
    refine takeR 8 (some 16) ?_ ?_ ?_; rotate_left; (focus (intros; go_simp; (try with_reducible rfl)))
    simp only [aput, lset]
    refine takeR 9 (some 17) ?_ ?_ ?_; rotate_left; (focus (intros; go_simp; (try with_reducible rfl)))
    simp only [aput, lset]
    refine takeR 10 (some 18) ?_ ?_ ?_; rotate_left; (focus (intro w hSw; (try dsimp only at hSw); obtain ⟨z0, z1, z2, z3, z4⟩ := cells5 (Stay.at hSw 0 rfl); have a0 := cell_of_row _ g 0 _ _ _ (Stay.at hSw 1 rfl); go_simp; (try with_reducible rfl)))
    simp only [aput, lset]
    refine takeR 11 (some 19) ?_ ?_ ?_; rotate_left; (focus (intros; go_simp; (try with_reducible rfl)))
    simp only [aput, lset]
    refine takeR 12 (some 20) ?_ ?_ ?_; rotate_left; (focus (intros; go_simp; (try with_reducible rfl)))
    simp only [aput, lset]
    refine takeR 13 (some 21) ?_ ?_ ?_; rotate_left; (focus (intros; go_simp; (try with_reducible rfl)))
    simp only [aput, lset]
    refine wpAnyH_done (by kernel_rfl) ?_ _
    exact NoPanic.normal ⟨rfl, rfl, rfl⟩
  case hm =>
    obtain ⟨z0, z1, z2, z3, z4⟩ := cells5 (S2.out.at 0 rfl)
    go_wp2_with fail
    refine (CrewW.of_any _ 1 1 [dl] _ (HC.out _) rfl (by decide)).mono ?_
    rintro r w3 ⟨rfl, hw3⟩
    obtain rfl := hw3.symm
    go_wp2
    go_ret2
    exact ⟨rfl, S2.out.b.alloc S2.out.b.size _⟩
set_option maxHeartbeats 4000000 in
set_option maxRecDepth 100000 in
theorem rt0_any (c : Cfg) (D E L : Option Addr) (nd cd ne ce nl cl : Nat) (B : Option Addr) (nb cb : Nat) (x1 x2 x3 x4 x5 x6 x7 : Int) (g : Nat) (lo fr : Int) (d : Dt) (ok : DOk d) (W : World) (h : W.heap[g]? = some (rbx c D E L nd cd ne ce nl cl B nb cb x1 x2 x3 x4 x5 x6 x7)) (m : CM W c D E L nd cd ne ce nl cl) (h2 : entAt c d.l = none) :
    Calls Try.prog 59 #[.pointer (some ⟨g, 0, none⟩), .int .i64 lo, .int .i64 fr, .agg #[.int .i64 d.c, .int .i64 d.l, .int .i64 d.n, .string d.p, .int .i64 d.s]] W fun r W' => r = .returned (.tuple #[.int .u32 (0 : Int), .int .i64 0, .int .i64 1]) ∧ Below W.heap.size W W' := by
  have S1 := Lib.hid (((Stay.start W).add h).alloc (dbx d))
  have g0 := ent_no h2 ok.l.1
  rw [← m.nE] at g0
  have hnE : ne ≤ 9223372036854775807 := by have := m.mE; unfold maxLen at this; omega
  obtain ⟨dc, dl, dn, dp, ds⟩ := d
  replace g0 : dl ≥ (ne : Int) := g0
  have g1 : decide ((ne : Int) ≤ dl) = true := decide_eq_true g0
  clear h ok m h2
  go_enter Try.func59, Try.ntmps59
  go_wp2
  generalize W.alloc (dbx ⟨dc, dl, dn, dp, ds⟩) = w2 at *
  apply wp_one
  case h =>
    refine wp_region_noPanic ?_
    refine wp_region_held_drew (S := fun Z : World => Stay W [(W.heap.size, dbx ⟨dc, dl, dn, dp, ds⟩), (g, rbx c D E L nd cd ne ce nl cl B nb cb x1 x2 x3 x4 x5 x6 x7)] Z) (by kernel_rfl) (S1.out.drew) (fun hHeld => ?_)
    refine takeR 0 (some 13) ?_ ?_ ?_; rotate_left; (focus (intros; go_simp; (try with_reducible rfl)))
    simp only [aput, lset]
    refine takeR 1 (some 14) ?_ ?_ ?_; rotate_left; (focus (intro w hSw; (try dsimp only at hSw); obtain ⟨z0, z1, z2, z3, z4⟩ := cells5 (Stay.at hSw 0 rfl); have a6 := cell_of_row _ g 6 _ _ _ (Stay.at hSw 1 rfl); go_simp; (try with_reducible rfl)))
    simp only [aput, lset]
    refine takeR 2 (some 15) ?_ ?_ ?_; rotate_left; (focus (intros; go_simp; (try with_reducible rfl)))
    simp only [aput, lset]
    refine takeR 3 (some 16) ?_ ?_ ?_; rotate_left; (focus (intros; go_simp; (try with_reducible rfl)))
    simp only [aput, lset]
    refine takeR 4 (some 17) ?_ ?_ ?_; rotate_left; (focus (intros; go_simp; (try with_reducible rfl)))
    simp only [aput, lset]
    refine takeR 5 (some 18) ?_ ?_ ?_; rotate_left; (focus (intros; go_simp; (try with_reducible rfl)))
    simp only [aput, lset]
    refine takeR 6 (some 19) ?_ ?_ ?_; rotate_left; (focus (intro w hSw; (try dsimp only at hSw); obtain ⟨z0, z1, z2, z3, z4⟩ := cells5 (Stay.at hSw 0 rfl); have a6 := cell_of_row _ g 6 _ _ _ (Stay.at hSw 1 rfl); go_simp; (try with_reducible rfl)))
    simp only [aput, lset]
    refine takeR 7 (some 20) ?_ ?_ ?_; rotate_left; (focus (intros; go_simp; (try with_reducible rfl)))
    simp only [aput, lset]
    refine takeR 8 (some 21) ?_ ?_ ?_; rotate_left; (focus (intros; go_simp; (try with_reducible rfl)))
    simp only [aput, lset]
    refine wpAnyH_done (by kernel_rfl) ?_ _
    exact NoPanic.normal ⟨rfl, rfl, rfl⟩
  case hm =>
    go_wp2
    go_ret3
    exact ⟨rfl, S1.out.b.drew⟩
set_option maxHeartbeats 4000000 in
set_option maxRecDepth 100000 in
theorem rt1_any (c : Cfg) (D E L : Option Addr) (nd cd ne ce nl cl : Nat) (B : Option Addr) (nb cb : Nat) (x1 x2 x3 x4 x5 x6 x7 : Int) (g : Nat) (lo fr : Int) (d : Dt) (ok : DOk d) (W : World) (h : W.heap[g]? = some (rbx c D E L nd cd ne ce nl cl B nb cb x1 x2 x3 x4 x5 x6 x7)) (m : CM W c D E L nd cd ne ce nl cl) (e : R4) (h2 : entAt c d.l = some e) (h3 : e.a ≠ fr) :
    Calls Try.prog 59 #[.pointer (some ⟨g, 0, none⟩), .int .i64 lo, .int .i64 fr, .agg #[.int .i64 d.c, .int .i64 d.l, .int .i64 d.n, .string d.p, .int .i64 d.s]] W fun r W' => r = .returned (.tuple #[.int .u32 (0 : Int), .int .i64 0, .int .i64 1]) ∧ Below W.heap.size W W' := by
  have S1 := Lib.hid (((Stay.start W).add h).alloc (dbx d))
  have HM := Lib.hid m
  have HN := Lib.hid (Nat.ne_of_lt (lt_of_heap h))
  obtain ⟨n, hn, hk, hlt⟩ := ent_at h2 ok.l.1
  rw [← m.nE] at hlt
  have hnE : ne ≤ 9223372036854775807 := by have := m.mE; unfold maxLen at this; omega
  obtain ⟨dc, dl, dn, dp, ds⟩ := d
  obtain rfl : dl = (n : Int) := hn
  have g0 : (n : Int) < (ne : Int) := by omega
  have g1 : decide ((ne : Int) ≤ (n : Int)) = false := decide_eq_false (by omega)
  have g4 : decide (ne ≤ n) = false := decide_eq_false (by omega)
  obtain ⟨b, off, rfl, l0, l1, l2, l3⟩ := ml_at m.he hk
  have E0 := Lib.hid l0
  have E1 := Lib.hid l1
  have E2 := Lib.hid l2
  have E3 := Lib.hid l3
  clear h ok m h2 l0 l1 l2 l3
  have g2 : (e.a != fr) = true := by rw [bne_iff_ne]; exact h3
  clear h3
  go_enter Try.func59, Try.ntmps59
  go_wp2
  generalize W.alloc (dbx ⟨dc, (n : Int), dn, dp, ds⟩) = w2 at *
  apply wp_one
  case h =>
    refine wp_region_noPanic ?_
    refine wp_region_held_drew (S := fun Z : World => Stay W [(W.heap.size, dbx ⟨dc, (n : Int), dn, dp, ds⟩), (g, rbx c D (some ⟨b, off, none⟩) L nd cd ne ce nl cl B nb cb x1 x2 x3 x4 x5 x6 x7)] Z) (by kernel_rfl) (S1.out.drew) (fun hHeld => ?_)
    refine takeR 0 (some 13) ?_ ?_ ?_; rotate_left; (focus (intros; go_simp; (try with_reducible rfl)))
    simp only [aput, lset]
    refine takeR 1 (some 14) ?_ ?_ ?_; rotate_left; (focus (intro w hSw; (try dsimp only at hSw); obtain ⟨z0, z1, z2, z3, z4⟩ := cells5 (Stay.at hSw 0 rfl); have a6 := cell_of_row _ g 6 _ _ _ (Stay.at hSw 1 rfl); go_simp; (try with_reducible rfl)))
    simp only [aput, lset]
    refine takeR 2 (some 15) ?_ ?_ ?_; rotate_left; (focus (intros; go_simp; (try with_reducible rfl)))
    simp only [aput, lset]
    refine takeR 3 (some 16) ?_ ?_ ?_; rotate_left; (focus (intros; go_simp; (try with_reducible rfl)))
    simp only [aput, lset]
    refine takeR 4 (some 17) ?_ ?_ ?_; rotate_left; (focus (intros; go_simp; (try with_reducible rfl)))
    simp only [aput, lset]
    refine takeR 5 (some 18) ?_ ?_ ?_; rotate_left; (focus (intros; go_simp; (try with_reducible rfl)))
    simp only [aput, lset]
    refine takeR 6 (some 19) ?_ ?_ ?_; rotate_left; (focus (intro w hSw; (try dsimp only at hSw); obtain ⟨z0, z1, z2, z3, z4⟩ := cells5 (Stay.at hSw 0 rfl); have a6 := cell_of_row _ g 6 _ _ _ (Stay.at hSw 1 rfl); go_simp; (try with_reducible rfl)))
    simp only [aput, lset]
    refine takeR 7 (some 20) ?_ ?_ ?_; rotate_left; (focus (intros; go_simp; (try with_reducible rfl)))
    simp only [aput, lset]
    refine takeR 8 (some 21) ?_ ?_ ?_; rotate_left; (focus (intros; go_simp; (try with_reducible rfl)))
    simp only [aput, lset]
    refine wpAnyH_done (by kernel_rfl) ?_ _
    exact NoPanic.normal ⟨rfl, rfl, rfl⟩
  case hm =>
    have S3 := Lib.hid S1.out.drew
    have GW := HN
    clear S1
    generalize w2.drew = w3 at *
    go_wp2
    apply wp_some (S := fun Z : World => Stay W [(w3.heap.size, ebx e 58), (W.heap.size, dbx ⟨dc, (n : Int), dn, dp, ds⟩), (g, rbx c D (some ⟨b, off, none⟩) L nd cd ne ce nl cl B nb cb x1 x2 x3 x4 x5 x6 x7)] Z)
    case h =>
      refine wp_region_noPanic ?_
      refine wp_region_held_drew (S := fun Z : World => Stay W [(W.heap.size, dbx ⟨dc, (n : Int), dn, dp, ds⟩), (g, rbx c D (some ⟨b, off, none⟩) L nd cd ne ce nl cl B nb cb x1 x2 x3 x4 x5 x6 x7)] Z) (by kernel_rfl) (S3.out.drew) (fun hHeld => ?_)
      refine takeR 0 (some 22) ?_ ?_ ?_; rotate_left; (focus (intros; go_simp; (try with_reducible rfl)))
      simp only [aput, lset]
      refine takeR 1 (some 23) ?_ ?_ ?_; rotate_left; (focus (intros; go_simp; (try with_reducible rfl)))
      simp only [aput, lset]
      refine takeR 2 (some 24) ?_ ?_ ?_; rotate_left; (focus (intros; go_simp; (try with_reducible rfl)))
      simp only [aput, lset]
      refine takeR 3 (some 25) ?_ ?_ ?_; rotate_left; (focus (intros; go_simp; (try with_reducible rfl)))
      simp only [aput, lset]
      refine takeR 4 (some 26) ?_ ?_ ?_; rotate_left; (focus (intro w hSw; (try dsimp only at hSw); obtain ⟨z0, z1, z2, z3, z4⟩ := cells5 (Stay.at hSw 0 rfl); have a6 := cell_of_row _ g 6 _ _ _ (Stay.at hSw 1 rfl); have l0 := cell_keep E0.out hSw.b; have l1 := cell_keep E1.out hSw.b; have l2 := cell_keep E2.out hSw.b; have l3 := cell_keep E3.out hSw.b; go_simp; (try with_reducible rfl)))
      simp only [aput, lset]
      refine takeR 5 (some 27) ?_ ?_ ?_; rotate_left; (focus (intros; go_simp; (try with_reducible rfl)))
      simp only [aput, lset]
      refine takeR 6 (some 28) ?_ ?_ ?_; rotate_left; (focus (intro w hSw; (try dsimp only at hSw); obtain ⟨z0, z1, z2, z3, z4⟩ := cells5 (Stay.at hSw 0 rfl); have a6 := cell_of_row _ g 6 _ _ _ (Stay.at hSw 1 rfl); have l0 := cell_keep E0.out hSw.b; have l1 := cell_keep E1.out hSw.b; have l2 := cell_keep E2.out hSw.b; have l3 := cell_keep E3.out hSw.b; go_simp; (try with_reducible rfl)))
      simp only [aput, lset]
      refine takeR 7 (some 29) ?_ ?_ ?_; rotate_left; (focus (intros; go_simp; (try with_reducible rfl)))
      simp only [aput, lset]
      refine takeR 8 (some 30) ?_ ?_ ?_; rotate_left; (focus (intro w hSw; (try dsimp only at hSw); obtain ⟨z0, z1, z2, z3, z4⟩ := cells5 (Stay.at hSw 0 rfl); have a6 := cell_of_row _ g 6 _ _ _ (Stay.at hSw 1 rfl); have l0 := cell_keep E0.out hSw.b; have l1 := cell_keep E1.out hSw.b; have l2 := cell_keep E2.out hSw.b; have l3 := cell_keep E3.out hSw.b; go_simp; (try with_reducible rfl)))
      simp only [aput, lset]
      refine wpAnyH_ready (rs := [9]) (by kernel_rfl) (by simp) ?_
      refine AllReadyH.cons (o := ⟨some 11, _, _, _, _, _⟩) rfl (fun K hK => ?_) AllReadyH.nil
      rw [if_pos (by kernel_rfl)]
      go_simp
      have hS9 := Stay.next hHeld (al (Below.refl _ _) (zbx 58))
      have B9 : (World.alloc w3.drew (zbx 58)).heap[w3.heap.size]? = some (zbx 58) := heap_alloc_new w3.drew (zbx 58)
      go_simp
      refine hK.out _ _ (by assumption) (fun hHeld => ?_)
      clear hK K
      refine wpAnyH_ready (rs := [10]) (by kernel_rfl) (by simp) ?_
      refine AllReadyH.cons (o := ⟨none, _, _, _, _, _⟩) rfl (fun K hK => ?_) AllReadyH.nil
      rw [if_pos (by kernel_rfl)]
      go_simp
      have HB := Lib.hid ((S3.out.alloc (ebx e 58)).drew)
      have hS10 := (S3.out.next (al (Below.refl _ _) (ebx e 58))).drew
      go_simp
      refine hK.out _ _ (by assumption) (fun hHeld => ?_)
      clear hK K
      refine wpAnyH_done (by kernel_rfl) ?_ _
      exact NoPanic.normal ⟨rfl, rfl, HB.out⟩
    case hm =>
      rintro w4 S4
      have S4 := Lib.hid S4
      generalize w3.heap.size = q at *
      obtain ⟨y0, y1, y2, y3⟩ := PlanW.cells4 (S4.out.at 0 rfl)
      obtain ⟨z0, z1, z2, z3, z4⟩ := cells5 (S4.out.at 1 rfl)
      go_wp2
      go_ret3
      exact ⟨rfl, S4.out.b⟩
set_option maxHeartbeats 4000000 in
set_option maxRecDepth 100000 in
theorem rt2_any (c : Cfg) (D E L : Option Addr) (nd cd ne ce nl cl : Nat) (B : Option Addr) (nb cb : Nat) (x1 x2 x3 x4 x5 x6 x7 : Int) (g : Nat) (lo fr : Int) (d : Dt) (ok : DOk d) (W : World) (h : W.heap[g]? = some (rbx c D E L nd cd ne ce nl cl B nb cb x1 x2 x3 x4 x5 x6 x7)) (m : CM W c D E L nd cd ne ce nl cl) (e : R4) (h2 : entAt c d.l = some e) (h3 : e.a = fr) (h4 : e.d ≠ d.s) :
    Calls Try.prog 59 #[.pointer (some ⟨g, 0, none⟩), .int .i64 lo, .int .i64 fr, .agg #[.int .i64 d.c, .int .i64 d.l, .int .i64 d.n, .string d.p, .int .i64 d.s]] W fun r W' => r = .returned (.tuple #[.int .u32 (0 : Int), .int .i64 0, .int .i64 1]) ∧ Below W.heap.size W W' := by
  have S1 := Lib.hid (((Stay.start W).add h).alloc (dbx d))
  have HM := Lib.hid m
  have HN := Lib.hid (Nat.ne_of_lt (lt_of_heap h))
  obtain ⟨n, hn, hk, hlt⟩ := ent_at h2 ok.l.1
  rw [← m.nE] at hlt
  have hnE : ne ≤ 9223372036854775807 := by have := m.mE; unfold maxLen at this; omega
  obtain ⟨dc, dl, dn, dp, ds⟩ := d
  obtain rfl : dl = (n : Int) := hn
  have g0 : (n : Int) < (ne : Int) := by omega
  have g1 : decide ((ne : Int) ≤ (n : Int)) = false := decide_eq_false (by omega)
  have g4 : decide (ne ≤ n) = false := decide_eq_false (by omega)
  obtain ⟨b, off, rfl, l0, l1, l2, l3⟩ := ml_at m.he hk
  have E0 := Lib.hid l0
  have E1 := Lib.hid l1
  have E2 := Lib.hid l2
  have E3 := Lib.hid l3
  clear h ok m h2 l0 l1 l2 l3
  have g2 : (e.a != fr) = false := by rw [bne_eq_false_iff_eq]; exact h3
  have g3 : (e.d != ds) = true := by rw [bne_iff_ne]; exact h4
  clear h3 h4
  go_enter Try.func59, Try.ntmps59
  go_wp2
  generalize W.alloc (dbx ⟨dc, (n : Int), dn, dp, ds⟩) = w2 at *
  apply wp_one
  case h =>
    refine wp_region_noPanic ?_
    refine wp_region_held_drew (S := fun Z : World => Stay W [(W.heap.size, dbx ⟨dc, (n : Int), dn, dp, ds⟩), (g, rbx c D (some ⟨b, off, none⟩) L nd cd ne ce nl cl B nb cb x1 x2 x3 x4 x5 x6 x7)] Z) (by kernel_rfl) (S1.out.drew) (fun hHeld => ?_)
    refine takeR 0 (some 13) ?_ ?_ ?_; rotate_left; (focus (intros; go_simp; (try with_reducible rfl)))
    simp only [aput, lset]
    refine takeR 1 (some 14) ?_ ?_ ?_; rotate_left; (focus (intro w hSw; (try dsimp only at hSw); obtain ⟨z0, z1, z2, z3, z4⟩ := cells5 (Stay.at hSw 0 rfl); have a6 := cell_of_row _ g 6 _ _ _ (Stay.at hSw 1 rfl); go_simp; (try with_reducible rfl)))
    simp only [aput, lset]
    refine takeR 2 (some 15) ?_ ?_ ?_; rotate_left; (focus (intros; go_simp; (try with_reducible rfl)))
    simp only [aput, lset]
    refine takeR 3 (some 16) ?_ ?_ ?_; rotate_left; (focus (intros; go_simp; (try with_reducible rfl)))
    simp only [aput, lset]
    refine takeR 4 (some 17) ?_ ?_ ?_; rotate_left; (focus (intros; go_simp; (try with_reducible rfl)))
    simp only [aput, lset]
    refine takeR 5 (some 18) ?_ ?_ ?_; rotate_left; (focus (intros; go_simp; (try with_reducible rfl)))
    simp only [aput, lset]
    refine takeR 6 (some 19) ?_ ?_ ?_; rotate_left; (focus (intro w hSw; (try dsimp only at hSw); obtain ⟨z0, z1, z2, z3, z4⟩ := cells5 (Stay.at hSw 0 rfl); have a6 := cell_of_row _ g 6 _ _ _ (Stay.at hSw 1 rfl); go_simp; (try with_reducible rfl)))
    simp only [aput, lset]
    refine takeR 7 (some 20) ?_ ?_ ?_; rotate_left; (focus (intros; go_simp; (try with_reducible rfl)))
    simp only [aput, lset]
    refine takeR 8 (some 21) ?_ ?_ ?_; rotate_left; (focus (intros; go_simp; (try with_reducible rfl)))
    simp only [aput, lset]
    refine wpAnyH_done (by kernel_rfl) ?_ _
    exact NoPanic.normal ⟨rfl, rfl, rfl⟩
  case hm =>
    have S3 := Lib.hid S1.out.drew
    have GW := HN
    clear S1
    generalize w2.drew = w3 at *
    go_wp2
    apply wp_some (S := fun Z : World => Stay W [(w3.heap.size, ebx e 58), (W.heap.size, dbx ⟨dc, (n : Int), dn, dp, ds⟩), (g, rbx c D (some ⟨b, off, none⟩) L nd cd ne ce nl cl B nb cb x1 x2 x3 x4 x5 x6 x7)] Z)
    case h =>
      refine wp_region_noPanic ?_
      refine wp_region_held_drew (S := fun Z : World => Stay W [(W.heap.size, dbx ⟨dc, (n : Int), dn, dp, ds⟩), (g, rbx c D (some ⟨b, off, none⟩) L nd cd ne ce nl cl B nb cb x1 x2 x3 x4 x5 x6 x7)] Z) (by kernel_rfl) (S3.out.drew) (fun hHeld => ?_)
      refine takeR 0 (some 22) ?_ ?_ ?_; rotate_left; (focus (intros; go_simp; (try with_reducible rfl)))
      simp only [aput, lset]
      refine takeR 1 (some 23) ?_ ?_ ?_; rotate_left; (focus (intros; go_simp; (try with_reducible rfl)))
      simp only [aput, lset]
      refine takeR 2 (some 24) ?_ ?_ ?_; rotate_left; (focus (intros; go_simp; (try with_reducible rfl)))
      simp only [aput, lset]
      refine takeR 3 (some 25) ?_ ?_ ?_; rotate_left; (focus (intros; go_simp; (try with_reducible rfl)))
      simp only [aput, lset]
      refine takeR 4 (some 26) ?_ ?_ ?_; rotate_left; (focus (intro w hSw; (try dsimp only at hSw); obtain ⟨z0, z1, z2, z3, z4⟩ := cells5 (Stay.at hSw 0 rfl); have a6 := cell_of_row _ g 6 _ _ _ (Stay.at hSw 1 rfl); have l0 := cell_keep E0.out hSw.b; have l1 := cell_keep E1.out hSw.b; have l2 := cell_keep E2.out hSw.b; have l3 := cell_keep E3.out hSw.b; go_simp; (try with_reducible rfl)))
      simp only [aput, lset]
      refine takeR 5 (some 27) ?_ ?_ ?_; rotate_left; (focus (intros; go_simp; (try with_reducible rfl)))
      simp only [aput, lset]
      refine takeR 6 (some 28) ?_ ?_ ?_; rotate_left; (focus (intro w hSw; (try dsimp only at hSw); obtain ⟨z0, z1, z2, z3, z4⟩ := cells5 (Stay.at hSw 0 rfl); have a6 := cell_of_row _ g 6 _ _ _ (Stay.at hSw 1 rfl); have l0 := cell_keep E0.out hSw.b; have l1 := cell_keep E1.out hSw.b; have l2 := cell_keep E2.out hSw.b; have l3 := cell_keep E3.out hSw.b; go_simp; (try with_reducible rfl)))
      simp only [aput, lset]
      refine takeR 7 (some 29) ?_ ?_ ?_; rotate_left; (focus (intros; go_simp; (try with_reducible rfl)))
      simp only [aput, lset]
      refine takeR 8 (some 30) ?_ ?_ ?_; rotate_left; (focus (intro w hSw; (try dsimp only at hSw); obtain ⟨z0, z1, z2, z3, z4⟩ := cells5 (Stay.at hSw 0 rfl); have a6 := cell_of_row _ g 6 _ _ _ (Stay.at hSw 1 rfl); have l0 := cell_keep E0.out hSw.b; have l1 := cell_keep E1.out hSw.b; have l2 := cell_keep E2.out hSw.b; have l3 := cell_keep E3.out hSw.b; go_simp; (try with_reducible rfl)))
      simp only [aput, lset]
      refine wpAnyH_ready (rs := [9]) (by kernel_rfl) (by simp) ?_
      refine AllReadyH.cons (o := ⟨some 11, _, _, _, _, _⟩) rfl (fun K hK => ?_) AllReadyH.nil
      rw [if_pos (by kernel_rfl)]
      go_simp
      have hS9 := Stay.next hHeld (al (Below.refl _ _) (zbx 58))
      have B9 : (World.alloc w3.drew (zbx 58)).heap[w3.heap.size]? = some (zbx 58) := heap_alloc_new w3.drew (zbx 58)
      go_simp
      refine hK.out _ _ (by assumption) (fun hHeld => ?_)
      clear hK K
      refine wpAnyH_ready (rs := [10]) (by kernel_rfl) (by simp) ?_
      refine AllReadyH.cons (o := ⟨none, _, _, _, _, _⟩) rfl (fun K hK => ?_) AllReadyH.nil
      rw [if_pos (by kernel_rfl)]
      go_simp
      have HB := Lib.hid ((S3.out.alloc (ebx e 58)).drew)
      have hS10 := (S3.out.next (al (Below.refl _ _) (ebx e 58))).drew
      go_simp
      refine hK.out _ _ (by assumption) (fun hHeld => ?_)
      clear hK K
      refine wpAnyH_done (by kernel_rfl) ?_ _
      exact NoPanic.normal ⟨rfl, rfl, HB.out⟩
    case hm =>
      rintro w4 S4
      have S4 := Lib.hid S4
      generalize w3.heap.size = q at *
      obtain ⟨y0, y1, y2, y3⟩ := PlanW.cells4 (S4.out.at 0 rfl)
      obtain ⟨z0, z1, z2, z3, z4⟩ := cells5 (S4.out.at 1 rfl)
      go_wp2
      go_ret3
      exact ⟨rfl, S4.out.b⟩
set_option maxHeartbeats 4000000 in
set_option maxRecDepth 100000 in
theorem rt3_any (c : Cfg) (D E L : Option Addr) (nd cd ne ce nl cl : Nat) (B : Option Addr) (nb cb : Nat) (x1 x2 x3 x4 x5 x6 x7 : Int) (g : Nat) (lo fr : Int) (d : Dt) (ok : DOk d) (W : World) (h : W.heap[g]? = some (rbx c D E L nd cd ne ce nl cl B nb cb x1 x2 x3 x4 x5 x6 x7)) (m : CM W c D E L nd cd ne ce nl cl) (e : R4) (x : Int) (h2 : entAt c d.l = some e) (h3 : e.a = fr) (h4 : e.d = d.s) (h5 : relayV c d.l lo = (x, false)) :
    Calls Try.prog 59 #[.pointer (some ⟨g, 0, none⟩), .int .i64 lo, .int .i64 fr, .agg #[.int .i64 d.c, .int .i64 d.l, .int .i64 d.n, .string d.p, .int .i64 d.s]] W fun r W' => r = .returned (.tuple #[.int .u32 (0 : Int), .int .i64 0, .int .i64 2]) ∧ Below W.heap.size W W' := by
  have S1 := Lib.hid (((Stay.start W).add h).alloc (dbx d))
  have HM := Lib.hid m
  have HN := Lib.hid (Nat.ne_of_lt (lt_of_heap h))
  obtain ⟨n, hn, hk, hlt⟩ := ent_at h2 ok.l.1
  rw [← m.nE] at hlt
  have hnE : ne ≤ 9223372036854775807 := by have := m.mE; unfold maxLen at this; omega
  obtain ⟨dc, dl, dn, dp, ds⟩ := d
  obtain rfl : dl = (n : Int) := hn
  have g0 : (n : Int) < (ne : Int) := by omega
  have g1 : decide ((ne : Int) ≤ (n : Int)) = false := decide_eq_false (by omega)
  have g4 : decide (ne ≤ n) = false := decide_eq_false (by omega)
  obtain ⟨b, off, rfl, l0, l1, l2, l3⟩ := ml_at m.he hk
  have E0 := Lib.hid l0
  have E1 := Lib.hid l1
  have E2 := Lib.hid l2
  have E3 := Lib.hid l3
  clear h ok m h2 l0 l1 l2 l3
  have g2 : (e.a != fr) = false := by rw [bne_eq_false_iff_eq]; exact h3
  have g3 : (e.d != ds) = false := by rw [bne_eq_false_iff_eq]; exact h4
  have HP := Lib.hid (fun W (hW : CM W c D (some ⟨b, off, none⟩) L nd cd ne ce nl cl) => PlanW.relay_any c D (some ⟨b, off, none⟩) L nd cd ne ce nl cl (n : Int) lo W hW)
  rw [show relayV c (n : Int) lo = (x, false) from h5] at HP
  clear h3 h4 h5
  go_enter Try.func59, Try.ntmps59
  go_wp2
  generalize W.alloc (dbx ⟨dc, (n : Int), dn, dp, ds⟩) = w2 at *
  apply wp_one
  case h =>
    refine wp_region_noPanic ?_
    refine wp_region_held_drew (S := fun Z : World => Stay W [(W.heap.size, dbx ⟨dc, (n : Int), dn, dp, ds⟩), (g, rbx c D (some ⟨b, off, none⟩) L nd cd ne ce nl cl B nb cb x1 x2 x3 x4 x5 x6 x7)] Z) (by kernel_rfl) (S1.out.drew) (fun hHeld => ?_)
    refine takeR 0 (some 13) ?_ ?_ ?_; rotate_left; (focus (intros; go_simp; (try with_reducible rfl)))
    simp only [aput, lset]
    refine takeR 1 (some 14) ?_ ?_ ?_; rotate_left; (focus (intro w hSw; (try dsimp only at hSw); obtain ⟨z0, z1, z2, z3, z4⟩ := cells5 (Stay.at hSw 0 rfl); have a6 := cell_of_row _ g 6 _ _ _ (Stay.at hSw 1 rfl); go_simp; (try with_reducible rfl)))
    simp only [aput, lset]
    refine takeR 2 (some 15) ?_ ?_ ?_; rotate_left; (focus (intros; go_simp; (try with_reducible rfl)))
    simp only [aput, lset]
    refine takeR 3 (some 16) ?_ ?_ ?_; rotate_left; (focus (intros; go_simp; (try with_reducible rfl)))
    simp only [aput, lset]
    refine takeR 4 (some 17) ?_ ?_ ?_; rotate_left; (focus (intros; go_simp; (try with_reducible rfl)))
    simp only [aput, lset]
    refine takeR 5 (some 18) ?_ ?_ ?_; rotate_left; (focus (intros; go_simp; (try with_reducible rfl)))
    simp only [aput, lset]
    refine takeR 6 (some 19) ?_ ?_ ?_; rotate_left; (focus (intro w hSw; (try dsimp only at hSw); obtain ⟨z0, z1, z2, z3, z4⟩ := cells5 (Stay.at hSw 0 rfl); have a6 := cell_of_row _ g 6 _ _ _ (Stay.at hSw 1 rfl); go_simp; (try with_reducible rfl)))
    simp only [aput, lset]
    refine takeR 7 (some 20) ?_ ?_ ?_; rotate_left; (focus (intros; go_simp; (try with_reducible rfl)))
    simp only [aput, lset]
    refine takeR 8 (some 21) ?_ ?_ ?_; rotate_left; (focus (intros; go_simp; (try with_reducible rfl)))
    simp only [aput, lset]
    refine wpAnyH_done (by kernel_rfl) ?_ _
    exact NoPanic.normal ⟨rfl, rfl, rfl⟩
  case hm =>
    have S3 := Lib.hid S1.out.drew
    have GW := HN
    clear S1
    generalize w2.drew = w3 at *
    go_wp2
    apply wp_some (S := fun Z : World => Stay W [(w3.heap.size, ebx e 58), (W.heap.size, dbx ⟨dc, (n : Int), dn, dp, ds⟩), (g, rbx c D (some ⟨b, off, none⟩) L nd cd ne ce nl cl B nb cb x1 x2 x3 x4 x5 x6 x7)] Z)
    case h =>
      refine wp_region_noPanic ?_
      refine wp_region_held_drew (S := fun Z : World => Stay W [(W.heap.size, dbx ⟨dc, (n : Int), dn, dp, ds⟩), (g, rbx c D (some ⟨b, off, none⟩) L nd cd ne ce nl cl B nb cb x1 x2 x3 x4 x5 x6 x7)] Z) (by kernel_rfl) (S3.out.drew) (fun hHeld => ?_)
      refine takeR 0 (some 22) ?_ ?_ ?_; rotate_left; (focus (intros; go_simp; (try with_reducible rfl)))
      simp only [aput, lset]
      refine takeR 1 (some 23) ?_ ?_ ?_; rotate_left; (focus (intros; go_simp; (try with_reducible rfl)))
      simp only [aput, lset]
      refine takeR 2 (some 24) ?_ ?_ ?_; rotate_left; (focus (intros; go_simp; (try with_reducible rfl)))
      simp only [aput, lset]
      refine takeR 3 (some 25) ?_ ?_ ?_; rotate_left; (focus (intros; go_simp; (try with_reducible rfl)))
      simp only [aput, lset]
      refine takeR 4 (some 26) ?_ ?_ ?_; rotate_left; (focus (intro w hSw; (try dsimp only at hSw); obtain ⟨z0, z1, z2, z3, z4⟩ := cells5 (Stay.at hSw 0 rfl); have a6 := cell_of_row _ g 6 _ _ _ (Stay.at hSw 1 rfl); have l0 := cell_keep E0.out hSw.b; have l1 := cell_keep E1.out hSw.b; have l2 := cell_keep E2.out hSw.b; have l3 := cell_keep E3.out hSw.b; go_simp; (try with_reducible rfl)))
      simp only [aput, lset]
      refine takeR 5 (some 27) ?_ ?_ ?_; rotate_left; (focus (intros; go_simp; (try with_reducible rfl)))
      simp only [aput, lset]
      refine takeR 6 (some 28) ?_ ?_ ?_; rotate_left; (focus (intro w hSw; (try dsimp only at hSw); obtain ⟨z0, z1, z2, z3, z4⟩ := cells5 (Stay.at hSw 0 rfl); have a6 := cell_of_row _ g 6 _ _ _ (Stay.at hSw 1 rfl); have l0 := cell_keep E0.out hSw.b; have l1 := cell_keep E1.out hSw.b; have l2 := cell_keep E2.out hSw.b; have l3 := cell_keep E3.out hSw.b; go_simp; (try with_reducible rfl)))
      simp only [aput, lset]
      refine takeR 7 (some 29) ?_ ?_ ?_; rotate_left; (focus (intros; go_simp; (try with_reducible rfl)))
      simp only [aput, lset]
      refine takeR 8 (some 30) ?_ ?_ ?_; rotate_left; (focus (intro w hSw; (try dsimp only at hSw); obtain ⟨z0, z1, z2, z3, z4⟩ := cells5 (Stay.at hSw 0 rfl); have a6 := cell_of_row _ g 6 _ _ _ (Stay.at hSw 1 rfl); have l0 := cell_keep E0.out hSw.b; have l1 := cell_keep E1.out hSw.b; have l2 := cell_keep E2.out hSw.b; have l3 := cell_keep E3.out hSw.b; go_simp; (try with_reducible rfl)))
      simp only [aput, lset]
      refine wpAnyH_ready (rs := [9]) (by kernel_rfl) (by simp) ?_
      refine AllReadyH.cons (o := ⟨some 11, _, _, _, _, _⟩) rfl (fun K hK => ?_) AllReadyH.nil
      rw [if_pos (by kernel_rfl)]
      go_simp
      have hS9 := Stay.next hHeld (al (Below.refl _ _) (zbx 58))
      have B9 : (World.alloc w3.drew (zbx 58)).heap[w3.heap.size]? = some (zbx 58) := heap_alloc_new w3.drew (zbx 58)
      go_simp
      refine hK.out _ _ (by assumption) (fun hHeld => ?_)
      clear hK K
      refine wpAnyH_ready (rs := [10]) (by kernel_rfl) (by simp) ?_
      refine AllReadyH.cons (o := ⟨none, _, _, _, _, _⟩) rfl (fun K hK => ?_) AllReadyH.nil
      rw [if_pos (by kernel_rfl)]
      go_simp
      have HB := Lib.hid ((S3.out.alloc (ebx e 58)).drew)
      have hS10 := (S3.out.next (al (Below.refl _ _) (ebx e 58))).drew
      go_simp
      refine hK.out _ _ (by assumption) (fun hHeld => ?_)
      clear hK K
      refine wpAnyH_done (by kernel_rfl) ?_ _
      exact NoPanic.normal ⟨rfl, rfl, HB.out⟩
    case hm =>
      rintro w4 S4
      have S4 := Lib.hid S4
      generalize w3.heap.size = q at *
      obtain ⟨y0, y1, y2, y3⟩ := PlanW.cells4 (S4.out.at 0 rfl)
      obtain ⟨z0, z1, z2, z3, z4⟩ := cells5 (S4.out.at 1 rfl)
      go_wp2
      apply wp_some (S := fun Z : World => Stay W [(q, ebx e 58), (W.heap.size, dbx ⟨dc, (n : Int), dn, dp, ds⟩), (g, rbx c D (some ⟨b, off, none⟩) L nd cd ne ce nl cl B nb cb x1 x2 x3 x4 x5 x6 x7)] Z)
      case h =>
        refine wp_region_noPanic ?_
        refine wp_region_held_drew (S := fun Z : World => Stay W [(q, ebx e 58), (W.heap.size, dbx ⟨dc, (n : Int), dn, dp, ds⟩), (g, rbx c D (some ⟨b, off, none⟩) L nd cd ne ce nl cl B nb cb x1 x2 x3 x4 x5 x6 x7)] Z) (by kernel_rfl) (S4.out.drew) (fun hHeld => ?_)
        refine takeR 0 (some 43) ?_ ?_ ?_; rotate_left; (focus (intros; go_simp; (try with_reducible rfl)))
        simp only [aput, lset]
        refine takeR 1 (some 44) ?_ ?_ ?_; rotate_left; (focus (intros; go_simp; (try with_reducible rfl)))
        simp only [aput, lset]
        refine takeR 2 (some 45) ?_ ?_ ?_; rotate_left; (focus (intros; go_simp; (try with_reducible rfl)))
        simp only [aput, lset]
        refine takeR 3 (some 46) ?_ ?_ ?_; rotate_left; (focus (intro w hSw; (try dsimp only at hSw); obtain ⟨z0, z1, z2, z3, z4⟩ := cells5 (Stay.at hSw 1 rfl); have a0 := cell_of_row _ g 0 _ _ _ (Stay.at hSw 2 rfl); have a1 := cell_of_row _ g 1 _ _ _ (Stay.at hSw 2 rfl); have a2 := cell_of_row _ g 2 _ _ _ (Stay.at hSw 2 rfl); have a3 := cell_of_row _ g 3 _ _ _ (Stay.at hSw 2 rfl); have a4 := cell_of_row _ g 4 _ _ _ (Stay.at hSw 2 rfl); have a5 := cell_of_row _ g 5 _ _ _ (Stay.at hSw 2 rfl); have a6 := cell_of_row _ g 6 _ _ _ (Stay.at hSw 2 rfl); have a7 := cell_of_row _ g 7 _ _ _ (Stay.at hSw 2 rfl); have a8 := cell_of_row _ g 8 _ _ _ (Stay.at hSw 2 rfl); go_simp; (try with_reducible rfl)))
        simp only [aput, lset]
        refine takeR 4 (some 47) ?_ ?_ ?_; rotate_left; (focus (intros; go_simp; (try with_reducible rfl)))
        simp only [aput, lset]
        refine takeR 5 (some 48) ?_ ?_ ?_; rotate_left; (focus (intro w hSw; (try dsimp only at hSw); obtain ⟨z0, z1, z2, z3, z4⟩ := cells5 (Stay.at hSw 1 rfl); have a0 := cell_of_row _ g 0 _ _ _ (Stay.at hSw 2 rfl); have a1 := cell_of_row _ g 1 _ _ _ (Stay.at hSw 2 rfl); have a2 := cell_of_row _ g 2 _ _ _ (Stay.at hSw 2 rfl); have a3 := cell_of_row _ g 3 _ _ _ (Stay.at hSw 2 rfl); have a4 := cell_of_row _ g 4 _ _ _ (Stay.at hSw 2 rfl); have a5 := cell_of_row _ g 5 _ _ _ (Stay.at hSw 2 rfl); have a6 := cell_of_row _ g 6 _ _ _ (Stay.at hSw 2 rfl); have a7 := cell_of_row _ g 7 _ _ _ (Stay.at hSw 2 rfl); have a8 := cell_of_row _ g 8 _ _ _ (Stay.at hSw 2 rfl); go_simp; (try with_reducible rfl)))
        simp only [aput, lset]
        refine takeR 6 (some 49) ?_ ?_ ?_; rotate_left; (focus (intros; go_simp; (try with_reducible rfl)))
        simp only [aput, lset]
        refine wpAnyH_ready (rs := [7]) (by kernel_rfl) (by simp) ?_
        refine AllReadyH.cons (o := ⟨some 50, _, _, _, _, _⟩) rfl (fun K hK => ?_) AllReadyH.nil
        rw [if_pos (by kernel_rfl)]
        go_simp
        refine (HP.out _ (HM.out.below (Stay.b hHeld))).mono ?_
        rintro r w9 ⟨rfl, b9⟩
        have hS9 := Stay.next hHeld b9
        clear b9
        go_simp
        refine hK.out _ _ (by assumption) (fun hHeld => ?_)
        clear hK K
        refine takeR 8 (some 42) ?_ ?_ ?_; rotate_left; (focus (intros; go_simp; (try with_reducible rfl)))
        simp only [aput, lset]
        refine takeR 9 (some 51) ?_ ?_ ?_; rotate_left; (focus (intros; go_simp; (try with_reducible rfl)))
        simp only [aput, lset]
        refine takeR 10 (some 52) ?_ ?_ ?_; rotate_left; (focus (intros; go_simp; (try with_reducible rfl)))
        simp only [aput, lset]
        refine takeR 11 (some 9) ?_ ?_ ?_; rotate_left; (focus (intros; go_simp; (try with_reducible rfl)))
        simp only [aput, lset]
        refine takeR 12 (some 12) ?_ ?_ ?_; rotate_left; (focus (intros; go_simp; (try with_reducible rfl)))
        simp only [aput, lset]
        refine wpAnyH_done (by kernel_rfl) ?_ _
        exact NoPanic.normal ⟨rfl, rfl, hS9⟩
      case hm =>
        rintro w5 S5
        have S5 := Lib.hid S5
        clear S4 y0 y1 y2 y3 z0 z1 z2 z3 z4
        obtain ⟨y0, y1, y2, y3⟩ := PlanW.cells4 (S5.out.at 0 rfl)
        go_wp2
        go_ret3
        exact ⟨rfl, S5.out.b⟩
set_option maxHeartbeats 4000000 in
set_option maxRecDepth 100000 in
theorem rt4_any (c : Cfg) (D E L : Option Addr) (nd cd ne ce nl cl : Nat) (B : Option Addr) (nb cb : Nat) (x1 x2 x3 x4 x5 x6 x7 : Int) (g : Nat) (lo fr : Int) (d : Dt) (ok : DOk d) (W : World) (h : W.heap[g]? = some (rbx c D E L nd cd ne ce nl cl B nb cb x1 x2 x3 x4 x5 x6 x7)) (m : CM W c D E L nd cd ne ce nl cl) (e : R4) (x : Int) (h2 : entAt c d.l = some e) (h3 : e.a = fr) (h4 : e.d = d.s) (h5 : relayV c d.l lo = (x, true)) :
    Calls Try.prog 59 #[.pointer (some ⟨g, 0, none⟩), .int .i64 lo, .int .i64 fr, .agg #[.int .i64 d.c, .int .i64 d.l, .int .i64 d.n, .string d.p, .int .i64 d.s]] W fun r W' => r = .returned (.tuple #[.int .u32 (e.b : Int), .int .i64 x, .int .i64 0]) ∧ Below W.heap.size W W' := by
  have S1 := Lib.hid (((Stay.start W).add h).alloc (dbx d))
  have HM := Lib.hid m
  have HN := Lib.hid (Nat.ne_of_lt (lt_of_heap h))
  obtain ⟨n, hn, hk, hlt⟩ := ent_at h2 ok.l.1
  rw [← m.nE] at hlt
  have hnE : ne ≤ 9223372036854775807 := by have := m.mE; unfold maxLen at this; omega
  obtain ⟨dc, dl, dn, dp, ds⟩ := d
  obtain rfl : dl = (n : Int) := hn
  have g0 : (n : Int) < (ne : Int) := by omega
  have g1 : decide ((ne : Int) ≤ (n : Int)) = false := decide_eq_false (by omega)
  have g4 : decide (ne ≤ n) = false := decide_eq_false (by omega)
  obtain ⟨b, off, rfl, l0, l1, l2, l3⟩ := ml_at m.he hk
  have E0 := Lib.hid l0
  have E1 := Lib.hid l1
  have E2 := Lib.hid l2
  have E3 := Lib.hid l3
  clear h ok m h2 l0 l1 l2 l3
  have g2 : (e.a != fr) = false := by rw [bne_eq_false_iff_eq]; exact h3
  have g3 : (e.d != ds) = false := by rw [bne_eq_false_iff_eq]; exact h4
  have HP := Lib.hid (fun W (hW : CM W c D (some ⟨b, off, none⟩) L nd cd ne ce nl cl) => PlanW.relay_any c D (some ⟨b, off, none⟩) L nd cd ne ce nl cl (n : Int) lo W hW)
  rw [show relayV c (n : Int) lo = (x, true) from h5] at HP
  clear h3 h4 h5
  go_enter Try.func59, Try.ntmps59
  go_wp2
  generalize W.alloc (dbx ⟨dc, (n : Int), dn, dp, ds⟩) = w2 at *
  apply wp_one
  case h =>
    refine wp_region_noPanic ?_
    refine wp_region_held_drew (S := fun Z : World => Stay W [(W.heap.size, dbx ⟨dc, (n : Int), dn, dp, ds⟩), (g, rbx c D (some ⟨b, off, none⟩) L nd cd ne ce nl cl B nb cb x1 x2 x3 x4 x5 x6 x7)] Z) (by kernel_rfl) (S1.out.drew) (fun hHeld => ?_)
    refine takeR 0 (some 13) ?_ ?_ ?_; rotate_left; (focus (intros; go_simp; (try with_reducible rfl)))
    simp only [aput, lset]
    refine takeR 1 (some 14) ?_ ?_ ?_; rotate_left; (focus (intro w hSw; (try dsimp only at hSw); obtain ⟨z0, z1, z2, z3, z4⟩ := cells5 (Stay.at hSw 0 rfl); have a6 := cell_of_row _ g 6 _ _ _ (Stay.at hSw 1 rfl); go_simp; (try with_reducible rfl)))
    simp only [aput, lset]
    refine takeR 2 (some 15) ?_ ?_ ?_; rotate_left; (focus (intros; go_simp; (try with_reducible rfl)))
    simp only [aput, lset]
    refine takeR 3 (some 16) ?_ ?_ ?_; rotate_left; (focus (intros; go_simp; (try with_reducible rfl)))
    simp only [aput, lset]
    refine takeR 4 (some 17) ?_ ?_ ?_; rotate_left; (focus (intros; go_simp; (try with_reducible rfl)))
    simp only [aput, lset]
    refine takeR 5 (some 18) ?_ ?_ ?_; rotate_left; (focus (intros; go_simp; (try with_reducible rfl)))
    simp only [aput, lset]
    refine takeR 6 (some 19) ?_ ?_ ?_; rotate_left; (focus (intro w hSw; (try dsimp only at hSw); obtain ⟨z0, z1, z2, z3, z4⟩ := cells5 (Stay.at hSw 0 rfl); have a6 := cell_of_row _ g 6 _ _ _ (Stay.at hSw 1 rfl); go_simp; (try with_reducible rfl)))
    simp only [aput, lset]
    refine takeR 7 (some 20) ?_ ?_ ?_; rotate_left; (focus (intros; go_simp; (try with_reducible rfl)))
    simp only [aput, lset]
    refine takeR 8 (some 21) ?_ ?_ ?_; rotate_left; (focus (intros; go_simp; (try with_reducible rfl)))
    simp only [aput, lset]
    refine wpAnyH_done (by kernel_rfl) ?_ _
    exact NoPanic.normal ⟨rfl, rfl, rfl⟩
  case hm =>
    have S3 := Lib.hid S1.out.drew
    have GW := HN
    clear S1
    generalize w2.drew = w3 at *
    go_wp2
    apply wp_some (S := fun Z : World => Stay W [(w3.heap.size, ebx e 58), (W.heap.size, dbx ⟨dc, (n : Int), dn, dp, ds⟩), (g, rbx c D (some ⟨b, off, none⟩) L nd cd ne ce nl cl B nb cb x1 x2 x3 x4 x5 x6 x7)] Z)
    case h =>
      refine wp_region_noPanic ?_
      refine wp_region_held_drew (S := fun Z : World => Stay W [(W.heap.size, dbx ⟨dc, (n : Int), dn, dp, ds⟩), (g, rbx c D (some ⟨b, off, none⟩) L nd cd ne ce nl cl B nb cb x1 x2 x3 x4 x5 x6 x7)] Z) (by kernel_rfl) (S3.out.drew) (fun hHeld => ?_)
      refine takeR 0 (some 22) ?_ ?_ ?_; rotate_left; (focus (intros; go_simp; (try with_reducible rfl)))
      simp only [aput, lset]
      refine takeR 1 (some 23) ?_ ?_ ?_; rotate_left; (focus (intros; go_simp; (try with_reducible rfl)))
      simp only [aput, lset]
      refine takeR 2 (some 24) ?_ ?_ ?_; rotate_left; (focus (intros; go_simp; (try with_reducible rfl)))
      simp only [aput, lset]
      refine takeR 3 (some 25) ?_ ?_ ?_; rotate_left; (focus (intros; go_simp; (try with_reducible rfl)))
      simp only [aput, lset]
      refine takeR 4 (some 26) ?_ ?_ ?_; rotate_left; (focus (intro w hSw; (try dsimp only at hSw); obtain ⟨z0, z1, z2, z3, z4⟩ := cells5 (Stay.at hSw 0 rfl); have a6 := cell_of_row _ g 6 _ _ _ (Stay.at hSw 1 rfl); have l0 := cell_keep E0.out hSw.b; have l1 := cell_keep E1.out hSw.b; have l2 := cell_keep E2.out hSw.b; have l3 := cell_keep E3.out hSw.b; go_simp; (try with_reducible rfl)))
      simp only [aput, lset]
      refine takeR 5 (some 27) ?_ ?_ ?_; rotate_left; (focus (intros; go_simp; (try with_reducible rfl)))
      simp only [aput, lset]
      refine takeR 6 (some 28) ?_ ?_ ?_; rotate_left; (focus (intro w hSw; (try dsimp only at hSw); obtain ⟨z0, z1, z2, z3, z4⟩ := cells5 (Stay.at hSw 0 rfl); have a6 := cell_of_row _ g 6 _ _ _ (Stay.at hSw 1 rfl); have l0 := cell_keep E0.out hSw.b; have l1 := cell_keep E1.out hSw.b; have l2 := cell_keep E2.out hSw.b; have l3 := cell_keep E3.out hSw.b; go_simp; (try with_reducible rfl)))
      simp only [aput, lset]
      refine takeR 7 (some 29) ?_ ?_ ?_; rotate_left; (focus (intros; go_simp; (try with_reducible rfl)))
      simp only [aput, lset]
      refine takeR 8 (some 30) ?_ ?_ ?_; rotate_left; (focus (intro w hSw; (try dsimp only at hSw); obtain ⟨z0, z1, z2, z3, z4⟩ := cells5 (Stay.at hSw 0 rfl); have a6 := cell_of_row _ g 6 _ _ _ (Stay.at hSw 1 rfl); have l0 := cell_keep E0.out hSw.b; have l1 := cell_keep E1.out hSw.b; have l2 := cell_keep E2.out hSw.b; have l3 := cell_keep E3.out hSw.b; go_simp; (try with_reducible rfl)))
      simp only [aput, lset]
      refine wpAnyH_ready (rs := [9]) (by kernel_rfl) (by simp) ?_
      refine AllReadyH.cons (o := ⟨some 11, _, _, _, _, _⟩) rfl (fun K hK => ?_) AllReadyH.nil
      rw [if_pos (by kernel_rfl)]
      go_simp
      have hS9 := Stay.next hHeld (al (Below.refl _ _) (zbx 58))
      have B9 : (World.alloc w3.drew (zbx 58)).heap[w3.heap.size]? = some (zbx 58) := heap_alloc_new w3.drew (zbx 58)
      go_simp
      refine hK.out _ _ (by assumption) (fun hHeld => ?_)
      clear hK K
      refine wpAnyH_ready (rs := [10]) (by kernel_rfl) (by simp) ?_
      refine AllReadyH.cons (o := ⟨none, _, _, _, _, _⟩) rfl (fun K hK => ?_) AllReadyH.nil
      rw [if_pos (by kernel_rfl)]
      go_simp
      have HB := Lib.hid ((S3.out.alloc (ebx e 58)).drew)
      have hS10 := (S3.out.next (al (Below.refl _ _) (ebx e 58))).drew
      go_simp
      refine hK.out _ _ (by assumption) (fun hHeld => ?_)
      clear hK K
      refine wpAnyH_done (by kernel_rfl) ?_ _
      exact NoPanic.normal ⟨rfl, rfl, HB.out⟩
    case hm =>
      rintro w4 S4
      have S4 := Lib.hid S4
      generalize w3.heap.size = q at *
      obtain ⟨y0, y1, y2, y3⟩ := PlanW.cells4 (S4.out.at 0 rfl)
      obtain ⟨z0, z1, z2, z3, z4⟩ := cells5 (S4.out.at 1 rfl)
      go_wp2
      apply wp_some (S := fun Z : World => Stay W [(q, ebx e 58), (W.heap.size, dbx ⟨dc, (n : Int), dn, dp, ds⟩), (g, rbx c D (some ⟨b, off, none⟩) L nd cd ne ce nl cl B nb cb x1 x2 x3 x4 x5 x6 x7)] Z)
      case h =>
        refine wp_region_noPanic ?_
        refine wp_region_held_drew (S := fun Z : World => Stay W [(q, ebx e 58), (W.heap.size, dbx ⟨dc, (n : Int), dn, dp, ds⟩), (g, rbx c D (some ⟨b, off, none⟩) L nd cd ne ce nl cl B nb cb x1 x2 x3 x4 x5 x6 x7)] Z) (by kernel_rfl) (S4.out.drew) (fun hHeld => ?_)
        refine takeR 0 (some 43) ?_ ?_ ?_; rotate_left; (focus (intros; go_simp; (try with_reducible rfl)))
        simp only [aput, lset]
        refine takeR 1 (some 44) ?_ ?_ ?_; rotate_left; (focus (intros; go_simp; (try with_reducible rfl)))
        simp only [aput, lset]
        refine takeR 2 (some 45) ?_ ?_ ?_; rotate_left; (focus (intros; go_simp; (try with_reducible rfl)))
        simp only [aput, lset]
        refine takeR 3 (some 46) ?_ ?_ ?_; rotate_left; (focus (intro w hSw; (try dsimp only at hSw); obtain ⟨z0, z1, z2, z3, z4⟩ := cells5 (Stay.at hSw 1 rfl); have a0 := cell_of_row _ g 0 _ _ _ (Stay.at hSw 2 rfl); have a1 := cell_of_row _ g 1 _ _ _ (Stay.at hSw 2 rfl); have a2 := cell_of_row _ g 2 _ _ _ (Stay.at hSw 2 rfl); have a3 := cell_of_row _ g 3 _ _ _ (Stay.at hSw 2 rfl); have a4 := cell_of_row _ g 4 _ _ _ (Stay.at hSw 2 rfl); have a5 := cell_of_row _ g 5 _ _ _ (Stay.at hSw 2 rfl); have a6 := cell_of_row _ g 6 _ _ _ (Stay.at hSw 2 rfl); have a7 := cell_of_row _ g 7 _ _ _ (Stay.at hSw 2 rfl); have a8 := cell_of_row _ g 8 _ _ _ (Stay.at hSw 2 rfl); go_simp; (try with_reducible rfl)))
        simp only [aput, lset]
        refine takeR 4 (some 47) ?_ ?_ ?_; rotate_left; (focus (intros; go_simp; (try with_reducible rfl)))
        simp only [aput, lset]
        refine takeR 5 (some 48) ?_ ?_ ?_; rotate_left; (focus (intro w hSw; (try dsimp only at hSw); obtain ⟨z0, z1, z2, z3, z4⟩ := cells5 (Stay.at hSw 1 rfl); have a0 := cell_of_row _ g 0 _ _ _ (Stay.at hSw 2 rfl); have a1 := cell_of_row _ g 1 _ _ _ (Stay.at hSw 2 rfl); have a2 := cell_of_row _ g 2 _ _ _ (Stay.at hSw 2 rfl); have a3 := cell_of_row _ g 3 _ _ _ (Stay.at hSw 2 rfl); have a4 := cell_of_row _ g 4 _ _ _ (Stay.at hSw 2 rfl); have a5 := cell_of_row _ g 5 _ _ _ (Stay.at hSw 2 rfl); have a6 := cell_of_row _ g 6 _ _ _ (Stay.at hSw 2 rfl); have a7 := cell_of_row _ g 7 _ _ _ (Stay.at hSw 2 rfl); have a8 := cell_of_row _ g 8 _ _ _ (Stay.at hSw 2 rfl); go_simp; (try with_reducible rfl)))
        simp only [aput, lset]
        refine takeR 6 (some 49) ?_ ?_ ?_; rotate_left; (focus (intros; go_simp; (try with_reducible rfl)))
        simp only [aput, lset]
        refine wpAnyH_ready (rs := [7]) (by kernel_rfl) (by simp) ?_
        refine AllReadyH.cons (o := ⟨some 50, _, _, _, _, _⟩) rfl (fun K hK => ?_) AllReadyH.nil
        rw [if_pos (by kernel_rfl)]
        go_simp
        refine (HP.out _ (HM.out.below (Stay.b hHeld))).mono ?_
        rintro r w9 ⟨rfl, b9⟩
        have hS9 := Stay.next hHeld b9
        clear b9
        go_simp
        refine hK.out _ _ (by assumption) (fun hHeld => ?_)
        clear hK K
        refine takeR 8 (some 42) ?_ ?_ ?_; rotate_left; (focus (intros; go_simp; (try with_reducible rfl)))
        simp only [aput, lset]
        refine takeR 9 (some 51) ?_ ?_ ?_; rotate_left; (focus (intros; go_simp; (try with_reducible rfl)))
        simp only [aput, lset]
        refine takeR 10 (some 52) ?_ ?_ ?_; rotate_left; (focus (intros; go_simp; (try with_reducible rfl)))
        simp only [aput, lset]
        refine takeR 11 (some 9) ?_ ?_ ?_; rotate_left; (focus (intros; go_simp; (try with_reducible rfl)))
        simp only [aput, lset]
        refine takeR 12 (some 12) ?_ ?_ ?_; rotate_left; (focus (intros; go_simp; (try with_reducible rfl)))
        simp only [aput, lset]
        refine wpAnyH_done (by kernel_rfl) ?_ _
        exact NoPanic.normal ⟨rfl, rfl, hS9⟩
      case hm =>
        rintro w5 S5
        have S5 := Lib.hid S5
        clear S4 y0 y1 y2 y3 z0 z1 z2 z3 z4
        obtain ⟨y0, y1, y2, y3⟩ := PlanW.cells4 (S5.out.at 0 rfl)
        go_wp2
        go_ret3
        exact ⟨rfl, S5.out.b⟩
end Go.Proofs.Ytecgpibidcifpaa.RelayW

/- Frames that came in, opened. -/
namespace Go.Proofs.Ytecgpibidcifpaa.RelayW
open Go.ChangeShapes Go.WideShapes Go.ChangeAt Go.RowKit Shell
open FrameW (BL)
section
variable {H : Type} {enc : TypeId × Value → H}
theorem bytes_in {W : World} {n : Nat} {v : Value} {y : DataW H × List MemPlace} (hf : DataW.trod enc Try.prog W 0 (fun _ => true) true n 37 [v] = some y) :
    ∃ (A : Option Addr) (xs : List Int) (c : Nat), v = .slice A xs.length c ∧ BL W A xs ∧ xs.length ≤ maxLen ∧ xs.length ≤ c ∧ (A = none → c = 0) ∧ (xs = [] ∨ ∃ es sp, y.1 = .slice es sp ∧ xs.length = es.length) := by
  rcases Go.Deep.open_slice1 Try.underlying37 (by kernel_rfl) hf with ⟨h1, _⟩ | ⟨a, len, cap, m, k, V, D, Pl, h1, _, hl, hm, hmm, hdat, hx⟩
  · injection h1 with h1 _
    subst h1
    exact ⟨none, [], 0, rfl, fun k x h => by simp at h, by decide, Nat.le_refl _, fun _ => rfl, Or.inl rfl⟩
  · injection h1 with h1 _
    subst h1
    have hb : ∀ i, i < len → ∃ b : Int, W.cell? (a.add i) = some (.int .u8 b) ∧ 0 ≤ b ∧ b < 256 := by
      intro i hi
      obtain ⟨h2, h3⟩ := hx i (by rw [hmm]; simp; omega)
      obtain ⟨b, hv, hlt⟩ := trod_num Try.underlying5 h3
      exact ⟨b, by rw [h2, hv], u8_bound hlt⟩
    obtain ⟨f, hfn⟩ := Go.Deep.choose_lt (α := Int) (p := fun i b => W.cell? (a.add i) = some (.int .u8 b) ∧ 0 ≤ b ∧ b < 256) hb
    refine ⟨some a, (List.range len).map f, cap, by simp, ?_, by simp; omega, by simp; exact hl, fun h => (by cases h), Or.inr ⟨_, _, congrArg (·.1) hdat, by simp⟩⟩
    intro i x hix
    have hi : i < len := by
      have := lt_of_get hix
      simpa using this
    have : x = f i := by
      rw [List.getElem?_map, List.getElem?_range hi] at hix
      exact (Option.some.inj hix).symm
    subst this
    exact ⟨a, rfl, (hfn i hi).1, (hfn i hi).2⟩
theorem four_l {l : List Value} (h : l.length = 4) : ∃ a b c d, l = [a, b, c, d] := by
  match l, h with
  | [a, b, c, d], _ => exact ⟨a, b, c, d, rfl⟩
set_option maxRecDepth 100000 in
theorem op_cs {W : World} {n : Nat} {cs : List Value} {y : DataW H × List MemPlace} (hf : DataW.trod enc Try.prog W 0 (fun _ => true) true n 39 cs = some y) (hl : cs.length = 4) :
    ∃ o : Op, cs = [.int .i64 o.t, .int .i64 o.lc, .int .i64 o.fr, .slice o.A o.l.length o.cp] ∧ BL W o.A o.l ∧ o.l.length ≤ maxLen ∧ o.l.length ≤ o.cp ∧ (o.A = none → o.cp = 0) ∧ ∃ ys, y.1 = .agg ys ∧ (o.l = [] ∨ ∃ es sp, ys[3]? = some (.slice es sp) ∧ o.l.length = es.length) := by
  obtain ⟨x0, x1, x2, x3, rfl⟩ := four_l hl
  obtain ⟨ys, k', hk1, hk2, hk3, hyl, hg⟩ := DataW.trod_struct Try.underlying39 hf
  obtain ⟨y0, _, h0⟩ := ConfW.field_at hg hyl 0 2 _ x0 rfl rfl rfl (by kernel_rfl) rfl
  obtain ⟨y1, _, h1⟩ := ConfW.field_at hg hyl 1 2 _ x1 rfl rfl rfl (by kernel_rfl) rfl
  obtain ⟨y2, _, h2⟩ := ConfW.field_at hg hyl 2 3 _ x2 rfl rfl rfl (by kernel_rfl) rfl
  obtain ⟨y3, e3, h3⟩ := ConfW.field_at hg hyl 3 37 _ x3 rfl rfl rfl (by kernel_rfl) rfl
  obtain ⟨z0, rfl, -⟩ := trod_num Try.underlying2 h0
  obtain ⟨z1, rfl, -⟩ := trod_num Try.underlying2 h1
  obtain ⟨z2, rfl, -⟩ := trod_num Try.underlying3 h2
  obtain ⟨A, xs, c, rfl, b1, b2, b3, b5, b4⟩ := bytes_in h3
  refine ⟨⟨z0, z1, z2, A, xs, c⟩, rfl, b1, b2, b3, b5, ys.map (·.1), by rw [hk2], ?_⟩
  rcases b4 with h | ⟨es, sp, hy, hn⟩
  · exact Or.inl h
  · exact Or.inr ⟨es, sp, by rw [List.getElem?_map, e3, Option.map_some, hy], hn⟩
set_option maxRecDepth 100000 in
theorem open_op {W : World} {r : Reach} {b0 : Nat} {v : Value} {d : DataW H} {ps : List MemPlace}
    (hval : Value.okWide Try.prog W r b0 39 v) (hd : DataW.Trod enc Try.prog W 0 (fun _ => true) true 39 v d ps) : ∃ o : Op, v = .agg #[.int .i64 o.t, .int .i64 o.lc, .int .i64 o.fr, .slice o.A o.l.length o.cp] ∧ BL W o.A o.l ∧ o.l.length ≤ maxLen ∧ o.l.length ≤ o.cp ∧ (o.A = none → o.cp = 0) ∧ ∃ ys, d = .agg ys ∧ (o.l = [] ∨ ∃ es sp, ys[3]? = some (.slice es sp) ∧ o.l.length = es.length) := by
  simp only [Value.okWide, Try.underlying39] at hval
  obtain ⟨cs, rfl, hsz, -⟩ := hval
  rw [show Try.prog.cellsOf 39 = 4 by kernel_rfl] at hsz
  obtain ⟨fuel, hf⟩ := hd
  obtain ⟨o, h1, h2, h3, h4, h6, h5⟩ := op_cs (cs := cs.toList) (by simpa [Value.cells] using hf) (by simpa using hsz)
  refine ⟨o, ?_, h2, h3, h4, h6, h5⟩
  congr 1
  exact Array.toList_inj.1 h1
set_option maxRecDepth 100000 in
theorem open_ops {W : World} {r : Reach} {b0 : Nat} {v : Value} {d : DataW H} {ps : List MemPlace}
    (hval : Value.okWide Try.prog W r b0 27 v) (hd : DataW.Trod enc Try.prog W 0 (fun _ => true) true 27 v d ps) : ∃ (A : Option Addr) (ops : List Op) (c : Nat), v = .slice A ops.length c ∧ OPS W A ops ∧ ops.length ≤ maxLen ∧ ops.length ≤ c ∧ (ops = [] ∨ ∃ es sp, d = .slice es sp ∧ ops.length = es.length) := by
  obtain ⟨A, n, c, rfl⟩ := slice_val Try.underlying27 hval
  obtain ⟨fuel, hf⟩ := hd
  rcases Go.Deep.open_slice Try.underlying27 hf with ⟨h1, _⟩ | ⟨a, len, cap, m, k, D, Pl, h1, _, hl, hm, hmm, hdat, hx⟩
  · simp only [Value.cells] at h1
    injection h1 with h1 _
    injection h1 with e1 e2 e3
    subst e1; subst e2; subst e3
    exact ⟨none, [], 0, rfl, fun k x h => by simp at h, by decide, Nat.le_refl _, Or.inl rfl⟩
  · simp only [Value.cells] at h1
    injection h1 with h1 _
    injection h1 with e1 e2 e3
    subst e1; subst e2; subst e3
    have each : ∀ i, i < n → ∃ o : Op, ∃ b off, a = ⟨b, off, none⟩ ∧ W.cell? ⟨b, off + i * 4, none⟩ = some (.int .i64 o.t) ∧ W.cell? ⟨b, off + i * 4 + 1, none⟩ = some (.int .i64 o.lc) ∧ W.cell? ⟨b, off + i * 4 + 2, none⟩ = some (.int .i64 o.fr) ∧ W.cell? ⟨b, off + i * 4 + 3, none⟩ = some (.slice o.A o.l.length o.cp) ∧ BL W o.A o.l ∧ o.l.length ≤ 9223372036854775807 ∧ o.l.length ≤ o.cp := by
      intro i hi
      obtain ⟨cs, h2, h3⟩ := hx i (by rw [hmm]; simp; omega)
      rw [show Try.prog.cellsOf 39 = 4 by kernel_rfl] at h2
      obtain ⟨-, hlen, hcell⟩ := World.cells?_some h2
      obtain ⟨o, rfl, g1, g2, g3, -⟩ := op_cs h3 hlen
      obtain ⟨cs0, h20, h30⟩ := hx 0 (by rw [hmm]; simp; omega)
      rw [show Try.prog.cellsOf 39 = 4 by kernel_rfl] at h20
      obtain ⟨-, hlen0, hcell0⟩ := World.cells?_some h20
      obtain ⟨o0, rfl, -⟩ := op_cs h30 hlen0
      obtain ⟨b, off, spot⟩ := a
      have hspot : spot = none := by
        have h4 := World.cell?_spot (hcell0 0 (by decide))
        simpa [Addr.add] using h4
      subst hspot
      have ha : ∀ j, (⟨b, off, none⟩ : Addr).add (i * 4 + j) = ⟨b, off + i * 4 + j, none⟩ := fun j => by unfold Addr.add; split <;> simp_all; omega
      have hc : ∀ j, j < 4 → W.cell? ⟨b, off + i * 4 + j, none⟩ = ([.int .i64 o.t, .int .i64 o.lc, .int .i64 o.fr, .slice o.A o.l.length o.cp] : List Value)[j]? := fun j hj => by
        have h5 := hcell j hj
        rw [Go.Deep.add_add, ha] at h5
        exact h5
      exact ⟨o, b, off, rfl, hc 0 (by decide), hc 1 (by decide), hc 2 (by decide), hc 3 (by decide), g1, by unfold maxLen at g2; omega, g3⟩
    obtain ⟨f, hfn⟩ := @Go.Deep.choose_lt Op ⟨⟨0, 0, 0, none, [], 0⟩⟩ _ _ each
    refine ⟨some a, (List.range n).map f, c, by simp, ?_, by simp; omega, by simp; exact hl, Or.inr ⟨_, _, congrArg (·.1) hdat, by simp⟩⟩
    intro i x hix
    have hi : i < n := by
      have := lt_of_get hix
      simpa using this
    have : x = f i := by
      rw [List.getElem?_map, List.getElem?_range hi] at hix
      exact (Option.some.inj hix).symm
    subst this
    obtain ⟨b, off, ha, hcs⟩ := hfn i hi
    exact ⟨b, off, by rw [ha], hcs⟩
set_option maxRecDepth 100000 in
/-- The frame that came is as long as the memory allows. -/
theorem sized_op {ts : List TypeId} {ds : List (DataW H)} (h : (DataW.weightsEach Try.prog ts ds).all (· ≤ reachBytes) = true) {j : Nat} {ys : List (DataW H)} (ht : ts[j]? = some 39) (hd : ds[j]? = some (.agg ys)) {l : List Int}
    (s : l = [] ∨ ∃ es sp, ys[3]? = some (.slice es sp) ∧ l.length = es.length) : l.length ≤ 140737488351232 := by
  have hu := Try.underlying39
  have hall : ∀ n ∈ (DataW.agg ys).weights Try.prog 39, n ≤ reachBytes := fun n hn => by
    have := List.all_eq_true.1 h _ (DataW.weights_mem_each ht hd n hn)
    simpa using this
  simp only [DataW.weights, hu] at hall
  rcases s with h0 | ⟨es, sp, h1, h2⟩
  · rw [h0]; simp
  · have h3 : (es.length + sp.length) * Try.prog.bytesOf 5 ≤ 140737488351232 := hall _ (DataW.weights_mem_each (ts := List.map (fun f : Field => f.type) (Try.prog.fieldsOf 39).toList) (by kernel_rfl : _ = some 37) h1 _ (by simp [DataW.weights, Try.underlying37]))
    rw [show Try.prog.bytesOf 5 = 1 by kernel_rfl] at h3
    omega
end
end Go.Proofs.Ytecgpibidcifpaa.RelayW
