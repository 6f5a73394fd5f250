/- The landed round: a switch's frame at a host; a clock is set on; a host is corrected. -/
import Derived.Test.YtmagjekmlnpfpaaGreatTake
import Derived.Test.YtmagjekmlnpfpaaGreatCompCJa
import Derived.Test.YtmagjekmlnpfpaaGreatAlignE
import Derived.Test.YtmagjekmlnpfpaaGreatCompMJa
import Derived.Test.YtmagjekmlnpfpaaGreatConfHJa
import Derived.Test.YtmagjekmlnpfpaaGreatRoundAJa
import Derived.Test.YtmagjekmlnpfpaaGreatRoundIJa
import Derived.Laws.Tables
import Derived.Test.YtmagjekmlnpfpaaGreatShelfM
import Derived.Test.YtmagjekmlnpfpaaGreatRoundTk
import Derived.Test.YtmagjekmlnpfpaaGreatConfVJa
namespace Go.Proofs.YtmagjekmlnpfpaaGreat.RoundW
open Shell (takeR skipR aput lset)
open Go.RowKit Shell
open ConfW (Cfg CM chk)
open CrewW (has mem)
open ClockW (CK sh wh CI tell tell_iff)
open FrameW (CV rightC)
open AlignW (PA abx exC acC zB zC upd bsB bsC hrd bet okT okT_iff okF okF_iff expV)
theorem du1_in {k : Ck} (hk : CkOk k) {t cl d x : Int} (h : du1 k t cl d = some x) : (0 ≤ x ∧ x ≤ 1125899906842624) ∧ k.m ≤ x := by
  unfold du1 at h
  split at h
  · split at h
    · cases h
    · rename_i h3
      have hx := Option.some.inj h
      have h4 := whn_in hk (n := sho k t + d - cl)
      rcases h4 with ⟨h5, -⟩ | ⟨-, h5, h6, h7⟩
      · exact absurd h5 h3
      · rw [h5, hx] at h6 h7
        have := hk.m0
        omega
  · cases h
theorem lnow {k : Ck} (hk : CkOk k) {p : Nat} {w : World} (c : CK w p k.m k.b k.r) {t : Int} (h0 : 0 ≤ t ∧ t ≤ 1125899906842624) (h1 : k.m ≤ t) : Calls Tryz.prog 54 #[.pointer (some ⟨p, 0, none⟩), .int .i64 t] w fun e w' => e = .returned (.tuple #[.int .i64 (sho k t), .int .i64 0]) ∧ Below w.heap.size w w' :=
  ClockW.now_ok p k.m k.b k.r t w c hk.ci (tell_iff.2 ⟨h0, h1⟩)
/-- When a frame is permanent, as Due tells it. -/
theorem ldue {k : Ck} (hk : CkOk k) (p : Nat) {t cl d : Int} (hd : 0 ≤ d ∧ d ≤ 1048576) (hcl : 0 ≤ cl ∧ cl ≤ d) : ∃ a e : Int, ((du1 k t cl d = none ∧ e ≠ 0) ∨ (du1 k t cl d = some a ∧ e = 0)) ∧ ∀ w : World, CK w p k.m k.b k.r → Calls Tryz.prog 142 #[.pointer (some ⟨p, 0, none⟩), .int .i64 t, .int .i64 cl, .int .i64 d] w fun r w' => r = .returned (.tuple #[.int .i64 a, .int .i64 e]) ∧ Below w.heap.size w w' := by
  refine ⟨(du k.m k.b k.r t cl d (tell k.m t)).1, (du k.m k.b k.r t cl d (tell k.m t)).2, ?_, fun w ck => due_any p k.m k.b k.r t cl d w ck hk.ci⟩
  by_cases h1 : (0 ≤ t ∧ t ≤ 1125899906842624) ∧ k.m ≤ t
  · have e : du k.m k.b k.r t cl d true = if sh k.m k.b k.r 1125899906842624 < sh k.m k.b k.r t + d - cl then (0, 5) else (wh k.m k.b k.r (sh k.m k.b k.r t + d - cl), 0) := if_pos ⟨hd, hcl.1, hcl.2, rfl⟩
    rw [tell_iff.2 h1, e]
    unfold du1
    rw [if_pos h1]
    by_cases h3 : sho k 1125899906842624 < sho k t + d - cl
    · rw [if_pos h3, if_pos (show sh k.m k.b k.r 1125899906842624 < sh k.m k.b k.r t + d - cl from h3)]
      exact Or.inl ⟨rfl, by decide⟩
    · rw [if_neg h3, if_neg (show ¬ sh k.m k.b k.r 1125899906842624 < sh k.m k.b k.r t + d - cl from h3)]
      exact Or.inr ⟨rfl, rfl⟩
  · have e : du k.m k.b k.r t cl d (tell k.m t) = (0, 1) := if_neg (fun h => h1 (tell_iff.1 h.2.2.2))
    rw [e]
    unfold du1
    rw [if_neg h1]
    exact Or.inl ⟨rfl, by decide⟩
/-- What a switch's frame tells a host's clock: what it shows, if ever. -/
def prm (c : Cfg) (k : Ck) (p dl : Int) : Option Int := (du1 k (p + c.window + dl) dl c.delay).map fun t => sho k t
theorem ear_prm (c : Cfg) (y : Int) (k : Ck) (p dl : Int) : ear c y k p dl = match prm c k p dl with | none => none | some u => if inT c y u then some u else none := by
  unfold ear prm
  cases du1 k (p + c.window + dl) dl c.delay <;> rfl
def ab (a b : Option (Int × Nat)) (j : Nat) : Option (Int × Nat) := if j = 0 then a else b
set_option maxHeartbeats 8000000 in
set_option maxRecDepth 100000 in
theorem permanent_any (c : Cfg) (D E L : Option Addr) (nd cd ne ce nl cl : Nat) (y : Int) (x : Lo) (a b : Option (Int × Nat)) (g h j q : Nat) (k : Ck) (pp dl : Int) (w : World) (C : COk c) (m : CM w c D E L nd cd ne ce nl cl) (hg : w.heap[g]? = some (xbx c D E L nd cd ne ce nl cl y x a b)) (hh : (h : Int) < c.hosts) (hj : j < 2) (hk : CkOk k) (ck : CK w q k.m k.b k.r) (hpp : rp (ab a b j) = pp) (hpb : -1125899906842624 ≤ pp ∧ pp ≤ 1125899906842624) (hdl : (c.delays.getD h []).getD j 0 = dl) :
    Calls Tryz.prog 87 #[.pointer (some ⟨g, 0, none⟩), .int .i64 (h : Int), .int .i64 (j : Int), .pointer (some ⟨q, 0, none⟩)] w fun e w' => e = .returned (.tuple #[.int .i64 ((prm c k pp dl).getD 0), .bool (prm c k pp dl).isSome]) ∧ Below w.heap.size w w' := by
  obtain ⟨ad, ar, cpr, x0, hD, d0, d1, e1, hcl, hnd⟩ := delay_at c D E L nd cd ne ce nl cl m C hh hj
  rw [hdl] at e1
  subst e1
  subst hD
  have hcw := C.w
  have hcd := C.d
  have hC := C.h
  have A2 := Lib.hid (cell_of_row _ g 2 _ _ _ hg)
  have A3 := Lib.hid (cell_of_row _ g 3 _ _ _ hg)
  have a5 := cell_of_row _ g 5 _ _ _ hg
  have aj : w.cell? ⟨g, 14 + j * 3, none⟩ = some (.int .i64 pp) := by
    rw [← hpp]
    rcases (show j = 0 ∨ j = 1 by omega) with rfl | rfl
    · exact cell_of_row _ g 14 _ _ _ hg
    · exact cell_of_row _ g 17 _ _ _ hg
  have AJ := Lib.hid aj
  have jn : (j : Int) < 2 := by omega
  have hl1 : (h : Int) < (nd : Int) := by omega
  obtain ⟨t, ht⟩ : ∃ t, pp + c.window + dl = t := ⟨_, rfl⟩
  have wz1 : IntKind.i64.wrap (pp + c.window) = pp + c.window := by rw [IntKind.wrap_i64]; omega
  have wz2 : wrap64 (pp + c.window) = pp + c.window := by unfold wrap64; omega
  have wz3 : IntKind.i64.wrap (pp + c.window + dl) = t := by rw [IntKind.wrap_i64]; omega
  have wz4 : wrap64 (pp + c.window + dl) = t := by unfold wrap64; omega
  obtain ⟨ta, te, hdu, hdc⟩ := ldue hk q (t := t) hcd hcl
  have DU0 := fun (Z : World) (bz : Below w.heap.size w Z) => hdc Z (ck.below bz)
  have DU := Lib.hid DU0
  have PR := Lib.hid (show prm c k pp dl = (du1 k t dl c.delay).map (fun t => sho k t) by unfold prm; rw [ht])
  have KO := Lib.hid hk
  have CKP := Lib.hid ck
  have HDU := Lib.hid hdu
  clear m hg hk ck hpp hpb hdl hcw hcd hC ht aj hdu hdc DU0 C hh
  go_enter Tryz.func87, Tryz.ntmps87
  go_wp2
  apply wp_some (S := fun Z : World => Below w.heap.size w Z)
  case h =>
    refine wp_region_noPanic ?_
    refine wp_region_held_drew (S := fun Z : World => Below w.heap.size w Z) (by kernel_rfl) ((Below.refl _ _).drew) (fun hHeld => ?_)
    refine takeR 0 (some 26) ?_ ?_ ?_; rotate_left; (focus (intros; go_simp; (try with_reducible rfl)))
    simp only [aput, lset]
    refine takeR 1 (some 27) ?_ ?_ ?_; rotate_left; (focus (intros; go_simp; (try with_reducible rfl)))
    simp only [aput, lset]
    refine takeR 2 (some 28) ?_ ?_ ?_; rotate_left; (focus (intros; go_simp; (try with_reducible rfl)))
    simp only [aput, lset]
    refine takeR 3 (some 29) ?_ ?_ ?_; rotate_left; (focus (intros; go_simp; (try with_reducible rfl)))
    simp only [aput, lset]
    refine takeR 4 (some 30) ?_ ?_ ?_; rotate_left; (focus (intros; go_simp; (try with_reducible rfl)))
    simp only [aput, lset]
    refine takeR 5 (some 31) ?_ ?_ ?_; rotate_left; (focus (intros; go_simp; (try with_reducible rfl)))
    simp only [aput, lset]
    refine takeR 6 (some 32) ?_ ?_ ?_; rotate_left; (focus (intros; go_simp; (try with_reducible rfl)))
    simp only [aput, lset]
    refine takeR 7 (some 33) ?_ ?_ ?_; rotate_left; (focus (intro w hSw; (try dsimp only at hSw); have a2 := cell_keep A2.out hSw; have a3 := cell_keep A3.out hSw; have aj := cell_keep AJ.out hSw; go_simp; (try with_reducible rfl)))
    simp only [aput, lset]
    refine takeR 8 (some 34) ?_ ?_ ?_; rotate_left; (focus (intros; go_simp; (try with_reducible rfl)))
    simp only [aput, lset]
    refine takeR 9 (some 35) ?_ ?_ ?_; rotate_left; (focus (intros; go_simp; (try with_reducible rfl)))
    simp only [aput, lset]
    refine takeR 10 (some 36) ?_ ?_ ?_; rotate_left; (focus (intros; go_simp; (try with_reducible rfl)))
    simp only [aput, lset]
    refine takeR 11 (some 37) ?_ ?_ ?_; rotate_left; (focus (intros; go_simp; (try with_reducible rfl)))
    simp only [aput, lset]
    refine takeR 12 (some 38) ?_ ?_ ?_; rotate_left; (focus (intro w hSw; (try dsimp only at hSw); have a2 := cell_keep A2.out hSw; have a3 := cell_keep A3.out hSw; have aj := cell_keep AJ.out hSw; go_simp; (try with_reducible rfl)))
    simp only [aput, lset]
    refine takeR 13 (some 39) ?_ ?_ ?_; rotate_left; (focus (intros; go_simp; (try with_reducible rfl)))
    simp only [aput, lset]
    refine takeR 14 (some 40) ?_ ?_ ?_; rotate_left; (focus (intros; go_simp; (try with_reducible rfl)))
    simp only [aput, lset]
    refine takeR 15 (some 41) ?_ ?_ ?_; rotate_left; (focus (intros; go_simp; (try with_reducible rfl)))
    simp only [aput, lset]
    refine takeR 16 (some 42) ?_ ?_ ?_; rotate_left; (focus (intros; go_simp; (try with_reducible rfl)))
    simp only [aput, lset]
    refine takeR 17 (some 43) ?_ ?_ ?_; rotate_left; (focus (intros; go_simp; (try with_reducible rfl)))
    simp only [aput, lset]
    refine takeR 18 (some 44) ?_ ?_ ?_; rotate_left; (focus (intros; go_simp; (try with_reducible rfl)))
    simp only [aput, lset]
    refine takeR 19 (some 45) ?_ ?_ ?_; rotate_left; (focus (intros; go_simp; (try with_reducible rfl)))
    simp only [aput, lset]
    refine takeR 20 (some 46) ?_ ?_ ?_; rotate_left; (focus (intros; go_simp; (try with_reducible rfl)))
    simp only [aput, lset]
    refine takeR 21 (some 47) ?_ ?_ ?_; rotate_left; (focus (intro w hSw; (try dsimp only at hSw); have a2 := cell_keep A2.out hSw; have a3 := cell_keep A3.out hSw; have aj := cell_keep AJ.out hSw; go_simp; (try with_reducible rfl)))
    simp only [aput, lset]
    refine wpAnyH_ready (rs := [22]) (by kernel_rfl) (by simp) ?_
    refine AllReadyH.cons (o := ⟨some 48, _, _, _, _, _⟩) rfl (fun K hK => ?_) AllReadyH.nil
    rw [if_pos (by kernel_rfl)]
    go_simp
    refine (DU.out _ hHeld).mono ?_
    rintro r w9 ⟨rfl, b9⟩
    have hS9 : Below w.heap.size w w9 := Below.trans hHeld (Below.mono b9 hHeld.size)
    clear b9
    go_simp
    refine hK.out _ _ (by assumption) (fun hHeld => ?_)
    clear hK K
    refine takeR 23 (some 25) ?_ ?_ ?_; rotate_left; (focus (intros; go_simp; (try with_reducible rfl)))
    simp only [aput, lset]
    refine takeR 24 (some 49) ?_ ?_ ?_; rotate_left; (focus (intros; go_simp; (try with_reducible rfl)))
    simp only [aput, lset]
    refine takeR 25 (some 50) ?_ ?_ ?_; rotate_left; (focus (intros; go_simp; (try with_reducible rfl)))
    simp only [aput, lset]
    refine takeR 26 (some 11) ?_ ?_ ?_; rotate_left; (focus (intros; go_simp; (try with_reducible rfl)))
    simp only [aput, lset]
    refine takeR 27 (some 12) ?_ ?_ ?_; rotate_left; (focus (intros; go_simp; (try with_reducible rfl)))
    simp only [aput, lset]
    refine wpAnyH_done (by kernel_rfl) ?_ _
    exact NoPanic.normal ⟨rfl, rfl, hS9⟩
  case hm =>
    rintro w5 b5
    have B5 := Lib.hid b5
    clear b5 DU
    rcases HDU.out with ⟨h1, h2⟩ | ⟨h1, rfl⟩
    · have P0 := Lib.hid (show prm c k pp dl = none by rw [PR.out, h1]; rfl)
      go_wp2
      go_ret2
      exact ⟨by rw [P0.out]; rfl, B5.out⟩
    · have P0 := Lib.hid (show prm c k pp dl = some (sho k ta) by rw [PR.out, h1]; rfl)
      have NO := Lib.hid (lnow KO.out (CKP.out.below B5.out) (du1_in KO.out h1).1 (du1_in KO.out h1).2)
      go_wp2_with fail
      refine NO.out.mono ?_
      rintro r w6 ⟨rfl, b6⟩
      have B6 := Lib.hid (B5.out.trans (b6.mono B5.out.size))
      clear b6
      go_wp2
      go_ret2
      exact ⟨by rw [P0.out]; rfl, B6.out⟩
theorem lsetk {k : Ck} (q : Nat) (t v : Int) : ∃ e : Int, ∀ W, CK W q k.m k.b k.r → Calls Tryz.prog 147 #[.pointer (some ⟨q, 0, none⟩), .int .i64 t, .int .i64 v] W fun r w' => r = .returned (.int .i64 e) ∧ CK w' q (stk k t v).m (stk k t v).b (stk k t v).r ∧ Kept q W w' := by
  unfold stk
  by_cases h : (0 ≤ t ∧ t ≤ 1125899906842624) ∧ k.m ≤ t ∧ -1125899906842624 ≤ v ∧ v ≤ 1125899906842624
  · rw [if_pos h]
    exact ⟨0, fun W ck => ClockW.set_ok q k.m k.b k.r t v W ck (tell_iff.2 ⟨h.1, h.2.1⟩) (ClockW.okB_iff.2 h.2.2)⟩
  · rw [if_neg h]
    refine ⟨1, fun W ck => (ClockW.set_bad q k.m k.b k.r t v W ck (by rw [← Bool.not_eq_true, Bool.and_eq_true, tell_iff, ClockW.okB_iff]; exact fun hh => h ⟨hh.1.1, hh.1.2, hh.2⟩)).mono ?_⟩
    rintro r w' ⟨rfl, rfl⟩
    exact ⟨rfl, ck, Kept.of (Below.refl _ _)⟩
/-- A clock that is set on. -/
def son (k : Ck) (n b : Int) : Ck := if sho k 1125899906842624 < n then k else stk k (whn k n) (sho k (whn k n) + b)
theorem sho_range {k : Ck} (hk : CkOk k) {t : Int} (h0 : k.m ≤ t) (h1 : t ≤ 1125899906842624) : -1125899906842624 ≤ sho k t ∧ sho k t ≤ 4503599627370496 := by
  have h := ClockW.sh_range hk.ci h0 h1
  unfold sho
  omega
set_option maxHeartbeats 8000000 in
set_option maxRecDepth 100000 in
theorem setOn_any {k : Ck} (hk : CkOk k) (q : Nat) (n b : Int) (w : World) (ck : CK w q k.m k.b k.r) (hb : -3145728 ≤ b ∧ b ≤ 3145728) :
    Calls Tryz.prog 91 #[.pointer (some ⟨q, 0, none⟩), .int .i64 n, .int .i64 b] w fun e w' => e = .returned (.tuple #[]) ∧ CK w' q (son k n b).m (son k n b).b (son k n b).r ∧ Kept q w w' := by
  have HK := Lib.hid hk
  have CKP := Lib.hid ck
  by_cases h : sho k 1125899906842624 < n
  · have WH := Lib.hid (lwhen_no hk ck h)
    have E := Lib.hid (show son k n b = k from if_pos h)
    clear h ck hb
    go_enter Tryz.func91, Tryz.ntmps91
    go_wp2_with fail
    refine WH.out.mono ?_
    rintro r w1 ⟨rfl, b1⟩
    have B1 := Lib.hid b1
    clear b1 WH
    go_wp2
    exact bodyPost_ret (results_none rfl _ _ _) rfl ⟨rfl, by rw [E.out]; exact CKP.out.below B1.out, Kept.of B1.out⟩
  · have WH := Lib.hid (lwhen_ok hk ck h)
    obtain ⟨t, ht⟩ : ∃ t, wh k.m k.b k.r n = t := ⟨_, rfl⟩
    have ht2 : whn k n = t := by unfold whn; rw [if_neg h, ht]
    have hin : k.m ≤ t ∧ t ≤ 1125899906842624 := by
      rcases whn_in hk (n := n) with ⟨h5, -⟩ | ⟨-, -, h6, h7⟩
      · exact absurd h5 h
      · rw [ht2] at h6 h7
        exact ⟨h6, h7⟩
    rw [ht] at WH
    obtain ⟨v, hv⟩ : ∃ v, sho k t + b = v := ⟨_, rfl⟩
    have E := Lib.hid (show son k n b = stk k t v by unfold son; rw [if_neg h, ht2, hv])
    have sr := sho_range hk hin.1 hin.2
    have wz1 : IntKind.i64.wrap (sho k t + b) = v := by rw [IntKind.wrap_i64]; omega
    have wz2 : wrap64 (sho k t + b) = v := by unfold wrap64; omega
    have NO := Lib.hid (fun (W : World) (bz : Below w.heap.size w W) => lnow hk (ck.below bz) ⟨by have := hk.m0; omega, hin.2⟩ hin.1)
    obtain ⟨e, hs⟩ := lsetk (k := k) q t v
    have ST := Lib.hid hs
    clear h ck hb hs hin ht2 ht hv sr hk
    go_enter Tryz.func91, Tryz.ntmps91
    go_wp2_with fail
    refine WH.out.mono ?_
    rintro r w1 ⟨rfl, b1⟩
    have B1 := Lib.hid b1
    clear b1 WH
    go_wp2_with fail
    refine (NO.out _ B1.out).mono ?_
    rintro r w2 ⟨rfl, b2⟩
    have B2 := Lib.hid (B1.out.trans (b2.mono B1.out.size))
    clear b2 NO
    go_wp2_with fail
    refine (ST.out _ (CKP.out.below B2.out)).mono ?_
    rintro r w3 ⟨rfl, c3, k3⟩
    have C3 := Lib.hid c3
    have K3 := Lib.hid ((Kept.of B2.out).trans k3)
    clear c3 k3 ST
    go_wp2
    go_end0
    exact ⟨rfl, by rw [E.out]; exact C3.out, K3.out⟩
/-- What was heard of one switch, as a box has it. -/
def eB (c : Cfg) (y : Int) (H : List (Int × Nat)) : Int := match H with | [] => 0 | a :: _ => exC c - (a.1 - y * c.cycle)
def eC (H : List (Int × Nat)) : Nat := match H with | [] => 0 | a :: _ => a.2
structure EV (c : Cfg) (y : Int) (H0 H1 : List (Int × Nat)) (B : Nat → Int) (Cn : Nat → Nat) : Prop where
  b0 : B 0 = eB c y H0
  b1 : B 1 = eB c y H1
  c0 : Cn 0 = eC H0
  c1 : Cn 1 = eC H1
theorem exC_off (c : Cfg) : exC c = offC c := by unfold exC offC; omega
theorem acC_acc (c : Cfg) : acC c = accC c := by unfold acC accC; omega
theorem EV.close {c : Cfg} {y : Int} {H0 H1 : List (Int × Nat)} {B : Nat → Int} {Cn : Nat → Nat} (e : EV c y H0 H1 B Cn) (l0 : H0.length ≤ 1) (l1 : H1.length ≤ 1) (n0 : ∀ x ∈ H0 ++ H1, 1 ≤ x.2 ∧ x.2 < 64) : bsB B Cn = byL c y (H0 ++ H1) ∧ hrd Cn = (H0 ++ H1).length := by
  unfold bsB hrd bet
  rw [e.b0, e.b1, e.c0, e.c1]
  have z : (mem 0).length = 0 := AlignW.mem_zero
  match H0, l0, H1, l1 with
  | [], _, [], _ =>
    unfold eB eC
    dsimp only
    rw [if_pos rfl]
    exact ⟨by split <;> rfl, rfl⟩
  | [a], _, [], _ =>
    have h := n0 a (by simp)
    unfold eB eC
    dsimp only
    have ha : a.2 ≠ 0 := by omega
    rw [z, decide_eq_false (Nat.not_lt_zero _), if_neg (by decide), if_neg ha, if_pos rfl]
    refine ⟨?_, rfl⟩
    show exC c - (a.1 - y * c.cycle) = y * c.cycle + offC c - a.1
    rw [exC_off]
    omega
  | [], _, [b], _ =>
    have h := n0 b (by simp)
    have hp := (AlignW.mem_pos b.2 h.2).2 (by omega)
    unfold eB eC
    dsimp only
    have hb : b.2 ≠ 0 := by omega
    rw [z, decide_eq_true hp, if_pos rfl, if_pos rfl, if_neg hb]
    refine ⟨?_, rfl⟩
    show exC c - (b.1 - y * c.cycle) = y * c.cycle + offC c - b.1
    rw [exC_off]
    omega
  | [a], _, [b], _ =>
    have h0 := n0 a (by simp)
    have h1 := n0 b (by simp)
    unfold eB eC
    dsimp only
    have ha : a.2 ≠ 0 := by omega
    have hb : b.2 ≠ 0 := by omega
    rw [if_neg ha, if_neg hb]
    refine ⟨?_, rfl⟩
    have e2 : byL c y ([a] ++ [b]) = if (mem a.2).length < (mem b.2).length then y * c.cycle + offC c - b.1 else y * c.cycle + offC c - a.1 := rfl
    rw [e2, exC_off]
    by_cases g : (mem a.2).length < (mem b.2).length
    · rw [if_pos g, decide_eq_true g, if_pos rfl]
      omega
    · rw [if_neg g, decide_eq_false g, if_neg (by decide)]
      omega
theorem lhear {c : Cfg} (C : COk c) {y : Int} (hyy : 0 ≤ y ∧ y ≤ 1125899906842624) {w0 : World} {LL : List (Nat × Obj)} {ga : Nat} {B : Nat → Int} {Cn : Nat → Nat} (u : Int) (cr j : Nat) (hcr : 1 ≤ cr ∧ cr < 64) (hj : j < 2) (h0 : Cn j = 0) :
    ∃ (e : Int) (B' : Nat → Int) (C' : Nat → Nat), ((inT c y u ∧ B' = upd B j (exC c - (u - y * c.cycle)) ∧ C' = upd Cn j cr) ∨ (¬ inT c y u ∧ B' = B ∧ C' = Cn)) ∧
      ∀ W, PA w0 LL ga c.cycle (exC c) (acC c) B Cn W → Calls Tryz.prog 88 #[.pointer (some ⟨ga, 0, none⟩), .int .i64 y, .int .i64 u, CV 2 (6 + (j : Int)) y (cr : Int) 0] W fun r w' => r = .returned (.int .i64 e) ∧ PA w0 LL ga c.cycle (exC c) (acC c) B' C' w' ∧ Kept ga W w' := by
  have T1 : okT y = true := okT_iff.2 hyy
  have F : okF 2 (6 + (j : Int)) y (cr : Int) 0 = true := okF_iff.2 ⟨by unfold rightC; omega, rfl, by omega, by omega⟩
  have A := C.acc
  by_cases hin : inT c y u
  · refine ⟨0, _, _, Or.inl ⟨hin, rfl, rfl⟩, fun W P => P.hear y u 2 _ y (cr : Int) 0 j hj rfl T1 (okT_iff.2 hin.1) F h0 ?_ rfl cr rfl _ rfl⟩
    have h := hin.2
    unfold AlignW.inT
    rw [exC_off, acC_acc]
    omega
  · by_cases h4 : 0 ≤ u ∧ u ≤ 1125899906842624
    · refine ⟨4, _, _, Or.inr ⟨hin, rfl, rfl⟩, fun W P => (P.range y u 2 _ y (cr : Int) 0 j hj rfl T1 (okT_iff.2 h4) F h0 (Or.inr ?_)).mono (fun r w' h => ⟨h.1, h.2.1, Kept.of h.2.2⟩)⟩
      intro h
      unfold AlignW.inT at h
      rw [exC_off, acC_acc] at h
      exact hin ⟨h4, by omega⟩
    · exact ⟨1, _, _, Or.inr ⟨hin, rfl, rfl⟩, fun W P => (P.arg y u 2 _ y (cr : Int) 0 (by omega) (Or.inr (Or.inl (by rw [← Bool.not_eq_true, okT_iff]; exact h4)))).mono (fun r w' h => ⟨h.1, h.2.1, Kept.of h.2.2⟩)⟩
theorem EV.next0 {c : Cfg} {y : Int} {B B' : Nat → Int} {Cn C' : Nat → Nat} {k : Ck} {p dl u : Int} {cr h dn : Nat} {s : Int} (e : EV c y [] [] B Cn) (hs : 0 ≤ s) (hd : has dn (h : Int) = false) (hu : prm c k p dl = some u) (hp : (inT c y u ∧ B' = upd B 0 (exC c - (u - y * c.cycle)) ∧ C' = upd Cn 0 cr) ∨ (¬ inT c y u ∧ B' = B ∧ C' = Cn)) : EV c y (hr1 c y k s h (some (p, cr)) dn dl) [] B' C' := by
  have e1 : hr1 c y k s h (some (p, cr)) dn dl = if inT c y u then [(u, cr)] else [] := by
    unfold hr1
    dsimp only
    rw [if_pos ⟨hs, hd⟩, ear_prm, hu]
    dsimp only
    by_cases g : inT c y u
    · rw [if_pos g, if_pos g]
    · rw [if_neg g, if_neg g]
  rw [e1]
  rcases hp with ⟨g, rfl, rfl⟩ | ⟨g, rfl, rfl⟩
  · rw [if_pos g]
    exact ⟨rfl, e.b1, rfl, e.c1⟩
  · rw [if_neg g]
    exact e
theorem EV.next1 {c : Cfg} {y : Int} {B B' : Nat → Int} {Cn C' : Nat → Nat} {k : Ck} {p dl u : Int} {cr h dn : Nat} {s : Int} {H0 : List (Int × Nat)} (e : EV c y H0 [] B Cn) (hs : 0 ≤ s) (hd : has dn (h : Int) = false) (hu : prm c k p dl = some u) (hp : (inT c y u ∧ B' = upd B 1 (exC c - (u - y * c.cycle)) ∧ C' = upd Cn 1 cr) ∨ (¬ inT c y u ∧ B' = B ∧ C' = Cn)) : EV c y H0 (hr1 c y k s h (some (p, cr)) dn dl) B' C' := by
  have e1 : hr1 c y k s h (some (p, cr)) dn dl = if inT c y u then [(u, cr)] else [] := by
    unfold hr1
    dsimp only
    rw [if_pos ⟨hs, hd⟩, ear_prm, hu]
    dsimp only
    by_cases g : inT c y u
    · rw [if_pos g, if_pos g]
    · rw [if_neg g, if_neg g]
  rw [e1]
  rcases hp with ⟨g, rfl, rfl⟩ | ⟨g, rfl, rfl⟩
  · rw [if_pos g]
    exact ⟨e.b0, rfl, e.c0, rfl⟩
  · rw [if_neg g]
    exact e
theorem hr1_none0 {c : Cfg} {y : Int} {k : Ck} {s : Int} {h dn : Nat} {p dl : Int} {cr : Nat} (hu : prm c k p dl = none) : hr1 c y k s h (some (p, cr)) dn dl = [] := by
  unfold hr1
  dsimp only
  rw [ear_prm, hu]
  split <;> rfl
theorem hr1_cr {c : Cfg} {y : Int} {k : Ck} {s : Int} {h : Nat} {r : Option (Int × Nat)} {dn : Nat} {dl : Int} {z : Int × Nat} (hz : z ∈ hr1 c y k s h r dn dl) : ∃ p cr, r = some (p, cr) ∧ z.2 = cr := by
  obtain ⟨p, cr, t, h1, -, -, -, h2⟩ := hr1_some hz
  exact ⟨p, cr, h1, h2⟩
/-- A switch's result that may be. -/
def RsOk (r : Option (Int × Nat)) : Prop := ∀ p cr, r = some (p, cr) → (-1125899906842624 ≤ p ∧ p ≤ 1125899906842624) ∧ 1 ≤ cr ∧ cr < 64
theorem aft_son (c : Cfg) (y : Int) (k : Ck) (n : Nat) (b : Int) : aft c y k n b = if n = 0 then k else son k (eA c y) b := by
  unfold aft son eA
  rfl
end Go.Proofs.YtmagjekmlnpfpaaGreat.RoundW


/- The landed round: a host is corrected. -/
namespace Go.Proofs.YtmagjekmlnpfpaaGreat.RoundW
open Shell (takeR skipR aput lset)
open Go.RowKit Shell
open ConfW (Cfg CM chk)
open CrewW (has mem)
open ClockW (CK sh wh CI)
open FrameW (CV rightC)
open AlignW (PA abx exC acC zB zC upd bsB bsC hrd)
theorem lret_c {fn : Func} {R : Ending → World → Prop} {p : Tmp} (h : fn.results = #[.cell p 157]) {tmps : Array Value} {w : World} {g : Nat} {x1 x2 x3 x4 x5 : Value} {t : TypeId} {fr : Nat × Nat}
    (hp : tmps.getD p undef = .pointer (some ⟨g, 0, none⟩)) (hg : w.heap[g]? = some (.cells #[x1, x2, x3, x4, x5] t fr)) (hR : R (.returned (.agg #[x1, x2, x3, x4, x5])) w) :
    bodyPost Tryz.prog fn R .ret { tmps := tmps, defers := [] } w :=
  bodyPost_ret (results_cell_row h tmps w g t #[x1, x2, x3, x4, x5] fr _ hp hg Tryz.underlying157 rfl (by kernel_rfl)) rfl hR
theorem lframe_any (p : Int) (s : Int) (y : Int) (f : Int) (w : World) : Calls Tryz.prog 89 #[.agg #[.int .i64 p, .int .u32 s, .int .i64 y], .int .i64 f] w fun e w' => e = .returned (CV 2 f y s 0) ∧ Below w.heap.size w w' := by
  go_enter Tryz.func89, Tryz.ntmps89
  go_wp2
  refine lret_c (g := w.heap.size + 1) rfl rfl (heap_at (by simp) _) ?_
  exact ⟨rfl, al (al (Below.refl _ _) _) _⟩
theorem rs_bound {r : Option (Int × Nat)} (h : RsOk r) : -1125899906842624 ≤ rp r ∧ rp r ≤ 1125899906842624 := by
  cases r with
  | none => exact ⟨by decide, by decide⟩
  | some z => exact (h z.1 z.2 rfl).1
/-- A switch's result: none, or one of a crew. -/
theorem rs_case {y : Int} {r : Option (Int × Nat)} (h : RsOk r) {p : Int} {cr : Nat} {yy : Int} (hp : rp r = p) (hc : crw r = cr) (hy : ry y r = yy) : (r = none ∧ cr = 0 ∧ p = 0 ∧ r = none) ∨ (r = some (p, cr) ∧ y = yy ∧ rp r = p ∧ 1 ≤ cr ∧ cr < 64) := by
  cases r with
  | none => exact Or.inl ⟨rfl, hc.symm, hp.symm, rfl⟩
  | some z =>
    have h1 := h z.1 z.2 rfl
    have e1 : z.1 = p := hp
    have e2 : z.2 = cr := hc
    exact Or.inr ⟨by rw [← e1, ← e2], hy, hp, by rw [← e2]; exact h1.2⟩
/-- What correct tells, and the clock behind it. -/
def Corr (c : Cfg) (y : Int) (k : Ck) (q : Nat) (H : List (Int × Nat)) (e : Ending) (w' : World) : Prop := e = .returned (.tuple #[.int .i64 (byL c y H), .int .i64 (H.length : Int)]) ∧ CK w' q (aft c y k H.length (byL c y H)).m (aft c y k H.length (byL c y H)).b (aft c y k H.length (byL c y H)).r
/-- Behind j switches. -/
structure LS (w : World) (ga : Nat) (c : Cfg) (y : Int) (H0 H1 : List (Int × Nat)) (wr : World) : Prop where
  h : ∃ B Cn, PA w [] ga c.cycle (exC c) (acC c) B Cn wr ∧ EV c y H0 H1 B Cn
set_option maxHeartbeats 8000000 in
set_option maxRecDepth 100000 in
theorem correct_any (c : Cfg) (D E L : Option Addr) (nd cd ne ce nl cl : Nat) (y : Int) (x : Lo) (a b : Option (Int × Nat)) (g h q : Nat) (k : Ck) (s dl0 dl1 : Int) (w0 w : World) (hz : chk c = 0) (hx : LoOk x) (hw : WX w0 g c D E L nd cd ne ce nl cl y x a b w) (hyy : 0 ≤ y ∧ y ≤ 1125899906842624) (hyc : 0 ≤ y * c.cycle ∧ 2 * (y * c.cycle) ≤ 1125899906842624) (hh : (h : Int) < c.hosts) (hk : CkOk k) (ck : CK w q k.m k.b k.r) (hs : 0 ≤ s) (hd0 : (c.delays.getD h []).getD 0 0 = dl0) (hd1 : (c.delays.getD h []).getD 1 0 = dl1) (ha : RsOk a) (hb : RsOk b) :
    Calls Tryz.prog 38 #[.pointer (some ⟨g, 0, none⟩), .int .i64 (h : Int), .pointer (some ⟨q, 0, none⟩)] w fun e w' => Corr c y k q (hr1 c y k s h a x.d0 dl0 ++ hr1 c y k s h b x.d1 dl1) e w' ∧ Kept q w w' := by
  have C := cok hz
  have HC := Lib.hid C
  have HX := Lib.hid hx
  have HY := Lib.hid hyy
  have HYC := Lib.hid hyc
  have HHH := Lib.hid hh
  have HK := Lib.hid hk
  have CKP := Lib.hid ck
  have HS := Lib.hid hs
  have HD0 := Lib.hid hd0
  have HD1 := Lib.hid hd1
  have HRA := Lib.hid ha
  have HRB := Lib.hid hb
  have HGA := Lib.hid hw.box
  obtain ⟨pa, hpa⟩ : ∃ z, rp a = z := ⟨_, rfl⟩
  obtain ⟨pb, hpb⟩ : ∃ z, rp b = z := ⟨_, rfl⟩
  obtain ⟨ca, hca⟩ : ∃ z, crw a = z := ⟨_, rfl⟩
  obtain ⟨cb, hcb⟩ : ∃ z, crw b = z := ⟨_, rfl⟩
  obtain ⟨ya, hya⟩ : ∃ z, ry y a = z := ⟨_, rfl⟩
  obtain ⟨yb, hyb⟩ : ∃ z, ry y b = z := ⟨_, rfl⟩
  have hbox := hw.box
  unfold xbx at hbox
  rw [hpa, hpb, hca, hcb, hya, hyb] at hbox
  have HG := Lib.hid hbox
  have HA := Lib.hid (rs_case ha hpa hca hya)
  have HB := Lib.hid (rs_case hb hpb hcb hyb)
  have HPB0 := Lib.hid (show -1125899906842624 ≤ pa ∧ pa ≤ 1125899906842624 by rw [← hpa]; exact rs_bound ha)
  have HPB1 := Lib.hid (show -1125899906842624 ≤ pb ∧ pb ≤ 1125899906842624 by rw [← hpb]; exact rs_bound hb)
  have HM := Lib.hid hw.cm
  have HZ := Lib.hid hz
  obtain ⟨H0, hH0⟩ : ∃ H, hr1 c y k s h a x.d0 dl0 = H := ⟨_, rfl⟩
  obtain ⟨H1, hH1⟩ : ∃ H, hr1 c y k s h b x.d1 dl1 = H := ⟨_, rfl⟩
  rw [hH0, hH1]
  obtain ⟨HH, hHH⟩ : ∃ H, H0 ++ H1 = H := ⟨_, rfl⟩
  rw [hHH]
  have HHC := Lib.hid hHH
  have HH0 := Lib.hid hH0
  have HH1 := Lib.hid hH1
  have NEW := Lib.hid (AlignW.new_ok c D E L nd cd ne ce nl cl w hw.cm hz)
  have XX := hbox
  have c0 := cell_of_row _ g 0 _ _ _ XX
  have c1 := cell_of_row _ g 1 _ _ _ XX
  have c2 := cell_of_row _ g 2 _ _ _ XX
  have c3 := cell_of_row _ g 3 _ _ _ XX
  have c4 := cell_of_row _ g 4 _ _ _ XX
  have c5 := cell_of_row _ g 5 _ _ _ XX
  have c6 := cell_of_row _ g 6 _ _ _ XX
  have c7 := cell_of_row _ g 7 _ _ _ XX
  have c8 := cell_of_row _ g 8 _ _ _ XX
  have hix0 : ∀ (v0 v1 v2 v3 v4 v5 : Value) (W : World), (Instr.index 93 (.agg #[v0, v1, v2, v3, v4, v5]) (.int .i64 0)).run Tryz.prog W = .ok (.agg #[v0, v1, v2]) W := fun _ _ _ _ _ _ _ => by kernel_rfl
  have hix1 : ∀ (v0 v1 v2 v3 v4 v5 : Value) (W : World), (Instr.index 93 (.agg #[v0, v1, v2, v3, v4, v5]) (.int .i64 1)).run Tryz.prog W = .ok (.agg #[v3, v4, v5]) W := fun _ _ _ _ _ _ _ => by kernel_rfl
  clear C hx hw hyy hyc hh hk ck hs hd0 hd1 ha hb hz hH0 hH1 hHH XX hbox hpa hpb hca hcb hya hyb
  go_enter Tryz.func38, Tryz.ntmps38
  go_wp2_with fail
  refine NEW.out.mono ?_
  rintro e w1 ⟨ga, rfl, hbx, hga, b1⟩
  have P1 := Lib.hid (AlignW.pa_new (Stay.start w) HZ.out hbx hga b1)
  have GA := Lib.hid hga
  have XX := row_below b1 HG.out
  have c14 := cell_of_row _ g 14 _ _ _ XX
  have c15 := cell_of_row _ g 15 _ _ _ XX
  have c16 := cell_of_row _ g 16 _ _ _ XX
  have c17 := cell_of_row _ g 17 _ _ _ XX
  have c18 := cell_of_row _ g 18 _ _ _ XX
  have c19 := cell_of_row _ g 19 _ _ _ XX
  clear hbx hga b1 NEW c0 c1 c2 c3 c4 c5 c6 c7 c8 XX
  go_wp2
  clear c14 c15 c16 c17 c18 c19
  go_loopw [26] (fun jv wr => ∃ (j : Nat), j ≤ 2 ∧ jv = .int .i64 j ∧ Hid (LS w ga c y (if j = 0 then [] else H0) (if j ≤ 1 then [] else H1) wr)) (fun jv _ => 2 - (intOf jv).toNat)
  case atStart => exact ⟨0, by omega, rfl, Lib.hid ⟨_, _, P1.out, rfl, rfl, rfl, rfl⟩⟩
  case round =>
    clear P1
    obtain ⟨j, hj, rfl, Q⟩ := hrel
    rcases (show j = 0 ∨ j = 1 ∨ j = 2 by omega) with rfl | rfl | rfl
    · simp only [if_true, Nat.zero_le] at Q
      obtain ⟨B, Cn, hp0, he0⟩ := Q.out.h
      have hP := Lib.hid hp0
      have hE := Lib.hid he0
      have BP := Lib.hid hp0.st.b
      clear hp0 he0 Q
      have XG := row_below (al BP.out (rbL pa (ca : Int) ya)) HG.out
      have u0 := cell_of_row _ g 12 _ _ _ XG
      clear XG
      rcases HA.out with ⟨hn1, hn2, -, hn4⟩ | ⟨hn1, hn2, hn3, hn4⟩
      · have NX := Lib.hid (show EV c y H0 [] B Cn by rw [show H0 = [] by rw [← HH0.out, hn4]; rfl]; exact hE.out)
        subst hn2
        go_wp2
        go_roundw
        case rel => exact ⟨1, by omega, by go_num, Lib.hid ⟨_, _, hP.out.next (al (Below.refl _ _) _), NX.out⟩⟩
        case measure => simp [intOf]
      · subst hn2
        have g1 : ((ca : Int) == 0) = false := by rw [beq_eq_false_iff_ne]; omega
        have g2 : decide ((ca : Int) = 0) = false := decide_eq_false (by omega)
        have g3 : decide (ca = 0) = false := decide_eq_false (by omega)
        have HHS := Lib.hid (fun W => CrewW.has_any (x.d0) (h : Int) W HX.out.d0)
        cases hu : has (x.d0) (h : Int) with
        | true =>
          have NX := Lib.hid (show EV c y H0 [] B Cn by rw [show H0 = [] by rw [← HH0.out]; exact hr1_lost hu]; exact hE.out)
          rw [hu] at HHS
          clear hu
          go_wp2_with (go_at_call 86; refine (HHS.out _).mono ?_; rintro r w3 ⟨rfl, hw⟩; obtain rfl := hw.symm; clear hw)
          go_roundw
          case rel => exact ⟨1, by omega, by go_num, Lib.hid ⟨_, _, hP.out.next (al (Below.refl _ _) _), NX.out⟩⟩
          case measure => simp [intOf]
        | false =>
          have HU := Lib.hid hu
          rw [hu] at HHS
          have PM := Lib.hid (fun (Z : World) (bz : Below w.heap.size w Z) => permanent_any c D E L nd cd ne ce nl cl y x a b g h 0 q k pa dl0 Z HC.out (HM.out.below bz) (row_below bz HGA.out) HHH.out (by decide) HK.out (CKP.out.below bz) hn3 HPB0.out HD0.out)
          obtain ⟨zr, hzr⟩ : ∃ zr, wr.heap.size = zr := ⟨_, rfl⟩
          have HZR := Lib.hid hzr
          have B4 := Lib.hid (al BP.out (rbL pa (ca : Int) y))
          have RB4 := Lib.hid (show (wr.alloc (rbL pa (ca : Int) y)).heap[zr]? = some (rbL pa (ca : Int) y) from heap_at hzr _)
          have BW4 := Lib.hid (show Below w.heap.size w (wr.alloc (rbL pa (ca : Int) y)) from B4.out)
          have PM4 := PM.out _ BW4.out
          rw [show ((0 : Nat) : Int) = 0 from rfl] at PM4
          obtain ⟨pr, hpr⟩ : ∃ pr, prm c k pa dl0 = pr := ⟨_, rfl⟩
          rw [hpr] at PM4
          have PMH := Lib.hid PM4
          have HPR := Lib.hid hpr
          clear hu PM PM4 hpr
          go_wp2_with (go_at_call 86; refine (HHS.out _).mono ?_; rintro r w3 ⟨rfl, hw⟩; obtain rfl := hw.symm; clear hw)
          refine PMH.out.mono ?_
          rintro r w5 ⟨rfl, b5⟩
          have B5 := Lib.hid b5
          have P5 := hP.out.next ((al (Below.refl _ _) (rbL pa (ca : Int) y)).trans (b5.mono (by rw [World.size_alloc]; exact Nat.le_succ _)))
          have RB := Lib.hid (row_below b5 RB4.out)
          clear b5 PMH u0
          cases pr with
          | none =>
            have NX := Lib.hid (show EV c y H0 [] B Cn by rw [show H0 = [] by rw [← HH0.out, hn1]; exact hr1_none0 HPR.out]; exact hE.out)
            rw [show ((none : Option Int).getD 0) = 0 from rfl, show (none : Option Int).isSome = false from rfl]
            go_wp2
            go_roundw
            case rel => exact ⟨1, by omega, by go_num, Lib.hid ⟨_, _, P5, NX.out⟩⟩
            case measure => simp [intOf]
          | some u =>
            rw [show ((some u : Option Int).getD 0) = u from rfl, show (some u : Option Int).isSome = true from rfl]
            obtain ⟨e', B', C', hq, hcl⟩ := lhear (w0 := w) (LL := []) (ga := ga) (B := B) (Cn := Cn) HC.out HY.out u ca 0 hn4 (by decide) hE.out.c0
            rw [show (6 : Int) + ((0 : Nat) : Int) = 6 from rfl] at hcl
            have HE := Lib.hid hcl
            have NX := Lib.hid (show EV c y H0 [] B' C' by rw [← HH0.out, hn1]; exact hE.out.next0 HS.out HU.out HPR.out hq)
            have FR := Lib.hid (fun W => lframe_any pa (ca : Int) y 6 W)
            have GLE := Lib.hid (show ga ≤ w5.heap.size from Nat.le_of_lt (lt_of_heap P5.box))
            have GZ := Lib.hid (show ga < zr by rw [← HZR.out]; exact lt_of_heap hP.out.box)
            have Y9 := Lib.hid (show w5.cell? ⟨g, 9, none⟩ = some (.int .i64 y) ∧ g < ga from ⟨cell_of_row _ g 9 _ _ _ (row_below (BW4.out.trans (B5.out.mono BW4.out.size)) HG.out), Nat.lt_of_lt_of_le (lt_of_heap HG.out) GA.out⟩)
            clear hcl hq
            go_wp2
            apply wp_some (S := fun Z : World => PA w [] ga c.cycle (exC c) (acC c) B' C' Z)
            case h =>
              refine wp_region_noPanic ?_
              refine wp_region_held_drew (S := fun Z : World => Kept ga w5 Z) (by kernel_rfl) ((Kept.of (Below.refl _ _)).drew) (fun hHeld => ?_)
              refine takeR 0 (some 53) ?_ ?_ ?_; rotate_left; (focus (intros; go_simp; (try with_reducible rfl)))
              simp only [aput, lset]
              refine takeR 1 (some 54) ?_ ?_ ?_; rotate_left; (focus (intros; go_simp; (try with_reducible rfl)))
              simp only [aput, lset]
              refine takeR 2 (some 55) ?_ ?_ ?_; rotate_left; (focus (intros; go_simp; (try with_reducible rfl)))
              simp only [aput, lset]
              refine takeR 3 (some 56) ?_ ?_ ?_; rotate_left; (focus (intros; go_simp; (try with_reducible rfl)))
              simp only [aput, lset]
              refine takeR 4 (some 57) ?_ ?_ ?_; rotate_left; (focus (intro w hSw; (try dsimp only at hSw); have kb := Kept.below hSw (Nat.le_refl ga) GLE.out; have a9 := cell_b kb Y9.out; have zb := (Kept.block hSw zr (fun e => absurd GZ.out (by omega)) (lt_of_heap RB.out)).trans RB.out; have z0 := cell_of_row _ zr 0 _ _ _ zb; have z1 := cell_of_row _ zr 1 _ _ _ zb; have z2 := cell_of_row _ zr 2 _ _ _ zb; go_simp; (try with_reducible rfl)))
              simp only [aput, lset]
              refine takeR 5 (some 58) ?_ ?_ ?_; rotate_left; (focus (intros; go_simp; (try with_reducible rfl)))
              simp only [aput, lset]
              refine takeR 6 (some 59) ?_ ?_ ?_; rotate_left; (focus (intro w hSw; (try dsimp only at hSw); have kb := Kept.below hSw (Nat.le_refl ga) GLE.out; have a9 := cell_b kb Y9.out; have zb := (Kept.block hSw zr (fun e => absurd GZ.out (by omega)) (lt_of_heap RB.out)).trans RB.out; have z0 := cell_of_row _ zr 0 _ _ _ zb; have z1 := cell_of_row _ zr 1 _ _ _ zb; have z2 := cell_of_row _ zr 2 _ _ _ zb; go_simp; (try with_reducible rfl)))
              simp only [aput, lset]
              refine takeR 7 (some 60) ?_ ?_ ?_; rotate_left; (focus (intros; go_simp; (try with_reducible rfl)))
              simp only [aput, lset]
              refine takeR 8 (some 61) ?_ ?_ ?_; rotate_left; (focus (intros; go_simp; (try with_reducible rfl)))
              simp only [aput, lset]
              refine wpAnyH_ready (rs := [9]) (by kernel_rfl) (by simp) ?_
              refine AllReadyH.cons (o := ⟨some 62, _, _, _, _, _⟩) rfl (fun K hK => ?_) AllReadyH.nil
              rw [if_pos (by kernel_rfl)]
              go_simp
              refine (FR.out _).mono ?_
              rintro r w9 ⟨rfl, b9⟩
              have B9 : Below w5.heap.size w5 w9 := Below.trans (Below.refl _ _).drew b9
              have hS9 : Kept ga w5 w9 := Kept.of B9
              go_simp
              refine hK.out _ _ (by assumption) (fun hHeld => ?_)
              clear hK K
              refine wpAnyH_ready (rs := [10]) (by kernel_rfl) (by simp) ?_
              refine AllReadyH.cons (o := ⟨some 63, _, _, _, _, _⟩) rfl (fun K hK => ?_) AllReadyH.nil
              rw [if_pos (by kernel_rfl)]
              go_simp
              refine (HE.out _ (P5.next B9)).mono ?_
              rintro r w8 ⟨rfl, p8, k8⟩
              have hS8 : Kept ga w5 w8 := Kept.trans hS9 k8
              go_simp
              refine hK.out _ _ (by assumption) (fun hHeld => ?_)
              clear hK K
              refine wpAnyH_done (by kernel_rfl) ?_ _
              exact NoPanic.normal ⟨rfl, rfl, p8⟩
            case hm =>
              rintro w6 p6
              have P6 := Lib.hid p6
              clear p6 HE FR
              go_wp2
              go_roundw
              case rel => exact ⟨1, by omega, by go_num, Lib.hid ⟨_, _, P6.out, NX.out⟩⟩
              case measure => simp [intOf]
    · simp only [Nat.one_ne_zero, if_false, if_true, Nat.le_refl] at Q
      obtain ⟨B, Cn, hp0, he0⟩ := Q.out.h
      have hP := Lib.hid hp0
      have hE := Lib.hid he0
      have BP := Lib.hid hp0.st.b
      clear hp0 he0 Q
      have XG := row_below (al BP.out (rbL pb (cb : Int) yb)) HG.out
      have u0 := cell_of_row _ g 13 _ _ _ XG
      clear XG
      rcases HB.out with ⟨hn1, hn2, -, hn4⟩ | ⟨hn1, hn2, hn3, hn4⟩
      · have NX := Lib.hid (show EV c y H0 H1 B Cn by rw [show H1 = [] by rw [← HH1.out, hn4]; rfl]; exact hE.out)
        subst hn2
        go_wp2
        go_roundw
        case rel => exact ⟨2, by omega, by go_num, Lib.hid ⟨_, _, hP.out.next (al (Below.refl _ _) _), NX.out⟩⟩
        case measure => simp [intOf]
      · subst hn2
        have g1 : ((cb : Int) == 0) = false := by rw [beq_eq_false_iff_ne]; omega
        have g2 : decide ((cb : Int) = 0) = false := decide_eq_false (by omega)
        have g3 : decide (cb = 0) = false := decide_eq_false (by omega)
        have HHS := Lib.hid (fun W => CrewW.has_any (x.d1) (h : Int) W HX.out.d1)
        cases hu : has (x.d1) (h : Int) with
        | true =>
          have NX := Lib.hid (show EV c y H0 H1 B Cn by rw [show H1 = [] by rw [← HH1.out]; exact hr1_lost hu]; exact hE.out)
          rw [hu] at HHS
          clear hu
          go_wp2_with (go_at_call 86; refine (HHS.out _).mono ?_; rintro r w3 ⟨rfl, hw⟩; obtain rfl := hw.symm; clear hw)
          go_roundw
          case rel => exact ⟨2, by omega, by go_num, Lib.hid ⟨_, _, hP.out.next (al (Below.refl _ _) _), NX.out⟩⟩
          case measure => simp [intOf]
        | false =>
          have HU := Lib.hid hu
          rw [hu] at HHS
          have PM := Lib.hid (fun (Z : World) (bz : Below w.heap.size w Z) => permanent_any c D E L nd cd ne ce nl cl y x a b g h 1 q k pb dl1 Z HC.out (HM.out.below bz) (row_below bz HGA.out) HHH.out (by decide) HK.out (CKP.out.below bz) hn3 HPB1.out HD1.out)
          obtain ⟨zr, hzr⟩ : ∃ zr, wr.heap.size = zr := ⟨_, rfl⟩
          have HZR := Lib.hid hzr
          have B4 := Lib.hid (al BP.out (rbL pb (cb : Int) y))
          have RB4 := Lib.hid (show (wr.alloc (rbL pb (cb : Int) y)).heap[zr]? = some (rbL pb (cb : Int) y) from heap_at hzr _)
          have BW4 := Lib.hid (show Below w.heap.size w (wr.alloc (rbL pb (cb : Int) y)) from B4.out)
          have PM4 := PM.out _ BW4.out
          rw [show ((1 : Nat) : Int) = 1 from rfl] at PM4
          obtain ⟨pr, hpr⟩ : ∃ pr, prm c k pb dl1 = pr := ⟨_, rfl⟩
          rw [hpr] at PM4
          have PMH := Lib.hid PM4
          have HPR := Lib.hid hpr
          clear hu PM PM4 hpr
          go_wp2_with (go_at_call 86; refine (HHS.out _).mono ?_; rintro r w3 ⟨rfl, hw⟩; obtain rfl := hw.symm; clear hw)
          refine PMH.out.mono ?_
          rintro r w5 ⟨rfl, b5⟩
          have B5 := Lib.hid b5
          have P5 := hP.out.next ((al (Below.refl _ _) (rbL pb (cb : Int) y)).trans (b5.mono (by rw [World.size_alloc]; exact Nat.le_succ _)))
          have RB := Lib.hid (row_below b5 RB4.out)
          clear b5 PMH u0
          cases pr with
          | none =>
            have NX := Lib.hid (show EV c y H0 H1 B Cn by rw [show H1 = [] by rw [← HH1.out, hn1]; exact hr1_none0 HPR.out]; exact hE.out)
            rw [show ((none : Option Int).getD 0) = 0 from rfl, show (none : Option Int).isSome = false from rfl]
            go_wp2
            go_roundw
            case rel => exact ⟨2, by omega, by go_num, Lib.hid ⟨_, _, P5, NX.out⟩⟩
            case measure => simp [intOf]
          | some u =>
            rw [show ((some u : Option Int).getD 0) = u from rfl, show (some u : Option Int).isSome = true from rfl]
            obtain ⟨e', B', C', hq, hcl⟩ := lhear (w0 := w) (LL := []) (ga := ga) (B := B) (Cn := Cn) HC.out HY.out u cb 1 hn4 (by decide) hE.out.c1
            rw [show (6 : Int) + ((1 : Nat) : Int) = 7 from rfl] at hcl
            have HE := Lib.hid hcl
            have NX := Lib.hid (show EV c y H0 H1 B' C' by rw [← HH1.out, hn1]; exact hE.out.next1 HS.out HU.out HPR.out hq)
            have FR := Lib.hid (fun W => lframe_any pb (cb : Int) y 7 W)
            have GLE := Lib.hid (show ga ≤ w5.heap.size from Nat.le_of_lt (lt_of_heap P5.box))
            have GZ := Lib.hid (show ga < zr by rw [← HZR.out]; exact lt_of_heap hP.out.box)
            have Y9 := Lib.hid (show w5.cell? ⟨g, 9, none⟩ = some (.int .i64 y) ∧ g < ga from ⟨cell_of_row _ g 9 _ _ _ (row_below (BW4.out.trans (B5.out.mono BW4.out.size)) HG.out), Nat.lt_of_lt_of_le (lt_of_heap HG.out) GA.out⟩)
            clear hcl hq
            go_wp2
            apply wp_some (S := fun Z : World => PA w [] ga c.cycle (exC c) (acC c) B' C' Z)
            case h =>
              refine wp_region_noPanic ?_
              refine wp_region_held_drew (S := fun Z : World => Kept ga w5 Z) (by kernel_rfl) ((Kept.of (Below.refl _ _)).drew) (fun hHeld => ?_)
              refine takeR 0 (some 53) ?_ ?_ ?_; rotate_left; (focus (intros; go_simp; (try with_reducible rfl)))
              simp only [aput, lset]
              refine takeR 1 (some 54) ?_ ?_ ?_; rotate_left; (focus (intros; go_simp; (try with_reducible rfl)))
              simp only [aput, lset]
              refine takeR 2 (some 55) ?_ ?_ ?_; rotate_left; (focus (intros; go_simp; (try with_reducible rfl)))
              simp only [aput, lset]
              refine takeR 3 (some 56) ?_ ?_ ?_; rotate_left; (focus (intros; go_simp; (try with_reducible rfl)))
              simp only [aput, lset]
              refine takeR 4 (some 57) ?_ ?_ ?_; rotate_left; (focus (intro w hSw; (try dsimp only at hSw); have kb := Kept.below hSw (Nat.le_refl ga) GLE.out; have a9 := cell_b kb Y9.out; have zb := (Kept.block hSw zr (fun e => absurd GZ.out (by omega)) (lt_of_heap RB.out)).trans RB.out; have z0 := cell_of_row _ zr 0 _ _ _ zb; have z1 := cell_of_row _ zr 1 _ _ _ zb; have z2 := cell_of_row _ zr 2 _ _ _ zb; go_simp; (try with_reducible rfl)))
              simp only [aput, lset]
              refine takeR 5 (some 58) ?_ ?_ ?_; rotate_left; (focus (intros; go_simp; (try with_reducible rfl)))
              simp only [aput, lset]
              refine takeR 6 (some 59) ?_ ?_ ?_; rotate_left; (focus (intro w hSw; (try dsimp only at hSw); have kb := Kept.below hSw (Nat.le_refl ga) GLE.out; have a9 := cell_b kb Y9.out; have zb := (Kept.block hSw zr (fun e => absurd GZ.out (by omega)) (lt_of_heap RB.out)).trans RB.out; have z0 := cell_of_row _ zr 0 _ _ _ zb; have z1 := cell_of_row _ zr 1 _ _ _ zb; have z2 := cell_of_row _ zr 2 _ _ _ zb; go_simp; (try with_reducible rfl)))
              simp only [aput, lset]
              refine takeR 7 (some 60) ?_ ?_ ?_; rotate_left; (focus (intros; go_simp; (try with_reducible rfl)))
              simp only [aput, lset]
              refine takeR 8 (some 61) ?_ ?_ ?_; rotate_left; (focus (intros; go_simp; (try with_reducible rfl)))
              simp only [aput, lset]
              refine wpAnyH_ready (rs := [9]) (by kernel_rfl) (by simp) ?_
              refine AllReadyH.cons (o := ⟨some 62, _, _, _, _, _⟩) rfl (fun K hK => ?_) AllReadyH.nil
              rw [if_pos (by kernel_rfl)]
              go_simp
              refine (FR.out _).mono ?_
              rintro r w9 ⟨rfl, b9⟩
              have B9 : Below w5.heap.size w5 w9 := Below.trans (Below.refl _ _).drew b9
              have hS9 : Kept ga w5 w9 := Kept.of B9
              go_simp
              refine hK.out _ _ (by assumption) (fun hHeld => ?_)
              clear hK K
              refine wpAnyH_ready (rs := [10]) (by kernel_rfl) (by simp) ?_
              refine AllReadyH.cons (o := ⟨some 63, _, _, _, _, _⟩) rfl (fun K hK => ?_) AllReadyH.nil
              rw [if_pos (by kernel_rfl)]
              go_simp
              refine (HE.out _ (P5.next B9)).mono ?_
              rintro r w8 ⟨rfl, p8, k8⟩
              have hS8 : Kept ga w5 w8 := Kept.trans hS9 k8
              go_simp
              refine hK.out _ _ (by assumption) (fun hHeld => ?_)
              clear hK K
              refine wpAnyH_done (by kernel_rfl) ?_ _
              exact NoPanic.normal ⟨rfl, rfl, p8⟩
            case hm =>
              rintro w6 p6
              have P6 := Lib.hid p6
              clear p6 HE FR
              go_wp2
              go_roundw
              case rel => exact ⟨2, by omega, by go_num, Lib.hid ⟨_, _, P6.out, NX.out⟩⟩
              case measure => simp [intOf]
    · simp only [show (2 : Nat) ≠ 0 by decide, show ¬ (2 : Nat) ≤ 1 by decide, if_false] at Q
      obtain ⟨B, Cn, hP0, hE0⟩ := Q.out.h
      have P := Lib.hid hP0
      have L0 : H0.length ≤ 1 := by rw [← HH0.out]; exact hr1_len _ _ _ _ _ _ _ _
      have L1 : H1.length ≤ 1 := by rw [← HH1.out]; exact hr1_len _ _ _ _ _ _ _ _
      have NZ : ∀ z ∈ H0 ++ H1, 1 ≤ z.2 ∧ z.2 < 64 := fun z hz => by
        rcases List.mem_append.1 hz with hz | hz
        · rw [← HH0.out] at hz
          obtain ⟨p, cr, e1, e2⟩ := hr1_cr hz
          rw [e2]
          exact (HRA.out p cr e1).2
        · rw [← HH1.out] at hz
          obtain ⟨p, cr, e1, e2⟩ := hr1_cr hz
          rw [e2]
          exact (HRB.out p cr e1).2
      obtain ⟨eb, en⟩ := hE0.close L0 L1 NZ
      have hHH := HHC.out
      have BY : -accC c ≤ byL c y HH ∧ byL c y HH ≤ accC c := by
        have A := HC.out.acc
        by_cases e : HH = []
        · rw [e]
          show -accC c ≤ 0 ∧ 0 ≤ accC c
          omega
        · obtain ⟨z, hz, e2⟩ := byL_of (c := c) (y := y) e
          rw [← hHH] at hz
          have : inT c y z.1 := by
            rcases List.mem_append.1 hz with hz | hz
            · rw [← HH0.out] at hz; exact hr1_mem hz
            · rw [← HH1.out] at hz; exact hr1_mem hz
          unfold inT at this
          rw [e2]
          omega
      rw [hHH] at eb en
      have AF := Lib.hid (aft_son c y k HH.length (byL c y HH))
      obtain ⟨bv, hbv⟩ : ∃ bv, byL c y HH = bv := ⟨_, rfl⟩
      obtain ⟨nv, hnv⟩ : ∃ nv, HH.length = nv := ⟨_, rfl⟩
      rw [hbv] at eb AF BY
      rw [hnv] at en AF
      have HBV := Lib.hid hbv
      have HNV := Lib.hid hnv
      have CL := Lib.hid (P.out.close bv (bsC Cn) nv eb rfl en)
      have A := HC.out.acc
      have YCL := HYC.out
      have ES := Lib.hid (show eA c y = y * c.cycle + exC c + acC c + 1 by unfold eA; rw [exC_off, acC_acc])
      have BA : -3145728 ≤ bv ∧ bv ≤ 3145728 := by omega
      have wz1 : IntKind.i64.wrap (y * c.cycle + exC c + acC c) = y * c.cycle + exC c + acC c := by rw [IntKind.wrap_i64, exC_off, acC_acc]; omega
      have wz2 : wrap64 (y * c.cycle + exC c + acC c) = y * c.cycle + exC c + acC c := by rw [exC_off, acC_acc]; unfold wrap64; omega
      have wz3 : IntKind.i64.wrap (y * c.cycle + exC c + acC c + 1) = eA c y := by rw [ES.out, IntKind.wrap_i64, exC_off, acC_acc]; omega
      have wz4 : wrap64 (y * c.cycle + exC c + acC c + 1) = eA c y := by rw [ES.out, exC_off, acC_acc]; unfold wrap64; omega
      have BAH := Lib.hid BA
      have EX := Lib.hid (show AlignW.expV c.cycle (exC c) y = y * c.cycle + exC c by unfold AlignW.expV; rw [if_pos ⟨HY.out.1, by omega⟩])
      clear hP0 hE0 L0 L1 NZ eb en hHH BY hbv hnv A YCL BA Q
      go_wp2_with fail
      refine CL.out.mono ?_
      rintro r w2 ⟨rfl, p2, k2⟩
      have P2 := Lib.hid p2
      clear p2 k2 CL
      cases nv with
      | zero =>
        go_wp2
        go_ret2
        unfold Corr
        exact ⟨⟨by rw [HBV.out, HNV.out]; rfl, by rw [HNV.out, HBV.out, AF.out]; exact CKP.out.below P2.out.st.b⟩, Kept.of P2.out.st.b⟩
      | succ nv' =>
        have EXP := Lib.hid (P2.out.exp y ⟨by have := HY.out; omega, by have := HY.out; omega⟩ _ EX.out)
        have g1 : ((nv' + 1 : Nat) : Int) > 0 := by omega
        have g9 : decide ((((nv' + 1 : Nat)) : Int) ≤ 0) = false := decide_eq_false (by omega)
        have Y9 := cell_of_row _ g 9 _ _ _ (row_below P2.out.st.b HG.out)
        go_wp2_with fail
        refine EXP.out.mono ?_
        rintro r w3 ⟨rfl, p3, b3⟩
        have P3 := Lib.hid p3
        clear p3 b3 EXP Y9
        go_wp2_with fail
        refine P3.out.acc.mono ?_
        rintro r w4 ⟨rfl, rfl⟩
        have SO := Lib.hid (setOn_any HK.out q (eA c y) bv w3 (CKP.out.below P3.out.st.b) BAH.out)
        go_wp2_with fail
        refine SO.out.mono ?_
        rintro r w5 ⟨rfl, c5, k5⟩
        have C5 := Lib.hid c5
        have K5 := Lib.hid ((Kept.of (k := q) P3.out.st.b).trans k5)
        clear c5 k5 SO
        go_wp2
        go_ret2
        unfold Corr
        exact ⟨⟨by rw [HBV.out, HNV.out]; rfl, by rw [HNV.out, HBV.out, AF.out]; exact C5.out⟩, K5.out⟩
end Go.Proofs.YtmagjekmlnpfpaaGreat.RoundW


/- The landed Go: what is kept in its loop; small functions; a round that is refused. -/
namespace Go.Proofs.YtmagjekmlnpfpaaGreat.RoundW
open Go.RowKit Shell
open ConfW (Cfg CM chk)
open ClockW (CK sh wh CI inn inn_iff)
theorem oneS : OneG Tryz.prog 27 60 FK.n 24 := oneG_of Tryz.underlying27 (by kernel_rfl)
abbrev tbL (vs : Value) (c0 c1 : Nat) (vb vn va : Value) : Obj := .cells #[vs, .int .u32 (c0 : Int), .int .u32 (c1 : Int), vb, vn, va] 38 (0, 0)
abbrev lbx (x : Lo) : Obj := .cells #[.int .u32 (x.u0 : Int), .int .u32 (x.u1 : Int), .int .u32 (x.d0 : Int), .int .u32 (x.d1 : Int)] 31 (0, 0)
theorem cells6 {w : World} {j : Nat} {x0 x1 x2 x3 x4 x5 : Value} {t : TypeId} {fr : Nat × Nat} (h : w.heap[j]? = some (.cells #[x0, x1, x2, x3, x4, x5] t fr)) : w.cell? ⟨j, 0, none⟩ = some x0 ∧ w.cell? ⟨j, 1, none⟩ = some x1 ∧ w.cell? ⟨j, 2, none⟩ = some x2 ∧ w.cell? ⟨j, 3, none⟩ = some x3 ∧ w.cell? ⟨j, 4, none⟩ = some x4 ∧ w.cell? ⟨j, 5, none⟩ = some x5 := ⟨cell_of_row w j 0 _ _ _ h, cell_of_row w j 1 _ _ _ h, cell_of_row w j 2 _ _ _ h, cell_of_row w j 3 _ _ _ h, cell_of_row w j 4 _ _ _ h, cell_of_row w j 5 _ _ _ h⟩
theorem frozen6 {w : World} {j : Nat} {x0 x1 x2 x3 x4 x5 : Value} {t : TypeId} (h : w.heap[j]? = some (.cells #[x0, x1, x2, x3, x4, x5] t (0, 0))) : w.frozen? ⟨j, 0, none⟩ = false ∧ w.frozen? ⟨j, 1, none⟩ = false ∧ w.frozen? ⟨j, 2, none⟩ = false ∧ w.frozen? ⟨j, 3, none⟩ = false ∧ w.frozen? ⟨j, 4, none⟩ = false ∧ w.frozen? ⟨j, 5, none⟩ = false := ⟨frozen_of_row w j 0 _ _ h, frozen_of_row w j 1 _ _ h, frozen_of_row w j 2 _ _ h, frozen_of_row w j 3 _ _ h, frozen_of_row w j 4 _ _ h, frozen_of_row w j 5 _ _ h⟩
theorem put6 {w : World} {k : Nat} {a0 a1 a2 a3 a4 a5 : Value} {t : TypeId} (h : w.heap[k]? = some (.cells #[a0, a1, a2, a3, a4, a5] t (0, 0))) (x0 x1 x2 x3 x4 x5 : Value) : ((((((w.setCell ⟨k, 0, none⟩ x0).setCell ⟨k, 1, none⟩ x1).setCell ⟨k, 2, none⟩ x2).setCell ⟨k, 3, none⟩ x3).setCell ⟨k, 4, none⟩ x4).setCell ⟨k, 5, none⟩ x5).heap[k]? = some (.cells #[x0, x1, x2, x3, x4, x5] t (0, 0)) :=
  heap_setCell_same _ k 5 _ _ _ (heap_setCell_same _ k 4 _ _ _ (heap_setCell_same _ k 3 _ _ _ (heap_setCell_same _ k 2 _ _ _ (heap_setCell_same _ k 1 _ _ _ (heap_setCell_same w k 0 _ _ _ h)))))
theorem kept6 (w : World) (k : Nat) (x0 x1 x2 x3 x4 x5 : Value) : Kept k w ((((((w.setCell ⟨k, 0, none⟩ x0).setCell ⟨k, 1, none⟩ x1).setCell ⟨k, 2, none⟩ x2).setCell ⟨k, 3, none⟩ x3).setCell ⟨k, 4, none⟩ x4).setCell ⟨k, 5, none⟩ x5) := (kept3 w k x0 x1 x2).trans (((kept2 _ k 3 4 x3 x4)).trans (kept1 _ k 5 x5))
theorem results_td {fn : Func} {p u : Tmp} (h : fn.results = #[.cell p 38, .tmp u]) (tmps : Array Value) (w : World) (g : Nat) (t : TypeId) (x0 x1 x2 x3 x4 x5 : Value) (fr : Nat × Nat)
    (hp : tmps.getD p undef = .pointer (some ⟨g, 0, none⟩)) (hg : w.heap[g]? = some (.cells #[x0, x1, x2, x3, x4, x5] t fr)) :
    (results fn tmps).run Tryz.prog w = .ok (.tuple #[.agg #[x0, x1, x2, x3, x4, x5], tmps.getD u undef]) w := by
  have hp' : tmps[p]?.getD undef = .pointer (some ⟨g, 0, none⟩) := by simpa using hp
  simp [results, h, hp', asAddr, run_loadVar_row w g t 38 #[x0, x1, x2, x3, x4, x5] fr _ hg Tryz.underlying38 rfl (by kernel_rfl)]
theorem ret_td {fn : Func} {R : Ending → World → Prop} {p u : Tmp} (h : fn.results = #[.cell p 38, .tmp u]) {tmps : Array Value} {w : World} {g : Nat} {x0 x1 x2 x3 x4 x5 : Value} {t : TypeId} {fr : Nat × Nat}
    (hp : tmps.getD p undef = .pointer (some ⟨g, 0, none⟩)) (hg : w.heap[g]? = some (.cells #[x0, x1, x2, x3, x4, x5] t fr)) (hR : R (.returned (.tuple #[.agg #[x0, x1, x2, x3, x4, x5], tmps.getD u undef])) w) :
    bodyPost Tryz.prog fn R .ret { tmps := tmps, defers := [] } w :=
  bodyPost_ret (results_td h tmps w g t x0 x1 x2 x3 x4 x5 fr hp hg) rfl hR
theorem results_st {fn : Func} {p : Tmp} (h : fn.results = #[.cell p 60]) (tmps : Array Value) (w : World) (g : Nat) (t : TypeId) (x1 x2 x3 : Value) (fr : Nat × Nat)
    (hp : tmps.getD p undef = .pointer (some ⟨g, 0, none⟩)) (hg : w.heap[g]? = some (.cells #[x1, x2, x3] t fr)) :
    (results fn tmps).run Tryz.prog w = .ok (.agg #[x1, x2, x3]) w := by
  have hp' : tmps[p]?.getD undef = .pointer (some ⟨g, 0, none⟩) := by simpa using hp
  simp [results, h, hp', asAddr, run_loadVar_row w g t 60 #[x1, x2, x3] fr _ hg Tryz.underlying60 rfl (by kernel_rfl)]
theorem ret_st {fn : Func} {R : Ending → World → Prop} {p : Tmp} (h : fn.results = #[.cell p 60]) {tmps : Array Value} {w : World} {g : Nat} {x1 x2 x3 : Value} {t : TypeId} {fr : Nat × Nat}
    (hp : tmps.getD p undef = .pointer (some ⟨g, 0, none⟩)) (hg : w.heap[g]? = some (.cells #[x1, x2, x3] t fr)) (hR : R (.returned (.agg #[x1, x2, x3])) w) :
    bodyPost Tryz.prog fn R .ret { tmps := tmps, defers := [] } w :=
  bodyPost_ret (results_st h tmps w g t x1 x2 x3 fr hp hg) rfl hR
theorem within_any (n lo hi : Int) (w : World) : Calls Tryz.prog 60 #[.int .i64 n, .int .i64 lo, .int .i64 hi] w fun e w' => e = .returned (.bool (inn n lo hi)) ∧ w = w' := by
  unfold ClockW.inn
  by_cases h1 : lo ≤ n
  · rw [decide_eq_true h1, Bool.true_and]
    go_enter Tryz.func60, Tryz.ntmps60
    go_wp2
    go_ret
    exact ⟨rfl, rfl⟩
  · rw [decide_eq_false h1, Bool.false_and]
    go_enter Tryz.func60, Tryz.ntmps60
    go_wp2
    go_ret
    exact ⟨rfl, rfl⟩
theorem state_any {k : Ck} {q : Nat} {w : World} (ck : CK w q k.m k.b k.r) : Calls Tryz.prog 39 #[.pointer (some ⟨q, 0, none⟩)] w fun e w' => e = .returned (.agg #[.int .i64 k.m, .int .i64 k.b, .int .i64 k.r]) ∧ Below w.heap.size w w' := by
  have S0 := Lib.hid ((Stay.start w).alloc (sbx ⟨0, 0, 0⟩))
  have MA := Lib.hid (ClockW.mark_any q k.m k.b k.r (w.alloc (sbx ⟨0, 0, 0⟩)) (ck.below S0.out.b))
  clear ck
  go_enter Tryz.func39, Tryz.ntmps39
  go_wp2_with fail
  refine MA.out.mono ?_
  rintro e w1 ⟨rfl, b1⟩
  have S1 := Lib.hid (S0.out.next b1)
  obtain ⟨e0, e1, e2⟩ := cells3 (S1.out.at 0 rfl)
  obtain ⟨f0, f1, f2⟩ := frozen3 (S1.out.at 0 rfl)
  have P3 := Lib.hid (put3 (S1.out.at 0 rfl) (.int .i64 k.m) (.int .i64 k.b) (.int .i64 k.r))
  clear b1 MA
  go_wp2
  exact ret_st rfl rfl P3.out ⟨rfl, S1.out.b.trans ((kept3 _ _ _ _ _).below (Nat.le_refl _) S1.out.b.size)⟩
/-- May the cycle be asked for? -/
def cyo (c : Cfg) (y : Int) : Bool := inn y 0 (1125899906842624 / (2 * c.cycle))
set_option maxHeartbeats 8000000 in
set_option maxRecDepth 100000 in
theorem isCycle_any (c : Cfg) (D E L : Option Addr) (nd cd ne ce nl cl : Nat) (y : Int) (w : World) (hc : 1 ≤ c.cycle ∧ c.cycle ≤ 1073741824) : Calls Tryz.prog 32 #[.agg #[.int .i64 c.hosts, .int .i64 c.cycle, .int .i64 c.delay, .int .i64 c.window, .int .i64 c.precision, .slice D nd cd, .slice E ne ce, .slice L nl cl, .int .i64 c.queue], .int .i64 y] w fun e w' => e = .returned (.bool (cyo c y)) ∧ Below w.heap.size w w' := by
  have S0 := Lib.hid ((Stay.start w).alloc (cbx c D E L nd cd ne ce nl cl))
  obtain ⟨a0, a1, a2, a3, a4, a5, a6, a7, a8⟩ := cells9 (S0.out.at 0 rfl)
  have wz1 : IntKind.i64.wrap (2 * c.cycle) = 2 * c.cycle := by rw [IntKind.wrap_i64]; omega
  have wz2 : wrap64 (2 * c.cycle) = 2 * c.cycle := by unfold wrap64; omega
  have wz3 : (2 * c.cycle = 0) = False := eq_false (by omega)
  have wz4 : (c.cycle = 0) = False := eq_false (by omega)
  obtain ⟨q, hq⟩ : ∃ q, (1125899906842624 : Int).tdiv (2 * c.cycle) = q := ⟨_, rfl⟩
  have hq2 : q = 1125899906842624 / (2 * c.cycle) := by rw [← hq]; exact (tdiv_le (y := y) (by decide) (by omega)).2
  have hq3 : 0 ≤ q ∧ q ≤ 1125899906842624 := by
    rw [hq2]
    exact ⟨Int.ediv_nonneg (by decide) (by omega), Int.ediv_le_self _ (by decide)⟩
  have wz5 : IntKind.i64.wrap q = q := by rw [IntKind.wrap_i64]; omega
  have wz6 : wrap64 q = q := by unfold wrap64; omega
  have WI := Lib.hid (fun W => within_any y 0 q W)
  have CE := Lib.hid (show cyo c y = inn y 0 q by unfold cyo; rw [← hq2])
  clear hq2 hq3 hc
  go_enter Tryz.func32, Tryz.ntmps32
  go_wp2_with fail
  refine (WI.out _).mono ?_
  rintro e w1 ⟨rfl, rfl⟩
  go_wp2
  go_ret
  exact ⟨by rw [CE.out]; rfl, S0.out.b⟩
/-- A round that is not refused: the parts of it. -/
theorem rgt_parts {c : Cfg} {y : Int} {l : List Ck} : Rgt c y l ↔ chk c = 0 ∧ cyo c y = true ∧ (l.length : Int) = c.hosts ∧ l.all okK = true ∧ abv l (y * c.cycle) = false := by
  unfold cyo abv
  rw [inn_iff]
  constructor
  · intro h
    refine ⟨h.z, ⟨h.y0, h.y1⟩, h.n, List.all_eq_true.2 (fun k hk => okK_iff.2 (h.k k hk)), ?_⟩
    rw [List.any_eq_false]
    intro k hk
    have := h.b k hk
    rw [decide_eq_true_eq]
    omega
  · rintro ⟨h1, h2, h3, h4, h5⟩
    rw [List.any_eq_false] at h5
    refine ⟨h1, h2.1, h2.2, h3, fun k hk => okK_iff.1 (List.all_eq_true.1 h4 k hk), fun k hk => ?_⟩
    have := h5 k hk
    rw [decide_eq_true_eq] at this
    omega
/-- The boxes of Go. -/
abbrev GB (q : Nat) (c : Cfg) (D E L : Option Addr) (nd cd ne ce nl cl : Nat) (x : Lo) : List (Nat × Obj) := [(q + 1 + 1, tbL nilS 0 0 nilS nilS nilS), (q + 1, lbx x), (q, cbx c D E L nd cd ne ce nl cl)]
theorem below_up {w w1 w2 : World} {k : Nat} (b : Below w.heap.size w w1) (kp : Kept k w1 w2) (hk : w.heap.size ≤ k) : Below w.heap.size w w2 := b.trans (kp.below hk b.size)
end Go.Proofs.YtmagjekmlnpfpaaGreat.RoundW


/- The landed Go: a round. -/
namespace Go.Proofs.YtmagjekmlnpfpaaGreat.RoundW
open Shell (takeR skipR aput lset)
open Go.RowKit Shell
open ConfW (Cfg CM chk)
open ClockW (CK sh wh CI inn inn_iff)
/-- In the loop: what so many hosts told; the clocks from j on stand as they were. -/
structure G5 (w : World) (g t zz : Nat) (oz : Obj) (c : Cfg) (D E L : Option Addr) (nd cd ne ce nl cl : Nat) (y : Int) (x : Lo) (r0 r1 : Option (Int × Nat)) (S : List Int) (T : Td) (vs vb vn va : Value) (A : Option Addr) (P : List Nat) (l : List Ck) (j i1 i2 i3 : Nat) (wr : World) : Prop where
  st : Stay w [(t, tbL vs (crw r0) (crw r1) vb vn va), (g, xbx c D E L nd cd ne ce nl cl y x r0 r1), (zz, oz)] wr
  ov : OG FI wr w.heap.size 2 vs S
  nv : ∀ k, vs.ownBlock = some k → k < t
  lg : w.heap.size ≤ g ∧ g < t ∧ zz < g
  rn : RN wr w.heap.size j A P l
  na : ∀ a, A = some a → a.block < t
  np : ∀ p ∈ P, p < t ∧ p ≠ g ∧ vs.ownBlock ≠ some p ∧ p ≠ zz
  ob : OG FI wr (t + 1) 2 vb (T.b.take i1)
  on : OG FI wr (t + 1) 3 vn (T.n.take i2)
  oa : OG FK wr (t + 1) 60 va (T.a.take i3)
  j1 : Dj vb vn
  j2 : Dj vb va
  j3 : Dj vn va
theorem RN.up {w : World} {base i : Nat} {A : Option Addr} {P : List Nat} {l : List Ck} (h : RN w base i A P l) : RN w base (i + 1) A P l := ⟨h.a, ⟨h.k.n, fun j p k hj hp hk => h.k.k j p k (by omega) hp hk, h.k.lo, h.k.nd⟩, h.d⟩
theorem RN.step {w w1 : World} {v v1 : Value} {base i : Nat} {A : Option Addr} {P : List Nat} {l : List Ck} (h : RN w base i A P l) (s : Step w v w1 v1) (hv : ∀ k, v.ownBlock = some k → (∀ a, A = some a → a.block ≠ k) ∧ k ∉ P) : RN w1 base i A P l :=
  ⟨h.a.step s (fun a ha e => (hv a.block e.symm).1 a ha rfl), h.k.step s (fun p hp e => (hv p e).2 hp), h.d⟩
theorem RN.kept {w w1 : World} {t base i : Nat} {A : Option Addr} {P : List Nat} {l : List Ck} (h : RN w base i A P l) (k : Kept t w w1) (h1 : ∀ a, A = some a → a.block ≠ t) (h2 : t ∉ P) : RN w1 base i A P l := ⟨sg_kept h.a k h1, h.k.kept k h2, h.d⟩
theorem RN.turn {w w1 : World} {p base i : Nat} {A : Option Addr} {P : List Nat} {l : List Ck} (h : RN w base i A P l) (hp : P[i]? = some p) (k : Kept p w w1) : RN w1 base (i + 1) A P l := ⟨sg_kept h.a k (h.d p (List.mem_of_getElem? hp)), h.k.turn hp k, h.d⟩
theorem G5.next {w wr : World} {g t zz : Nat} {oz : Obj} {c : Cfg} {D E L : Option Addr} {nd cd ne ce nl cl : Nat} {y : Int} {x : Lo} {r0 r1 : Option (Int × Nat)} {S : List Int} {T : Td} {vs vb vn va : Value} {A : Option Addr} {P : List Nat} {l : List Ck} {j i1 i2 i3 : Nat} {w6 : World} (h : G5 w g t zz oz c D E L nd cd ne ce nl cl y x r0 r1 S T vs vb vn va A P l j i1 i2 i3 wr) (b : Below wr.heap.size wr w6) : G5 w g t zz oz c D E L nd cd ne ce nl cl y x r0 r1 S T vs vb vn va A P l j i1 i2 i3 w6 := ⟨h.st.next b, h.ov.below b, h.nv, h.lg, h.rn.below b, h.na, h.np, h.ob.below b, h.on.below b, h.oa.below b, h.j1, h.j2, h.j3⟩
theorem G5.up {w wr : World} {g t zz : Nat} {oz : Obj} {c : Cfg} {D E L : Option Addr} {nd cd ne ce nl cl : Nat} {y : Int} {x : Lo} {r0 r1 : Option (Int × Nat)} {S : List Int} {T : Td} {vs vb vn va : Value} {A : Option Addr} {P : List Nat} {l : List Ck} {j i1 i2 i3 : Nat} (h : G5 w g t zz oz c D E L nd cd ne ce nl cl y x r0 r1 S T vs vb vn va A P l j i1 i2 i3 wr) : G5 w g t zz oz c D E L nd cd ne ce nl cl y x r0 r1 S T vs vb vn va A P l (j + 1) i1 i2 i3 wr := ⟨h.st, h.ov, h.nv, h.lg, h.rn.up, h.na, h.np, h.ob, h.on, h.oa, h.j1, h.j2, h.j3⟩
theorem G5.turn {w wr : World} {g t zz : Nat} {oz : Obj} {c : Cfg} {D E L : Option Addr} {nd cd ne ce nl cl : Nat} {y : Int} {x : Lo} {r0 r1 : Option (Int × Nat)} {S : List Int} {T : Td} {vs vb vn va : Value} {A : Option Addr} {P : List Nat} {l : List Ck} {j i1 i2 i3 : Nat} {w6 : World} {p : Nat} (h : G5 w g t zz oz c D E L nd cd ne ce nl cl y x r0 r1 S T vs vb vn va A P l j i1 i2 i3 wr) (hp : P[j]? = some p) (k : Kept p wr w6) : G5 w g t zz oz c D E L nd cd ne ce nl cl y x r0 r1 S T vs vb vn va A P l (j + 1) i1 i2 i3 w6 := by
  have hm := List.mem_of_getElem? hp
  have n := h.np p hm
  have lo := h.rn.k.lo p hm
  refine ⟨⟨h.st.b.trans (k.below lo.1 h.st.b.size), fun z hz => ?_⟩, h.ov.kept k n.2.2.1, h.nv, h.lg, h.rn.turn hp k, h.na, h.np, h.ob.kept k (fun e => by have := (h.ob.lt _ e).1; omega), h.on.kept k (fun e => by have := (h.on.lt _ e).1; omega), h.oa.kept k (fun e => by have := (h.oa.lt _ e).1; omega), h.j1, h.j2, h.j3⟩
  refine (k.block z.1 (fun e => ?_) (lt_of_heap (h.st.h z hz))).trans (h.st.h z hz)
  simp only [List.mem_cons, List.not_mem_nil, or_false] at hz
  rcases hz with rfl | rfl | rfl
  · exact absurd e.symm (Nat.ne_of_lt n.1)
  · exact n.2.1 e.symm
  · exact n.2.2.2 e.symm
theorem G5.tfar {w wr : World} {g t zz : Nat} {oz : Obj} {c : Cfg} {D E L : Option Addr} {nd cd ne ce nl cl : Nat} {y : Int} {x : Lo} {r0 r1 : Option (Int × Nat)} {S : List Int} {T : Td} {vs vb vn va : Value} {A : Option Addr} {P : List Nat} {l : List Ck} {j i1 i2 i3 : Nat} (h : G5 w g t zz oz c D E L nd cd ne ce nl cl y x r0 r1 S T vs vb vn va A P l j i1 i2 i3 wr) : (∀ a, A = some a → a.block ≠ t) ∧ t ∉ P := ⟨fun a ha => Nat.ne_of_lt (h.na a ha), fun hp => Nat.lt_irrefl _ (h.np t hp).1⟩
theorem G5.far {w wr : World} {g t zz : Nat} {oz : Obj} {c : Cfg} {D E L : Option Addr} {nd cd ne ce nl cl : Nat} {y : Int} {x : Lo} {r0 r1 : Option (Int × Nat)} {S : List Int} {T : Td} {vs vb vn va : Value} {A : Option Addr} {P : List Nat} {l : List Ck} {j i1 i2 i3 : Nat} (_h : G5 w g t zz oz c D E L nd cd ne ce nl cl y x r0 r1 S T vs vb vn va A P l j i1 i2 i3 wr) {k : Nat} (hk : t + 1 ≤ k) : (∀ a, A = some a → a.block ≠ k) ∧ k ∉ P := ⟨fun a ha => by have := _h.na a ha; omega, fun hp => by have := (_h.np k hp).1; omega⟩
theorem g5_rest {g t zz : Nat} {oz : Obj} {c : Cfg} {D E L : Option Addr} {nd cd ne ce nl cl : Nat} {y : Int} {x : Lo} {r0 r1 : Option (Int × Nat)} (hg : g < t ∧ zz < g) : ∀ z ∈ [(g, xbx c D E L nd cd ne ce nl cl y x r0 r1), (zz, oz)], z.1 ≠ t := fun z hz => by
  simp only [List.mem_cons, List.not_mem_nil, or_false] at hz
  rcases hz with rfl | rfl <;> dsimp only <;> omega
theorem g5_le {g t zz : Nat} {oz : Obj} {c : Cfg} {D E L : Option Addr} {nd cd ne ce nl cl : Nat} {y : Int} {x : Lo} {r0 r1 : Option (Int × Nat)} {ot : Obj} (hg : g < t ∧ zz < g) : ∀ z ∈ [(t, ot), (g, xbx c D E L nd cd ne ce nl cl y x r0 r1), (zz, oz)], z.1 ≤ t := fun z hz => by
  simp only [List.mem_cons, List.not_mem_nil, or_false] at hz
  rcases hz with rfl | rfl | rfl <;> dsimp only <;> omega
theorem G5.pushB {w wr : World} {g t zz : Nat} {oz : Obj} {c : Cfg} {D E L : Option Addr} {nd cd ne ce nl cl : Nat} {y : Int} {x : Lo} {r0 r1 : Option (Int × Nat)} {S : List Int} {T : Td} {vs vb vn va : Value} {A : Option Addr} {P : List Nat} {l : List Ck} {j i1 i2 i3 : Nat} {w7 : World} {v7 : Value} (h : G5 w g t zz oz c D E L nd cd ne ce nl cl y x r0 r1 S T vs vb vn va A P l j i1 i2 i3 wr) {z : Int} (hx : T.b[i1]? = some z) (o7 : OG FI w7 (t + 1) 2 v7 (T.b.take i1 ++ [z])) (s7 : Step wr vb w7 v7) : G5 w g t zz oz c D E L nd cd ne ce nl cl y x r0 r1 S T vs v7 vn va A P l j (i1 + 1) i2 i3 (w7.setCell ⟨t, 3, none⟩ v7) := by
  have lo : ∀ k, vb.ownBlock = some k → t + 1 ≤ k := fun k hk => (h.ob.lt k hk).1
  have S7 := OG.stay h.st h.ob s7 (by have := h.lg; omega) (fun z hz e => by have := lo _ e; have := g5_le h.lg.2 z hz; omega)
  have kp := kept1 w7 t 3 v7
  refine ⟨S7.turn kp (heap_setCell_same w7 _ 3 _ _ _ (S7.at 0 rfl)) (by have := h.lg; omega) (g5_rest h.lg.2), (og_step h.ov s7 (fun k hk hu => by have := h.nv k hk; have := lo _ hu; omega)).kept kp (fun e => by have := h.nv _ e; omega), h.nv, h.lg, (h.rn.step s7 (fun k hk => h.far (lo k hk))).kept kp h.tfar.1 h.tfar.2, h.na, h.np, by rw [take_snoc hx]; exact o7.kept kp (fun e => by have := (o7.lt _ e).1; omega), (og_step h.on s7 h.j1.symm).kept kp (fun e => by have := (h.on.lt _ e).1; omega), (og_step h.oa s7 h.j2.symm).kept kp (fun e => by have := (h.oa.lt _ e).1; omega), (dj_step h.on s7 h.j1.symm).symm, (dj_step h.oa s7 h.j2.symm).symm, h.j3⟩
theorem G5.pushN {w wr : World} {g t zz : Nat} {oz : Obj} {c : Cfg} {D E L : Option Addr} {nd cd ne ce nl cl : Nat} {y : Int} {x : Lo} {r0 r1 : Option (Int × Nat)} {S : List Int} {T : Td} {vs vb vn va : Value} {A : Option Addr} {P : List Nat} {l : List Ck} {j i1 i2 i3 : Nat} {w7 : World} {v7 : Value} (h : G5 w g t zz oz c D E L nd cd ne ce nl cl y x r0 r1 S T vs vb vn va A P l j i1 i2 i3 wr) {z : Int} (hx : T.n[i2]? = some z) (o7 : OG FI w7 (t + 1) 3 v7 (T.n.take i2 ++ [z])) (s7 : Step wr vn w7 v7) : G5 w g t zz oz c D E L nd cd ne ce nl cl y x r0 r1 S T vs vb v7 va A P l j i1 (i2 + 1) i3 (w7.setCell ⟨t, 4, none⟩ v7) := by
  have lo : ∀ k, vn.ownBlock = some k → t + 1 ≤ k := fun k hk => (h.on.lt k hk).1
  have S7 := OG.stay h.st h.on s7 (by have := h.lg; omega) (fun z hz e => by have := lo _ e; have := g5_le h.lg.2 z hz; omega)
  have kp := kept1 w7 t 4 v7
  refine ⟨S7.turn kp (heap_setCell_same w7 _ 4 _ _ _ (S7.at 0 rfl)) (by have := h.lg; omega) (g5_rest h.lg.2), (og_step h.ov s7 (fun k hk hu => by have := h.nv k hk; have := lo _ hu; omega)).kept kp (fun e => by have := h.nv _ e; omega), h.nv, h.lg, (h.rn.step s7 (fun k hk => h.far (lo k hk))).kept kp h.tfar.1 h.tfar.2, h.na, h.np, (og_step h.ob s7 h.j1).kept kp (fun e => by have := (h.ob.lt _ e).1; omega), by rw [take_snoc hx]; exact o7.kept kp (fun e => by have := (o7.lt _ e).1; omega), (og_step h.oa s7 h.j3.symm).kept kp (fun e => by have := (h.oa.lt _ e).1; omega), dj_step h.ob s7 h.j1, h.j2, (dj_step h.oa s7 h.j3.symm).symm⟩
theorem G5.pushA {w wr : World} {g t zz : Nat} {oz : Obj} {c : Cfg} {D E L : Option Addr} {nd cd ne ce nl cl : Nat} {y : Int} {x : Lo} {r0 r1 : Option (Int × Nat)} {S : List Int} {T : Td} {vs vb vn va : Value} {A : Option Addr} {P : List Nat} {l : List Ck} {j i1 i2 i3 : Nat} {w7 : World} {v7 : Value} (h : G5 w g t zz oz c D E L nd cd ne ce nl cl y x r0 r1 S T vs vb vn va A P l j i1 i2 i3 wr) {z : Ck} (hx : T.a[i3]? = some z) (o7 : OG FK w7 (t + 1) 60 v7 (T.a.take i3 ++ [z])) (s7 : Step wr va w7 v7) : G5 w g t zz oz c D E L nd cd ne ce nl cl y x r0 r1 S T vs vb vn v7 A P l j i1 i2 (i3 + 1) (w7.setCell ⟨t, 5, none⟩ v7) := by
  have lo : ∀ k, va.ownBlock = some k → t + 1 ≤ k := fun k hk => (h.oa.lt k hk).1
  have S7 := OG.stay h.st h.oa s7 (by have := h.lg; omega) (fun z hz e => by have := lo _ e; have := g5_le h.lg.2 z hz; omega)
  have kp := kept1 w7 t 5 v7
  refine ⟨S7.turn kp (heap_setCell_same w7 _ 5 _ _ _ (S7.at 0 rfl)) (by have := h.lg; omega) (g5_rest h.lg.2), (og_step h.ov s7 (fun k hk hu => by have := h.nv k hk; have := lo _ hu; omega)).kept kp (fun e => by have := h.nv _ e; omega), h.nv, h.lg, (h.rn.step s7 (fun k hk => h.far (lo k hk))).kept kp h.tfar.1 h.tfar.2, h.na, h.np, (og_step h.ob s7 h.j2).kept kp (fun e => by have := (h.ob.lt _ e).1; omega), (og_step h.on s7 h.j3).kept kp (fun e => by have := (h.on.lt _ e).1; omega), by rw [take_snoc hx]; exact o7.kept kp (fun e => by have := (o7.lt _ e).1; omega), h.j1, dj_step h.ob s7 h.j2, dj_step h.on s7 h.j3⟩
/-- What Go tells of a round. -/
def GoYes (w : World) (T : Td) (e : Ending) (w' : World) : Prop := ∃ t, e = .returned (.tuple #[tvV t, .int .i64 0]) ∧ TvR w' w.heap.size t T ∧ Below w.heap.size w w'
theorem getD_some {α : Type} {L : List α} {i : Nat} {x d : α} (h : L[i]? = some x) : L.getD i d = x := by rw [List.getD_eq_getElem?_getD, h]; rfl
/-- What Go knows of its round. -/
structure GK (c : Cfg) (y : Int) (l : List Ck) (x : Lo) (n : Nat) (S : List Int) (r0 r1 : Option (Int × Nat)) : Prop where
  R : Rgt c y l
  n : l.length = n
  s : snt c y l = S
  r0 : rsl c y S x.u0 = r0
  r1 : rsl c y S x.u1 = r1
theorem GK.hrs {c : Cfg} {y : Int} {l : List Ck} {x : Lo} {n : Nat} {S : List Int} {r0 r1 : Option (Int × Nat)} (h : GK c y l x n S r0 r1) {i : Nat} {k : Ck} {s : Int} (hk : l[i]? = some k) (hs : S[i]? = some s) : RoundW.hrs c y l x.u0 x.u1 x.d0 x.d1 i = hr1 c y k s i r0 x.d0 ((c.delays.getD i []).getD 0 0) ++ hr1 c y k s i r1 x.d1 ((c.delays.getD i []).getD 1 0) := by
  unfold RoundW.hrs
  rw [getD_some hk, h.s, getD_some hs, h.r0, h.r1]
theorem GK.told {c : Cfg} {y : Int} {l : List Ck} {x : Lo} {n : Nat} {S : List Int} {r0 r1 : Option (Int × Nat)} (_h : GK c y l x n S r0 r1) {i : Nat} {k : Ck} (hk : l[i]? = some k) {H : List (Int × Nat)} (hH : RoundW.hrs c y l x.u0 x.u1 x.d0 x.d1 i = H) :
    (rndL c y l x).b[i]? = some (byL c y H) ∧ (rndL c y l x).n[i]? = some (H.length : Int) ∧ (rndL c y l x).a[i]? = some (aft c y k H.length (byL c y H)) := by
  have hi := lt_of_get hk
  unfold rndL
  rw [rnd_b hi, rnd_n hi, rnd_a hi, hH, getD_some hk]
  exact ⟨rfl, rfl, rfl⟩
/-- A stretch of code whose ways out meet, but for a slice's place and room and the world. -/
theorem wp_slc {P : Program} {c : Code} {Q : Exit → Act → World → Prop} {a : Act} {w : World} (A2 : Nat → Option Addr → Nat → Act) (S : Option Addr → Nat → World → Prop) (h : c.wp P (fun e a' w' => ∃ z A' c', e = Exit.normal ∧ a' = A2 z A' c' ∧ S A' c' w') a w) (hm : ∀ z A' c' W, S A' c' W → Q .normal (A2 z A' c') W) : c.wp P Q a w :=
  Code.wp_mono (fun _ _ _ ⟨z, A', c', h1, h2, h3⟩ => by subst h1; subst h2; exact hm z A' c' _ h3) h
abbrev xb0 (c : Cfg) (D E L : Option Addr) (nd cd ne ce nl cl : Nat) (y : Int) (x : Lo) : Obj := .cells #[.int .i64 c.hosts, .int .i64 c.cycle, .int .i64 c.delay, .int .i64 c.window, .int .i64 c.precision, .slice D nd cd, .slice E ne ce, .slice L nl cl, .int .i64 c.queue, .int .i64 y, .int .u32 (x.u0 : Int), .int .u32 (x.u1 : Int), .int .u32 (x.d0 : Int), .int .u32 (x.d1 : Int), .int .i64 0, .int .u32 0, .int .i64 0, .int .i64 0, .int .u32 0, .int .i64 0] 95 (0, 0)
set_option maxRecDepth 100000 in
theorem built_x (v0 v1 v2 v3 v4 v5 v6 v7 v8 l0 l1 l2 l3 : Value) (y : Int) : Tryz.prog.built 95 [(0, Value.agg #[v0, v1, v2, v3, v4, v5, v6, v7, v8]), (1, .int .i64 y), (2, .agg #[l0, l1, l2, l3])] = some #[v0, v1, v2, v3, v4, v5, v6, v7, v8, .int .i64 y, l0, l1, l2, l3, .int .i64 0, .int .u32 0, .int .i64 0, .int .i64 0, .int .u32 0, .int .i64 0] := by kernel_rfl
theorem build_x (v0 v1 v2 v3 v4 v5 v6 v7 v8 l0 l1 l2 l3 : Value) (y : Int) (W : World) : (Instr.build 95 #[(0, Value.agg #[v0, v1, v2, v3, v4, v5, v6, v7, v8]), (1, .int .i64 y), (2, .agg #[l0, l1, l2, l3])]).run Tryz.prog W = .ok (.agg #[v0, v1, v2, v3, v4, v5, v6, v7, v8, .int .i64 y, l0, l1, l2, l3, .int .i64 0, .int .u32 0, .int .i64 0, .int .i64 0, .int .u32 0, .int .i64 0]) W := run_build W _ _ _ (built_x v0 v1 v2 v3 v4 v5 v6 v7 v8 l0 l1 l2 l3 y)
abbrev xcs (c : Cfg) (D E L : Option Addr) (nd cd ne ce nl cl : Nat) (y : Int) (x : Lo) : Array Value := #[.int .i64 c.hosts, .int .i64 c.cycle, .int .i64 c.delay, .int .i64 c.window, .int .i64 c.precision, .slice D nd cd, .slice E ne ce, .slice L nl cl, .int .i64 c.queue, .int .i64 y, .int .u32 (x.u0 : Int), .int .u32 (x.u1 : Int), .int .u32 (x.d0 : Int), .int .u32 (x.d1 : Int), .int .i64 0, .int .u32 0, .int .i64 0, .int .i64 0, .int .u32 0, .int .i64 0]
abbrev zcs : Array Value := #[.int .i64 0, .int .i64 0, .int .i64 0, .int .i64 0, .int .i64 0, .slice none 0 0, .slice none 0 0, .slice none 0 0, .int .i64 0, .int .i64 0, .int .u32 0, .int .u32 0, .int .u32 0, .int .u32 0, .int .i64 0, .int .u32 0, .int .i64 0, .int .i64 0, .int .u32 0, .int .i64 0]
abbrev zx0 : Obj := .cells zcs 95 (0, 0)
theorem kept_setRow (w : World) (g : Nat) (cs : Array Value) : Kept g w (w.setRow g cs) := ⟨rfl, rfl, rfl, by rw [size_setRow]; exact Nat.le_refl _, fun j hj _ => setRow_other w g j cs hj⟩
theorem xb0_eq (c : Cfg) (D E L : Option Addr) (nd cd ne ce nl cl : Nat) (y : Int) (x : Lo) : xbx c D E L nd cd ne ce nl cl y x none none = xb0 c D E L nd cd ne ce nl cl y x := rfl
theorem cells4' {w : World} {j : Nat} {x0 x1 x2 x3 : Value} {t : TypeId} {fr : Nat × Nat} (h : w.heap[j]? = some (.cells #[x0, x1, x2, x3] t fr)) : w.cell? ⟨j, 0, none⟩ = some x0 ∧ w.cell? ⟨j, 1, none⟩ = some x1 ∧ w.cell? ⟨j, 2, none⟩ = some x2 ∧ w.cell? ⟨j, 3, none⟩ = some x3 := ⟨cell_of_row w j 0 _ _ _ h, cell_of_row w j 1 _ _ _ h, cell_of_row w j 2 _ _ _ h, cell_of_row w j 3 _ _ _ h⟩
set_option maxHeartbeats 16000000 in
set_option maxRecDepth 100000 in
theorem lgo_ok (c : Cfg) (D E L : Option Addr) (nd cd ne ce nl cl : Nat) (y : Int) (A : Option Addr) (l : List Ck) (n cp : Nat) (x : Lo) (w : World) (m : CM w c D E L nd cd ne ce nl cl) (hR : Rgt c y l) (hn : l.length = n) (hA : SG FK w A l) (hx : LoOk x) :
    Calls Tryz.prog 14 #[.agg #[.int .i64 c.hosts, .int .i64 c.cycle, .int .i64 c.delay, .int .i64 c.window, .int .i64 c.precision, .slice D nd cd, .slice E ne ce, .slice L nl cl, .int .i64 c.queue], .int .i64 y, .slice A n cp, LV x] w (GoYes w (rndL c y l x)) := by
  obtain ⟨T, hT⟩ : ∃ T, rndL c y l x = T := ⟨_, rfl⟩
  rw [hT]
  obtain ⟨S, hS⟩ : ∃ S, snt c y l = S := ⟨_, rfl⟩
  obtain ⟨r0, hr0⟩ : ∃ r, rsl c y S x.u0 = r := ⟨_, rfl⟩
  obtain ⟨r1, hr1⟩ : ∃ r, rsl c y S x.u1 = r := ⟨_, rfl⟩
  have HT := Lib.hid hT
  have HK := Lib.hid (show GK c y l x n S r0 r1 from ⟨hR, hn, hS, hr0, hr1⟩)
  have hp := rgt_parts.1 hR
  have HR := Lib.hid hR
  have HC := Lib.hid (cok hR.z)
  have HZ := Lib.hid hR.z
  have HM := Lib.hid m
  have HA := Lib.hid hA
  have HN := Lib.hid hn
  have HX := Lib.hid hx
  have HYB := Lib.hid hR.yb
  have HYC := Lib.hid hR.yc
  have HNH := Lib.hid (show (n : Int) = c.hosts by rw [← hn]; exact hR.n)
  have N6 := Lib.hid (show n ≤ 6 by have := hR.len; omega)
  have HSL := Lib.hid (show S.length = n by rw [← hS, snt_len, hn])
  have HSB := Lib.hid (show ∀ s ∈ S, -1 ≤ s ∧ s ≤ 1125899906842624 by
    intro s hs
    obtain ⟨j, hj⟩ := List.getElem?_of_mem hs
    have hl : j < l.length := by have := lt_of_get hj; rw [← hS, snt_len] at this; exact this
    have h4 := hR.sent (List.getElem?_eq_getElem hl)
    rw [hS, getD_some hj] at h4
    omega)
  have HRA := Lib.hid (show RsOk r0 from fun p cr h => rsl_some hR (u := x.u0) (by rw [hS, hr0]; exact h))
  have HRB := Lib.hid (show RsOk r1 from fun p cr h => rsl_some hR (u := x.u1) (by rw [hS, hr1]; exact h))
  obtain ⟨q, hq⟩ : ∃ q, w.heap.size = q := ⟨_, rfl⟩
  have HQ := Lib.hid hq
  have s0 := (((Stay.start w).alloc (cbx c D E L nd cd ne ce nl cl)).alloc (lbx x)).alloc (tbL nilS 0 0 nilS nilS nilS)
  simp only [World.size_alloc] at s0
  rw [hq] at s0
  have S0 := Lib.hid (show Stay w (GB q c D E L nd cd ne ce nl cl x) _ from s0)
  have CH := Lib.hid (fun (Z : World) (bz : Below w.heap.size w Z) => ConfW.check_any c D E L nd cd ne ce nl cl Z (HM.out.below bz))
  rw [hp.1] at CH
  have hcy := HC.out.y
  have CY := Lib.hid (fun (Z : World) => isCycle_any c D E L nd cd ne ce nl cl y Z hcy)
  rw [hp.2.1] at CY
  have hh := HNH.out
  have q2 : ((n : Int) != c.hosts) = false := by rw [hh]; exact bne_self_eq_false _
  have q3 : decide ((n : Int) = c.hosts) = true := decide_eq_true hh
  have q4 : ¬ (n : Int) ≠ c.hosts := fun h => h hh
  have STA := Lib.hid (fun (Z : World) (bz : Below w.heap.size w Z) => started_any A l n cp Z HN.out (by have := N6.out; omega) (HA.out.below bz))
  rw [hp.2.2.2.1] at STA
  have AB := Lib.hid (fun (Z : World) (bz : Below w.heap.size w Z) => above_any A l n cp (y * c.cycle) Z HN.out (by have := N6.out; omega) (HA.out.below bz))
  rw [hp.2.2.2.2] at AB
  have yc := HYC.out
  have wy1 : IntKind.i64.wrap (y * c.cycle) = y * c.cycle := by rw [IntKind.wrap_i64]; omega
  have wy2 : wrap64 (y * c.cycle) = y * c.cycle := by unfold wrap64; omega
  have hbd := build_x
  have hn63 : n ≤ 9223372036854775807 := by have := N6.out; omega
  clear hT hS hr0 hr1 hp hR m hA hn hx s0 hcy hh yc
  obtain ⟨a0, a1, a2, a3, a4, a5, a6, a7, a8⟩ := cells9 (S0.out.at 2 rfl)
  go_enter Tryz.func14, Tryz.ntmps14
  go_wp2_with fail
  refine (CH.out _ S0.out.b).mono ?_
  rintro e w1 ⟨rfl, b1⟩
  have S1 := Lib.hid (S0.out.next b1)
  clear b1 a0 a1 a2 a3 a4 a5 a6 a7 a8 CH S0
  obtain ⟨a0, a1, a2, a3, a4, a5, a6, a7, a8⟩ := cells9 (S1.out.at 2 rfl)
  go_wp2_with fail
  refine (CY.out _).mono ?_
  rintro e w2 ⟨rfl, b2⟩
  have S2 := Lib.hid (S1.out.next b2)
  clear b2 a0 a1 a2 a3 a4 a5 a6 a7 a8 CY S1
  obtain ⟨a0, a1, a2, a3, a4, a5, a6, a7, a8⟩ := cells9 (S2.out.at 2 rfl)
  go_wp2_with fail
  refine (STA.out _ S2.out.b).mono ?_
  rintro e w3 ⟨v, P, rfl, hst, -, b3⟩
  obtain ⟨o3, k3, d3⟩ := hst rfl
  obtain ⟨A2, c2, hv, sg3, -, -, -⟩ := o3.form
  rw [k3.n, HN.out] at hv
  subst hv
  have RN3 := Lib.hid (show RN w3 w.heap.size 0 A2 P l from ⟨sg3, ⟨k3.n, k3.k, fun p hp => ⟨Nat.le_trans S2.out.b.size (k3.lo p hp).1, (k3.lo p hp).2⟩, k3.nd⟩, fun p hp a ha e => d3 p hp (by rw [ha]; exact congrArg some e)⟩)
  have PZ := Lib.hid (fun p (hp : p ∈ P) => (show q + 1 + 1 < p from Nat.lt_of_lt_of_le (lt_of_heap (S2.out.at 0 rfl)) (k3.lo p hp).1))
  have AL3 := Lib.hid (fun a (ha : A2 = some a) => (show a.block < w3.heap.size from (o3.lt a.block (by rw [ha]; rfl)).2))
  have S3 := Lib.hid (S2.out.next b3)
  clear b3 a0 a1 a2 a3 a4 a5 a6 a7 a8 STA S2 hst o3 k3 d3 sg3
  obtain ⟨a0, a1, a2, a3, a4, a5, a6, a7, a8⟩ := cells9 (S3.out.at 2 rfl)
  go_wp2_with fail
  refine (AB.out _ S3.out.b).mono ?_
  rintro e w4 ⟨rfl, b4⟩
  have S4 := Lib.hid (S3.out.next b4)
  have RN4 := Lib.hid (RN3.out.below b4)
  have AL4 := Lib.hid (fun a (ha : A2 = some a) => Nat.lt_of_lt_of_le (AL3.out a ha) b4.size)
  clear b4 a0 a1 a2 a3 a4 a5 a6 a7 a8 AB S3 RN3 AL3
  obtain ⟨a0, a1, a2, a3, a4, a5, a6, a7, a8⟩ := cells9 (S4.out.at 2 rfl)
  have SE := Lib.hid (sendings_any A2 P l n c2 w.heap.size (y * c.cycle) w4 HN.out (by have := N6.out; omega) RN4.out HR.out.k)
  go_wp2_with fail
  refine SE.out.mono ?_
  rintro e w5 ⟨vs, rfl, o5, b5⟩
  rw [show (l.map fun k => whn k (y * c.cycle)) = S from HK.out.s] at o5
  obtain ⟨As, cs, hv, sg5, -, -, -⟩ := o5.form
  rw [HSL.out] at hv
  subst hv
  have VZ := Lib.hid (fun k (hk : (Value.slice As n cs).ownBlock = some k) => (show q + 1 + 1 < k from Nat.lt_of_lt_of_le (lt_of_heap (S4.out.at 0 rfl)) (o5.lt k hk).1))
  have O5 := Lib.hid (o5.base S4.out.b.size)
  have SG5 := Lib.hid sg5
  have S5 := Lib.hid (S4.out.next b5)
  have RN5 := Lib.hid (RN4.out.below b5)
  have AL5 := Lib.hid (fun a (ha : A2 = some a) => Nat.lt_of_lt_of_le (AL4.out a ha) b5.size)
  have NV5 := Lib.hid (show (∀ p ∈ P, (Value.slice As n cs).ownBlock ≠ some p) from fun p hp e => by have h1 := (RN4.out.k.lo p hp).2; have h2 := (o5.lt p e).1; omega)
  clear b5 o5 sg5 a0 a1 a2 a3 a4 a5 a6 a7 a8 SE S4 RN4 AL4
  obtain ⟨a0, a1, a2, a3, a4, a5, a6, a7, a8⟩ := cells9 (S5.out.at 2 rfl)
  obtain ⟨z0, z1, z2, z3⟩ := cells4' (S5.out.at 1 rfl)
  obtain ⟨g, hg⟩ : ∃ g, w5.heap.size = g := ⟨_, rfl⟩
  have HGZ := Lib.hid hg
  have LG := Lib.hid (show w.heap.size ≤ g by rw [← hg]; exact S5.out.b.size)
  have HZ0 := Lib.hid (show (w5.alloc zx0).heap[g]? = some zx0 from heap_at hg _)
  have BZ := Lib.hid (al (Below.refl w5.heap.size w5) zx0)
  have X6 := Lib.hid (show WX w g c D E L nd cd ne ce nl cl y x none none ((w5.alloc zx0).setRow g (xcs c D E L nd cd ne ce nl cl y x)) from ⟨by
    have h := (S5.out.sub (M := []) (fun z hz => by cases hz)).alloc zx0
    rw [hg] at h
    rw [xb0_eq]
    exact h.turn (kept_setRow _ g _) (setRow_heap _ g _ _ _ _ HZ0.out) LG.out (fun z hz => by cases hz), HM.out, LG.out⟩)
  have B56 := Lib.hid (show Below w5.heap.size w5 ((w5.alloc zx0).setRow g (xcs c D E L nd cd ne ce nl cl y x)) from BZ.out.trans ((kept_setRow _ g _).below (Nat.le_of_eq hg) BZ.out.size))
  have NAS := Lib.hid (fun a (ha : As = some a) => (show a.block ≠ g from by
    have h := (O5.out.lt a.block (by rw [ha]; rfl)).2
    rw [hg] at h
    exact Nat.ne_of_lt h))
  have CO := Lib.hid (compress_any c D E L nd cd ne ce nl cl y x g As S n cs w _ HC.out HX.out X6.out HYB.out HSL.out HNH.out HSB.out (SG5.out.below B56.out) NAS.out)
  clear hg
  go_upto_region 7 with (fail)
  go_step
  go_step
  go_step
  go_step
  go_step
  go_step
  go_step
  go_step
  go_step
  go_step
  go_step
  go_step
  go_step
  go_step
  go_step
  go_step
  have hg := HGZ.out
  rw [hg]
  refine wpList_store_row rfl _ _ _ rfl g (xcs c D E L nd cd ne ce nl cl y x) rfl rfl 95 zcs HZ0.out (by kernel_rfl) rfl (by kernel_rfl) ?_
  generalize (w5.alloc zx0).setRow g (xcs c D E L nd cd ne ce nl cl y x) = w6 at *
  clear hg
  go_wp2_with fail
  have hg := HGZ.out
  refine CO.out.mono ?_
  rintro e w7 ⟨rfl, x7, k7⟩
  rw [HK.out.r0, HK.out.r1] at x7
  have X7 := Lib.hid x7
  have ZG := Lib.hid (show q + 1 + 1 < g by rw [← hg]; exact lt_of_heap (S5.out.at 0 rfl))
  have Z7 := Lib.hid (show w7.heap[q + 1 + 1]? = some (tbL nilS 0 0 nilS nilS nilS) from (k7.block _ (Nat.ne_of_lt ZG.out) (lt_of_heap (row_below B56.out (S5.out.at 0 rfl)))).trans (row_below B56.out (S5.out.at 0 rfl)))
  have AN := Lib.hid (fun a (ha : A2 = some a) => (show a.block ≠ g from by have h := AL5.out a ha; rw [hg] at h; exact Nat.ne_of_lt h))
  have PN := Lib.hid (show g ∉ P from fun hp => by have h := (RN5.out.k.lo g hp).2; rw [hg] at h; exact Nat.lt_irrefl _ h)
  have RN7 := Lib.hid ((RN5.out.below B56.out).kept k7 AN.out PN.out)
  have O7 := Lib.hid ((O5.out.below B56.out).kept k7 (fun e => by have h := (O5.out.lt _ e).2; rw [hg] at h; exact Nat.lt_irrefl _ h))
  have NVG := Lib.hid (fun k (hk : (Value.slice As n cs).ownBlock = some k) => (show k < g from by have h := (O5.out.lt k hk).2; rw [hg] at h; exact h))
  have ALG := Lib.hid (fun a (ha : A2 = some a) => (show a.block < g from by have h := AL5.out a ha; rw [hg] at h; exact h))
  have PLG := Lib.hid (fun p (hp : p ∈ P) => (show p < g from by have h := (RN5.out.k.lo p hp).2; rw [hg] at h; exact h))
  clear x7 k7 a0 a1 a2 a3 a4 a5 a6 a7 a8 z0 z1 z2 z3 CO X6 RN5 AL5 O5 S5
  have CW := Lib.hid (crews_any c D E L nd cd ne ce nl cl y x g r0 r1 w7 X7.out.box)
  go_wp2_with fail
  refine CW.out.mono ?_
  rintro e w8 ⟨rfl, b8⟩
  obtain ⟨t, ht⟩ : ∃ t, w8.heap.size = t := ⟨_, rfl⟩
  have GT := Lib.hid (show g < t by rw [← ht]; exact Nat.lt_of_lt_of_le (lt_of_heap X7.out.box) b8.size)
  have B8 := Lib.hid b8
  have Q0 := Lib.hid (show G5 w g t (q + 1 + 1) (tbL nilS 0 0 nilS nilS nilS) c D E L nd cd ne ce nl cl y x r0 r1 S T (.slice As n cs) nilS nilS nilS A2 P l 0 0 0 0 (w8.alloc (tbL (.slice As n cs) (crw r0) (crw r1) nilS nilS nilS)) from by
    have h := (X7.out.next b8).st.alloc (tbL (.slice As n cs) (crw r0) (crw r1) nilS nilS nilS)
    rw [ht] at h
    have BA := al (Below.refl w8.heap.size w8) (tbL (.slice As n cs) (crw r0) (crw r1) nilS nilS nilS)
    have h2 := h.add (row_below BA (row_below b8 Z7.out))
    have h3 : Stay w [(t, tbL (.slice As n cs) (crw r0) (crw r1) nilS nilS nilS), (g, xbx c D E L nd cd ne ce nl cl y x r0 r1), (q + 1 + 1, tbL nilS 0 0 nilS nilS nilS)] _ := h2.sub (fun z hz => by
      simp only [List.mem_cons, List.not_mem_nil, or_false] at hz ⊢
      rcases hz with h | h | h
      · exact Or.inr (Or.inl h)
      · exact Or.inr (Or.inr h)
      · exact Or.inl h)
    exact ⟨h3, (O7.out.below b8).below BA, fun k hk => Nat.lt_trans (NVG.out k hk) GT.out, ⟨LG.out, GT.out, ZG.out⟩, (RN7.out.below b8).below BA, fun a ha => Nat.lt_trans (ALG.out a ha) GT.out, fun p hp => ⟨Nat.lt_trans (PLG.out p hp) GT.out, Nat.ne_of_lt (PLG.out p hp), NV5.out p hp, fun e => absurd (PZ.out p hp) (by omega)⟩, OG.nil _ _ _, OG.nil _ _ _, OG.nil _ _ _, dj_nil _, dj_nil _, dj_nil _⟩)
  clear b8 CW O7 RN7 B8
  clear hg
  go_wp2
  generalize w8.alloc (tbL (.slice As n cs) (crw r0) (crw r1) nilS nilS nilS) = w9 at *
  clear ht
  go_loopw [69] (fun iv wr => ∃ (i : Nat) (vb vn va : Value), i ≤ n ∧ iv = .int .i64 i ∧ Hid (G5 w g t (q + 1 + 1) (tbL nilS 0 0 nilS nilS nilS) c D E L nd cd ne ce nl cl y x r0 r1 S T (.slice As n cs) vb vn va A2 P l i i i i wr)) (fun iv _ => n - (intOf iv).toNat)
  case atStart => exact ⟨0, nilS, nilS, nilS, Nat.zero_le _, rfl, Q0⟩
  case round =>
    clear Q0
    obtain ⟨i, vb, vn, va, hi, rfl, Q⟩ := hrel
    by_cases hlt : (i : Int) < (n : Int)
    · obtain ⟨k, hk⟩ : ∃ k, l[i]? = some k := ⟨_, List.getElem?_eq_getElem (by have := HN.out; omega)⟩
      obtain ⟨s, hs⟩ : ∃ s, S[i]? = some s := ⟨_, List.getElem?_eq_getElem (by have := HSL.out; omega)⟩
      obtain ⟨p, hp, ck⟩ := Q.out.rn.k.get (Nat.le_refl i) hk
      obtain ⟨ba, oa, rfl, c0⟩ := fp_at Q.out.rn.a hp
      rw [Nat.mul_one] at c0
      have s0 : ∃ bs os, As = some ⟨bs, os, none⟩ ∧ wr.cell? ⟨bs, os + i, none⟩ = some (.int .i64 s) := by
        obtain ⟨A3, c3, e2, h3, -⟩ := Q.out.ov.form
        injection e2 with e3 _ _
        obtain ⟨bs, os, h4, -, h5⟩ := h3 i s hs
        have h6 := h5 0 (.int .i64 s) rfl
        rw [show os + i * FI.n + 0 = os + i by show os + i * 1 + 0 = os + i; omega] at h6
        exact ⟨bs, os, e3.trans h4, h6⟩
      obtain ⟨bs, os, rfl, s0⟩ := s0
      have KO := Lib.hid (HR.out.k k (List.mem_of_getElem? hk))
      have PM := Lib.hid (Q.out.np p (List.mem_of_getElem? hp))
      have CKP := Lib.hid ck
      have HP := Lib.hid hp
      have HRS := HK.out.hrs hk hs
      have hic : (i : Int) < c.hosts := by have := HNH.out; omega
      have HIC := Lib.hid hic
      have LB : (T.b.take i).length = i := by rw [← HT.out, List.length_take, show (rndL c y l x).b.length = n from by rw [show (rndL c y l x).b.length = l.length from (rnd_len c y l x.u0 x.u1 x.d0 x.d1).2.1]; exact HN.out]; omega
      by_cases hs1 : s = -1
      · have e1 : hr1 c y k s i r0 x.d0 ((c.delays.getD i []).getD 0 0) ++ hr1 c y k s i r1 x.d1 ((c.delays.getD i []).getD 1 0) = [] := by rw [hr1_neg (by omega), hr1_neg (by omega)]; rfl
        have TO := HK.out.told hk (HRS.trans e1)
        rw [HT.out] at TO
        have Xb := Lib.hid (show T.b[i]? = some 0 from TO.1)
        have Xn := Lib.hid (show T.n[i]? = some 0 from TO.2.1)
        have Xa := Lib.hid (show T.a[i]? = some k from TO.2.2)
        have QT := Lib.hid Q.out.up
        subst hs1
        clear hk hs hp ck HRS e1 TO hic LB Q
        have CKT := CKP
        have Tb := QT.out.st.at 0 rfl
        have e3 := cell_of_row _ t 3 _ _ _ Tb
        have f3 := frozen_of_row _ t 3 _ _ Tb
        go_wp2_with (at_builtin; refine wpList_append_one oneI _ rfl _ _ rfl (t + 1) _ (T.b.take i) rfl (QT.out.ob.alloc _) (0 : Int) _ rfl (heap_at (by first | rfl | simp) _) ?c1 (by decide) ?c2 ?_)
        case c1 =>
          rw [List.length_take]
          have := N6.out
          omega
        case c2 =>
          have h8 := lt_of_heap (QT.out.st.at 0 rfl)
          rw [World.size_alloc]
          omega
        intro vb' wb ob sb
        have Ab := al (Below.refl _ wr) (.cells #[.int .i64 (0 : Int)] 2)
        have QB := Lib.hid ((QT.out.next Ab).pushB Xb.out ob sb)
        have CKB := Lib.hid (show CK (wb.setCell ⟨t, 3, none⟩ vb') p k.m k.b k.r from by
          unfold CK
          rw [heap_setCell_other _ _ _ _ (by have := PM.out.1; dsimp only; omega)]
          exact step_row sb (row_below Ab CKT.out) (fun e => by have := (QT.out.ob.lt _ e).1; have := PM.out.1; omega))
        have gb := step_row sb (row_below Ab Tb) (fun e => by have := (QT.out.ob.lt _ e).1; omega)
        have e3' := cell_of_row _ t 3 _ _ _ gb
        have f3' := frozen_of_row _ t 3 _ _ gb
        obtain ⟨Ab', cb', evb, -⟩ := ob.form
        rw [show (T.b.take i ++ [(0 : Int)]).length = i + 1 from by rw [List.length_append, List.length_take, Nat.min_eq_left (Nat.le_of_lt (lt_of_get Xb.out))]; rfl] at evb
        subst evb
        clear Tb e3 f3 gb ob Ab sb
        have Tn := QB.out.st.at 0 rfl
        have e4 := cell_of_row _ t 4 _ _ _ Tn
        have f4 := frozen_of_row _ t 4 _ _ Tn
        go_wp2_with (at_builtin; refine wpList_append_one oneN _ rfl _ _ rfl (t + 1) _ (T.n.take i) rfl (QB.out.on.alloc _) (0 : Int) _ rfl (heap_at (by first | rfl | simp) _) ?c1 (by decide) ?c2 ?_)
        case c1 =>
          rw [List.length_take]
          have := N6.out
          omega
        case c2 =>
          have h8 := lt_of_heap (QB.out.st.at 0 rfl)
          rw [World.size_alloc]
          omega
        intro vn' wn on sn
        have An := al (Below.refl _ (wb.setCell ⟨t, 3, none⟩ (.slice Ab' (i + 1) cb'))) (.cells #[.int .i64 (0 : Int)] 3)
        have QN := Lib.hid ((QB.out.next An).pushN Xn.out on sn)
        have CKN := Lib.hid (show CK (wn.setCell ⟨t, 4, none⟩ vn') p k.m k.b k.r from by
          unfold CK
          rw [heap_setCell_other _ _ _ _ (by have := PM.out.1; dsimp only; omega)]
          exact step_row sn (row_below An CKB.out) (fun e => by have := (QB.out.on.lt _ e).1; have := PM.out.1; omega))
        have gn := step_row sn (row_below An Tn) (fun e => by have := (QB.out.on.lt _ e).1; omega)
        have e4' := cell_of_row _ t 4 _ _ _ gn
        have f4' := frozen_of_row _ t 4 _ _ gn
        obtain ⟨An', cn', evn, -⟩ := on.form
        rw [show (T.n.take i ++ [(0 : Int)]).length = i + 1 from by rw [List.length_append, List.length_take, Nat.min_eq_left (Nat.le_of_lt (lt_of_get Xn.out))]; rfl] at evn
        subst evn
        clear Tn e4 f4 gn on An sn
        go_wp2
        generalize wn.setCell ⟨t, 4, none⟩ (.slice An' (i + 1) cn') = w3 at *
        clear e3' f3' e4' f4' QB CKB QT CKT
        have TB := Lib.hid (QN.out.st.at 0 rfl)
        have ST := Lib.hid (state_any (CKN.out.below (Below.refl _ _).drew))
        apply wp_slc (S := fun A' c' Z => G5 w g t (q + 1 + 1) (tbL nilS 0 0 nilS nilS nilS) c D E L nd cd ne ce nl cl y x r0 r1 S T (.slice (some ⟨bs, os, none⟩) n cs) (.slice Ab' (i + 1) cb') (.slice An' (i + 1) cn') (.slice A' (i + 1) c') (some ⟨ba, oa, none⟩) P l (i + 1) (i + 1) (i + 1) (i + 1) Z)
        case h =>
          refine wp_region_noPanic ?_
          refine wp_region_held_drew (S := fun Z : World => True) (by kernel_rfl) trivial (fun hHeld => ?_)
          refine takeR 0 (some 97) ?_ ?_ ?_; rotate_left; (focus (intros; go_simp; (try with_reducible rfl)))
          simp only [aput, lset]
          refine takeR 2 (some 99) ?_ ?_ ?_; rotate_left; (focus (intros; go_simp; (try with_reducible rfl)))
          simp only [aput, lset]
          refine wpAnyH_ready (rs := [1, 3]) (by kernel_rfl) (by simp) ?_
          refine AllReadyH.cons (o := ⟨some 98, _, _, _, _, _⟩) rfl (fun K hK => ?_) ?_
          · rw [if_pos (by kernel_rfl)]
            go_simp
            have e5 : w3.cell? ⟨t, 5, none⟩ = some va := cell_of_row _ t 5 _ _ _ TB.out
            go_simp
            refine hK.out _ _ trivial (fun hHeld => ?_)
            clear hK K
            refine wpAnyH_ready (rs := [3]) (by kernel_rfl) (by simp) ?_
            refine AllReadyH.cons (o := ⟨some 100, _, _, _, _, _⟩) rfl (fun K hK => ?_) AllReadyH.nil
            rw [if_pos (by kernel_rfl)]
            go_simp
            refine ST.out.mono ?_
            rintro r w9 ⟨rfl, b9⟩
            have TB9 := row_below b9 TB.out
            go_simp
            refine hK.out _ _ trivial (fun hHeld => ?_)
            clear hK K
            refine wpAnyH_ready (rs := [4]) (by kernel_rfl) (by simp) ?_
            refine AllReadyH.cons (o := ⟨some 101, _, _, _, _, _⟩) rfl (fun K hK => ?_) AllReadyH.nil
            rw [if_pos (by kernel_rfl)]
            go_simp
            obtain ⟨z9, hz9⟩ : ∃ z9, w9.heap.size = z9 := ⟨_, rfl⟩
            go_simp
            refine hK.out _ _ trivial (fun hHeld => ?_)
            clear hK K
            refine wpAnyH_ready (rs := [5]) (by kernel_rfl) (by simp) ?_
            refine AllReadyH.cons (o := ⟨some 102, _, _, _, _, _⟩) rfl (fun K hK => ?_) AllReadyH.nil
            have OX := (QN.out.oa.drew.below b9).alloc (sbx k)
            have CX : SG FK (w9.alloc (sbx k)) (some ⟨z9, 0, none⟩) [k] := SG.one (heap_at hz9 (sbx k))
            have BX : t + 1 ≤ (w9.alloc (sbx k)).heap.size := by have := lt_of_heap TB9; rw [World.size_alloc]; omega
            refine step_append_og oneS rfl _ _ rfl (t + 1) va (T.a.take i) rfl OX z9 0 1 1 [k] rfl rfl CX (by rw [List.length_take]; have := N6.out; omega) (by decide) BX ?_
            intro va' wa oa sa
            have ga := step_row sa (row_below (al (Below.refl _ w9) (sbx k)) TB9) (fun e => by have := (QN.out.oa.lt _ e).1; omega)
            have e5' := cell_of_row _ t 5 _ _ _ ga
            have f5' := frozen_of_row _ t 5 _ _ ga
            obtain ⟨Aa', ca', eva, -⟩ := oa.form
            rw [show (T.a.take i ++ [k]).length = i + 1 from by rw [List.length_append, List.length_take, Nat.min_eq_left (Nat.le_of_lt (lt_of_get Xa.out))]; rfl] at eva
            have Q8 := ((QN.out.next (Below.refl _ _).drew).next (b9.trans ((al (Below.refl _ w9) (sbx k)).mono b9.size))).pushA Xa.out oa sa
            subst eva
            refine hK.out _ _ trivial (fun hHeld => ?_)
            clear hK K
            refine takeR 6 (some 103) ?_ ?_ ?_; rotate_left; (focus (intros; go_simp; (try with_reducible rfl)))
            simp only [aput, lset]
            refine wpAnyH_ready (rs := [7]) (by kernel_rfl) (by simp) ?_
            refine AllReadyH.cons (o := ⟨none, _, _, _, _, _⟩) rfl (fun K hK => ?_) AllReadyH.nil
            rw [if_pos (by kernel_rfl)]
            go_simp
            refine hK.out _ _ trivial (fun hHeld => ?_)
            clear hK K
            refine wpAnyH_done (by kernel_rfl) ?_ _
            exact NoPanic.normal ⟨z9, Aa', ca', rfl, rfl, Q8⟩
          refine AllReadyH.cons (o := ⟨some 100, _, _, _, _, _⟩) rfl (fun K hK => ?_) AllReadyH.nil
          rw [if_pos (by kernel_rfl)]
          go_simp
          refine ST.out.mono ?_
          rintro r w9 ⟨rfl, b9⟩
          have TB9 := row_below b9 TB.out
          go_simp
          refine hK.out _ _ trivial (fun hHeld => ?_)
          clear hK K
          refine wpAnyH_ready (rs := [1, 4]) (by kernel_rfl) (by simp) ?_
          refine AllReadyH.cons (o := ⟨some 98, _, _, _, _, _⟩) rfl (fun K hK => ?_) ?_
          · rw [if_pos (by kernel_rfl)]
            go_simp
            have e5 : w9.cell? ⟨t, 5, none⟩ = some va := cell_of_row _ t 5 _ _ _ TB9
            go_simp
            refine hK.out _ _ trivial (fun hHeld => ?_)
            clear hK K
            refine wpAnyH_ready (rs := [4]) (by kernel_rfl) (by simp) ?_
            refine AllReadyH.cons (o := ⟨some 101, _, _, _, _, _⟩) rfl (fun K hK => ?_) AllReadyH.nil
            rw [if_pos (by kernel_rfl)]
            go_simp
            obtain ⟨z9, hz9⟩ : ∃ z9, w9.heap.size = z9 := ⟨_, rfl⟩
            go_simp
            refine hK.out _ _ trivial (fun hHeld => ?_)
            clear hK K
            refine wpAnyH_ready (rs := [5]) (by kernel_rfl) (by simp) ?_
            refine AllReadyH.cons (o := ⟨some 102, _, _, _, _, _⟩) rfl (fun K hK => ?_) AllReadyH.nil
            have OX := (QN.out.oa.drew.below b9).alloc (sbx k)
            have CX : SG FK (w9.alloc (sbx k)) (some ⟨z9, 0, none⟩) [k] := SG.one (heap_at hz9 (sbx k))
            have BX : t + 1 ≤ (w9.alloc (sbx k)).heap.size := by have := lt_of_heap TB9; rw [World.size_alloc]; omega
            refine step_append_og oneS rfl _ _ rfl (t + 1) va (T.a.take i) rfl OX z9 0 1 1 [k] rfl rfl CX (by rw [List.length_take]; have := N6.out; omega) (by decide) BX ?_
            intro va' wa oa sa
            have ga := step_row sa (row_below (al (Below.refl _ w9) (sbx k)) TB9) (fun e => by have := (QN.out.oa.lt _ e).1; omega)
            have e5' := cell_of_row _ t 5 _ _ _ ga
            have f5' := frozen_of_row _ t 5 _ _ ga
            obtain ⟨Aa', ca', eva, -⟩ := oa.form
            rw [show (T.a.take i ++ [k]).length = i + 1 from by rw [List.length_append, List.length_take, Nat.min_eq_left (Nat.le_of_lt (lt_of_get Xa.out))]; rfl] at eva
            have Q8 := ((QN.out.next (Below.refl _ _).drew).next (b9.trans ((al (Below.refl _ w9) (sbx k)).mono b9.size))).pushA Xa.out oa sa
            subst eva
            refine hK.out _ _ trivial (fun hHeld => ?_)
            clear hK K
            refine takeR 6 (some 103) ?_ ?_ ?_; rotate_left; (focus (intros; go_simp; (try with_reducible rfl)))
            simp only [aput, lset]
            refine wpAnyH_ready (rs := [7]) (by kernel_rfl) (by simp) ?_
            refine AllReadyH.cons (o := ⟨none, _, _, _, _, _⟩) rfl (fun K hK => ?_) AllReadyH.nil
            rw [if_pos (by kernel_rfl)]
            go_simp
            refine hK.out _ _ trivial (fun hHeld => ?_)
            clear hK K
            refine wpAnyH_done (by kernel_rfl) ?_ _
            exact NoPanic.normal ⟨z9, Aa', ca', rfl, rfl, Q8⟩
          refine AllReadyH.cons (o := ⟨some 101, _, _, _, _, _⟩) rfl (fun K hK => ?_) AllReadyH.nil
          rw [if_pos (by kernel_rfl)]
          go_simp
          obtain ⟨z9, hz9⟩ : ∃ z9, w9.heap.size = z9 := ⟨_, rfl⟩
          go_simp
          refine hK.out _ _ trivial (fun hHeld => ?_)
          clear hK K
          refine wpAnyH_ready (rs := [1]) (by kernel_rfl) (by simp) ?_
          refine AllReadyH.cons (o := ⟨some 98, _, _, _, _, _⟩) rfl (fun K hK => ?_) AllReadyH.nil
          rw [if_pos (by kernel_rfl)]
          go_simp
          have e5 : (w9.alloc (sbx k)).cell? ⟨t, 5, none⟩ = some va := cell_of_row _ t 5 _ _ _ (row_below (al (Below.refl _ w9) (sbx k)) TB9)
          go_simp
          refine hK.out _ _ trivial (fun hHeld => ?_)
          clear hK K
          refine wpAnyH_ready (rs := [5]) (by kernel_rfl) (by simp) ?_
          refine AllReadyH.cons (o := ⟨some 102, _, _, _, _, _⟩) rfl (fun K hK => ?_) AllReadyH.nil
          have OX := (QN.out.oa.drew.below b9).alloc (sbx k)
          have CX : SG FK (w9.alloc (sbx k)) (some ⟨z9, 0, none⟩) [k] := SG.one (heap_at hz9 (sbx k))
          have BX : t + 1 ≤ (w9.alloc (sbx k)).heap.size := by have := lt_of_heap TB9; rw [World.size_alloc]; omega
          refine step_append_og oneS rfl _ _ rfl (t + 1) va (T.a.take i) rfl OX z9 0 1 1 [k] rfl rfl CX (by rw [List.length_take]; have := N6.out; omega) (by decide) BX ?_
          intro va' wa oa sa
          have ga := step_row sa (row_below (al (Below.refl _ w9) (sbx k)) TB9) (fun e => by have := (QN.out.oa.lt _ e).1; omega)
          have e5' := cell_of_row _ t 5 _ _ _ ga
          have f5' := frozen_of_row _ t 5 _ _ ga
          obtain ⟨Aa', ca', eva, -⟩ := oa.form
          rw [show (T.a.take i ++ [k]).length = i + 1 from by rw [List.length_append, List.length_take, Nat.min_eq_left (Nat.le_of_lt (lt_of_get Xa.out))]; rfl] at eva
          have Q8 := ((QN.out.next (Below.refl _ _).drew).next (b9.trans ((al (Below.refl _ w9) (sbx k)).mono b9.size))).pushA Xa.out oa sa
          subst eva
          refine hK.out _ _ trivial (fun hHeld => ?_)
          clear hK K
          refine takeR 6 (some 103) ?_ ?_ ?_; rotate_left; (focus (intros; go_simp; (try with_reducible rfl)))
          simp only [aput, lset]
          refine wpAnyH_ready (rs := [7]) (by kernel_rfl) (by simp) ?_
          refine AllReadyH.cons (o := ⟨none, _, _, _, _, _⟩) rfl (fun K hK => ?_) AllReadyH.nil
          rw [if_pos (by kernel_rfl)]
          go_simp
          refine hK.out _ _ trivial (fun hHeld => ?_)
          clear hK K
          refine wpAnyH_done (by kernel_rfl) ?_ _
          exact NoPanic.normal ⟨z9, Aa', ca', rfl, rfl, Q8⟩
        case hm =>
          intro z4 A' c' w4 Q4
          have Q5 := Lib.hid Q4
          clear Q4
          go_wp2
          go_roundw
          case rel => exact ⟨i + 1, _, _, _, by omega, by go_num, Q5⟩
          case measure => simp [intOf]; omega
      · have s1 : 0 ≤ s := by have := HSB.out s (List.mem_of_getElem? hs); omega
        have CR0 := correct_any c D E L nd cd ne ce nl cl y x r0 r1 g i p k s _ _ w wr HZ.out HX.out ⟨Q.out.st.sub (fun z hz => by rw [List.mem_singleton.1 hz]; simp), HM.out, LG.out⟩ HYB.out HYC.out hic KO.out ck s1 rfl rfl HRA.out HRB.out
        obtain ⟨H, hH⟩ : ∃ H, hr1 c y k s i r0 x.d0 ((c.delays.getD i []).getD 0 0) ++ hr1 c y k s i r1 x.d1 ((c.delays.getD i []).getD 1 0) = H := ⟨_, rfl⟩
        have TO := HK.out.told hk (HRS.trans hH)
        rw [hH] at CR0
        unfold Corr at CR0
        rw [HT.out] at TO
        obtain ⟨bv, hbv⟩ : ∃ bv, byL c y H = bv := ⟨_, rfl⟩
        obtain ⟨nv, hnv⟩ : ∃ nv, H.length = nv := ⟨_, rfl⟩
        rw [hbv, hnv] at CR0 TO
        obtain ⟨kk, hkk⟩ : ∃ kk, aft c y k nv bv = kk := ⟨_, rfl⟩
        rw [hkk] at CR0 TO
        have Xb := Lib.hid (show T.b[i]? = some bv from TO.1)
        have Xn := Lib.hid (show T.n[i]? = some (nv : Int) from TO.2.1)
        have Xa := Lib.hid (show T.a[i]? = some kk from TO.2.2)
        have CR := Lib.hid CR0
        clear hk hs hp ck HRS TO hic LB CR0 hH hbv hnv hkk s1
        go_wp2_with fail
        refine CR.out.mono ?_
        rintro e w6 ⟨⟨rfl, c6⟩, k6⟩
        have CKT := Lib.hid c6
        have QT := Lib.hid (Q.out.turn HP.out k6)
        clear c6 k6 CR Q c0 s0
        have Tb := QT.out.st.at 0 rfl
        have e3 := cell_of_row _ t 3 _ _ _ Tb
        have f3 := frozen_of_row _ t 3 _ _ Tb
        go_wp2_with (at_builtin; refine wpList_append_one oneI _ rfl _ _ rfl (t + 1) _ (T.b.take i) rfl (QT.out.ob.alloc _) bv _ rfl (heap_at (by first | rfl | simp) _) ?c1 (by decide) ?c2 ?_)
        case c1 =>
          rw [List.length_take]
          have := N6.out
          omega
        case c2 =>
          have h8 := lt_of_heap (QT.out.st.at 0 rfl)
          rw [World.size_alloc]
          omega
        intro vb' wb ob sb
        have Ab := al (Below.refl _ w6) (.cells #[.int .i64 bv] 2)
        have QB := Lib.hid ((QT.out.next Ab).pushB Xb.out ob sb)
        have CKB := Lib.hid (show CK (wb.setCell ⟨t, 3, none⟩ vb') p kk.m kk.b kk.r from by
          unfold CK
          rw [heap_setCell_other _ _ _ _ (by have := PM.out.1; dsimp only; omega)]
          exact step_row sb (row_below Ab CKT.out) (fun e => by have := (QT.out.ob.lt _ e).1; have := PM.out.1; omega))
        have gb := step_row sb (row_below Ab Tb) (fun e => by have := (QT.out.ob.lt _ e).1; omega)
        have e3' := cell_of_row _ t 3 _ _ _ gb
        have f3' := frozen_of_row _ t 3 _ _ gb
        obtain ⟨Ab', cb', evb, -⟩ := ob.form
        rw [show (T.b.take i ++ [bv]).length = i + 1 from by rw [List.length_append, List.length_take, Nat.min_eq_left (Nat.le_of_lt (lt_of_get Xb.out))]; rfl] at evb
        subst evb
        clear Tb e3 f3 gb ob Ab sb
        have Tn := QB.out.st.at 0 rfl
        have e4 := cell_of_row _ t 4 _ _ _ Tn
        have f4 := frozen_of_row _ t 4 _ _ Tn
        go_wp2_with (at_builtin; refine wpList_append_one oneN _ rfl _ _ rfl (t + 1) _ (T.n.take i) rfl (QB.out.on.alloc _) (nv : Int) _ rfl (heap_at (by first | rfl | simp) _) ?c1 (by decide) ?c2 ?_)
        case c1 =>
          rw [List.length_take]
          have := N6.out
          omega
        case c2 =>
          have h8 := lt_of_heap (QB.out.st.at 0 rfl)
          rw [World.size_alloc]
          omega
        intro vn' wn on sn
        have An := al (Below.refl _ (wb.setCell ⟨t, 3, none⟩ (.slice Ab' (i + 1) cb'))) (.cells #[.int .i64 (nv : Int)] 3)
        have QN := Lib.hid ((QB.out.next An).pushN Xn.out on sn)
        have CKN := Lib.hid (show CK (wn.setCell ⟨t, 4, none⟩ vn') p kk.m kk.b kk.r from by
          unfold CK
          rw [heap_setCell_other _ _ _ _ (by have := PM.out.1; dsimp only; omega)]
          exact step_row sn (row_below An CKB.out) (fun e => by have := (QB.out.on.lt _ e).1; have := PM.out.1; omega))
        have gn := step_row sn (row_below An Tn) (fun e => by have := (QB.out.on.lt _ e).1; omega)
        have e4' := cell_of_row _ t 4 _ _ _ gn
        have f4' := frozen_of_row _ t 4 _ _ gn
        obtain ⟨An', cn', evn, -⟩ := on.form
        rw [show (T.n.take i ++ [(nv : Int)]).length = i + 1 from by rw [List.length_append, List.length_take, Nat.min_eq_left (Nat.le_of_lt (lt_of_get Xn.out))]; rfl] at evn
        subst evn
        clear Tn e4 f4 gn on An sn
        go_wp2
        generalize wn.setCell ⟨t, 4, none⟩ (.slice An' (i + 1) cn') = w3 at *
        clear e3' f3' e4' f4' QB CKB QT CKT
        have TB := Lib.hid (QN.out.st.at 0 rfl)
        have ST := Lib.hid (state_any (CKN.out.below (Below.refl _ _).drew))
        apply wp_slc (S := fun A' c' Z => G5 w g t (q + 1 + 1) (tbL nilS 0 0 nilS nilS nilS) c D E L nd cd ne ce nl cl y x r0 r1 S T (.slice (some ⟨bs, os, none⟩) n cs) (.slice Ab' (i + 1) cb') (.slice An' (i + 1) cn') (.slice A' (i + 1) c') (some ⟨ba, oa, none⟩) P l (i + 1) (i + 1) (i + 1) (i + 1) Z)
        case h =>
          refine wp_region_noPanic ?_
          refine wp_region_held_drew (S := fun Z : World => True) (by kernel_rfl) trivial (fun hHeld => ?_)
          refine takeR 0 (some 97) ?_ ?_ ?_; rotate_left; (focus (intros; go_simp; (try with_reducible rfl)))
          simp only [aput, lset]
          refine takeR 2 (some 99) ?_ ?_ ?_; rotate_left; (focus (intros; go_simp; (try with_reducible rfl)))
          simp only [aput, lset]
          refine wpAnyH_ready (rs := [1, 3]) (by kernel_rfl) (by simp) ?_
          refine AllReadyH.cons (o := ⟨some 98, _, _, _, _, _⟩) rfl (fun K hK => ?_) ?_
          · rw [if_pos (by kernel_rfl)]
            go_simp
            have e5 : w3.cell? ⟨t, 5, none⟩ = some va := cell_of_row _ t 5 _ _ _ TB.out
            go_simp
            refine hK.out _ _ trivial (fun hHeld => ?_)
            clear hK K
            refine wpAnyH_ready (rs := [3]) (by kernel_rfl) (by simp) ?_
            refine AllReadyH.cons (o := ⟨some 100, _, _, _, _, _⟩) rfl (fun K hK => ?_) AllReadyH.nil
            rw [if_pos (by kernel_rfl)]
            go_simp
            refine ST.out.mono ?_
            rintro r w9 ⟨rfl, b9⟩
            have TB9 := row_below b9 TB.out
            go_simp
            refine hK.out _ _ trivial (fun hHeld => ?_)
            clear hK K
            refine wpAnyH_ready (rs := [4]) (by kernel_rfl) (by simp) ?_
            refine AllReadyH.cons (o := ⟨some 101, _, _, _, _, _⟩) rfl (fun K hK => ?_) AllReadyH.nil
            rw [if_pos (by kernel_rfl)]
            go_simp
            obtain ⟨z9, hz9⟩ : ∃ z9, w9.heap.size = z9 := ⟨_, rfl⟩
            go_simp
            refine hK.out _ _ trivial (fun hHeld => ?_)
            clear hK K
            refine wpAnyH_ready (rs := [5]) (by kernel_rfl) (by simp) ?_
            refine AllReadyH.cons (o := ⟨some 102, _, _, _, _, _⟩) rfl (fun K hK => ?_) AllReadyH.nil
            have OX := (QN.out.oa.drew.below b9).alloc (sbx kk)
            have CX : SG FK (w9.alloc (sbx kk)) (some ⟨z9, 0, none⟩) [kk] := SG.one (heap_at hz9 (sbx kk))
            have BX : t + 1 ≤ (w9.alloc (sbx kk)).heap.size := by have := lt_of_heap TB9; rw [World.size_alloc]; omega
            refine step_append_og oneS rfl _ _ rfl (t + 1) va (T.a.take i) rfl OX z9 0 1 1 [kk] rfl rfl CX (by rw [List.length_take]; have := N6.out; omega) (by decide) BX ?_
            intro va' wa oa sa
            have ga := step_row sa (row_below (al (Below.refl _ w9) (sbx kk)) TB9) (fun e => by have := (QN.out.oa.lt _ e).1; omega)
            have e5' := cell_of_row _ t 5 _ _ _ ga
            have f5' := frozen_of_row _ t 5 _ _ ga
            obtain ⟨Aa', ca', eva, -⟩ := oa.form
            rw [show (T.a.take i ++ [kk]).length = i + 1 from by rw [List.length_append, List.length_take, Nat.min_eq_left (Nat.le_of_lt (lt_of_get Xa.out))]; rfl] at eva
            have Q8 := ((QN.out.next (Below.refl _ _).drew).next (b9.trans ((al (Below.refl _ w9) (sbx kk)).mono b9.size))).pushA Xa.out oa sa
            subst eva
            refine hK.out _ _ trivial (fun hHeld => ?_)
            clear hK K
            refine takeR 6 (some 103) ?_ ?_ ?_; rotate_left; (focus (intros; go_simp; (try with_reducible rfl)))
            simp only [aput, lset]
            refine wpAnyH_ready (rs := [7]) (by kernel_rfl) (by simp) ?_
            refine AllReadyH.cons (o := ⟨none, _, _, _, _, _⟩) rfl (fun K hK => ?_) AllReadyH.nil
            rw [if_pos (by kernel_rfl)]
            go_simp
            refine hK.out _ _ trivial (fun hHeld => ?_)
            clear hK K
            refine wpAnyH_done (by kernel_rfl) ?_ _
            exact NoPanic.normal ⟨z9, Aa', ca', rfl, rfl, Q8⟩
          refine AllReadyH.cons (o := ⟨some 100, _, _, _, _, _⟩) rfl (fun K hK => ?_) AllReadyH.nil
          rw [if_pos (by kernel_rfl)]
          go_simp
          refine ST.out.mono ?_
          rintro r w9 ⟨rfl, b9⟩
          have TB9 := row_below b9 TB.out
          go_simp
          refine hK.out _ _ trivial (fun hHeld => ?_)
          clear hK K
          refine wpAnyH_ready (rs := [1, 4]) (by kernel_rfl) (by simp) ?_
          refine AllReadyH.cons (o := ⟨some 98, _, _, _, _, _⟩) rfl (fun K hK => ?_) ?_
          · rw [if_pos (by kernel_rfl)]
            go_simp
            have e5 : w9.cell? ⟨t, 5, none⟩ = some va := cell_of_row _ t 5 _ _ _ TB9
            go_simp
            refine hK.out _ _ trivial (fun hHeld => ?_)
            clear hK K
            refine wpAnyH_ready (rs := [4]) (by kernel_rfl) (by simp) ?_
            refine AllReadyH.cons (o := ⟨some 101, _, _, _, _, _⟩) rfl (fun K hK => ?_) AllReadyH.nil
            rw [if_pos (by kernel_rfl)]
            go_simp
            obtain ⟨z9, hz9⟩ : ∃ z9, w9.heap.size = z9 := ⟨_, rfl⟩
            go_simp
            refine hK.out _ _ trivial (fun hHeld => ?_)
            clear hK K
            refine wpAnyH_ready (rs := [5]) (by kernel_rfl) (by simp) ?_
            refine AllReadyH.cons (o := ⟨some 102, _, _, _, _, _⟩) rfl (fun K hK => ?_) AllReadyH.nil
            have OX := (QN.out.oa.drew.below b9).alloc (sbx kk)
            have CX : SG FK (w9.alloc (sbx kk)) (some ⟨z9, 0, none⟩) [kk] := SG.one (heap_at hz9 (sbx kk))
            have BX : t + 1 ≤ (w9.alloc (sbx kk)).heap.size := by have := lt_of_heap TB9; rw [World.size_alloc]; omega
            refine step_append_og oneS rfl _ _ rfl (t + 1) va (T.a.take i) rfl OX z9 0 1 1 [kk] rfl rfl CX (by rw [List.length_take]; have := N6.out; omega) (by decide) BX ?_
            intro va' wa oa sa
            have ga := step_row sa (row_below (al (Below.refl _ w9) (sbx kk)) TB9) (fun e => by have := (QN.out.oa.lt _ e).1; omega)
            have e5' := cell_of_row _ t 5 _ _ _ ga
            have f5' := frozen_of_row _ t 5 _ _ ga
            obtain ⟨Aa', ca', eva, -⟩ := oa.form
            rw [show (T.a.take i ++ [kk]).length = i + 1 from by rw [List.length_append, List.length_take, Nat.min_eq_left (Nat.le_of_lt (lt_of_get Xa.out))]; rfl] at eva
            have Q8 := ((QN.out.next (Below.refl _ _).drew).next (b9.trans ((al (Below.refl _ w9) (sbx kk)).mono b9.size))).pushA Xa.out oa sa
            subst eva
            refine hK.out _ _ trivial (fun hHeld => ?_)
            clear hK K
            refine takeR 6 (some 103) ?_ ?_ ?_; rotate_left; (focus (intros; go_simp; (try with_reducible rfl)))
            simp only [aput, lset]
            refine wpAnyH_ready (rs := [7]) (by kernel_rfl) (by simp) ?_
            refine AllReadyH.cons (o := ⟨none, _, _, _, _, _⟩) rfl (fun K hK => ?_) AllReadyH.nil
            rw [if_pos (by kernel_rfl)]
            go_simp
            refine hK.out _ _ trivial (fun hHeld => ?_)
            clear hK K
            refine wpAnyH_done (by kernel_rfl) ?_ _
            exact NoPanic.normal ⟨z9, Aa', ca', rfl, rfl, Q8⟩
          refine AllReadyH.cons (o := ⟨some 101, _, _, _, _, _⟩) rfl (fun K hK => ?_) AllReadyH.nil
          rw [if_pos (by kernel_rfl)]
          go_simp
          obtain ⟨z9, hz9⟩ : ∃ z9, w9.heap.size = z9 := ⟨_, rfl⟩
          go_simp
          refine hK.out _ _ trivial (fun hHeld => ?_)
          clear hK K
          refine wpAnyH_ready (rs := [1]) (by kernel_rfl) (by simp) ?_
          refine AllReadyH.cons (o := ⟨some 98, _, _, _, _, _⟩) rfl (fun K hK => ?_) AllReadyH.nil
          rw [if_pos (by kernel_rfl)]
          go_simp
          have e5 : (w9.alloc (sbx kk)).cell? ⟨t, 5, none⟩ = some va := cell_of_row _ t 5 _ _ _ (row_below (al (Below.refl _ w9) (sbx kk)) TB9)
          go_simp
          refine hK.out _ _ trivial (fun hHeld => ?_)
          clear hK K
          refine wpAnyH_ready (rs := [5]) (by kernel_rfl) (by simp) ?_
          refine AllReadyH.cons (o := ⟨some 102, _, _, _, _, _⟩) rfl (fun K hK => ?_) AllReadyH.nil
          have OX := (QN.out.oa.drew.below b9).alloc (sbx kk)
          have CX : SG FK (w9.alloc (sbx kk)) (some ⟨z9, 0, none⟩) [kk] := SG.one (heap_at hz9 (sbx kk))
          have BX : t + 1 ≤ (w9.alloc (sbx kk)).heap.size := by have := lt_of_heap TB9; rw [World.size_alloc]; omega
          refine step_append_og oneS rfl _ _ rfl (t + 1) va (T.a.take i) rfl OX z9 0 1 1 [kk] rfl rfl CX (by rw [List.length_take]; have := N6.out; omega) (by decide) BX ?_
          intro va' wa oa sa
          have ga := step_row sa (row_below (al (Below.refl _ w9) (sbx kk)) TB9) (fun e => by have := (QN.out.oa.lt _ e).1; omega)
          have e5' := cell_of_row _ t 5 _ _ _ ga
          have f5' := frozen_of_row _ t 5 _ _ ga
          obtain ⟨Aa', ca', eva, -⟩ := oa.form
          rw [show (T.a.take i ++ [kk]).length = i + 1 from by rw [List.length_append, List.length_take, Nat.min_eq_left (Nat.le_of_lt (lt_of_get Xa.out))]; rfl] at eva
          have Q8 := ((QN.out.next (Below.refl _ _).drew).next (b9.trans ((al (Below.refl _ w9) (sbx kk)).mono b9.size))).pushA Xa.out oa sa
          subst eva
          refine hK.out _ _ trivial (fun hHeld => ?_)
          clear hK K
          refine takeR 6 (some 103) ?_ ?_ ?_; rotate_left; (focus (intros; go_simp; (try with_reducible rfl)))
          simp only [aput, lset]
          refine wpAnyH_ready (rs := [7]) (by kernel_rfl) (by simp) ?_
          refine AllReadyH.cons (o := ⟨none, _, _, _, _, _⟩) rfl (fun K hK => ?_) AllReadyH.nil
          rw [if_pos (by kernel_rfl)]
          go_simp
          refine hK.out _ _ trivial (fun hHeld => ?_)
          clear hK K
          refine wpAnyH_done (by kernel_rfl) ?_ _
          exact NoPanic.normal ⟨z9, Aa', ca', rfl, rfl, Q8⟩
        case hm =>
          intro z4 A' c' w4 Q4
          have Q5 := Lib.hid Q4
          clear Q4
          go_wp2
          go_roundw
          case rel => exact ⟨i + 1, _, _, _, by omega, by go_num, Q5⟩
          case measure => simp [intOf]; omega
    · obtain rfl : n = i := by omega
      have LT := rnd_len c y l x.u0 x.u1 x.d0 x.d1
      have LT0 : T.s.length = n ∧ T.b.length = n ∧ T.n.length = n ∧ T.a.length = n := by
        rw [← HT.out, ← HN.out]
        exact LT
      have lb := LT0.2.1
      have ln := LT0.2.2.1
      have la := LT0.2.2.2
      have OB := Lib.hid (show OG FI wr (t + 1) 2 vb T.b by have h := Q.out.ob; rw [List.take_of_length_le (Nat.le_of_eq lb)] at h; exact h)
      have ON := Lib.hid (show OG FI wr (t + 1) 3 vn T.n by have h := Q.out.on; rw [List.take_of_length_le (Nat.le_of_eq ln)] at h; exact h)
      have OA := Lib.hid (show OG FK wr (t + 1) 60 va T.a by have h := Q.out.oa; rw [List.take_of_length_le (Nat.le_of_eq la)] at h; exact h)
      obtain ⟨Ab, cb, hvb, -⟩ := OB.out.form
      obtain ⟨An, cn, hvn, -⟩ := ON.out.form
      obtain ⟨Aa, ca, hva, -⟩ := OA.out.form
      rw [lb] at hvb
      rw [ln] at hvn
      rw [la] at hva
      subst hvb hvn hva
      have RB := Lib.hid (Q.out.st.at 2 rfl)
      obtain ⟨e0, e1, e2, e3, e4, e5⟩ := cells6 (Q.out.st.at 0 rfl)
      obtain ⟨z0, z1, z2, z3, z4, z5⟩ := cells6 RB.out
      obtain ⟨f0, f1, f2, f3, f4, f5⟩ := frozen6 RB.out
      have P6 := Lib.hid (put6 RB.out (.slice As n cs) (.int .u32 (crw r0 : Int)) (.int .u32 (crw r1 : Int)) (.slice Ab n cb) (.slice An n cn) (.slice Aa n ca))
      have K6 := Lib.hid (kept6 wr (q + 1 + 1) (.slice As n cs) (.int .u32 (crw r0 : Int)) (.int .u32 (crw r1 : Int)) (.slice Ab n cb) (.slice An n cn) (.slice Aa n ca))
      have BQ := Lib.hid (show Below w.heap.size w _ from below_up Q.out.st.b K6.out (by rw [HQ.out]; omega))
      have ZL := Lib.hid (show q + 1 + 1 < t from Nat.lt_trans Q.out.lg.2.2 Q.out.lg.2.1)
      have WT := Lib.hid (show w.heap.size ≤ t + 1 by have := Q.out.lg; omega)
      have C0 := Lib.hid (show crw r0 = T.c0 by rw [← HT.out, ← HK.out.r0, ← HK.out.s]; rfl)
      have C1 := Lib.hid (show crw r1 = T.c1 by rw [← HT.out, ← HK.out.r1, ← HK.out.s]; rfl)
      have TS := Lib.hid (show S = T.s by rw [← HT.out, ← HK.out.s]; rfl)
      have OV := Lib.hid Q.out.ov
      have LK := Lib.hid LT0
      clear Q LT LT0 lb ln la
      go_wp2
      refine ret_td (g := q + 1 + 1) rfl rfl P6.out ?_
      have far : ∀ {α : Type} {F : Flat α} {e : TypeId} {v : Value} {L : List α}, OG F wr (t + 1) e v L → v.ownBlock ≠ some (q + 1 + 1) := fun h e => by have := (h.lt _ e).1; have := ZL.out; omega
      exact ⟨⟨(As, cs), (Ab, cb), (An, cn), (Aa, ca), n, crw r0, crw r1⟩, rfl, ⟨C0.out, C1.out, LK.out, by rw [← TS.out]; exact OV.out.kept K6.out (fun e => absurd (VZ.out _ e) (Nat.lt_irrefl _)), (OB.out.kept K6.out (far OB.out)).base WT.out, (ON.out.kept K6.out (far ON.out)).base WT.out, (OA.out.kept K6.out (far OA.out)).base WT.out⟩, BQ.out⟩
end Go.Proofs.YtmagjekmlnpfpaaGreat.RoundW


/- The landed Spread, Bound, Run. -/
namespace Go.Proofs.YtmagjekmlnpfpaaGreat.RoundW
open Go.RowKit Shell
open ConfW (Cfg CM chk)
open ClockW (CK sh wh CI inn inn_iff tell tell_iff)
theorem wrI {x z : Int} (e : x = z) (h : -9223372036854775808 ≤ z ∧ z ≤ 9223372036854775807) : IntKind.i64.wrap x = z ∧ wrap64 x = z := by
  subst e
  exact ⟨by rw [IntKind.wrap_i64]; omega, by unfold wrap64; omega⟩
end Go.Proofs.YtmagjekmlnpfpaaGreat.RoundW


/- The laws' own example. -/
namespace Go.Proofs.YtmagjekmlnpfpaaGreat.RoundW
open Go.RowKit Shell
open ConfW (Cfg CM chk famC)
theorem og_sg {α : Type} {F : Flat α} {w : World} {base k : Nat} {e : TypeId} {x : Option Addr × Nat} {L : List α} (h : OG F w base e (sv x k) L) : SG F w x.1 L := by
  obtain ⟨A, c, e, sg, -⟩ := h.form
  unfold sv at e
  rw [Value.slice.injEq] at e
  rw [e.1]
  exact sg
theorem fi_at {w : World} {A : Option Addr} {L : List Int} (h : SG FI w A L) {i : Nat} {x : Int} (hi : L[i]? = some x) : ∃ b off, A = some ⟨b, off, none⟩ ∧ b < w.heap.size ∧ w.cell? ⟨b, off + i, none⟩ = some (.int .i64 x) := by
  obtain ⟨b, off, e, hb, hc⟩ := h i x hi
  have := hc 0 _ rfl
  rw [show FI.n = 1 from rfl, Nat.mul_one, Nat.add_zero] at this
  exact ⟨b, off, e, hb, this⟩
set_option maxHeartbeats 8000000 in
set_option maxRecDepth 100000 in
theorem ticking_any (w : World) : Calls Tryz.prog 27 #[] w fun e w' => e = .returned (.bool true) ∧ Below w.heap.size w w' := by
  obtain ⟨c, hc⟩ : ∃ c, famC 2 0 = c := ⟨_, rfl⟩
  have HR := Lib.hid (show Rgt c 1 tkL by rw [← hc]; exact tk_rgt)
  have HB := Lib.hid (show (rndL c 1 tkL ⟨0, 0, 0, 0⟩).b = [-150, 150] by rw [← hc]; exact tk_b)
  have hF := Lib.hid (ConfW.family_any 2 0 w)
  rw [hc] at hF
  clear hc
  go_enter Tryz.func27, Tryz.ntmps27
  go_wp2_with fail
  refine hF.out.mono ?_
  rintro r w1 ⟨D, E, nd, cd, ne, ce, rfl, hm, b1⟩
  have HM := Lib.hid hm
  have B1 := Lib.hid b1
  clear hm b1 hF
  have HM2 := Lib.hid (HM.out.below (al (Below.refl _ _) (.cells #[.int .i64 0, .int .i64 300, .int .i64 0, .int .i64 0, .int .i64 0, .int .i64 0] 60 (0, 0))))
  have HS := Lib.hid (SG.row (F := FK) (w := w1.alloc (.cells #[.int .i64 0, .int .i64 300, .int .i64 0, .int .i64 0, .int .i64 0, .int .i64 0] 60 (0, 0))) (g := w1.heap.size) (L := tkL) (heap_at rfl _))
  go_wp2_with fail
  refine (lgo_ok c D E none nd cd ne ce 0 0 1 (some ⟨w1.heap.size, 0, none⟩) tkL 2 2 ⟨0, 0, 0, 0⟩ _ HM2.out HR.out rfl HS.out ⟨by decide, by decide, by decide, by decide⟩).mono ?_
  rintro r w2 ⟨t, rfl, T, b2⟩
  have hb := og_sg T.b
  have hk := T.k.2.1
  rw [HB.out] at hb hk
  obtain ⟨⟨As, cs⟩, ⟨Ab, cb⟩, ⟨An, cn⟩, ⟨Aa, ca⟩, k, x0, x1⟩ := t
  obtain rfl : 2 = k := hk
  obtain ⟨b, off, e1, hb1, c0⟩ := fi_at hb (i := 0) (x := -150) rfl
  obtain ⟨b', off', e2, -, c1⟩ := fi_at hb (i := 1) (x := 150) rfl
  dsimp only at e1 e2
  subst e1
  injection e2 with e2
  injection e2 with e2 e3
  subst e2; subst e3
  rw [Nat.add_zero] at c0
  have B2 := Lib.hid (al (B1.out.trans (((al (Below.refl _ _) _).trans (b2.mono (by rw [World.size_alloc]; omega)) : Below w1.heap.size w1 w2).mono B1.out.size) : Below w.heap.size w w2) (tbL (.slice As 2 cs) x0 x1 (.slice (some ⟨b, off, none⟩) 2 cb) (.slice An 2 cn) (.slice Aa 2 ca)))
  have d0 := cell_b (al (Below.refl w2.heap.size w2) (tbL (.slice As 2 cs) x0 x1 (.slice (some ⟨b, off, none⟩) 2 cb) (.slice An 2 cn) (.slice Aa 2 ca))) ⟨c0, hb1⟩
  have d1 := cell_b (al (Below.refl w2.heap.size w2) (tbL (.slice As 2 cs) x0 x1 (.slice (some ⟨b, off, none⟩) 2 cb) (.slice An 2 cn) (.slice Aa 2 ca))) ⟨c1, hb1⟩
  obtain ⟨a0, a1, a2, a3, a4, a5⟩ := cells6 (heap_at (w := w2) rfl (tbL (.slice As 2 cs) x0 x1 (.slice (some ⟨b, off, none⟩) 2 cb) (.slice An 2 cn) (.slice Aa 2 ca)))
  clear HM2 HS T b2 hb c0 c1 hb1 HM HB B1
  go_wp2
  go_ret
  exact ⟨rfl, B2.out⟩
end Go.Proofs.YtmagjekmlnpfpaaGreat.RoundW

