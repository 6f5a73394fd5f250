/- The landed station: what becomes of any frame, not yet counted. -/
import Derived.Test.YtnlimdlmhfnkiaaStationLA
namespace Go.Proofs.Ytnlimdlmhfnkiaa.StationW
open Go.RowKit Shell
open ConfW (Cfg R4 CM ML chk)
open FrameW (BL rdE rdV)
open PlanW (landV)
/-- Nothing has turned but, perhaps, a map. -/
def KB (o : Option (Nat × Nat × (Nat → Option Int))) (w w' : World) : Prop :=
  match o with
  | none => Below w.heap.size w w'
  | some (k, n, f) => Kept k w w' ∧ MP w' k n f
/-- Where that map lies. -/
def KL (o : Option (Nat × Nat × (Nat → Option Int))) (W : World) : Prop := ∀ k n f, o = some (k, n, f) → k < W.heap.size
section
variable {o : Option (Nat × Nat × (Nat → Option Int))} {W w w' : World}
theorem KB.block (h : KB o w w') (hl : KL o W) {j : Nat} {ob : Obj} (hj : w.heap[j]? = some ob) (hw : W.heap.size ≤ j) : w'.heap[j]? = some ob := by
  cases o with
  | none => exact row_below h hj
  | some x => exact (h.1.block j (fun e => by have := hl x.1 x.2.1 x.2.2 rfl; omega) (lt_of_heap hj)).trans hj
theorem KB.pre (b : Below W.heap.size W w) (h : KB o w w') : KB o W w' := by
  cases o with
  | none => exact Below.trans b (Below.mono h b.size)
  | some x => exact ⟨(Kept.of b).trans h.1, h.2⟩
theorem KB.set {a : Addr} {v : Value} (h : KB o W w) (hl : KL o W) (ha : W.heap.size ≤ a.block) : KB o W (w.setCell a v) := by
  cases o with
  | none => exact Below.setCell h ha v
  | some x =>
    have hx := hl x.1 x.2.1 x.2.2 rfl
    exact ⟨⟨h.1.os, h.1.tape, h.1.output, by simp only [World.size_setCell]; exact h.1.size, fun j hj hs => by rw [heap_setCell_other _ _ _ _ (by omega)]; exact h.1.block j hj hs⟩, h.2.block (heap_setCell_other _ _ _ _ (by omega))⟩
theorem KB.set7 {k : Nat} {x0 x1 x2 x3 x4 x5 x6 : Value} (h : KB o W w) (hl : KL o W) (hk : W.heap.size ≤ k) : KB o W (StationW.set7 w k x0 x1 x2 x3 x4 x5 x6) :=
  ((((((h.set hl hk).set hl hk).set hl hk).set hl hk).set hl hk).set hl hk).set hl hk
end
/-- Two cells of the answer's box written; one. -/
theorem vd2 {w : World} {q : Nat} {d : Dt} (h : w.heap[q]? = some (gbx v0 d 41)) (v : Vg) : ((w.setCell ⟨q, 6, none⟩ (.int .i64 v.k)).setCell ⟨q, 0, none⟩ (.int .i64 v.w)).heap[q]? = some (gbx v d 41) := by
  have h1 := heap_setCell_same w q 6 _ _ (.int .i64 v.k) h
  exact heap_setCell_same _ q 0 _ _ (.int .i64 v.w) h1
theorem vd1 {w : World} {q : Nat} {d : Dt} (h : w.heap[q]? = some (gbx v0 d 41)) (v : Vg) (hv : v.k = 0) : (w.setCell ⟨q, 0, none⟩ (.int .i64 v.w)).heap[q]? = some (gbx v d 41) := by
  have h2 := heap_setCell_same w q 0 _ _ (.int .i64 v.w) h
  obtain ⟨vw, va⟩ := v
  obtain rfl : va = 0 := hv
  exact h2
set_option maxHeartbeats 4000000 in
set_option maxRecDepth 100000 in
theorem vd_bad (g : Nat) (t : Int) (A : Option Addr) (l : List Int) (cp : Nat) (W : World) (hb : BL W A l) (hl : l.length ≤ 9223372036854775807) (hc : l.length ≤ cp) (he : rdE l ≠ 0) :
    Calls Try.prog 26 #[.pointer (some ⟨g, 0, none⟩), .int .i64 t, .slice A l.length cp] W fun r W' => r = .returned (gg d0 ⟨1, 0⟩) ∧ Below W.heap.size W W' := by
  have S1 := Lib.hid ((Stay.start W).alloc (gbx v0 d0 41))
  have HR := Lib.hid (FrameW.readData_any A cp l _ (hb.below S1.out.b) hl hc)
  rw [rdV_dt] at HR
  have hz : dt l = d0 := by unfold dt; rw [if_neg he]; rfl
  rw [hz] at HR
  have q1 : (rdE l != 0) = true := by rw [bne_iff_ne]; exact he
  clear hb hl hc hz
  generalize rdE l = e at *
  go_enter Try.func26, Try.ntmps26
  go_wp2_with fail
  refine HR.out.mono ?_
  rintro r w1 ⟨rfl, b1⟩
  have S2 := Lib.hid ((S1.out.next b1).alloc (dbx d0))
  clear b1 S1 HR
  obtain ⟨y0, y1, y2, y3, y4, y5, y6⟩ := cells7 (S2.out.at 1 rfl)
  obtain ⟨f0, f1, f2, f3, f4, f5, f6⟩ := frozen7 (S2.out.at 1 rfl)
  go_wp2
  exact ret_s rfl rfl (put7 (S2.out.at 1 rfl) _ _ _ _ _ _ _) ⟨rfl, S2.out.b.trans ((kept7 _ _ _ _ _ _ _ _ _).below (Nat.le_refl _) S2.out.b.size)⟩
set_option maxHeartbeats 4000000 in
set_option maxRecDepth 100000 in
theorem vd_t (g : Nat) (t : Int) (A : Option Addr) (l : List Int) (cp : Nat) (W : World) (hb : BL W A l) (hl : l.length ≤ 9223372036854775807) (hc : l.length ≤ cp) (d : Dt) (hd : dt l = d) (he : rdE l = 0) (h1 : d.c = 1) (v : Vg) (o : Option (Nat × Nat × (Nat → Option Int))) (ho : KL o W)
    (HT : ∀ w : World, Below W.heap.size W w → Calls Try.prog 55 #[.pointer (some ⟨g, 0, none⟩), .int .i64 t, .agg #[.int .i64 d.c, .int .i64 d.l, .int .i64 d.n, .string d.p, .int .i64 d.s]] w fun r w' => r = .returned (.tuple #[.int .i64 v.k, .int .i64 v.w]) ∧ KB o w w') :
    Calls Try.prog 26 #[.pointer (some ⟨g, 0, none⟩), .int .i64 t, .slice A l.length cp] W fun r W' => r = .returned (gg d v) ∧ KB o W W' := by
  have S1 := Lib.hid ((Stay.start W).alloc (gbx v0 d0 41))
  have HR := Lib.hid (FrameW.readData_any A cp l _ (hb.below S1.out.b) hl hc)
  rw [rdV_dt, he, hd] at HR
  obtain ⟨dc, dl, dn, dp, ds⟩ := d
  obtain rfl : dc = 1 := h1
  have HTT := Lib.hid HT
  have HL := Lib.hid ho
  clear hb hl hc hd he HT ho
  go_enter Try.func26, Try.ntmps26
  go_wp2_with fail
  refine HR.out.mono ?_
  rintro r w1 ⟨rfl, b1⟩
  have S2 := Lib.hid ((S1.out.next b1).alloc (dbx ⟨1, dl, dn, dp, ds⟩))
  have S3 := Lib.hid (S2.out.alloc (gbx v0 ⟨1, dl, dn, dp, ds⟩ 41))
  have HG := Lib.hid (show W.heap.size ≤ (w1.alloc (dbx ⟨1, dl, dn, dp, ds⟩)).heap.size ∧ W.heap.size ≠ (w1.alloc (dbx ⟨1, dl, dn, dp, ds⟩)).heap.size from ⟨S2.out.b.size, Nat.ne_of_lt (lt_of_heap (S2.out.at 1 rfl))⟩)
  clear b1 S1 HR
  obtain ⟨z0, z1, z2, z3, z4⟩ := cells5 (S2.out.at 0 rfl)
  obtain ⟨y0, y1, y2, y3, y4⟩ := cells5 (S3.out.at 1 rfl)
  go_wp2_with fail
  refine (HTT.out _ S3.out.b).mono ?_
  rintro r w4 ⟨rfl, k4⟩
  have HQ := Lib.hid (k4.block HL.out (S3.out.at 0 rfl) HG.out.1)
  have HP := Lib.hid (k4.block HL.out (S3.out.at 2 rfl) (Nat.le_refl _))
  have K4 := Lib.hid (KB.pre S3.out.b k4)
  clear k4 S3 S2 z0 z1 z2 z3 z4 y0 y1 y2 y3 y4
  try rw [World.size_alloc] at HG HQ
  generalize hq : w1.heap.size + 1 = q at *
  obtain ⟨y0, y1, y2, y3, y4, y5, y6⟩ := cells7 HQ.out
  obtain ⟨f0, f1, f2, f3, f4, f5, f6⟩ := frozen7 HQ.out
  have UQ := Lib.hid (vd2 HQ.out v)
  have UP := Lib.hid (show ((w4.setCell ⟨q, 6, none⟩ (.int .i64 v.k)).setCell ⟨q, 0, none⟩ (.int .i64 v.w)).heap[W.heap.size]? = some (gbx v0 d0 41) by
    repeat rw [heap_setCell_other _ _ _ _ HG.out.2]
    exact HP.out)
  have UK := Lib.hid (show KB o W ((w4.setCell ⟨q, 6, none⟩ (.int .i64 v.k)).setCell ⟨q, 0, none⟩ (.int .i64 v.w)) from (KB.set (KB.set K4.out HL.out HG.out.1) HL.out HG.out.1))
  obtain ⟨u0, u1, u2, u3, u4, u5, u6⟩ := cells7 UQ.out
  obtain ⟨s0, s1, s2, s3, s4, s5, s6⟩ := cells7 UP.out
  obtain ⟨e0, e1, e2, e3, e4, e5, e6⟩ := frozen7 UP.out
  clear HQ HP K4
  go_wp2
  exact ret_s rfl rfl (put7 UP.out _ _ _ _ _ _ _) ⟨rfl, KB.set7 UK.out HL.out (Nat.le_refl _)⟩
set_option maxHeartbeats 4000000 in
set_option maxRecDepth 100000 in
theorem vd_r (g : Nat) (t : Int) (A : Option Addr) (l : List Int) (cp : Nat) (W : World) (hb : BL W A l) (hl : l.length ≤ 9223372036854775807) (hc : l.length ≤ cp) (d : Dt) (hd : dt l = d) (he : rdE l = 0) (h1 : d.c = 2) (v : Vg) (va : v.k = 0) (o : Option (Nat × Nat × (Nat → Option Int))) (ho : KL o W)
    (HT : ∀ w : World, Below W.heap.size W w → Calls Try.prog 56 #[.pointer (some ⟨g, 0, none⟩), .agg #[.int .i64 d.c, .int .i64 d.l, .int .i64 d.n, .string d.p, .int .i64 d.s]] w fun r w' => r = .returned (.int .i64 v.w) ∧ KB o w w') :
    Calls Try.prog 26 #[.pointer (some ⟨g, 0, none⟩), .int .i64 t, .slice A l.length cp] W fun r W' => r = .returned (gg d v) ∧ KB o W W' := by
  have S1 := Lib.hid ((Stay.start W).alloc (gbx v0 d0 41))
  have HR := Lib.hid (FrameW.readData_any A cp l _ (hb.below S1.out.b) hl hc)
  rw [rdV_dt, he, hd] at HR
  obtain ⟨dc, dl, dn, dp, ds⟩ := d
  obtain rfl : dc = 2 := h1
  have HTT := Lib.hid HT
  have HL := Lib.hid ho
  clear hb hl hc hd he HT ho
  go_enter Try.func26, Try.ntmps26
  go_wp2_with fail
  refine HR.out.mono ?_
  rintro r w1 ⟨rfl, b1⟩
  have S2 := Lib.hid ((S1.out.next b1).alloc (dbx ⟨2, dl, dn, dp, ds⟩))
  have S3 := Lib.hid (S2.out.alloc (gbx v0 ⟨2, dl, dn, dp, ds⟩ 41))
  have HG := Lib.hid (show W.heap.size ≤ (w1.alloc (dbx ⟨2, dl, dn, dp, ds⟩)).heap.size ∧ W.heap.size ≠ (w1.alloc (dbx ⟨2, dl, dn, dp, ds⟩)).heap.size from ⟨S2.out.b.size, Nat.ne_of_lt (lt_of_heap (S2.out.at 1 rfl))⟩)
  clear b1 S1 HR
  obtain ⟨z0, z1, z2, z3, z4⟩ := cells5 (S2.out.at 0 rfl)
  obtain ⟨y0, y1, y2, y3, y4⟩ := cells5 (S3.out.at 1 rfl)
  go_wp2_with fail
  refine (HTT.out _ S3.out.b).mono ?_
  rintro r w4 ⟨rfl, k4⟩
  have HQ := Lib.hid (k4.block HL.out (S3.out.at 0 rfl) HG.out.1)
  have HP := Lib.hid (k4.block HL.out (S3.out.at 2 rfl) (Nat.le_refl _))
  have K4 := Lib.hid (KB.pre S3.out.b k4)
  clear k4 S3 S2 z0 z1 z2 z3 z4 y0 y1 y2 y3 y4
  try rw [World.size_alloc] at HG HQ
  generalize hq : w1.heap.size + 1 = q at *
  obtain ⟨y0, y1, y2, y3, y4, y5, y6⟩ := cells7 HQ.out
  obtain ⟨f0, f1, f2, f3, f4, f5, f6⟩ := frozen7 HQ.out
  have UQ := Lib.hid (vd1 HQ.out v va)
  have UP := Lib.hid (show (w4.setCell ⟨q, 0, none⟩ (.int .i64 v.w)).heap[W.heap.size]? = some (gbx v0 d0 41) by
    repeat rw [heap_setCell_other _ _ _ _ HG.out.2]
    exact HP.out)
  have UK := Lib.hid (show KB o W (w4.setCell ⟨q, 0, none⟩ (.int .i64 v.w)) from (KB.set K4.out HL.out HG.out.1))
  obtain ⟨u0, u1, u2, u3, u4, u5, u6⟩ := cells7 UQ.out
  obtain ⟨s0, s1, s2, s3, s4, s5, s6⟩ := cells7 UP.out
  obtain ⟨e0, e1, e2, e3, e4, e5, e6⟩ := frozen7 UP.out
  clear HQ HP K4
  go_wp2
  exact ret_s rfl rfl (put7 UP.out _ _ _ _ _ _ _) ⟨(by simp only [gg, va]), KB.set7 UK.out HL.out (Nat.le_refl _)⟩
set_option maxHeartbeats 4000000 in
set_option maxRecDepth 100000 in
theorem vd_e (g : Nat) (t : Int) (A : Option Addr) (l : List Int) (cp : Nat) (W : World) (hb : BL W A l) (hl : l.length ≤ 9223372036854775807) (hc : l.length ≤ cp) (d : Dt) (hd : dt l = d) (he : rdE l = 0) (h1 : d.c = 3) (v : Vg) (va : v.k = 0) (o : Option (Nat × Nat × (Nat → Option Int))) (ho : KL o W)
    (HT : ∀ w : World, Below W.heap.size W w → Calls Try.prog 57 #[.pointer (some ⟨g, 0, none⟩), .agg #[.int .i64 d.c, .int .i64 d.l, .int .i64 d.n, .string d.p, .int .i64 d.s]] w fun r w' => r = .returned (.int .i64 v.w) ∧ KB o w w') :
    Calls Try.prog 26 #[.pointer (some ⟨g, 0, none⟩), .int .i64 t, .slice A l.length cp] W fun r W' => r = .returned (gg d v) ∧ KB o W W' := by
  have S1 := Lib.hid ((Stay.start W).alloc (gbx v0 d0 41))
  have HR := Lib.hid (FrameW.readData_any A cp l _ (hb.below S1.out.b) hl hc)
  rw [rdV_dt, he, hd] at HR
  obtain ⟨dc, dl, dn, dp, ds⟩ := d
  obtain rfl : dc = 3 := h1
  have HTT := Lib.hid HT
  have HL := Lib.hid ho
  clear hb hl hc hd he HT ho
  go_enter Try.func26, Try.ntmps26
  go_wp2_with fail
  refine HR.out.mono ?_
  rintro r w1 ⟨rfl, b1⟩
  have S2 := Lib.hid ((S1.out.next b1).alloc (dbx ⟨3, dl, dn, dp, ds⟩))
  have S3 := Lib.hid (S2.out.alloc (gbx v0 ⟨3, dl, dn, dp, ds⟩ 41))
  have HG := Lib.hid (show W.heap.size ≤ (w1.alloc (dbx ⟨3, dl, dn, dp, ds⟩)).heap.size ∧ W.heap.size ≠ (w1.alloc (dbx ⟨3, dl, dn, dp, ds⟩)).heap.size from ⟨S2.out.b.size, Nat.ne_of_lt (lt_of_heap (S2.out.at 1 rfl))⟩)
  clear b1 S1 HR
  obtain ⟨z0, z1, z2, z3, z4⟩ := cells5 (S2.out.at 0 rfl)
  obtain ⟨y0, y1, y2, y3, y4⟩ := cells5 (S3.out.at 1 rfl)
  go_wp2_with fail
  refine (HTT.out _ S3.out.b).mono ?_
  rintro r w4 ⟨rfl, k4⟩
  have HQ := Lib.hid (k4.block HL.out (S3.out.at 0 rfl) HG.out.1)
  have HP := Lib.hid (k4.block HL.out (S3.out.at 2 rfl) (Nat.le_refl _))
  have K4 := Lib.hid (KB.pre S3.out.b k4)
  clear k4 S3 S2 z0 z1 z2 z3 z4 y0 y1 y2 y3 y4
  try rw [World.size_alloc] at HG HQ
  generalize hq : w1.heap.size + 1 = q at *
  obtain ⟨y0, y1, y2, y3, y4, y5, y6⟩ := cells7 HQ.out
  obtain ⟨f0, f1, f2, f3, f4, f5, f6⟩ := frozen7 HQ.out
  have UQ := Lib.hid (vd1 HQ.out v va)
  have UP := Lib.hid (show (w4.setCell ⟨q, 0, none⟩ (.int .i64 v.w)).heap[W.heap.size]? = some (gbx v0 d0 41) by
    repeat rw [heap_setCell_other _ _ _ _ HG.out.2]
    exact HP.out)
  have UK := Lib.hid (show KB o W (w4.setCell ⟨q, 0, none⟩ (.int .i64 v.w)) from (KB.set K4.out HL.out HG.out.1))
  obtain ⟨u0, u1, u2, u3, u4, u5, u6⟩ := cells7 UQ.out
  obtain ⟨s0, s1, s2, s3, s4, s5, s6⟩ := cells7 UP.out
  obtain ⟨e0, e1, e2, e3, e4, e5, e6⟩ := frozen7 UP.out
  clear HQ HP K4
  go_wp2
  exact ret_s rfl rfl (put7 UP.out _ _ _ _ _ _ _) ⟨(by simp only [gg, va]), KB.set7 UK.out HL.out (Nat.le_refl _)⟩
theorem gj_no {c : Cfg} {h t e : Int} {T : List Tn} {d : Dt} {v : Vg} (h1 : pj c h t e d = v) (h2 : v.w ≠ 0) : gj c h T t e d = v := by
  unfold gj
  rw [h1, if_neg (fun hh => h2 hh.1)]
theorem gj_stop {c : Cfg} {h t e : Int} {T : List Tn} {d : Dt} {k : Int} (h1 : pj c h t e d = ⟨0, k⟩) (h2 : tw T d k = true) : gj c h T t e d = ⟨3, k⟩ := by
  unfold gj
  rw [h1, if_pos ⟨rfl, h2⟩]
theorem gj_free {c : Cfg} {h t e : Int} {T : List Tn} {d : Dt} {k : Int} (h1 : pj c h t e d = ⟨0, k⟩) (h2 : tw T d k = false) : gj c h T t e d = ⟨0, k⟩ := by
  unfold gj
  rw [h1, if_neg (fun hh => by have h3 : tw T d k = true := hh.2; rw [h2] at h3; cases h3)]
theorem nL_no {c : Cfg} {h t : Int} {T : List Tn} {l : List Int} {v : Vg} (h1 : gd c h T t l = v) (h2 : v.w ≠ 0) : nL c h T t l = T := by
  unfold nL
  rw [h1, if_neg h2]
theorem nL_yes {c : Cfg} {h t : Int} {T : List Tn} {l : List Int} {d : Dt} {k : Int} (hd : dt l = d) (h1 : gd c h T t l = ⟨0, k⟩) : nL c h T t l = T ++ [⟨d, k⟩] := by
  unfold nL
  rw [h1, if_pos rfl, hd]
section
variable {lo g N : Nat} {X : Nat → Prop} {c : Cfg} {h : Int} {T : List Tn} {xa xb : Int} {D E L : Option Addr} {nd cd ne ce nl cl me ml : Nat} {Y : Nat → Prop} {W : World}
theorem TM.eff (q : TM lo X g c h T xa xb N D E L nd cd ne ce nl cl me ml Y W) {d : Dt} (h3 : d.c = 3) : TM lo X g c h (T ++ [⟨d, 0⟩]) xa xb N D E L nd cd ne ce nl cl me ml Y W :=
  ⟨q.z, q.hh, q.ri.snoc (tw_effort h3 T 0), q.box, q.kp, by rw [(f_effort h3).1]; exact q.pe, by rw [(f_effort h3).2]; exact q.pl, q.ne, q.yn, q.xy, q.xg, q.bx⟩
theorem judged_any (t : Int) (A : Option Addr) (l : List Int) (cp : Nat) (q : TM lo X g c h T xa xb N D E L nd cd ne ce nl cl me ml Y W) (hN : N ≤ 140737488355327) (hb : BL W A l) (hl : l.length ≤ 9223372036854775807) (hc : l.length ≤ cp) :
    Calls Try.prog 26 #[.pointer (some ⟨g, 0, none⟩), .int .i64 t, .slice A l.length cp] W fun r W' => r = .returned (gg (dt l) (gd c h T t l)) ∧ TM lo X g c h (nL c h T t l) xa xb (N + 1) D E L nd cd ne ce nl cl me ml Y W' ∧ Turn X X W W' := by
  have hm : N < maxLen := by unfold maxLen; omega
  have keep : ∀ (v : Vg), gd c h T t l = v → v.w ≠ 0 → (Calls Try.prog 26 #[.pointer (some ⟨g, 0, none⟩), .int .i64 t, .slice A l.length cp] W fun r W' => r = .returned (gg (dt l) v) ∧ Below W.heap.size W W') →
      Calls Try.prog 26 #[.pointer (some ⟨g, 0, none⟩), .int .i64 t, .slice A l.length cp] W fun r W' => r = .returned (gg (dt l) (gd c h T t l)) ∧ TM lo X g c h (nL c h T t l) xa xb (N + 1) D E L nd cd ne ce nl cl me ml Y W' ∧ Turn X X W W' := by
    intro v e1 e2 hh
    rw [nL_no e1 e2, e1]
    exact hh.mono fun r W' ⟨h1, h2⟩ => ⟨h1, q.same h2 (Nat.le_succ _)⟩
  have k0 : KL none W := fun k n f e => by cases e
  by_cases he : rdE l = 0
  case neg =>
    have hd : dt l = d0 := by unfold dt; rw [if_neg he]; rfl
    refine keep ⟨1, 0⟩ (gj_no (by unfold pj; rw [if_neg he]) (by decide)) (by decide) ?_
    rw [hd]
    exact vd_bad g t A l cp W hb hl hc he
  have ok := dt_ok he
  obtain ⟨d, hd⟩ : ∃ d, dt l = d := ⟨_, rfl⟩
  have egd : gd c h T t l = gj c h T t 0 d := by unfold gd; rw [he, hd]
  rw [egd, hd] at keep
  rw [hd] at ok
  obtain ⟨n, hn⟩ := Int.eq_ofNat_of_zero_le ok.l.1
  have hl2 : d.l.toNat = n := by rw [hn]; exact Int.toNat_natCast n
  have hkl : me < W.heap.size ∧ ml < W.heap.size := ⟨q.pe.lt, q.pl.lt⟩
  by_cases c1 : d.c = 1
  · have a1 : pj c h t 0 d = vT c h t d := by unfold pj; rw [if_pos rfl, if_pos c1]
    have no : ∀ v : Vg, gj c h T t 0 d = v → v.w ≠ 0 → (∀ w : World, Below W.heap.size W w → Calls Try.prog 55 #[.pointer (some ⟨g, 0, none⟩), .int .i64 t, .agg #[.int .i64 d.c, .int .i64 d.l, .int .i64 d.n, .string d.p, .int .i64 d.s]] w fun r w' => r = .returned (.tuple #[.int .i64 v.k, .int .i64 v.w]) ∧ Below w.heap.size w w') →
        Calls Try.prog 26 #[.pointer (some ⟨g, 0, none⟩), .int .i64 t, .slice A l.length cp] W fun r W' => r = .returned (gg (dt l) (gd c h T t l)) ∧ TM lo X g c h (nL c h T t l) xa xb (N + 1) D E L nd cd ne ce nl cl me ml Y W' ∧ Turn X X W W' := by
      intro v e1 e2 hh
      rw [hd, egd]
      exact keep v e1 e2 (vd_t g t A l cp W hb hl hc d hd he c1 v none k0 hh)
    cases h2 : entAt c d.l with
    | none => exact no ⟨1, 0⟩ (gj_no (by rw [a1]; unfold vT; rw [h2]) (by decide)) (by decide) (fun w b => have r := q.next b; te0 c D E L nd cd ne ce nl cl h me ml xa xb g t d ok w r.box r.cm h2)
    | some e =>
      cases h3 : CrewW.has e.b h with
      | false => exact no ⟨1, 0⟩ (gj_no (by rw [a1]; unfold vT; rw [h2]; dsimp only; rw [if_neg (fun hh => by rw [h3] at hh; cases hh.1)]) (by decide)) (by decide) (fun w b => have r := q.next b; te1 c D E L nd cd ne ce nl cl h me ml xa xb g t d ok w r.box r.cm e h2 h3)
      | true =>
        by_cases h4 : e.d = d.s
        case neg => exact no ⟨1, 0⟩ (gj_no (by rw [a1]; unfold vT; rw [h2]; dsimp only; rw [if_neg (fun hh => h4 hh.2)]) (by decide)) (by decide) (fun w b => have r := q.next b; te2 c D E L nd cd ne ce nl cl h me ml xa xb g t d ok w r.box r.cm e h2 h3 h4)
        have a2 : vT c h t d = if (landV c d.l t).2 then ⟨0, (landV c d.l t).1⟩ else ⟨2, 0⟩ := by unfold vT; rw [h2]; dsimp only; rw [if_pos ⟨h3, h4⟩]
        obtain ⟨x, y, h5⟩ : ∃ x y, landV c d.l t = (x, y) := ⟨_, _, rfl⟩
        rw [h5] at a2
        cases y with
        | false => exact no ⟨2, 0⟩ (gj_no (by rw [a1, a2]; rfl) (by decide)) (by decide) (fun w b => have r := q.next b; te3 c D E L nd cd ne ce nl cl h me ml xa xb g t d ok w r.box r.cm e h2 h3 x h4 h5)
        | true =>
          have a3 : pj c h t 0 d = ⟨0, x⟩ := by rw [a1, a2]; rfl
          have hx := land_le h5
          have hs := stops_e (k := x) q.ri c1 hn hx.1
          cases h6 : tw T d x with
          | true =>
            rw [h6, ← hl2] at hs
            exact no ⟨3, x⟩ (gj_stop a3 h6) (show (3 : Int) ≠ 0 by decide) (fun w b => have r := q.next b; te4 c D E L nd cd ne ce nl cl h me ml xa xb g t d ok w r.box r.cm e h2 h3 x h4 h5 N (fE T) r.pe hs)
          | false =>
            rw [h6, ← hl2] at hs
            have e1 : gd c h T t l = ⟨0, x⟩ := egd.trans (gj_free a3 h6)
            rw [nL_yes hd e1, e1, hd]
            refine (vd_t g t A l cp W hb hl hc d hd he c1 ⟨0, x⟩ (some (me, N + 1, MP.upd (fE T) d.l.toNat x)) (fun k n f e => by cases e; exact hkl.1) (fun w b => ?_)).mono fun r W' ⟨r1, r2⟩ => ⟨r1, ?_⟩
            · have r := q.next b
              exact (te5 c D E L nd cd ne ce nl cl h me ml xa xb g t d ok w r.box r.cm e h2 h3 x h4 h5 N (fE T) r.pe hm q.ne.2.1 (wf64 (by omega) (by omega)) hs).mono fun r w' ⟨r1, r2, r3⟩ => ⟨r1, r3, r2⟩
            · have e2 := fE_yes (T := T) c1 hn hx.1
              refine q.setE r2.1 (q.ri.snoc h6) ?_ (Nat.le_succ _) e2.2
              rw [e2.1, ← hl2]
              exact r2.2
  by_cases c3 : d.c = 3
  · have a1 : pj c h t 0 d = vE h d := by unfold pj; rw [if_pos rfl, if_neg c1, if_pos c3]
    have va : (vE h d).k = 0 := by unfold vE; split <;> rfl
    have run := vd_e g t A l cp W hb hl hc d hd he c3 _ va none k0 (fun w b => eff_any c D E L nd cd ne ce nl cl h me ml xa xb g d w (row_below b q.box))
    by_cases h2 : d.l = h
    · have a2 : vE h d = ⟨0, 0⟩ := by unfold vE; rw [if_pos h2]
      have e1 : gd c h T t l = ⟨0, 0⟩ := egd.trans (gj_free (a1.trans a2) (tw_effort c3 T 0))
      rw [a2] at run
      rw [nL_yes hd e1, e1, hd]
      exact run.mono fun r W' ⟨r1, r2⟩ => ⟨r1, (q.eff c3).same r2 (Nat.le_succ _)⟩
    · have a2 : vE h d = ⟨1, 0⟩ := by unfold vE; rw [if_neg h2]
      rw [a2] at run
      rw [hd, egd]
      exact keep ⟨1, 0⟩ (gj_no (a1.trans a2) (by decide)) (by decide) run
  have c2 : d.c = 2 := by have := ok.c; omega
  have a1 : pj c h t 0 d = vR c h d := by unfold pj; rw [if_pos rfl, if_neg c1, if_neg c3]
  have no : ∀ v : Vg, gj c h T t 0 d = v → v.k = 0 → v.w ≠ 0 → (∀ w : World, Below W.heap.size W w → Calls Try.prog 56 #[.pointer (some ⟨g, 0, none⟩), .agg #[.int .i64 d.c, .int .i64 d.l, .int .i64 d.n, .string d.p, .int .i64 d.s]] w fun r w' => r = .returned (.int .i64 v.w) ∧ Below w.heap.size w w') →
      Calls Try.prog 26 #[.pointer (some ⟨g, 0, none⟩), .int .i64 t, .slice A l.length cp] W fun r W' => r = .returned (gg (dt l) (gd c h T t l)) ∧ TM lo X g c h (nL c h T t l) xa xb (N + 1) D E L nd cd ne ce nl cl me ml Y W' ∧ Turn X X W W' := by
    intro v e1 e0 e2 hh
    rw [hd, egd]
    exact keep v e1 e2 (vd_r g t A l cp W hb hl hc d hd he c2 v e0 none k0 hh)
  cases h2 : lnkAt c d.l with
  | none => exact no ⟨1, 0⟩ (gj_no (by rw [a1]; unfold vR; rw [h2]) (by decide)) rfl (by decide) (fun w b => have r := q.next b; tl0 c D E L nd cd ne ce nl cl h me ml xa xb g d ok w r.box r.cm h2)
  | some e =>
    cases h3 : CrewW.has e.b h with
    | false => exact no ⟨1, 0⟩ (gj_no (by rw [a1]; unfold vR; rw [h2]; dsimp only; rw [if_neg (fun hh => by rw [h3] at hh; cases hh.1)]) (by decide)) rfl (by decide) (fun w b => have r := q.next b; tl1 c D E L nd cd ne ce nl cl h me ml xa xb g d ok w r.box r.cm e h2 h3)
    | true =>
      by_cases h4 : d.s ≤ e.d
      case neg => exact no ⟨1, 0⟩ (gj_no (by rw [a1]; unfold vR; rw [h2]; dsimp only; rw [if_neg (fun hh => h4 hh.2)]) (by decide)) rfl (by decide) (fun w b => have r := q.next b; tl2 c D E L nd cd ne ce nl cl h me ml xa xb g d ok w r.box r.cm e h2 h3 (Int.not_le.1 h4))
      have a3 : pj c h t 0 d = ⟨0, 0⟩ := by rw [a1]; unfold vR; rw [h2]; dsimp only; rw [if_pos ⟨h3, h4⟩]
      have hs := stops_l (k := 0) q.ri c2 hn ok.n.1
      cases h6 : tw T d 0 with
      | true =>
        rw [h6, ← hl2] at hs
        exact no ⟨3, 0⟩ (gj_stop a3 h6) rfl (by decide) (fun w b => have r := q.next b; tl3 c D E L nd cd ne ce nl cl h me ml xa xb g d ok w r.box r.cm e h2 h3 h4 N (fL T) r.pl hs)
      | false =>
        rw [h6, ← hl2] at hs
        have e1 : gd c h T t l = ⟨0, 0⟩ := egd.trans (gj_free a3 h6)
        rw [nL_yes hd e1, e1, hd]
        refine (vd_r g t A l cp W hb hl hc d hd he c2 ⟨0, 0⟩ rfl (some (ml, N + 1, MP.upd (fL T) d.l.toNat d.n)) (fun k n f e => by cases e; exact hkl.2) (fun w b => ?_)).mono fun r W' ⟨r1, r2⟩ => ⟨r1, ?_⟩
        · have r := q.next b
          exact (tl4 c D E L nd cd ne ce nl cl h me ml xa xb g d ok w r.box r.cm e h2 h3 h4 N (fL T) r.pl hm q.ne.2.2 hs).mono fun r w' ⟨r1, r2, r3⟩ => ⟨r1, r3, r2⟩
        · have e2 := fL_yes (T := T) (k := 0) c2 hn ok.n.1
          refine q.setL r2.1 (q.ri.snoc h6) ?_ (Nat.le_succ _) e2.2
          rw [e2.1, ← hl2]
          exact r2.2
end
end Go.Proofs.Ytnlimdlmhfnkiaa.StationW
