/- The landed port: Offer. -/
import Derived.Test.YtpliidkfllacpaaPortF
namespace Go.Proofs.Ytpliidkfllacpaa.PortW
open Go.RowKit Shell
/-- A port, and a box that holds a frame, while the call goes on. -/
structure OB1 (W0 : World) (p : Nat) (x : Da) (lo g m : Nat) (r e : List Da) (l : Nat) (vr ve : Value) (W : World) : Prop where
  b : Below W0.heap.size W0 W
  bx : W.heap[p]? = some (dbx x)
  p : PM lo g m r e l vr ve W
section
variable {W0 W W1 : World} {p lo g m l : Nat} {r e : List Da} {vr ve : Value} {x : Da}
theorem OB1.next (h : OB1 W0 p x lo g m r e l vr ve W) (b : Below W.heap.size W W1) : OB1 W0 p x lo g m r e l vr ve W1 := ⟨h.b.trans (b.mono h.b.size), row_below b h.bx, h.p.below b⟩
theorem OB1.drew (h : OB1 W0 p x lo g m r e l vr ve W) : OB1 W0 p x lo g m r e l vr ve W.drew := h.next (Below.refl _ _).drew
theorem OB1.start (h : PM lo g m r e l vr ve W) (x : Da) : OB1 W W.heap.size x lo g m r e l vr ve (W.alloc (dbx x)) := ⟨al (Below.refl _ _) _, heap_alloc_new _ _, h.below (al (Below.refl _ _) _)⟩
theorem offer_n (x : Da) (W : World) (_hp : x.p.size ≤ maxLen) : Calls Try.prog 11 #[.pointer none, dv x] W fun v W' => v = .returned (.int .i64 1) ∧ Below W.heap.size W W' := by
  have B0 := Lib.hid (al (Below.refl W.heap.size W) (dbx x))
  go_enter Try.func11, Try.ntmps11
  go_wp2
  go_ret
  exact ⟨rfl, B0.out⟩
theorem offer_no (x : Da) (h : PM lo g m r e l vr ve W) (hp : x.p.size ≤ maxLen) (ok : ¬ okP x) : Calls Try.prog 11 #[.pointer (some ⟨g, 0, none⟩), dv x] W fun v W' => v = .returned (.int .i64 1) ∧ Below W.heap.size W W' := by
  have S0 := Lib.hid (OB1.start h x)
  have KF := Lib.hid (fun Z => fits_no x Z hp ok)
  obtain ⟨c0, c1, c2, c3, c4⟩ := cells5 S0.out.bx
  clear h ok
  go_enter Try.func11, Try.ntmps11
  go_wp2_with fail
  refine (KF.out _).mono ?_
  rintro v w1 ⟨rfl, b1⟩
  have S1 := Lib.hid (S0.out.next b1)
  clear b1 S0 c0 c1 c2 c3 c4
  go_wp2
  go_ret
  exact ⟨rfl, S1.out.b⟩
set_option maxHeartbeats 4000000 in
set_option maxRecDepth 100000 in
theorem offer_lost (x : Da) (h : PM lo g m r e l vr ve W0) (ok : okP x) (hl : r.length + e.length = m) (hb : l < 4611686018427387904) : Calls Try.prog 11 #[.pointer (some ⟨g, 0, none⟩), dv x] W0 fun v W' => v = .returned (.int .i64 6) ∧ PM lo g m r e (l + 1) vr ve W' ∧ Turn (XP g vr ve) (XP g vr ve) W0 W' := by
  have S0 := Lib.hid (OB1.start h x)
  have KF := Lib.hid (fun Z => fits_yes x Z ok)
  obtain ⟨N, hN⟩ : ∃ N, r.length + e.length = N := ⟨_, rfl⟩
  have KL := Lib.hid (fun Z (hz : PM lo g m r e l vr ve Z) => hN ▸ len_m hz)
  have HN := Lib.hid hN
  have HP := Lib.hid h
  have MB := Lib.hid h.m64
  obtain ⟨c0, c1, c2, c3, c4⟩ := cells5 S0.out.bx
  have q1 : (m : Int) ≤ (N : Int) := by omega
  obtain ⟨l2, hl2⟩ : ∃ l2 : Int, (l : Int) + 1 = l2 := ⟨_, rfl⟩
  have e1 : IntKind.i64.wrap ((l : Int) + 1) = l2 := by rw [IntKind.wrap_i64]; omega
  have e2 : wrap64 ((l : Int) + 1) = l2 := by unfold wrap64; omega
  have HL2 := Lib.hid (show ((l + 1 : Nat) : Int) = l2 by omega)
  clear h ok hl hN hl2 hb
  go_enter Try.func11, Try.ntmps11
  go_wp2_with fail
  refine (KF.out _).mono ?_
  rintro v w1 ⟨rfl, b1⟩
  have S1 := Lib.hid (S0.out.next b1)
  clear b1 S0 c0 c1 c2 c3 c4
  generalize hp0 : W0.heap.size = p at *
  go_wp2_with fail
  refine wp_region_held_drew (S := fun W : World => OB1 W0 p x lo g m r e l vr ve W) (by kernel_rfl) (S1.out.drew) (fun hHeld => ?_)
  refine wpAnyH_take (i := 0) (oi := ⟨some 15, _, _, _, _, _⟩) (v := ?_) rfl (by kernel_rfl) (by kernel_rfl) (by kernel_rfl) (fun _ _ _ h => h) (Or.inl ⟨by kernel_rfl, ?_⟩) (by assumption) ?_; rotate_left; (focus (intro w hSw; (try dsimp only at hSw); go_simp; (try with_reducible rfl)))
  simp only [Act.put, List.setIfInBounds_toArray, List.set_cons_zero, List.set_cons_succ]
  refine wpAnyH_take (i := 2) (oi := ⟨some 17, _, _, _, _, _⟩) (v := ?_) rfl (by kernel_rfl) (by kernel_rfl) (by kernel_rfl) (fun _ _ _ h => h) (Or.inl ⟨by kernel_rfl, ?_⟩) (by assumption) ?_; rotate_left; (focus (intro w hSw; (try dsimp only at hSw); go_simp; (try with_reducible rfl)))
  simp only [Act.put, List.setIfInBounds_toArray, List.set_cons_zero, List.set_cons_succ]
  refine wpAnyH_take (i := 3) (oi := ⟨some 18, _, _, _, _, _⟩) (v := ?_) rfl (by kernel_rfl) (by kernel_rfl) (by kernel_rfl) (fun _ _ _ h => h) (Or.inl ⟨by kernel_rfl, ?_⟩) (by assumption) ?_; rotate_left; (focus (intro w hSw; (try dsimp only at hSw); go_simp; (try with_reducible rfl)))
  simp only [Act.put, List.setIfInBounds_toArray, List.set_cons_zero, List.set_cons_succ]
  refine wpAnyH_take (i := 4) (oi := ⟨some 19, _, _, _, _, _⟩) (v := ?_) rfl (by kernel_rfl) (by kernel_rfl) (by kernel_rfl) (fun _ _ _ h => h) (Or.inl ⟨by kernel_rfl, ?_⟩) (by assumption) ?_; rotate_left; (focus (intro w hSw; (try dsimp only at hSw); go_simp; (try with_reducible rfl)))
  simp only [Act.put, List.setIfInBounds_toArray, List.set_cons_zero, List.set_cons_succ]
  refine wpAnyH_take (i := 5) (oi := ⟨some 20, _, _, _, _, _⟩) (v := ?_) rfl (by kernel_rfl) (by kernel_rfl) (by kernel_rfl) (fun _ _ _ h => h) (Or.inl ⟨by kernel_rfl, ?_⟩) (by assumption) ?_; rotate_left; (focus (intro w hSw; (try dsimp only at hSw); obtain ⟨y0, y1, y2, y3⟩ := cells4 (OB1.p hSw).b; go_simp; (try with_reducible rfl)))
  simp only [Act.put, List.setIfInBounds_toArray, List.set_cons_zero, List.set_cons_succ]
  refine wpAnyH_ready (rs := [1]) (by kernel_rfl) (by simp) ?_
  refine AllReadyH.cons (o := ⟨some 16, _, _, _, _, _⟩) rfl (fun K hK => ?_) AllReadyH.nil
  rw [if_pos (by kernel_rfl)]
  go_simp
  refine (KL.out _ (OB1.p hHeld)).mono ?_
  rintro v2 w2 ⟨rfl, b2⟩
  have hS2 := OB1.next hHeld b2
  clear b2
  go_simp
  refine hK.out _ _ (by assumption) (fun hHeld => ?_)
  clear hK K
  refine wpAnyH_take (i := 6) (oi := ⟨some 21, _, _, _, _, _⟩) (v := ?_) rfl (by kernel_rfl) (by kernel_rfl) (by kernel_rfl) (fun _ _ _ h => h) (Or.inl ⟨by kernel_rfl, ?_⟩) (by assumption) ?_; rotate_left; (focus (intro w hSw; (try dsimp only at hSw); go_simp; (try with_reducible rfl)))
  simp only [Act.put, List.setIfInBounds_toArray, List.set_cons_zero, List.set_cons_succ]
  refine wpAnyH_take (i := 7) (oi := ⟨some 14, _, _, _, _, _⟩) (v := ?_) rfl (by kernel_rfl) (by kernel_rfl) (by kernel_rfl) (fun _ _ _ h => h) (Or.inl ⟨by kernel_rfl, ?_⟩) (by assumption) ?_; rotate_left; (focus (intro w hSw; (try dsimp only at hSw); go_simp; (try with_reducible rfl)))
  simp only [Act.put, List.setIfInBounds_toArray, List.set_cons_zero, List.set_cons_succ]
  refine wpAnyH_done (by kernel_rfl) ?_ _
  have S2 := Lib.hid hHeld
  clear hHeld S1
  obtain ⟨c0, c1, c2, c3⟩ := cells4 S2.out.p.b
  obtain ⟨f0, f1, f2, f3⟩ := frozen4 S2.out.p.b
  go_wp2
  go_ret
  have := PM.more HP.out S2.out.b
  rw [HL2.out] at this
  exact ⟨rfl, this⟩
set_option maxHeartbeats 4000000 in
set_option maxRecDepth 100000 in
theorem offer_in2 (x : Da) (h : PM lo g m r e l vr ve W0) (ok : okP x) (hl : r.length + e.length < m) (hc : x.c = 2) : Calls Try.prog 11 #[.pointer (some ⟨g, 0, none⟩), dv x] W0 fun v W' => v = .returned (.int .i64 0) ∧ ∃ v3, PM lo g m (r ++ [x]) e l v3 ve W' ∧ Turn (XP g vr ve) (XP g v3 ve) W0 W' := by
  have S0 := Lib.hid (OB1.start h x)
  have KF := Lib.hid (fun Z => fits_yes x Z ok)
  obtain ⟨N, hN⟩ : ∃ N, r.length + e.length = N := ⟨_, rfl⟩
  have KL := Lib.hid (fun Z (hz : PM lo g m r e l vr ve Z) => hN ▸ len_m hz)
  have HN := Lib.hid hN
  have HP := Lib.hid h
  have MB := Lib.hid h.m64
  obtain ⟨c0, c1, c2, c3, c4⟩ := cells5 S0.out.bx
  have q1 : ¬ (m : Int) ≤ (N : Int) := by omega
  have HO := Lib.hid (fun Z => of_any (g := g) x.c Z)
  rw [show (if x.c = 2 then 2 else 3) = 2 from if_pos hc] at HO
  have HL := Lib.hid hl
  clear h ok hl hN hc
  go_enter Try.func11, Try.ntmps11
  go_wp2_with fail
  refine (KF.out _).mono ?_
  rintro v w1 ⟨rfl, b1⟩
  have S1 := Lib.hid (S0.out.next b1)
  clear b1 S0 c0 c1 c2 c3 c4
  generalize hp0 : W0.heap.size = p at *
  go_wp2_with fail
  refine wp_region_held_drew (S := fun W : World => OB1 W0 p x lo g m r e l vr ve W) (by kernel_rfl) (S1.out.drew) (fun hHeld => ?_)
  refine wpAnyH_take (i := 0) (oi := ⟨some 15, _, _, _, _, _⟩) (v := ?_) rfl (by kernel_rfl) (by kernel_rfl) (by kernel_rfl) (fun _ _ _ h => h) (Or.inl ⟨by kernel_rfl, ?_⟩) (by assumption) ?_; rotate_left; (focus (intro w hSw; (try dsimp only at hSw); go_simp; (try with_reducible rfl)))
  simp only [Act.put, List.setIfInBounds_toArray, List.set_cons_zero, List.set_cons_succ]
  refine wpAnyH_take (i := 2) (oi := ⟨some 17, _, _, _, _, _⟩) (v := ?_) rfl (by kernel_rfl) (by kernel_rfl) (by kernel_rfl) (fun _ _ _ h => h) (Or.inl ⟨by kernel_rfl, ?_⟩) (by assumption) ?_; rotate_left; (focus (intro w hSw; (try dsimp only at hSw); go_simp; (try with_reducible rfl)))
  simp only [Act.put, List.setIfInBounds_toArray, List.set_cons_zero, List.set_cons_succ]
  refine wpAnyH_take (i := 3) (oi := ⟨some 18, _, _, _, _, _⟩) (v := ?_) rfl (by kernel_rfl) (by kernel_rfl) (by kernel_rfl) (fun _ _ _ h => h) (Or.inl ⟨by kernel_rfl, ?_⟩) (by assumption) ?_; rotate_left; (focus (intro w hSw; (try dsimp only at hSw); go_simp; (try with_reducible rfl)))
  simp only [Act.put, List.setIfInBounds_toArray, List.set_cons_zero, List.set_cons_succ]
  refine wpAnyH_take (i := 4) (oi := ⟨some 19, _, _, _, _, _⟩) (v := ?_) rfl (by kernel_rfl) (by kernel_rfl) (by kernel_rfl) (fun _ _ _ h => h) (Or.inl ⟨by kernel_rfl, ?_⟩) (by assumption) ?_; rotate_left; (focus (intro w hSw; (try dsimp only at hSw); go_simp; (try with_reducible rfl)))
  simp only [Act.put, List.setIfInBounds_toArray, List.set_cons_zero, List.set_cons_succ]
  refine wpAnyH_take (i := 5) (oi := ⟨some 20, _, _, _, _, _⟩) (v := ?_) rfl (by kernel_rfl) (by kernel_rfl) (by kernel_rfl) (fun _ _ _ h => h) (Or.inl ⟨by kernel_rfl, ?_⟩) (by assumption) ?_; rotate_left; (focus (intro w hSw; (try dsimp only at hSw); obtain ⟨y0, y1, y2, y3⟩ := cells4 (OB1.p hSw).b; go_simp; (try with_reducible rfl)))
  simp only [Act.put, List.setIfInBounds_toArray, List.set_cons_zero, List.set_cons_succ]
  refine wpAnyH_ready (rs := [1]) (by kernel_rfl) (by simp) ?_
  refine AllReadyH.cons (o := ⟨some 16, _, _, _, _, _⟩) rfl (fun K hK => ?_) AllReadyH.nil
  rw [if_pos (by kernel_rfl)]
  go_simp
  refine (KL.out _ (OB1.p hHeld)).mono ?_
  rintro v2 w2 ⟨rfl, b2⟩
  have hS2 := OB1.next hHeld b2
  clear b2
  go_simp
  refine hK.out _ _ (by assumption) (fun hHeld => ?_)
  clear hK K
  refine wpAnyH_take (i := 6) (oi := ⟨some 21, _, _, _, _, _⟩) (v := ?_) rfl (by kernel_rfl) (by kernel_rfl) (by kernel_rfl) (fun _ _ _ h => h) (Or.inl ⟨by kernel_rfl, ?_⟩) (by assumption) ?_; rotate_left; (focus (intro w hSw; (try dsimp only at hSw); go_simp; (try with_reducible rfl)))
  simp only [Act.put, List.setIfInBounds_toArray, List.set_cons_zero, List.set_cons_succ]
  refine wpAnyH_take (i := 7) (oi := ⟨some 14, _, _, _, _, _⟩) (v := ?_) rfl (by kernel_rfl) (by kernel_rfl) (by kernel_rfl) (fun _ _ _ h => h) (Or.inl ⟨by kernel_rfl, ?_⟩) (by assumption) ?_; rotate_left; (focus (intro w hSw; (try dsimp only at hSw); go_simp; (try with_reducible rfl)))
  simp only [Act.put, List.setIfInBounds_toArray, List.set_cons_zero, List.set_cons_succ]
  refine wpAnyH_done (by kernel_rfl) ?_ _
  have S2 := Lib.hid hHeld
  clear hHeld S1
  obtain ⟨c0, c1, c2, c3, c4⟩ := cells5 S2.out.bx
  go_wp2_with fail
  refine (HO.out _).mono ?_
  rintro v3 w3 ⟨rfl, hw⟩
  obtain rfl := hw
  go_wp2_with fail
  clear c0 c1 c2 c3 c4
  obtain ⟨A, cp, hv, -⟩ := S2.out.p.ra.form
  generalize hrl : r.length = n at *
  subst hv
  have BW := Lib.hid ((al (Below.refl w2.heap.size w2) (dbx x)).drew)
  have OL := Lib.hid (S2.out.p.ra.below BW.out)
  have EC := Lib.hid (show ∀ j u, (FD.cs x)[j]? = some u → (w2.alloc (dbx x)).drew.cell? ((⟨w2.heap.size, 0, none⟩ : Addr).add j) = some u from fun j u hj => by
    rw [Addr.add_lit, Nat.zero_add]
    have := cell_of_row (w2.alloc (dbx x)).drew w2.heap.size j (FD.cs x).toArray 30 (0, 0) (heap_alloc_new w2 (dbx x))
    rw [this, List.getElem?_toArray]
    exact hj)
  have BS := Lib.hid (show lo ≤ (w2.alloc (dbx x)).drew.heap.size by have := S2.out.p.lw; have := lt_of_heap S2.out.p.b; have := BW.out.size; omega)
  have LN := Lib.hid (show (r.length + 1) * 48 ≤ 140737488355328 by have := HL.out; have := MB.out; omega)
  have BG := Lib.hid (row_below BW.out S2.out.p.b)
  have NG := Lib.hid S2.out.p.nr
  obtain ⟨c0, c1, c2, c3⟩ := cells4 S2.out.p.b
  obtain ⟨d0, d1, d2, d3, d4⟩ := cells5 S2.out.bx
  obtain ⟨b0, b1, b2, b3⟩ := cells4 (row_below (al (Below.refl w2.heap.size w2) (dbx x)) S2.out.p.b)
  go_region_law ((refine step_append_ls oneD rfl _ _ rfl rfl OL.out BS.out x ⟨w2.heap.size, 0, none⟩ 1 rfl EC.out LN.out (by decide) ?_; intro v3 w3 o3 s3; have hx3 : w3.heap[g]? = _ := (s3.g.block g (lt_of_heap BG.out) (fun e => NG.out e.symm)).trans BG.out; obtain ⟨y0, y1, y2, y3⟩ := cells4 hx3; obtain ⟨z0, z1, z2, z3⟩ := frozen4 hx3; obtain ⟨A3, cp3, rfl, -⟩ := o3.form; have O3 := Lib.hid o3; have S3 := Lib.hid s3; clear o3 s3 hx3))
  all_goals
    have FIN := Lib.hid (PM.grow_r HP.out (S2.out.b.trans (BW.out.mono S2.out.b.size)) O3.out S3.out (by rw [hrl]; exact HL.out))
    rw [show (r ++ [x]).length = n + 1 by rw [List.length_append, hrl]; rfl] at FIN
    go_wp2
    go_ret
    exact ⟨rfl, _, FIN.out⟩
set_option maxHeartbeats 4000000 in
set_option maxRecDepth 100000 in
theorem offer_in3 (x : Da) (h : PM lo g m r e l vr ve W0) (ok : okP x) (hl : r.length + e.length < m) (hc : ¬ x.c = 2) : Calls Try.prog 11 #[.pointer (some ⟨g, 0, none⟩), dv x] W0 fun v W' => v = .returned (.int .i64 0) ∧ ∃ v3, PM lo g m r (e ++ [x]) l vr v3 W' ∧ Turn (XP g vr ve) (XP g vr v3) W0 W' := by
  have S0 := Lib.hid (OB1.start h x)
  have KF := Lib.hid (fun Z => fits_yes x Z ok)
  obtain ⟨N, hN⟩ : ∃ N, r.length + e.length = N := ⟨_, rfl⟩
  have KL := Lib.hid (fun Z (hz : PM lo g m r e l vr ve Z) => hN ▸ len_m hz)
  have HN := Lib.hid hN
  have HP := Lib.hid h
  have MB := Lib.hid h.m64
  obtain ⟨c0, c1, c2, c3, c4⟩ := cells5 S0.out.bx
  have q1 : ¬ (m : Int) ≤ (N : Int) := by omega
  have HO := Lib.hid (fun Z => of_any (g := g) x.c Z)
  rw [show (if x.c = 2 then 2 else 3) = 3 from if_neg hc] at HO
  have HL := Lib.hid hl
  clear h ok hl hN hc
  go_enter Try.func11, Try.ntmps11
  go_wp2_with fail
  refine (KF.out _).mono ?_
  rintro v w1 ⟨rfl, b1⟩
  have S1 := Lib.hid (S0.out.next b1)
  clear b1 S0 c0 c1 c2 c3 c4
  generalize hp0 : W0.heap.size = p at *
  go_wp2_with fail
  refine wp_region_held_drew (S := fun W : World => OB1 W0 p x lo g m r e l vr ve W) (by kernel_rfl) (S1.out.drew) (fun hHeld => ?_)
  refine wpAnyH_take (i := 0) (oi := ⟨some 15, _, _, _, _, _⟩) (v := ?_) rfl (by kernel_rfl) (by kernel_rfl) (by kernel_rfl) (fun _ _ _ h => h) (Or.inl ⟨by kernel_rfl, ?_⟩) (by assumption) ?_; rotate_left; (focus (intro w hSw; (try dsimp only at hSw); go_simp; (try with_reducible rfl)))
  simp only [Act.put, List.setIfInBounds_toArray, List.set_cons_zero, List.set_cons_succ]
  refine wpAnyH_take (i := 2) (oi := ⟨some 17, _, _, _, _, _⟩) (v := ?_) rfl (by kernel_rfl) (by kernel_rfl) (by kernel_rfl) (fun _ _ _ h => h) (Or.inl ⟨by kernel_rfl, ?_⟩) (by assumption) ?_; rotate_left; (focus (intro w hSw; (try dsimp only at hSw); go_simp; (try with_reducible rfl)))
  simp only [Act.put, List.setIfInBounds_toArray, List.set_cons_zero, List.set_cons_succ]
  refine wpAnyH_take (i := 3) (oi := ⟨some 18, _, _, _, _, _⟩) (v := ?_) rfl (by kernel_rfl) (by kernel_rfl) (by kernel_rfl) (fun _ _ _ h => h) (Or.inl ⟨by kernel_rfl, ?_⟩) (by assumption) ?_; rotate_left; (focus (intro w hSw; (try dsimp only at hSw); go_simp; (try with_reducible rfl)))
  simp only [Act.put, List.setIfInBounds_toArray, List.set_cons_zero, List.set_cons_succ]
  refine wpAnyH_take (i := 4) (oi := ⟨some 19, _, _, _, _, _⟩) (v := ?_) rfl (by kernel_rfl) (by kernel_rfl) (by kernel_rfl) (fun _ _ _ h => h) (Or.inl ⟨by kernel_rfl, ?_⟩) (by assumption) ?_; rotate_left; (focus (intro w hSw; (try dsimp only at hSw); go_simp; (try with_reducible rfl)))
  simp only [Act.put, List.setIfInBounds_toArray, List.set_cons_zero, List.set_cons_succ]
  refine wpAnyH_take (i := 5) (oi := ⟨some 20, _, _, _, _, _⟩) (v := ?_) rfl (by kernel_rfl) (by kernel_rfl) (by kernel_rfl) (fun _ _ _ h => h) (Or.inl ⟨by kernel_rfl, ?_⟩) (by assumption) ?_; rotate_left; (focus (intro w hSw; (try dsimp only at hSw); obtain ⟨y0, y1, y2, y3⟩ := cells4 (OB1.p hSw).b; go_simp; (try with_reducible rfl)))
  simp only [Act.put, List.setIfInBounds_toArray, List.set_cons_zero, List.set_cons_succ]
  refine wpAnyH_ready (rs := [1]) (by kernel_rfl) (by simp) ?_
  refine AllReadyH.cons (o := ⟨some 16, _, _, _, _, _⟩) rfl (fun K hK => ?_) AllReadyH.nil
  rw [if_pos (by kernel_rfl)]
  go_simp
  refine (KL.out _ (OB1.p hHeld)).mono ?_
  rintro v2 w2 ⟨rfl, b2⟩
  have hS2 := OB1.next hHeld b2
  clear b2
  go_simp
  refine hK.out _ _ (by assumption) (fun hHeld => ?_)
  clear hK K
  refine wpAnyH_take (i := 6) (oi := ⟨some 21, _, _, _, _, _⟩) (v := ?_) rfl (by kernel_rfl) (by kernel_rfl) (by kernel_rfl) (fun _ _ _ h => h) (Or.inl ⟨by kernel_rfl, ?_⟩) (by assumption) ?_; rotate_left; (focus (intro w hSw; (try dsimp only at hSw); go_simp; (try with_reducible rfl)))
  simp only [Act.put, List.setIfInBounds_toArray, List.set_cons_zero, List.set_cons_succ]
  refine wpAnyH_take (i := 7) (oi := ⟨some 14, _, _, _, _, _⟩) (v := ?_) rfl (by kernel_rfl) (by kernel_rfl) (by kernel_rfl) (fun _ _ _ h => h) (Or.inl ⟨by kernel_rfl, ?_⟩) (by assumption) ?_; rotate_left; (focus (intro w hSw; (try dsimp only at hSw); go_simp; (try with_reducible rfl)))
  simp only [Act.put, List.setIfInBounds_toArray, List.set_cons_zero, List.set_cons_succ]
  refine wpAnyH_done (by kernel_rfl) ?_ _
  have S2 := Lib.hid hHeld
  clear hHeld S1
  obtain ⟨c0, c1, c2, c3, c4⟩ := cells5 S2.out.bx
  go_wp2_with fail
  refine (HO.out _).mono ?_
  rintro v3 w3 ⟨rfl, hw⟩
  obtain rfl := hw
  go_wp2_with fail
  clear c0 c1 c2 c3 c4
  obtain ⟨A, cp, hv, -⟩ := S2.out.p.ef.form
  generalize hrl : e.length = n at *
  subst hv
  have BW := Lib.hid ((al (Below.refl w2.heap.size w2) (dbx x)).drew)
  have OL := Lib.hid (S2.out.p.ef.below BW.out)
  have EC := Lib.hid (show ∀ j u, (FD.cs x)[j]? = some u → (w2.alloc (dbx x)).drew.cell? ((⟨w2.heap.size, 0, none⟩ : Addr).add j) = some u from fun j u hj => by
    rw [Addr.add_lit, Nat.zero_add]
    have := cell_of_row (w2.alloc (dbx x)).drew w2.heap.size j (FD.cs x).toArray 30 (0, 0) (heap_alloc_new w2 (dbx x))
    rw [this, List.getElem?_toArray]
    exact hj)
  have BS := Lib.hid (show lo ≤ (w2.alloc (dbx x)).drew.heap.size by have := S2.out.p.lw; have := lt_of_heap S2.out.p.b; have := BW.out.size; omega)
  have LN := Lib.hid (show (e.length + 1) * 48 ≤ 140737488355328 by have := HL.out; have := MB.out; omega)
  have BG := Lib.hid (row_below BW.out S2.out.p.b)
  have NG := Lib.hid S2.out.p.ne
  obtain ⟨c0, c1, c2, c3⟩ := cells4 S2.out.p.b
  obtain ⟨d0, d1, d2, d3, d4⟩ := cells5 S2.out.bx
  obtain ⟨b0, b1, b2, b3⟩ := cells4 (row_below (al (Below.refl w2.heap.size w2) (dbx x)) S2.out.p.b)
  go_region_law ((refine step_append_ls oneD rfl _ _ rfl rfl OL.out BS.out x ⟨w2.heap.size, 0, none⟩ 1 rfl EC.out LN.out (by decide) ?_; intro v3 w3 o3 s3; have hx3 : w3.heap[g]? = _ := (s3.g.block g (lt_of_heap BG.out) (fun e => NG.out e.symm)).trans BG.out; obtain ⟨y0, y1, y2, y3⟩ := cells4 hx3; obtain ⟨z0, z1, z2, z3⟩ := frozen4 hx3; obtain ⟨A3, cp3, rfl, -⟩ := o3.form; have O3 := Lib.hid o3; have S3 := Lib.hid s3; clear o3 s3 hx3))
  all_goals
    have FIN := Lib.hid (PM.grow_e HP.out (S2.out.b.trans (BW.out.mono S2.out.b.size)) O3.out S3.out (by rw [hrl]; exact HL.out))
    rw [show (e ++ [x]).length = n + 1 by rw [List.length_append, hrl]; rfl] at FIN
    go_wp2
    go_ret
    exact ⟨rfl, _, FIN.out⟩
end
end Go.Proofs.Ytpliidkfllacpaa.PortW
