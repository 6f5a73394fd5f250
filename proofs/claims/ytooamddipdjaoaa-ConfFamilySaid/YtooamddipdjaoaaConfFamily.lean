/- tocsinlaw08.ConfFamily. -/
import Derived.Test.YtooamddipdjaoaaConfLay
import Derived.Test.YtooamddipdjaoaaConfFam
import Derived.Test.YtooamddipdjaoaaConfSm
import Derived.Test.YtooamddipdjaoaaConfR
import Derived.Test.YtooamddipdjaoaaConfJ
namespace Go.Proofs.Ytooamddipdjaoaa.ConfW.ConfFamily
open Go.ChangeShapes Go.WideShapes Go.ChangeAt Go.RowKit Shell
def famHN (h n : Nat) : Cfg := { hosts := (h : Nat), cycle := 2000000, delay := 2000, window := 1000, precision := 500, delays := famD h, entries := famEs h n, links := [], queue := 8 }
theorem chk_all : ∀ h ∈ List.range 7, h ≠ 0 → ∀ n ∈ List.range 17, chk (famHN h n) = 0 := by decide +kernel
theorem chk_fam (x y : Int) : chk (famC x y) = 0 := by
  have h := clampH_in x
  have n := clampN_in y
  exact chk_all (clampH x) (List.mem_range.2 (by omega)) (by omega) (clampN y) (List.mem_range.2 (by omega))
set_option maxHeartbeats 8000000 in
set_option maxRecDepth 100000 in
theorem walk (x y : Int) (w : World) : Calls Try.prog 6 #[.int .i64 x, .int .i64 y] w fun r w' => r = .returned (.bool true) ∧ Below w.heap.size w w' := by
  have FA := Lib.hid (fun W => family_any x y W)
  have RF := Lib.hid (fun W => refFamily_any x y W)
  have CZ := Lib.hid (chk_fam x y)
  have CE := Lib.hid (show eqC (famC x y) (famC x y) = true by rw [eqC_iff]; exact ⟨rfl, rfl, rfl, rfl, rfl, rfl, rfl, rfl, rfl⟩)
  generalize famC x y = c at *
  go_enter Try.func6, Try.ntmps6
  go_wp2_with fail
  refine (fixed_any _).mono ?_
  rintro r w1 ⟨rfl, hb1⟩
  have B1 := Lib.hid hb1
  clear hb1
  go_wp2_with fail
  refine (FA.out _).mono ?_
  rintro r w2 ⟨D, E, nd, cd, ne, ce, rfl, hm, hb2⟩
  have HM := Lib.hid hm
  have B2 := Lib.hid (B1.out.trans (hb2.mono B1.out.size))
  have HC := Lib.hid (fun W (hW : CX w2 c D E none nd cd ne ce 0 0 W) => (check_any c D E none nd cd ne ce 0 0 W (hW.mem HM.out)).mono (fun r W' (g : _ ∧ _) => (⟨by rw [← CZ.out]; exact g.1, g.2⟩ : r = .returned (.int .i64 0) ∧ Below W.heap.size W W')))
  have HR := Lib.hid (fun W (hW : CX w2 c D E none nd cd ne ce 0 0 W) => (refCheck_any c D E none nd cd ne ce 0 0 W (hW.mem HM.out)).mono (fun r W' (g : _ ∧ _) => (⟨by rw [← CZ.out]; exact g.1, g.2⟩ : r = .returned (.int .i64 0) ∧ Below W.heap.size W W')))
  have HS := Lib.hid (fun W (hW : CX w2 c D E none nd cd ne ce 0 0 W) D2 E2 nd2 cd2 ne2 ce2 (g : CM W c D2 E2 none nd2 cd2 ne2 ce2 0 0) => (same_any c D E none nd cd ne ce 0 0 c D2 E2 none nd2 cd2 ne2 ce2 0 0 W (hW.mem HM.out) g).mono (fun r W' (g : _ ∧ _) => (⟨by rw [← CE.out]; exact g.1, g.2⟩ : r = .returned (.bool true) ∧ Below W.heap.size W W')))
  have X := Lib.hid (CX.start (w0 := w2) (c := c) (D := D) (E := E) (L := none) (nd := nd) (cd := cd) (ne := ne) (ce := ce) (nl := 0) (cl := 0))
  clear hm hb2 B1
  go_wp2_with fail
  have Y0 := Lib.hid (X.out.next (Below.refl _ _).drew)
  refine wp_region_held_drew (S := fun W : World => Hid (CX w2 c D E none nd cd ne ce 0 0 W) ∧ W.cell? ⟨w2.heap.size, 0, none⟩ = some (.int .i64 c.hosts) ∧ W.cell? ⟨w2.heap.size, 1, none⟩ = some (.int .i64 c.cycle) ∧ W.cell? ⟨w2.heap.size, 2, none⟩ = some (.int .i64 c.delay) ∧ W.cell? ⟨w2.heap.size, 3, none⟩ = some (.int .i64 c.window) ∧ W.cell? ⟨w2.heap.size, 4, none⟩ = some (.int .i64 c.precision) ∧ W.cell? ⟨w2.heap.size, 5, none⟩ = some (.slice D nd cd) ∧ W.cell? ⟨w2.heap.size, 6, none⟩ = some (.slice E ne ce) ∧ W.cell? ⟨w2.heap.size, 7, none⟩ = some (.slice none 0 0) ∧ W.cell? ⟨w2.heap.size, 8, none⟩ = some (.int .i64 c.queue)) (by kernel_rfl) (Y0.out.s) (fun hHeld => ?_)
  refine wpAnyH_take (i := 0) (oi := ⟨(some 11), _, _, _, _, _⟩) (v := ?_) rfl (by kernel_rfl) (by kernel_rfl) (by kernel_rfl) (fun _ _ _ h => h) (Or.inl ⟨by kernel_rfl, ?_⟩) (by assumption) ?_; rotate_left; (focus (intro w hSw; (try dsimp only at hSw); go_simp; (try with_reducible rfl)))
  simp only [Act.put, List.setIfInBounds_toArray, List.set_cons_zero, List.set_cons_succ]
  refine wpAnyH_ready (rs := [1]) (by kernel_rfl) (by simp) ?_
  refine AllReadyH.cons (o := ⟨(some 12), _, _, _, _, _⟩) rfl (fun K hK => ?_) AllReadyH.nil
  go_simp
  refine (HC.out _ Y0.out).mono ?_
  rintro r z1 ⟨rfl, hb1⟩
  have Y1 := Lib.hid (Y0.out.next hb1)
  have SS1 := Y1.out.s
  clear hb1
  go_simp
  refine hK.out _ _ (by assumption) (fun hHeld => ?_)
  clear hK K
  refine wpAnyH_take (i := 2) (oi := ⟨(some 13), _, _, _, _, _⟩) (v := ?_) rfl (by kernel_rfl) (by kernel_rfl) (by kernel_rfl) (fun _ _ _ h => h) (Or.inl ⟨by kernel_rfl, ?_⟩) (by assumption) ?_; rotate_left; (focus (intro w hSw; (try dsimp only at hSw); go_simp; (try with_reducible rfl)))
  simp only [Act.put, List.setIfInBounds_toArray, List.set_cons_zero, List.set_cons_succ]
  refine wpAnyH_take (i := 3) (oi := ⟨(some 14), _, _, _, _, _⟩) (v := ?_) rfl (by kernel_rfl) (by kernel_rfl) (by kernel_rfl) (fun _ _ _ h => h) (Or.inl ⟨by kernel_rfl, ?_⟩) (by assumption) ?_; rotate_left; (focus (intro w hSw; (try dsimp only at hSw); go_simp; (try with_reducible rfl)))
  simp only [Act.put, List.setIfInBounds_toArray, List.set_cons_zero, List.set_cons_succ]
  refine wpAnyH_take (i := 4) (oi := ⟨(some 15), _, _, _, _, _⟩) (v := ?_) rfl (by kernel_rfl) (by kernel_rfl) (by kernel_rfl) (fun _ _ _ h => h) (Or.inl ⟨by kernel_rfl, ?_⟩) (by assumption) ?_; rotate_left; (focus (intro w hSw; (try dsimp only at hSw); go_simp; (try with_reducible rfl)))
  simp only [Act.put, List.setIfInBounds_toArray, List.set_cons_zero, List.set_cons_succ]
  refine wpAnyH_ready (rs := [5]) (by kernel_rfl) (by simp) ?_
  refine AllReadyH.cons (o := ⟨(some 16), _, _, _, _, _⟩) rfl (fun K hK => ?_) AllReadyH.nil
  go_simp
  refine (HR.out _ Y1.out).mono ?_
  rintro r z2 ⟨rfl, hb2⟩
  have Y2 := Lib.hid (Y1.out.next hb2)
  have SS2 := Y2.out.s
  clear hb2
  go_simp
  refine hK.out _ _ (by assumption) (fun hHeld => ?_)
  clear hK K
  refine wpAnyH_take (i := 6) (oi := ⟨(some 17), _, _, _, _, _⟩) (v := ?_) rfl (by kernel_rfl) (by kernel_rfl) (by kernel_rfl) (fun _ _ _ h => h) (Or.inl ⟨by kernel_rfl, ?_⟩) (by assumption) ?_; rotate_left; (focus (intro w hSw; (try dsimp only at hSw); go_simp; (try with_reducible rfl)))
  simp only [Act.put, List.setIfInBounds_toArray, List.set_cons_zero, List.set_cons_succ]
  refine wpAnyH_take (i := 7) (oi := ⟨(some 18), _, _, _, _, _⟩) (v := ?_) rfl (by kernel_rfl) (by kernel_rfl) (by kernel_rfl) (fun _ _ _ h => h) (Or.inl ⟨by kernel_rfl, ?_⟩) (by assumption) ?_; rotate_left; (focus (intro w hSw; (try dsimp only at hSw); go_simp; (try with_reducible rfl)))
  simp only [Act.put, List.setIfInBounds_toArray, List.set_cons_zero, List.set_cons_succ]
  refine wpAnyH_take (i := 8) (oi := ⟨(some 19), _, _, _, _, _⟩) (v := ?_) rfl (by kernel_rfl) (by kernel_rfl) (by kernel_rfl) (fun _ _ _ h => h) (Or.inl ⟨by kernel_rfl, ?_⟩) (by assumption) ?_; rotate_left; (focus (intro w hSw; (try dsimp only at hSw); go_simp; (try with_reducible rfl)))
  simp only [Act.put, List.setIfInBounds_toArray, List.set_cons_zero, List.set_cons_succ]
  refine wpAnyH_take (i := 9) (oi := ⟨(some 20), _, _, _, _, _⟩) (v := ?_) rfl (by kernel_rfl) (by kernel_rfl) (by kernel_rfl) (fun _ _ _ h => h) (Or.inl ⟨by kernel_rfl, ?_⟩) (by assumption) ?_; rotate_left; (focus (intro w hSw; (try dsimp only at hSw); go_simp; (try with_reducible rfl)))
  simp only [Act.put, List.setIfInBounds_toArray, List.set_cons_zero, List.set_cons_succ]
  refine wpAnyH_take (i := 10) (oi := ⟨(some 21), _, _, _, _, _⟩) (v := ?_) rfl (by kernel_rfl) (by kernel_rfl) (by kernel_rfl) (fun _ _ _ h => h) (Or.inl ⟨by kernel_rfl, ?_⟩) (by assumption) ?_; rotate_left; (focus (intro w hSw; (try dsimp only at hSw); go_simp; (try with_reducible rfl)))
  simp only [Act.put, List.setIfInBounds_toArray, List.set_cons_zero, List.set_cons_succ]
  refine wpAnyH_take (i := 11) (oi := ⟨(some 22), _, _, _, _, _⟩) (v := ?_) rfl (by kernel_rfl) (by kernel_rfl) (by kernel_rfl) (fun _ _ _ h => h) (Or.inl ⟨by kernel_rfl, ?_⟩) (by assumption) ?_; rotate_left; (focus (intro w hSw; (try dsimp only at hSw); go_simp; (try with_reducible rfl)))
  simp only [Act.put, List.setIfInBounds_toArray, List.set_cons_zero, List.set_cons_succ]
  refine wpAnyH_ready (rs := [12]) (by kernel_rfl) (by simp) ?_
  refine AllReadyH.cons (o := ⟨(some 23), _, _, _, _, _⟩) rfl (fun K hK => ?_) AllReadyH.nil
  go_simp
  refine (RF.out _).mono ?_
  rintro r z3 ⟨D2, E2, nd2, cd2, ne2, ce2, rfl, hm3, hb3⟩
  have HM3 := Lib.hid hm3
  have Y3 := Lib.hid (Y2.out.next hb3)
  have SS3 := Y3.out.s
  clear hm3 hb3
  go_simp
  refine hK.out _ _ (by assumption) (fun hHeld => ?_)
  clear hK K
  refine wpAnyH_ready (rs := [13]) (by kernel_rfl) (by simp) ?_
  refine AllReadyH.cons (o := ⟨(some 24), _, _, _, _, _⟩) rfl (fun K hK => ?_) AllReadyH.nil
  go_simp
  refine (HS.out _ Y3.out _ _ _ _ _ _ HM3.out).mono ?_
  rintro r z4 ⟨rfl, hb4⟩
  have Y4 := Lib.hid (Y3.out.next hb4)
  have SS4 := Y4.out.s
  clear hb4
  go_simp
  refine hK.out _ _ (by assumption) (fun hHeld => ?_)
  clear hK K
  refine wpAnyH_take (i := 14) (oi := ⟨(some 25), _, _, _, _, _⟩) (v := ?_) rfl (by kernel_rfl) (by kernel_rfl) (by kernel_rfl) (fun _ _ _ h => h) (Or.inl ⟨by kernel_rfl, ?_⟩) (by assumption) ?_; rotate_left; (focus (intro w hSw; (try dsimp only at hSw); go_simp; (try with_reducible rfl)))
  simp only [Act.put, List.setIfInBounds_toArray, List.set_cons_zero, List.set_cons_succ]
  refine wpAnyH_take (i := 15) (oi := ⟨(some 4), _, _, _, _, _⟩) (v := ?_) rfl (by kernel_rfl) (by kernel_rfl) (by kernel_rfl) (fun _ _ _ h => h) (Or.inl ⟨by kernel_rfl, ?_⟩) (by assumption) ?_; rotate_left; (focus (intro w hSw; (try dsimp only at hSw); go_simp; (try with_reducible rfl)))
  simp only [Act.put, List.setIfInBounds_toArray, List.set_cons_zero, List.set_cons_succ]
  refine wpAnyH_done (by kernel_rfl) ?_ _
  go_wp2
  go_ret
  exact ⟨rfl, B2.out.trans (Y4.out.b.mono B2.out.size)⟩
set_option maxRecDepth 100000 in
/-- What the walk gives, for every argument and every world. -/
theorem contract (H : Type) (enc : TypeId × Value → H) (W : World) (base : Nat) (args : Array Value) (ds gs : List (DataW H)) (before : List MemPlace)
    (hval : ∀ (j : Nat) t v, Try.f6.params[j]? = some t → args[j]? = some v → Value.okWide Try.prog W .any base t v)
    (hW : DataW.Whole enc Try.prog Try.f6.params.toList Rows.confFamilySpec.vars false W args.toList ds gs before) : 
    Calls Try.prog 6 args W fun e W' => ∃ v, e = .returned v ∧ Rows.confFamilySpec.post enc Try.prog Try.f6 false true false false W args v W' := by
  have hW' := hW
  obtain ⟨p, q, hA0, hV, rfl, hfz, hnd⟩ := hW
  have hA : DataW.TrodAll enc Try.prog W 0 (fun _ => true) true Try.f6.params.toList args.toList ds p := hA0
  rw [Try.params6] at hA hval
  obtain ⟨v0, vs0, d0, ds0, p0, q0, hargs, rfl, rfl, h0, r0⟩ := trodAll_cons hA
  obtain ⟨v1, vs1, d1, ds1, p1, q1, rfl, rfl, rfl, h1, r1⟩ := trodAll_cons r0
  obtain ⟨rfl, rfl, rfl⟩ := trodAll_nil r1
  obtain rfl : args = #[v0, v1] := by cases args; simp_all
  obtain ⟨rfl, rfl⟩ := trodVars_none hV
  obtain ⟨a, rfl, rfl, rfl, w0⟩ := open_int Try.underlying3 (hval 0 3 v0 rfl rfl) h0
  obtain ⟨b, rfl, rfl, rfl, w1⟩ := open_int Try.underlying3 (hval 1 3 v1 rfl rfl) h1
  refine (walk a b W).mono fun e W' ⟨he, hb⟩ => ?_
  exact ⟨_, he, Shell.post_law laidOut (by kernel_rfl) rfl Try.underlying4 rfl hW' rfl hb⟩
theorem reads (os : Os) {H : Type} (enc : TypeId × Value → H) : ∃ places, DataW.whole enc Try.prog ((World.holding Try.prog os ⟨#[], #[], []⟩).forCall (fun _ _ => 0) ⟨#[], #[.int .i64 0, .int .i64 0], []⟩).memory Try.f6.params.toList Rows.confFamilySpec.vars false (#[Value.int .i64 0, Value.int .i64 0]).toList 8 = some ([.lit (.int .i64 0), .lit (.int .i64 0)], [], places) :=
  ⟨[], by kernel_rfl⟩
set_option maxRecDepth 100000 in
theorem lifted (os : Os) (started : os.Started) (H : Type) (enc : TypeId × Value → H) (F : Stop.Interp) :
    ReturnsInHanded {} Try.checked os 6 .any ((OpenSpec.ofChange Rows.confFamilySpec).preRow enc Try.prog Try.f6 Rows.confFamilyRow.domain false Rows.confFamilyRow.laid) (((OpenSpec.ofChange Rows.confFamilySpec).at F).post enc Try.prog Try.f6 false true false false) := by
  obtain ⟨places, hx⟩ := reads os enc
  refine returnsInHanded_of_row (C := Try.checked) (s := OpenSpec.ofChange Rows.confFamilySpec) own started (by kernel_rfl) Try.func6
    (witness_row_atRef (enc := enc) (C := Try.checked) false (World.holding Try.prog os ⟨#[], #[], []⟩) #[.int .i64 0, .int .i64 0] rfl (by kernel_rfl) (by kernel_rfl) (by kernel_rfl)
      (OpenSpec.preRow_of_cond 8 hx (by kernel_rfl) (fun k hk => by cases hk) (by kernel_rfl) (laid_met os _))) ?_
  intro W base args ds gs before hval hW _ _ _ hL _ _
  exact contract H enc W base args ds gs before hval hW
theorem said : Rows.ConfFamilySaid :=
  OpenClaim.holds_of_cond 6 Try.f6 rfl rfl rfl rfl rfl rfl rfl ⟨rfl, rfl, rfl, rfl, rfl⟩ rfl rfl rfl rfl rfl (by kernel_rfl) Try.func6 (by kernel_rfl)
    (of_decide_eq_true (by kernel_rfl)) (by unfold Func.isWrapper; first | (rw [if_pos (by decide +kernel)]; kernel_rfl) | (rw [if_neg (by decide +kernel)]; exact ⟨rfl, rfl⟩))
    (fun os started H enc _ F => by rw [OpenClaim.pre_eq_preRow]; exact lifted os started H enc F)
end Go.Proofs.Ytooamddipdjaoaa.ConfW.ConfFamily
