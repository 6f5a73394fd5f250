/- The law PermAges: the more a frame has spent, the sooner it is permanent; with nothing left it is so at once: for all times, spendings and rates. No condition. -/
import Derived.Test.YtmkgnkbcdkcboaaPermFixed
import Derived.Test.YtmkgnkbcdkcboaaPermQ
namespace Go.Proofs.Ytmkgnkbcdkcboaa.PermW.PermAges
open Go.ChangeShapes Go.WideShapes Go.ChangeAt Go.RowKit PermW Shell
open ClockW (CK CI tell tell_iff sh wh okN okN_iff)
abbrev arr2 (x y : Int) : Obj := .cells #[.int .u16 x, .int .u16 y] 63 (0, 0)
abbrev ck (m b r : Int) : Obj := .cells #[.int .i64 m, .int .i64 b, .int .i64 r] 71 (0, 0)
theorem cells2 {w : World} {j : Nat} {x y : Value} {t : TypeId} (h : w.heap[j]? = some (.cells #[x, y] t (0, 0))) : w.cell? ⟨j, 0, none⟩ = some x ∧ w.cell? ⟨j, 1, none⟩ = some y :=
  ⟨cell_of_row w j 0 _ _ _ h, cell_of_row w j 1 _ _ _ h⟩
theorem dues {r t cl z : Int} (h0 : -1000000 ≤ r) (h1 : r ≤ 1000000) (t0 : 0 ≤ t) (t1 : t ≤ 562949953421312) (c0 : 0 ≤ cl) (c1 : cl ≤ 65535) (hz : wh 0 0 r (sh 0 0 r t + (65535 - cl)) = z) (k : Nat) (w : World) (h : CK w k 0 0 r) :
    Calls Try.prog 20 #[.pointer (some ⟨k, 0, none⟩), .int .i64 t, .int .i64 cl, .int .i64 65535] w fun e w' => e = .returned (.tuple #[.int .i64 z, .int .i64 0]) ∧ Below w.heap.size w w' := by
  have D := due_any k 0 0 r t cl 65535 w h ⟨by decide, by decide, by decide, by decide, h0, h1⟩
  rw [du_ok h0 t0 (by omega) c0 c1 (by decide), hz] at D
  exact D
set_option maxHeartbeats 4000000 in
set_option maxRecDepth 100000 in
theorem walk (t x y r : Int) (hx : 0 ≤ x ∧ x ≤ 65535) (hy : 0 ≤ y ∧ y ≤ 65535) (w : World) :
    Calls Try.prog 7 #[.int .i64 t, .agg #[.int .u16 x, .int .u16 y], .int .i64 r] w fun e w' => e = .returned (.bool true) ∧ Below w.heap.size w w' := by
  have HX := Lib.hid hx
  have HY := Lib.hid hy
  clear hx hy
  have S0 := (Stay.start w).alloc (arr2 x y)
  go_enter Try.func7, Try.ntmps7
  go_wp2_with fail
  generalize w.alloc (Obj.cells #[.int .u16 x, .int .u16 y] 63) = W0 at *
  refine (fixed_any _).mono ?_
  rintro e w1 ⟨rfl, b1⟩
  have S1 := Lib.hid (S0.next b1)
  clear S0 b1
  cases ho : okN 0 0 r with
  | false =>
    go_wp2_with fail
    refine (ClockW.new_bad 0 0 r ho _).mono ?_
    rintro e w' ⟨rfl, rfl⟩
    go_wp2
    go_ret
    exact ⟨rfl, S1.out.b⟩
  | true =>
    have hci := Lib.hid (okN_iff.1 ho).1
    go_wp2_with fail
    refine (ClockW.new_ok 0 0 r ho _).mono ?_
    rintro e w2 ⟨rfl, c2, b2⟩
    have S2 := Lib.hid ((S1.out.next b2).add (o := ck 0 0 r) c2)
    generalize hk : w1.heap.size = k at *
    clear S1 b2 c2 hk ho
    by_cases t0 : t < 0
    · go_wp2
      go_ret
      exact ⟨rfl, S2.out.b⟩
    · by_cases t1 : 562949953421312 < t
      · go_wp2
        go_ret
        exact ⟨rfl, S2.out.b⟩
      · obtain ⟨lo, hlo⟩ : ∃ lo, min x y = lo := ⟨_, rfl⟩
        obtain ⟨hi, hhi⟩ : ∃ hi, max x y = hi := ⟨_, rfl⟩
        have l0 : 0 ≤ lo ∧ lo ≤ hi ∧ hi ≤ 65535 := by have := HX.out; have := HY.out; omega
        obtain ⟨a0, a1⟩ := cells2 (S2.out.at 1 rfl)
        go_wp2_with fail
        obtain ⟨za, ha⟩ : ∃ z, wh 0 0 r (sh 0 0 r t + (65535 - lo)) = z := ⟨_, rfl⟩
        obtain ⟨zb, hb⟩ : ∃ z, wh 0 0 r (sh 0 0 r t + (65535 - hi)) = z := ⟨_, rfl⟩
        obtain ⟨zd, hd⟩ : ∃ z, wh 0 0 r (sh 0 0 r t + (65535 - 65535)) = z := ⟨_, rfl⟩
        have r0 := hci.out.r0
        have r1 := hci.out.r1
        have o1 : zb ≤ za := by rw [← ha, ← hb]; exact wh_mono r0 (by omega)
        have o2 : zd ≤ zb := by rw [← hd, ← hb]; exact wh_mono r0 (by omega)
        have o3 : zd ≤ t := by rw [← hd]; exact wh_le r0 (by omega) (by omega)
        have DA := Lib.hid (dues r0 r1 (by omega) (by omega) l0.1 (by omega) ha k)
        have DB := Lib.hid (dues r0 r1 (by omega) (by omega) (by omega) l0.2.2 hb k)
        have DD := Lib.hid (dues r0 r1 (by omega) (by omega) (by decide) (by decide) hd k)
        clear ha hb hd
        refine (DA.out _ (S2.out.at 0 rfl)).mono ?_
        rintro e w3 ⟨rfl, b3⟩
        have S3 := Lib.hid (S2.out.next b3)
        clear a0 a1 S2 b3
        obtain ⟨a0, a1⟩ := cells2 (S3.out.at 1 rfl)
        go_wp2_with fail
        refine (DB.out _ (S3.out.at 0 rfl)).mono ?_
        rintro e w4 ⟨rfl, b4⟩
        have S4 := Lib.hid (S3.out.next b4)
        clear a0 a1 S3 b4
        go_wp2_with fail
        refine (DD.out _ (S4.out.at 0 rfl)).mono ?_
        rintro e w5 ⟨rfl, b5⟩
        have S5 := Lib.hid (S4.out.next b5)
        clear S4 b5
        go_wp2
        go_ret
        exact ⟨rfl, S5.out.b⟩
set_option maxRecDepth 100000 in
/-- What the walk gives, for every argument and every world. -/
theorem contract (H : Type) (enc : TypeId × Value → H) (W : World) (base : Nat) (args : Array Value) (ds gs : List (DataW H)) (before : List MemPlace)
    (hval : ∀ (j : Nat) t v, Try.f7.params[j]? = some t → args[j]? = some v → Value.okWide Try.prog W .any base t v)
    (hW : DataW.Whole enc Try.prog Try.f7.params.toList Rows.permAgesSpec.vars false W args.toList ds gs before) : 
    Calls Try.prog 7 args W fun e W' => ∃ v, e = .returned v ∧ Rows.permAgesSpec.post enc Try.prog Try.f7 false true false false W args v W' := by
  have hW' := hW
  obtain ⟨p, q, hA0, hV, rfl, hfz, hnd⟩ := hW
  have hA : DataW.TrodAll enc Try.prog W 0 (fun _ => true) true Try.f7.params.toList args.toList ds p := hA0
  rw [Try.params7] at hA hval
  obtain ⟨v0, vs0, d0, ds0, p0, q0, hargs, rfl, rfl, h0, r0⟩ := trodAll_cons hA
  obtain ⟨v1, vs1, d1, ds1, p1, q1, rfl, rfl, rfl, h1, r1⟩ := trodAll_cons r0
  obtain ⟨v2, vs2, d2, ds2, p2, q2, rfl, rfl, rfl, h2, r2⟩ := trodAll_cons r1
  obtain ⟨rfl, rfl, rfl⟩ := trodAll_nil r2
  obtain rfl : args = #[v0, v1, v2] := by cases args; simp_all
  obtain ⟨rfl, rfl⟩ := trodVars_none hV
  obtain ⟨t, rfl, rfl, rfl, w0⟩ := open_int Try.underlying2 (hval 0 2 v0 rfl rfl) h0
  obtain ⟨l1, rfl, hl1, w1⟩ := open_array Try.underlying63 Try.underlying57 (by kernel_rfl) (by kernel_rfl) (hval 1 63 v1 rfl rfl) h1
  obtain ⟨s0, s1, rfl⟩ := len2 hl1
  have s0w := u16_wf (w1 s0 (by simp))
  have s1w := u16_wf (w1 s1 (by simp))
  obtain ⟨r, rfl, rfl, rfl, w2⟩ := open_int Try.underlying2 (hval 2 2 v2 rfl rfl) h2
  refine (walk t s0 s1 r s0w s1w W).mono fun e W' ⟨he, hb⟩ => ?_
  exact ⟨_, he, Shell.post_law laidOut (by kernel_rfl) rfl Try.underlying4 rfl hW' rfl hb⟩
theorem reads (os : Os) {H : Type} (enc : TypeId × Value → H) : ∃ places, DataW.whole enc Try.prog ((World.holding Try.prog os ⟨#[], #[], []⟩).forCall (fun _ _ => 0) ⟨#[], #[.int .i64 0, .agg #[.int .u16 0, .int .u16 0], .int .i64 0], []⟩).memory Try.f7.params.toList Rows.permAgesSpec.vars false (#[Value.int .i64 0, Value.agg #[.int .u16 0, .int .u16 0], Value.int .i64 0]).toList 8 = some ([.lit (.int .i64 0), .agg [.lit (.int .u16 0), .lit (.int .u16 0)], .lit (.int .i64 0)], [], places) :=
  ⟨[], by kernel_rfl⟩
set_option maxRecDepth 100000 in
theorem lifted (os : Os) (started : os.Started) (H : Type) (enc : TypeId × Value → H) (F : Stop.Interp) :
    ReturnsInHanded {} Try.checked os 7 .any ((OpenSpec.ofChange Rows.permAgesSpec).preRow enc Try.prog Try.f7 Rows.permAgesRow.domain false Rows.permAgesRow.laid) (((OpenSpec.ofChange Rows.permAgesSpec).at F).post enc Try.prog Try.f7 false true false false) := by
  obtain ⟨places, hx⟩ := reads os enc
  refine returnsInHanded_of_row (C := Try.checked) (s := OpenSpec.ofChange Rows.permAgesSpec) own started (by kernel_rfl) Try.func7
    (witness_row_atRef (enc := enc) (C := Try.checked) false (World.holding Try.prog os ⟨#[], #[], []⟩) #[.int .i64 0, .agg #[.int .u16 0, .int .u16 0], .int .i64 0] rfl (by kernel_rfl) (by kernel_rfl) (by kernel_rfl)
      (OpenSpec.preRow_of_cond 8 hx (by kernel_rfl) (fun k hk => by cases hk) (by kernel_rfl) (laid_met os _))) ?_
  intro W base args ds gs before hval hW _ _ _ hL _ _
  exact contract H enc W base args ds gs before hval hW
theorem said : Rows.PermAgesSaid :=
  OpenClaim.holds_of_cond 7 Try.f7 rfl rfl rfl rfl rfl rfl rfl ⟨rfl, rfl, rfl, rfl, rfl⟩ rfl rfl rfl rfl rfl (by kernel_rfl) Try.func7 (by kernel_rfl)
    (of_decide_eq_true (by kernel_rfl)) (by unfold Func.isWrapper; first | (rw [if_pos (by decide +kernel)]; kernel_rfl) | (rw [if_neg (by decide +kernel)]; exact ⟨rfl, rfl⟩))
    (fun os started H enc _ F => by rw [OpenClaim.pre_eq_preRow]; exact lifted os started H enc F)
end Go.Proofs.Ytmkgnkbcdkcboaa.PermW.PermAges
