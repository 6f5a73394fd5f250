/- tocsinlaw13.MachJoins answers true at every input: a host that listens joins whatever crew it hears first, and one that fails is off, from any state. Condition: the table deBruijn32tab of math/bits is as its initialiser lays it (tied by the card). -/
import Derived.Test.YtigehmlfdbejaaaDoorMachLay
namespace Go.Proofs.YtigehmlfdbejaaaDoor.MachW.MachJoins
open Go.ChangeShapes Go.WideShapes Go.ChangeAt Go.RowKit Shell
open CrewW (Tz)
theorem fail_off (h : Int) (a : Mc) (hm : may h a = true) : stp h a 2 0 = (⟨1, 0, 0, 0⟩, if a.s = 1 then 0 else 5) := by
  have := (may_iff.1 hm).2
  obtain ⟨s, c, m, x⟩ := a
  unfold stp
  rw [if_neg (by rw [hm]; decide)]
  dsimp only at this ⊢
  by_cases s1 : s = 1
  · rw [if_pos s1, if_pos s1]
    unfold offM
    rw [if_neg (by decide)]
    obtain ⟨rfl, rfl, rfl⟩ : c = 0 ∧ m = 0 ∧ x = 0 := by omega
    rw [s1]
  · rw [if_neg s1, if_pos rfl, if_neg s1]
theorem foreign_lis (h : Int) (x : Int) (e : Nat) (hm : may h ⟨2, 0, 0, x⟩ = true) : stp h ⟨2, 0, 0, x⟩ 4 e = if e % 64 = 0 then (⟨2, 0, 0, x⟩, 0) else (⟨3, e % 64, 0, 0⟩, 3) := by
  unfold stp
  rw [if_neg (by rw [hm]; decide)]
  dsimp only
  rw [if_neg (by decide), if_neg (by decide), if_pos rfl]
  unfold lisM
  rw [if_pos rfl]
theorem cases_may {h : Int} {s : Int} {c : Nat} {m x : Int} (hm : may h ⟨s, c, m, x⟩ = true) : (s = 1 ∧ c = 0 ∧ m = 0 ∧ x = 0) ∨ (s = 2 ∧ c = 0 ∧ m = 0) ∨ s = 3 := by
  have := (may_iff.1 hm).2
  dsimp only at this
  omega
set_option maxHeartbeats 8000000 in
theorem walk (host : Nat) (s : Int) (c : Nat) (m x : Int) (crew : Nat) (w : World) (_hh : host < 256) (hc : c < 4294967296) (hcr : crew < 4294967296) (hT : Tz w) :
    Calls Tryd.prog 7 #[.int .u8 (host : Int), mv4 s c m x, .int .u32 (crew : Int)] w fun e w' => e = .returned (.bool true) ∧ Below w.heap.size w w' := by
  have HT := Lib.hid hT
  have hR : (host : Int) % 6 = ((host % 6 : Nat) : Int) := by omega
  have HM := Lib.hid (fun W => may_any ((host % 6 : Nat) : Int) ⟨s, c, m, x⟩ W hc)
  have HF := Lib.hid (fun W T => step_any ((host % 6 : Nat) : Int) ⟨s, c, m, x⟩ 2 0 W (by decide) hc T)
  have HG := Lib.hid (fun W T => step_any ((host % 6 : Nat) : Int) ⟨s, c, m, x⟩ 4 crew W hcr hc T)
  have hF := fail_off ((host % 6 : Nat) : Int) ⟨s, c, m, x⟩
  have hL := foreign_lis ((host % 6 : Nat) : Int) x crew
  have hS := cases_may (h := ((host % 6 : Nat) : Int)) (s := s) (c := c) (m := m) (x := x)
  have X := Lib.hid ((Stay.start w).alloc (mb4 s c m x))
  have hQ : (crew : Int) % 64 = ((crew % 64 : Nat) : Int) := by omega
  have q0 := neq_mach 1 0 0 0 1 0 0 0
  rw [show (!decide ((1 : Int) = 1 ∧ (0 : Int) = 0 ∧ (0 : Int) = 0 ∧ (0 : Int) = 0)) = false by decide] at q0
  have g := guardM
  clear hc hcr hT
  generalize host % 6 = h at *
  generalize crew % 64 = r at *
  cases hm : may (h : Int) ⟨s, c, m, x⟩
  · rw [hm] at HM
    clear hF hL hS HF HG
    go_enter Tryd.func7, Tryd.ntmps7
    go_wp2_with (first
      | (go_at_call 8; (refine (fixed_any _ (HT.out.below X.out.b)).mono ?_); rintro r w1 ⟨rfl, b1⟩; have X1 := Lib.hid (X.out.next b1); clear b1; obtain ⟨t0, t1, t2, t3⟩ := cells4 (X1.out.at 0 rfl))
      | (go_at_call 12; (refine (HM.out _).mono ?_); rintro r w2 ⟨rfl, b2⟩; have X2 := Lib.hid (X1.out.next b2); clear b2; obtain ⟨u0, u1, u2, u3⟩ := cells4 (X2.out.at 0 rfl)))
    go_ret
    exact ⟨rfl, X2.out.b⟩
  · rw [hm] at HM
    have hF2 := hF hm
    dsimp only at hF2
    rw [hF2] at HF
    rcases hS hm with ⟨rfl, rfl, rfl, rfl⟩ | ⟨rfl, rfl, rfl⟩ | rfl
    · have HF2 := Lib.hid HF.out
      rw [if_pos rfl] at HF2
      clear hF hF2 hL hS hm HF
      obtain ⟨z, hz⟩ : ∃ z, z = stp (h : Int) ⟨1, 0, 0, 0⟩ 4 crew := ⟨_, rfl⟩
      rw [← hz] at HG
      clear hz
      obtain ⟨⟨za, zb, zc, zd⟩, zn⟩ := z
      have HG2 := Lib.hid HG.out
      go_enter Tryd.func7, Tryd.ntmps7
      go_upto_region 7 with (first
        | (go_at_call 8; (refine (fixed_any _ (HT.out.below X.out.b)).mono ?_); rintro r w1 ⟨rfl, b1⟩; have X1 := Lib.hid (X.out.next b1); clear b1; obtain ⟨t0, t1, t2, t3⟩ := cells4 (X1.out.at 0 rfl))
        | (go_at_call 12; (refine (HM.out _).mono ?_); rintro r w2 ⟨rfl, b2⟩; have X2 := Lib.hid (X1.out.next b2); clear b2; obtain ⟨u0, u1, u2, u3⟩ := cells4 (X2.out.at 0 rfl))
        | (go_at_call 16; (refine (HF2.out _ (HT.out.below X2.out.b)).mono ?_); rintro r w3 ⟨rfl, b3⟩; have X3 := Lib.hid (X2.out.next b3); clear b3))
      have X4 := Lib.hid (X3.out.alloc (mb4 1 0 0 0))
      generalize w3.alloc (mb4 1 0 0 0) = w4 at *
      generalize w3.heap.size = p1 at *
      obtain ⟨v0, v1, v2, v3⟩ := cells4 (X4.out.at 0 rfl)
      obtain ⟨u0, u1, u2, u3⟩ := cells4 (X4.out.at 1 rfl)
      go_upto_region 10 with (go_at_call 16; (refine (HG2.out _ (HT.out.below X4.out.b)).mono ?_); rintro r w5 ⟨rfl, b5⟩; have X5 := Lib.hid (X4.out.next b5); clear b5)
      have X6 := Lib.hid (X5.out.alloc (mb ⟨za, zb, zc, zd⟩))
      generalize w5.alloc (mb ⟨za, zb, zc, zd⟩) = w6 at *
      generalize w5.heap.size = p2 at *
      clear u0 u1 u2 u3 v0 v1 v2 v3
      obtain ⟨v0, v1, v2, v3⟩ := cells4 (X6.out.at 0 rfl)
      obtain ⟨u0, u1, u2, u3⟩ := cells4 (X6.out.at 2 rfl)
      go_wp2
      go_ret
      exact ⟨rfl, X6.out.b⟩
    · have HF2 := Lib.hid HF.out
      rw [if_neg (by decide)] at HF2
      rw [hL hm] at HG
      clear hF hF2 hL hS hm HF
      by_cases hr : r = 0
      · rw [if_pos hr] at HG
        subst hr
        have q1 := eql_mach 2 0 0 x 2 0 0 x
        rw [show decide ((2 : Int) = 2 ∧ (0 : Int) = 0 ∧ (0 : Int) = 0 ∧ x = x) = true by simp] at q1
        have HG2 := Lib.hid HG.out
        clear HG
        go_enter Tryd.func7, Tryd.ntmps7
        go_upto_region 7 with (first
          | (go_at_call 8; (refine (fixed_any _ (HT.out.below X.out.b)).mono ?_); rintro r w1 ⟨rfl, b1⟩; have X1 := Lib.hid (X.out.next b1); clear b1; obtain ⟨t0, t1, t2, t3⟩ := cells4 (X1.out.at 0 rfl))
          | (go_at_call 12; (refine (HM.out _).mono ?_); rintro r w2 ⟨rfl, b2⟩; have X2 := Lib.hid (X1.out.next b2); clear b2; obtain ⟨u0, u1, u2, u3⟩ := cells4 (X2.out.at 0 rfl))
          | (go_at_call 16; (refine (HF2.out _ (HT.out.below X2.out.b)).mono ?_); rintro r w3 ⟨rfl, b3⟩; have X3 := Lib.hid (X2.out.next b3); clear b3))
        have X4 := Lib.hid (X3.out.alloc (mb4 1 0 0 0))
        generalize w3.alloc (mb4 1 0 0 0) = w4 at *
        generalize w3.heap.size = p1 at *
        obtain ⟨v0, v1, v2, v3⟩ := cells4 (X4.out.at 0 rfl)
        obtain ⟨u0, u1, u2, u3⟩ := cells4 (X4.out.at 1 rfl)
        go_upto_region 10 with (go_at_call 16; (refine (HG2.out _ (HT.out.below X4.out.b)).mono ?_); rintro r w5 ⟨rfl, b5⟩; have X5 := Lib.hid (X4.out.next b5); clear b5)
        have X6 := Lib.hid (X5.out.alloc (mb ⟨2, 0, 0, x⟩))
        generalize w5.alloc (mb ⟨2, 0, 0, x⟩) = w6 at *
        generalize w5.heap.size = p2 at *
        clear u0 u1 u2 u3 v0 v1 v2 v3
        obtain ⟨v0, v1, v2, v3⟩ := cells4 (X6.out.at 0 rfl)
        obtain ⟨u0, u1, u2, u3⟩ := cells4 (X6.out.at 2 rfl)
        go_wp2
        go_ret
        exact ⟨rfl, X6.out.b⟩
      · rw [if_neg hr] at HG
        have hr1 : ((r : Int) != 0) = true := by rw [bne_iff_ne]; omega
        have q1 := eql_mach 3 (r : Int) 0 0 3 (r : Int) 0 0
        rw [show decide ((3 : Int) = 3 ∧ (r : Int) = (r : Int) ∧ (0 : Int) = 0 ∧ (0 : Int) = 0) = true by simp] at q1
        have HG2 := Lib.hid HG.out
        clear HG hr
        go_enter Tryd.func7, Tryd.ntmps7
        go_upto_region 7 with (first
          | (go_at_call 8; (refine (fixed_any _ (HT.out.below X.out.b)).mono ?_); rintro r w1 ⟨rfl, b1⟩; have X1 := Lib.hid (X.out.next b1); clear b1; obtain ⟨t0, t1, t2, t3⟩ := cells4 (X1.out.at 0 rfl))
          | (go_at_call 12; (refine (HM.out _).mono ?_); rintro r w2 ⟨rfl, b2⟩; have X2 := Lib.hid (X1.out.next b2); clear b2; obtain ⟨u0, u1, u2, u3⟩ := cells4 (X2.out.at 0 rfl))
          | (go_at_call 16; (refine (HF2.out _ (HT.out.below X2.out.b)).mono ?_); rintro r w3 ⟨rfl, b3⟩; have X3 := Lib.hid (X2.out.next b3); clear b3))
        have X4 := Lib.hid (X3.out.alloc (mb4 1 0 0 0))
        generalize w3.alloc (mb4 1 0 0 0) = w4 at *
        generalize w3.heap.size = p1 at *
        obtain ⟨v0, v1, v2, v3⟩ := cells4 (X4.out.at 0 rfl)
        obtain ⟨u0, u1, u2, u3⟩ := cells4 (X4.out.at 1 rfl)
        go_upto_region 10 with (go_at_call 16; (refine (HG2.out _ (HT.out.below X4.out.b)).mono ?_); rintro r w5 ⟨rfl, b5⟩; have X5 := Lib.hid (X4.out.next b5); clear b5)
        have X6 := Lib.hid (X5.out.alloc (mb ⟨3, r, 0, 0⟩))
        generalize w5.alloc (mb ⟨3, r, 0, 0⟩) = w6 at *
        generalize w5.heap.size = p2 at *
        clear u0 u1 u2 u3 v0 v1 v2 v3
        obtain ⟨v0, v1, v2, v3⟩ := cells4 (X6.out.at 0 rfl)
        obtain ⟨u0, u1, u2, u3⟩ := cells4 (X6.out.at 2 rfl)
        go_wp2
        go_ret
        exact ⟨rfl, X6.out.b⟩
    · have HF2 := Lib.hid HF.out
      rw [if_neg (by decide)] at HF2
      clear hF hF2 hL hS hm HF
      obtain ⟨z, hz⟩ : ∃ z, z = stp (h : Int) ⟨3, c, m, x⟩ 4 crew := ⟨_, rfl⟩
      rw [← hz] at HG
      clear hz
      obtain ⟨⟨za, zb, zc, zd⟩, zn⟩ := z
      have HG2 := Lib.hid HG.out
      go_enter Tryd.func7, Tryd.ntmps7
      go_upto_region 7 with (first
        | (go_at_call 8; (refine (fixed_any _ (HT.out.below X.out.b)).mono ?_); rintro r w1 ⟨rfl, b1⟩; have X1 := Lib.hid (X.out.next b1); clear b1; obtain ⟨t0, t1, t2, t3⟩ := cells4 (X1.out.at 0 rfl))
        | (go_at_call 12; (refine (HM.out _).mono ?_); rintro r w2 ⟨rfl, b2⟩; have X2 := Lib.hid (X1.out.next b2); clear b2; obtain ⟨u0, u1, u2, u3⟩ := cells4 (X2.out.at 0 rfl))
        | (go_at_call 16; (refine (HF2.out _ (HT.out.below X2.out.b)).mono ?_); rintro r w3 ⟨rfl, b3⟩; have X3 := Lib.hid (X2.out.next b3); clear b3))
      have X4 := Lib.hid (X3.out.alloc (mb4 1 0 0 0))
      generalize w3.alloc (mb4 1 0 0 0) = w4 at *
      generalize w3.heap.size = p1 at *
      obtain ⟨v0, v1, v2, v3⟩ := cells4 (X4.out.at 0 rfl)
      obtain ⟨u0, u1, u2, u3⟩ := cells4 (X4.out.at 1 rfl)
      go_upto_region 10 with (go_at_call 16; (refine (HG2.out _ (HT.out.below X4.out.b)).mono ?_); rintro r w5 ⟨rfl, b5⟩; have X5 := Lib.hid (X4.out.next b5); clear b5)
      have X6 := Lib.hid (X5.out.alloc (mb ⟨za, zb, zc, zd⟩))
      generalize w5.alloc (mb ⟨za, zb, zc, zd⟩) = w6 at *
      generalize w5.heap.size = p2 at *
      clear u0 u1 u2 u3 v0 v1 v2 v3
      obtain ⟨v0, v1, v2, v3⟩ := cells4 (X6.out.at 0 rfl)
      obtain ⟨u0, u1, u2, u3⟩ := cells4 (X6.out.at 2 rfl)
      go_wp2
      go_ret
      exact ⟨rfl, X6.out.b⟩
theorem walkI (host : Int) (a : Mc) (crew : Int) (w : World) (wh : (Lit.int .u8 host).wf = true) (ha : a.c < 4294967296) (wc : (Lit.int .u32 crew).wf = true) (hT : Tz w) :
    Calls Tryd.prog 7 #[.int .u8 host, mv a, .int .u32 crew] w fun e w' => e = .returned (.bool true) ∧ Below w.heap.size w w' := by
  obtain ⟨host, rfl, hh⟩ := u8_nat wh
  obtain ⟨crew, rfl, hc⟩ := u32_nat wc
  obtain ⟨s, c, m, x⟩ := a
  exact walk host s c m x crew w hh ha hc hT
set_option maxRecDepth 100000 in
/-- What the walk gives, for every argument and every world. -/
theorem contract (H : Type) (enc : TypeId × Value → H) (W : World) (base : Nat) (args : Array Value) (ds gs : List (DataW H)) (before : List MemPlace)
    (hval : ∀ (j : Nat) t v, Tryd.f7.params[j]? = some t → args[j]? = some v → Value.okWide Tryd.prog W .any base t v)
    (hW : DataW.Whole enc Tryd.prog Tryd.f7.params.toList Rows.machJoinsSpec.vars false W args.toList ds gs before) (hL : laidMetH Tryd.prog Rows.machJoinsRow.laid W) : 
    Calls Tryd.prog 7 args W fun e W' => ∃ v, e = .returned v ∧ Rows.machJoinsSpec.post enc Tryd.prog Tryd.f7 false true false false W args v W' := by
  have hW' := hW
  obtain ⟨p, q, hA0, hV, rfl, hfz, hnd⟩ := hW
  have hA : DataW.TrodAll enc Tryd.prog W 0 (fun _ => true) true Tryd.f7.params.toList args.toList ds p := hA0
  rw [Tryd.params7] at hA hval
  obtain ⟨v0, vs0, d0, ds0, p0, q0, hargs, rfl, rfl, h0, r0⟩ := trodAll_cons hA
  obtain ⟨v1, vs1, d1, ds1, p1, q1, rfl, rfl, rfl, h1, r1⟩ := trodAll_cons r0
  obtain ⟨v2, vs2, d2, ds2, p2, q2, rfl, rfl, rfl, h2, r2⟩ := trodAll_cons r1
  obtain ⟨rfl, rfl, rfl⟩ := trodAll_nil r2
  obtain rfl : args = #[v0, v1, v2] := by cases args; simp_all
  obtain ⟨rfl, rfl⟩ := trodVars_none hV
  obtain ⟨host, rfl, rfl, rfl, w0⟩ := open_int Tryd.underlying5 (hval 0 5 v0 rfl rfl) h0
  obtain ⟨a, rfl, hc1, hm01, hm11⟩ := open_mach (hval 1 36 v1 rfl rfl) h1
  obtain ⟨crew, rfl, rfl, rfl, w2⟩ := open_int Tryd.underlying28 (hval 2 28 v2 rfl rfl) h2
  refine (walkI host a crew W w0 hc1 w2 (tz_of hL)).mono fun e W' ⟨he, hb⟩ => ?_
  exact ⟨_, he, Shell.post_law laidOut (by kernel_rfl) rfl Tryd.underlying4 rfl hW' rfl hb⟩
theorem reads (os : Os) {H : Type} (enc : TypeId × Value → H) : ∃ places, DataW.whole enc Tryd.prog ((laidWorld os).forCall (fun _ _ => 0) ⟨#[], #[.int .u8 0, .agg #[.int .i64 0, .int .u32 0, .int .i64 0, .int .i64 0], .int .u32 0], []⟩).memory Tryd.f7.params.toList Rows.machJoinsSpec.vars false (#[Value.int .u8 0, Value.agg #[.int .i64 0, .int .u32 0, .int .i64 0, .int .i64 0], Value.int .u32 0]).toList 8 = some ([.lit (.int .u8 0), .agg [.lit (.int .i64 0), .lit (.int .u32 0), .lit (.int .i64 0), .lit (.int .i64 0)], .lit (.int .u32 0)], [], places) :=
  ⟨[], by kernel_rfl⟩
set_option maxRecDepth 100000 in
theorem lifted (os : Os) (started : os.Started) (H : Type) (enc : TypeId × Value → H) (F : Stop.Interp) :
    ReturnsInHanded {} Tryd.checked os 7 .any ((OpenSpec.ofChange Rows.machJoinsSpec).preRow enc Tryd.prog Tryd.f7 Rows.machJoinsRow.domain false Rows.machJoinsRow.laid) (((OpenSpec.ofChange Rows.machJoinsSpec).at F).post enc Tryd.prog Tryd.f7 false true false false) := by
  obtain ⟨places, hx⟩ := reads os enc
  refine returnsInHanded_of_row (C := Tryd.checked) (s := OpenSpec.ofChange Rows.machJoinsSpec) own started (by kernel_rfl) Tryd.func7
    (witness_row_atRef (enc := enc) (C := Tryd.checked) false (laidWorld os) #[.int .u8 0, .agg #[.int .i64 0, .int .u32 0, .int .i64 0, .int .i64 0], .int .u32 0] rfl (by kernel_rfl) (by kernel_rfl) (by kernel_rfl)
      (OpenSpec.preRow_of_cond 8 hx (by kernel_rfl) (fun k hk => by cases hk) (by kernel_rfl) (laid_met os _))) ?_
  intro W base args ds gs before hval hW _ _ _ hL _ _
  exact contract H enc W base args ds gs before hval hW hL
theorem said : Rows.MachJoinsSaid :=
  OpenClaim.holds_of_cond 7 Tryd.f7 rfl rfl rfl rfl rfl rfl rfl ⟨rfl, rfl, rfl, rfl, rfl⟩ rfl rfl rfl rfl rfl (by kernel_rfl) Tryd.func7 (by kernel_rfl)
    (of_decide_eq_true (by kernel_rfl)) (by unfold Func.isWrapper; first | (rw [if_pos (by decide +kernel)]; kernel_rfl) | (rw [if_neg (by decide +kernel)]; exact ⟨rfl, rfl⟩))
    (fun os started H enc _ F => by rw [OpenClaim.pre_eq_preRow]; exact lifted os started H enc F)
theorem plain (f : FuncId) (fn : Func) (hf : Tryd.pinned.checked.prog.funcNamed "tocsin/tocsinlaw13.MachJoins" = some f) (hfn : Tryd.pinned.checked.prog.funcs[f]? = some fn) :
    false = Tryd.pinned.checked.prog.looks [] ∧ ∀ (j : Nat) t, fn.params[j]? = some t → Tryd.pinned.checked.prog.wantsStandIn t = false := by
  obtain rfl : f = 7 := Option.some.inj ((show Tryd.prog.funcNamed "tocsin/tocsinlaw13.MachJoins" = some 7 by kernel_rfl).symm.trans hf) |>.symm
  obtain rfl : fn = Tryd.f7 := (Option.some.inj (Tryd.func7.symm.trans hfn)).symm
  refine ⟨by kernel_rfl, fun j t ht => ?_⟩
  rw [Tryd.params7] at ht
  have hall : ∀ t ∈ Tryd.f7.params.toList, Tryd.prog.wantsStandIn t = false := by
    rw [Tryd.params7]
    have h : ((#[5, 36, 28] : Array TypeId).toList.all fun t => !Tryd.prog.wantsStandIn t) = true := by kernel_rfl
    intro t ht
    simpa using (List.all_eq_true.1 h) t ht
  exact hall t (by rw [Tryd.params7]; exact Array.mem_toList_iff.2 (Array.mem_of_getElem? ht))
theorem card : Rows.MachJoinsCardSaid :=
  Claim7.holds_tied_plain_at .later [] _ _ _ _ said (fun _ h => by cases h) (by kernel_rfl) (fun _ h => by cases h) machJoins_row_tie rfl ⟨rfl, rfl⟩ (by kernel_rfl) rfl plain (by kernel_rfl)
end Go.Proofs.YtigehmlfdbejaaaDoor.MachW.MachJoins
