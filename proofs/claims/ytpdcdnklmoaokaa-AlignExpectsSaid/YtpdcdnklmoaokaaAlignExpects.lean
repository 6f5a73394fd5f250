/- The law AlignExpects: a cycle's frame is expected as far behind its beginning as the document says, and is heard just where it is in time: for every configuration, every cycle and every distance. No condition. -/
import Derived.Test.YtpdcdnklmoaokaaAlignFixed
import Derived.Test.YtpdcdnklmoaokaaConfLay
namespace Go.Proofs.Ytpdcdnklmoaokaa.AlignW.AlignExpects
open Go.ChangeShapes Go.WideShapes Go.ChangeAt Go.RowKit AlignW Shell
open ConfW (Cfg CM CX chk open_cfg)
open FrameW (CV rightC)
abbrev CB (c : Cfg) (D E L : Option Addr) (nd cd ne ce nl cl : Nat) : Obj := Obj.cells #[.int .i64 c.hosts, .int .i64 c.cycle, .int .i64 c.delay, .int .i64 c.window, .int .i64 c.precision, .slice D nd cd, .slice E ne ce, .slice L nl cl, .int .i64 c.queue] 26
set_option maxHeartbeats 4000000 in
set_option maxRecDepth 100000 in
theorem walk (c : Cfg) (D E L : Option Addr) (nd cd ne ce nl cl : Nat) (cy off : Int) (w : World) (hcy : 0 ≤ cy ∧ cy ≤ 4294967295) (ho : -2147483648 ≤ off ∧ off ≤ 2147483647) (h : CM w c D E L nd cd ne ce nl cl) :
    Calls Try.prog 3 #[.agg #[.int .i64 c.hosts, .int .i64 c.cycle, .int .i64 c.delay, .int .i64 c.window, .int .i64 c.precision, .slice D nd cd, .slice E ne ce, .slice L nl cl, .int .i64 c.queue], .int .u32 cy, .int .i32 off] w fun r w' => r = .returned (.bool true) ∧ Below w.heap.size w w' := by
  obtain ⟨n, rfl⟩ := Int.eq_ofNat_of_zero_le hcy.1
  obtain ⟨K, hK⟩ : ∃ K, n % 100000 = K := ⟨_, rfl⟩
  have K1 : K < 100000 := by omega
  have m1 : (n : Int) % 100000 = (K : Int) := by omega
  have m2 : Int.tmod (n : Int) 100000 = (K : Int) := by rw [Int.tmod_eq_emod_of_nonneg (by omega)]; exact m1
  have K2 : (K : Int) < 100000 := by omega
  have K3 : (n : Int) ≤ 4294967295 := hcy.2
  have HM := Lib.hid h
  have S0 := Lib.hid ((Stay.start w).alloc (CB c D E L nd cd ne ce nl cl))
  clear hK hcy h
  have bx := CX.start (w0 := w) (c := c) (D := D) (E := E) (L := L) (nd := nd) (cd := cd) (ne := ne) (ce := ce) (nl := nl) (cl := cl)
  have CXH := Lib.hid bx
  clear bx
  go_enter Try.func3, Try.ntmps3
  go_wp2_with fail
  refine (fixed_any _).mono ?_
  rintro r w1 ⟨rfl, b1⟩
  have S := Lib.hid (S0.out.next b1)
  have X := Lib.hid (CXH.out.next b1)
  clear b1 S0 CXH
  obtain ⟨-, a0, a1, a2, a3, a4, a5, a6, a7, a8⟩ := X.out.s
  by_cases hz : chk c = 0
  case neg =>
    go_wp2_with fail
    refine (new_bad c D E L nd cd ne ce nl cl _ (X.out.mem HM.out) hz).mono ?_
    rintro r w2 ⟨rfl, b2⟩
    have S2 := Lib.hid (S.out.next b2)
    clear b2 S X a0 a1 a2 a3 a4 a5 a6 a7 a8 hz
    go_wp2
    go_ret
    exact ⟨rfl, S2.out.b⟩
  have HZ := Lib.hid hz
  clear hz
  go_wp2_with fail
  refine (new_ok c D E L nd cd ne ce nl cl _ (X.out.mem HM.out) HZ.out).mono ?_
  rintro r w2 ⟨g, rfl, h2, hg, b2⟩
  have P := Lib.hid (pa_new S.out HZ.out h2 hg b2)
  have X2 := Lib.hid (X.out.next b2)
  clear h2 hg b2 S X a0 a1 a2 a3 a4 a5 a6 a7 a8
  have sp := spans_ok HZ.out
  obtain ⟨p, hp⟩ : ∃ p, (K : Int) * c.cycle = p := ⟨_, rfl⟩
  have p0 : 0 ≤ p := by rw [← hp]; exact Int.mul_nonneg (by omega) (by omega)
  have p1 : p ≤ 100000 * 1073741824 := by
    rw [← hp]
    exact Int.mul_le_mul (by omega) sp.1.2 (by omega) (by decide)
  have eb : 0 ≤ exC c ∧ exC c ≤ 3145728 := (fit_of HZ.out).2.1
  have ab : 0 ≤ acC c ∧ acC c ≤ 3145728 := (fit_of HZ.out).2.2
  have hv : expV c.cycle (exC c) (K : Int) = p + exC c := by unfold expV; rw [hp, if_pos (by omega)]
  have Q := Lib.hid (fun W (h : PA w [(w.heap.size, CB c D E L nd cd ne ce nl cl)] g c.cycle (exC c) (acC c) zB zC W) => h.exp (K : Int) (by omega) _ hv)
  have O := Lib.hid (fun W => offset_any c D E L nd cd ne ce nl cl W HZ.out)
  have g1 : IntKind.i64.wrap ((K : Int) * c.cycle) = p := by rw [hp, IntKind.wrap_i64]; omega
  have g2 : IntKind.i64.wrap (p + exC c) = p + exC c := by rw [IntKind.wrap_i64]; omega
  have HP := Lib.hid hp
  have P0 := Lib.hid p0
  have P1 := Lib.hid p1
  have EB := Lib.hid eb
  have AB := Lib.hid ab
  clear p0 p1 eb ab hv hp sp
  go_wp2_with fail
  obtain ⟨-, a0, a1, a2, a3, a4, a5, a6, a7, a8⟩ := X2.out.s
  apply wp_some (S := fun w' => PA w [(w.heap.size, CB c D E L nd cd ne ce nl cl)] g c.cycle (exC c) (acC c) zB zC w')
  case h =>
    refine wp_region_noPanic ?_
    go_region_law (first
      | (go_at_call 9; refine (Q.out _ P.out.drew).mono ?_; rintro r w3 ⟨rfl, p3, b3⟩; have P3 := Lib.hid p3; have X3 := Lib.hid (X2.out.drew.next b3); clear p3 b3; obtain ⟨-, x0, x1, x2, x3, x4, x5, x6, x7, x8⟩ := X3.out.s)
      | (go_at_call 10; refine (O.out _).mono ?_; rintro r w4 ⟨rfl, b4⟩; have P4 := Lib.hid (P3.out.next b4); have X4 := Lib.hid (X3.out.next b4); clear b4; obtain ⟨-, z0, z1, z2, z3, z4, z5, z6, z7, z8⟩ := X4.out.s)
      | (go_simp; go_at_call 9; refine (Q.out _ P.out.drew).mono ?_; rintro r w3 ⟨rfl, p3, b3⟩; have P3 := Lib.hid p3; have X3 := Lib.hid (X2.out.drew.next b3); clear p3 b3; obtain ⟨-, x0, x1, x2, x3, x4, x5, x6, x7, x8⟩ := X3.out.s)
      | (go_simp; go_at_call 10; refine (O.out _).mono ?_; rintro r w4 ⟨rfl, b4⟩; have P4 := Lib.hid (P3.out.next b4); have X4 := Lib.hid (X3.out.next b4); clear b4; obtain ⟨-, z0, z1, z2, z3, z4, z5, z6, z7, z8⟩ := X4.out.s))
    all_goals exact NoPanic.normal ⟨rfl, rfl, P4.out⟩
  case hm =>
  intro w5 h5
  have P5 := Lib.hid h5
  clear h5
  obtain ⟨T, hT⟩ : ∃ T, p + exC c + off = T := ⟨_, rfl⟩
  have hp0 := P0.out
  have hp1 := P1.out
  have heb := EB.out
  have hab := AB.out
  have t1 : wrap64 (p + exC c + off) = T := by unfold wrap64; omega
  have t2 : IntKind.i64.wrap (p + exC c + off) = T := by rw [IntKind.wrap_i64]; omega
  have n1 : wrap64 (-acC c) = -acC c := by unfold wrap64; omega
  have n2 : wrap64 (-off) = -off := by unfold wrap64; omega
  have o1 : IntKind.i64.wrap off = off := by rw [IntKind.wrap_i64]; omega
  have o2 : wrap64 off = off := by unfold wrap64; omega
  have HO := Lib.hid ho
  have HK := Lib.hid K1
  clear ho K1 K2 K3 m1 m2 P0 P1 EB AB
  by_cases hneg : T < 0
  · clear hT hp0 hp1 heb hab
    go_wp2_with (go_at_call 9; refine (Q.out _ P5.out).mono ?_; rintro r w6 ⟨rfl, p6, -⟩; have P6 := Lib.hid p6; clear p6)
    go_ret
    exact ⟨rfl, P6.out.st.b⟩
  have OK := Lib.hid (show okT (K : Int) = true from okT_iff.2 (by have := HK.out; omega))
  have OT := Lib.hid (show okT T = true from okT_iff.2 (by have := HO.out; omega))
  have OF := Lib.hid (show okF 2 6 (K : Int) 1 0 = true from okF_iff.2 ⟨by have := HK.out; unfold rightC; omega, rfl, by decide, by decide⟩)
  have HTp : T - (K : Int) * c.cycle = exC c + off := by rw [HP.out]; omega
  by_cases hin : -acC c ≤ off ∧ off ≤ acC c
  · obtain ⟨i1, i2⟩ := hin
    have IN := Lib.hid (show inT c.cycle (exC c) (acC c) (K : Int) T by unfold inT; rw [HTp]; omega)
    have VV := Lib.hid (show exC c - (T - (K : Int) * c.cycle) = -off by rw [HTp]; omega)
    have HE := Lib.hid (fun W (h : PA w [(w.heap.size, CB c D E L nd cd ne ce nl cl)] g c.cycle (exC c) (acC c) zB zC W) => h.hear (K : Int) T 2 6 (K : Int) 1 0 0 (by decide) rfl OK.out OT.out OF.out rfl IN.out rfl 1 rfl _ VV.out)
    have e1 : decide (-acC c ≤ off) = true := decide_eq_true i1
    have e2 : decide (off ≤ acC c) = true := decide_eq_true i2
    clear hT hp0 hp1 heb hab HTp OK OT OF IN VV HP
    go_wp2_with (first
      | (go_at_call 9; refine (Q.out _ P5.out).mono ?_; rintro r w6 ⟨rfl, p6, -⟩; have P6 := Lib.hid p6; clear p6)
      | (go_at_call 11; refine P6.out.acc.mono ?_; rintro r w' ⟨rfl, hw⟩; obtain rfl := hw.symm)
      | (go_at_call 12; refine (HE.out _ P6.out).mono ?_; rintro r w7 ⟨rfl, p7, -⟩; have P7 := Lib.hid p7; clear p7)
      | (go_at_call 13; refine (P7.out.close (-off) 1 1 (by show (if bet _ then _ else _) = _; rw [show bet (upd zC 0 1) = false by decide +kernel]; rfl) (by decide +kernel) (by decide +kernel)).mono ?_; rintro r w8 ⟨rfl, p8, -⟩; have P8 := Lib.hid p8; clear p8))
    go_ret
    exact ⟨rfl, P8.out.st.b⟩
  · have IN := Lib.hid (show ¬ inT c.cycle (exC c) (acC c) (K : Int) T by unfold inT; rw [HTp]; omega)
    have HE := Lib.hid (fun W (h : PA w [(w.heap.size, CB c D E L nd cd ne ce nl cl)] g c.cycle (exC c) (acC c) zB zC W) => h.range (K : Int) T 2 6 (K : Int) 1 0 0 (by decide) rfl OK.out OT.out OF.out rfl (Or.inr IN.out))
    by_cases i1 : -acC c ≤ off
    · have i2 : acC c < off := by omega
      have e1 : decide (-acC c ≤ off) = true := decide_eq_true i1
      have e2 : decide (off ≤ acC c) = false := decide_eq_false (by omega)
      clear hT hp0 hp1 heb hab HTp OK OT OF IN HP hin
      go_wp2_with (first
        | (go_at_call 9; refine (Q.out _ P5.out).mono ?_; rintro r w6 ⟨rfl, p6, -⟩; have P6 := Lib.hid p6; clear p6)
        | (go_at_call 11; refine P6.out.acc.mono ?_; rintro r w' ⟨rfl, hw⟩; obtain rfl := hw.symm)
        | (go_at_call 12; refine (HE.out _ P6.out).mono ?_; rintro r w7 ⟨rfl, p7, -⟩; have P7 := Lib.hid p7; clear p7)
        | (go_at_call 13; refine (P7.out.close 0 0 0 (by decide +kernel) (by decide +kernel) (by decide +kernel)).mono ?_; rintro r w8 ⟨rfl, p8, -⟩; have P8 := Lib.hid p8; clear p8))
      go_ret
      exact ⟨rfl, P8.out.st.b⟩
    · have e1 : decide (-acC c ≤ off) = false := decide_eq_false i1
      clear hT hp0 hp1 heb hab HTp OK OT OF IN HP hin
      go_wp2_with (first
        | (go_at_call 9; refine (Q.out _ P5.out).mono ?_; rintro r w6 ⟨rfl, p6, -⟩; have P6 := Lib.hid p6; clear p6)
        | (go_at_call 11; refine P6.out.acc.mono ?_; rintro r w' ⟨rfl, hw⟩; obtain rfl := hw.symm)
        | (go_at_call 12; refine (HE.out _ P6.out).mono ?_; rintro r w7 ⟨rfl, p7, -⟩; have P7 := Lib.hid p7; clear p7)
        | (go_at_call 13; refine (P7.out.close 0 0 0 (by decide +kernel) (by decide +kernel) (by decide +kernel)).mono ?_; rintro r w8 ⟨rfl, p8, -⟩; have P8 := Lib.hid p8; clear p8))
      go_ret
      exact ⟨rfl, P8.out.st.b⟩
set_option maxRecDepth 100000 in
/-- What the walk gives, for every argument and every world. -/
theorem contract (H : Type) (enc : TypeId × Value → H) (W : World) (base : Nat) (args : Array Value) (ds gs : List (DataW H)) (before : List MemPlace)
    (hval : ∀ (j : Nat) t v, Try.f3.params[j]? = some t → args[j]? = some v → Value.okWide Try.prog W .any base t v)
    (hW : DataW.Whole enc Try.prog Try.f3.params.toList Rows.alignExpectsSpec.vars false W args.toList ds gs before) : 
    Calls Try.prog 3 args W fun e W' => ∃ v, e = .returned v ∧ Rows.alignExpectsSpec.post enc Try.prog Try.f3 false true false false W args v W' := by
  have hW' := hW
  obtain ⟨p, q, hA0, hV, rfl, hfz, hnd⟩ := hW
  have hA : DataW.TrodAll enc Try.prog W 0 (fun _ => true) true Try.f3.params.toList args.toList ds p := hA0
  rw [Try.params3] at hA hval
  obtain ⟨v0, vs0, d0, ds0, p0, q0, hargs, rfl, rfl, h0, r0⟩ := trodAll_cons hA
  obtain ⟨v1, vs1, d1, ds1, p1, q1, rfl, rfl, rfl, h1, r1⟩ := trodAll_cons r0
  obtain ⟨v2, vs2, d2, ds2, p2, q2, rfl, rfl, rfl, h2, r2⟩ := trodAll_cons r1
  obtain ⟨rfl, rfl, rfl⟩ := trodAll_nil r2
  obtain rfl : args = #[v0, v1, v2] := by cases args; simp_all
  obtain ⟨rfl, rfl⟩ := trodVars_none hV
  obtain ⟨c0, D0, E0, L0, nd0, cd0, ne0, ce0, nl0, cl0, rfl, m0, s0⟩ := open_cfg (hval 0 26 v0 rfl rfl) h0
  obtain ⟨cy, rfl, rfl, rfl, w1⟩ := open_int Try.underlying27 (hval 1 27 v1 rfl rfl) h1
  obtain ⟨off, rfl, rfl, rfl, w2⟩ := open_int Try.underlying21 (hval 2 21 v2 rfl rfl) h2
  refine (walk c0 D0 E0 L0 nd0 cd0 ne0 ce0 nl0 cl0 cy off W (u32_wf w1) (i32_wf w2) m0).mono fun e W' ⟨he, hb⟩ => ?_
  exact ⟨_, he, Shell.post_law laidOut (by kernel_rfl) rfl Try.underlying4 rfl hW' rfl hb⟩
theorem reads (os : Os) {H : Type} (enc : TypeId × Value → H) : ∃ places, DataW.whole enc Try.prog ((World.holding Try.prog os ⟨#[], #[], []⟩).forCall (fun _ _ => 0) ⟨#[], #[.agg #[.int .i64 0, .int .i64 0, .int .i64 0, .int .i64 0, .int .i64 0, .slice none 0 0, .slice none 0 0, .slice none 0 0, .int .i64 0], .int .u32 0, .int .i32 0], []⟩).memory Try.f3.params.toList Rows.alignExpectsSpec.vars false (#[Value.agg #[.int .i64 0, .int .i64 0, .int .i64 0, .int .i64 0, .int .i64 0, .slice none 0 0, .slice none 0 0, .slice none 0 0, .int .i64 0], Value.int .u32 0, Value.int .i32 0]).toList 8 = some ([.agg [.lit (.int .i64 0), .lit (.int .i64 0), .lit (.int .i64 0), .lit (.int .i64 0), .lit (.int .i64 0), .nil, .nil, .nil, .lit (.int .i64 0)], .lit (.int .u32 0), .lit (.int .i32 0)], [], places) :=
  ⟨[], by kernel_rfl⟩
set_option maxRecDepth 100000 in
theorem lifted (os : Os) (started : os.Started) (H : Type) (enc : TypeId × Value → H) (F : Stop.Interp) :
    ReturnsInHanded {} Try.checked os 3 .any ((OpenSpec.ofChange Rows.alignExpectsSpec).preRow enc Try.prog Try.f3 Rows.alignExpectsRow.domain false Rows.alignExpectsRow.laid) (((OpenSpec.ofChange Rows.alignExpectsSpec).at F).post enc Try.prog Try.f3 false true false false) := by
  obtain ⟨places, hx⟩ := reads os enc
  refine returnsInHanded_of_row (C := Try.checked) (s := OpenSpec.ofChange Rows.alignExpectsSpec) own started (by kernel_rfl) Try.func3
    (witness_row_atRef (enc := enc) (C := Try.checked) false (World.holding Try.prog os ⟨#[], #[], []⟩) #[.agg #[.int .i64 0, .int .i64 0, .int .i64 0, .int .i64 0, .int .i64 0, .slice none 0 0, .slice none 0 0, .slice none 0 0, .int .i64 0], .int .u32 0, .int .i32 0] rfl (by kernel_rfl) (by kernel_rfl) (by kernel_rfl)
      (OpenSpec.preRow_of_cond 8 hx (by kernel_rfl) (fun k hk => by cases hk) (by kernel_rfl) (laid_met os _))) ?_
  intro W base args ds gs before hval hW _ _ _ hL _ _
  exact contract H enc W base args ds gs before hval hW
theorem said : Rows.AlignExpectsSaid :=
  OpenClaim.holds_of_cond 3 Try.f3 rfl rfl rfl rfl rfl rfl rfl ⟨rfl, rfl, rfl, rfl, rfl⟩ rfl rfl rfl rfl rfl (by kernel_rfl) Try.func3 (by kernel_rfl)
    (of_decide_eq_true (by kernel_rfl)) (by unfold Func.isWrapper; first | (rw [if_pos (by decide +kernel)]; kernel_rfl) | (rw [if_neg (by decide +kernel)]; exact ⟨rfl, rfl⟩))
    (fun os started H enc _ F => by rw [OpenClaim.pre_eq_preRow]; exact lifted os started H enc F)
end Go.Proofs.Ytpdcdnklmoaokaa.AlignW.AlignExpects
