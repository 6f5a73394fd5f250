/- The law CompShifts: frames that all come later by the same have a point that is later by just that; a nil Comp: for all times and gaps. No condition. -/
import Derived.Test.YtpjaijibkjmgiaaCompAll
namespace Go.Proofs.Ytpjaijibkjmgiaa.CompW.CompShifts
open Go.ChangeShapes Go.WideShapes Go.ChangeAt Go.RowKit CompW Shell
open FrameW (CV rightC)
open MeanW (halfAt tolK srt)
theorem ts_SA (b k : Int) (xs : List Int) (m : Nat) : ts (SA (b + k) xs m) = (ts (SA b xs m)).map fun x => x + k := by
  unfold ts SA
  simp only [List.map_cons, List.map_map]
  congr 1
  apply List.map_congr_left
  intro i _
  show b + k + xs.getD i 0 = b + xs.getD i 0 + k
  omega
theorem hosts_SA (b k : Int) (xs : List Int) (m : Nat) : hosts (SA (b + k) xs m) = hosts (SA b xs m) := by
  unfold hosts SA
  simp only [List.map_cons, List.map_map]
  rfl
theorem ys_SA (b k : Int) (xs : List Int) (m : Nat) : ys (SA (b + k) xs m) = ys (SA b xs m) := by
  unfold ys SA
  simp only [List.map_cons, List.map_map]
  rfl
theorem pt_SA (b k : Int) (xs : List Int) (m : Nat) : pt (SA (b + k) xs m) = pt (SA b xs m) + k := by
  have hp : 0 < (ts (SA b xs m)).length := by unfold ts; rw [List.length_map, SA_len]; omega
  unfold pt
  rw [ts_SA, MeanW.shift_tolK, MeanW.shift_half _ _ _ (MeanW.tolK_lt hp)]
theorem sS_SA (b k : Int) (xs : List Int) (m : Nat) : sS (SA (b + k) xs m) = sS (SA b xs m) := by unfold sS; rw [hosts_SA]
theorem cy_SA (b k : Int) (xs : List Int) (m : Nat) : cy (SA (b + k) xs m) = cy (SA b xs m) := by unfold cy; rw [ys_SA]
set_option maxHeartbeats 4000000 in
set_option maxRecDepth 100000 in
theorem walk (b k : Int) (A : Option Addr) (xs : List Int) (cp : Nat) (hb : -2147483648 ≤ b ∧ b ≤ 2147483647) (hk : -2147483648 ≤ k ∧ k ≤ 2147483647) (w : World) (hA : CL w .u8 A xs) (hc : xs.length ≤ cp) :
    Calls Try.prog 6 #[.int .i32 b, .int .i32 k, .slice A xs.length cp] w fun e w' => e = .returned (.bool true) ∧ Below w.heap.size w w' := by
  obtain ⟨n, hn⟩ : ∃ n, xs.length = n := ⟨_, rfl⟩
  obtain ⟨m, hm⟩ : ∃ m, min n 5 = m := ⟨_, rfl⟩
  rw [hn] at hc ⊢
  have R1 := fun W (h : Below w.heap.size w W) => all_any b A xs n cp m hn hm (by omega) W (hA.below h) hc
  have R2 := fun W (h : Below w.heap.size w W) => all_any (b + k) A xs n cp m hn hm (by omega) W (hA.below h) hc
  rw [pt_SA, sS_SA, cy_SA] at R2
  obtain ⟨pz, hp⟩ : ∃ pz, pt (SA b xs m) = pz := ⟨_, rfl⟩
  rw [hp] at R1 R2
  generalize sS (SA b xs m) = sz at *
  generalize cy (SA b xs m) = cz at *
  have R1 := Lib.hid R1
  have R2 := Lib.hid R2
  have HP := Lib.hid hp
  have HB := Lib.hid hb
  have HK := Lib.hid hk
  have e1 : IntKind.i64.wrap b = b := by rw [IntKind.wrap_i64]; omega
  have e2 : IntKind.i64.wrap k = k := by rw [IntKind.wrap_i64]; omega
  have e3 : IntKind.i64.wrap (b + k) = b + k := by rw [IntKind.wrap_i64]; omega
  clear hA hc hn hm hp
  go_enter Try.func6, Try.ntmps6
  go_wp2_with fail
  refine (fixed_any _).mono ?_
  rintro e w1 ⟨rfl, b1⟩
  have S1 := Lib.hid ((Stay.start w).next b1)
  clear b1
  go_wp2_with fail
  refine (R1.out _ S1.out.b).mono ?_
  rintro e w2 ⟨v2, rfl, -, b2, ok⟩
  have S2 := Lib.hid ((S1.out.next b2).alloc (rbx pz sz cz))
  have pb := (pt_bounds ok (by unfold SA; simp)).2.2
  rw [HP.out] at pb
  have e4 : IntKind.i64.wrap (pz + k) = pz + k := by rw [IntKind.wrap_i64]; omega
  clear b2 S1 ok
  go_wp2_with fail
  generalize w2.alloc (.cells #[.int .i64 pz, .int .u32 (sz : Int), .int .i64 cz] 39 (0, 0)) = w3 at *
  generalize w2.heap.size = q2 at *
  refine (R2.out _ S2.out.b).mono ?_
  rintro e w4 ⟨v4, rfl, -, b4, -⟩
  have S4 := Lib.hid ((S2.out.next b4).alloc (rbx (pz + k) sz cz))
  clear b4 S2
  go_wp2_with fail
  generalize w4.alloc (.cells #[.int .i64 (pz + k), .int .u32 (sz : Int), .int .i64 cz] 39 (0, 0)) = w5 at *
  generalize w4.heap.size = q4 at *
  refine (from_any 0 _).mono ?_
  rintro e w6 ⟨rfl, b6⟩
  have S6 := Lib.hid (S4.out.next b6)
  clear S4 b6
  go_wp2_with fail
  refine (add_nil 0 1 0 3 0 0 _).mono ?_
  rintro e w7 ⟨rfl, b7⟩
  have S7 := Lib.hid (S6.out.next b7)
  clear S6 b7
  go_wp2_with fail
  refine (close_nil 0 _).mono ?_
  rintro e w8 ⟨rfl, b8⟩
  have S8 := Lib.hid ((S7.out.next b8).alloc (rbx 0 0 0))
  clear S7 b8
  go_upto_region 8 with (fail)
  generalize w8.alloc (rbx 0 0 0) = w9 at *
  generalize w8.heap.size = q8 at *
  obtain ⟨c0, c1, c2⟩ := cells3 (S8.out.at 1 rfl)
  obtain ⟨d0, d1, d2⟩ := cells3 (S8.out.at 2 rfl)
  go_wp2_with (go_at_call 16; refine (open_nil _).mono ?_; rintro e w' ⟨rfl, hw⟩; obtain rfl := hw)
  go_ret
  exact ⟨rfl, S8.out.b⟩
set_option maxRecDepth 100000 in
/-- What the walk gives, for every argument and every world. -/
theorem contract (H : Type) (enc : TypeId × Value → H) (W : World) (base : Nat) (args : Array Value) (ds gs : List (DataW H)) (before : List MemPlace)
    (hval : ∀ (j : Nat) t v, Try.f6.params[j]? = some t → args[j]? = some v → Value.okWide Try.prog W .any base t v)
    (hW : DataW.Whole enc Try.prog Try.f6.params.toList Rows.compShiftsSpec.vars false W args.toList ds gs before) : 
    Calls Try.prog 6 args W fun e W' => ∃ v, e = .returned v ∧ Rows.compShiftsSpec.post enc Try.prog Try.f6 false true false false W args v W' := by
  have hW' := hW
  obtain ⟨p, q, hA0, hV, rfl, hfz, hnd⟩ := hW
  have hA : DataW.TrodAll enc Try.prog W 0 (fun _ => true) true Try.f6.params.toList args.toList ds p := hA0
  rw [Try.params6] at hA hval
  obtain ⟨v0, vs0, d0, ds0, p0, q0, hargs, rfl, rfl, h0, r0⟩ := trodAll_cons hA
  obtain ⟨v1, vs1, d1, ds1, p1, q1, rfl, rfl, rfl, h1, r1⟩ := trodAll_cons r0
  obtain ⟨v2, vs2, d2, ds2, p2, q2, rfl, rfl, rfl, h2, r2⟩ := trodAll_cons r1
  obtain ⟨rfl, rfl, rfl⟩ := trodAll_nil r2
  obtain rfl : args = #[v0, v1, v2] := by cases args; simp_all
  obtain ⟨rfl, rfl⟩ := trodVars_none hV
  obtain ⟨b, rfl, rfl, rfl, w0⟩ := open_int Try.underlying21 (hval 0 21 v0 rfl rfl) h0
  obtain ⟨k, rfl, rfl, rfl, w1⟩ := open_int Try.underlying21 (hval 1 21 v1 rfl rfl) h1
  obtain ⟨A2, s, c2, rfl, f2, l2, lc2, sz2, nl2⟩ := Shell.open_nums (q := .u8) Try.underlying48 Try.underlying5 (by kernel_rfl) (hval 2 48 v2 rfl rfl) h2
  refine (walk b k A2 s c2 (i32_wf w0) (i32_wf w1) W f2 lc2).mono fun e W' ⟨he, hb⟩ => ?_
  exact ⟨_, he, Shell.post_law laidOut (by kernel_rfl) rfl Try.underlying4 rfl hW' rfl hb⟩
theorem reads (os : Os) {H : Type} (enc : TypeId × Value → H) : ∃ places, DataW.whole enc Try.prog ((World.holding Try.prog os ⟨#[], #[], []⟩).forCall (fun _ _ => 0) ⟨#[], #[.int .i32 0, .int .i32 0, .slice none 0 0], []⟩).memory Try.f6.params.toList Rows.compShiftsSpec.vars false (#[Value.int .i32 0, Value.int .i32 0, Value.slice none 0 0]).toList 8 = some ([.lit (.int .i32 0), .lit (.int .i32 0), .nil], [], places) :=
  ⟨[], by kernel_rfl⟩
set_option maxRecDepth 100000 in
theorem lifted (os : Os) (started : os.Started) (H : Type) (enc : TypeId × Value → H) (F : Stop.Interp) :
    ReturnsInHanded {} Try.checked os 6 .any ((OpenSpec.ofChange Rows.compShiftsSpec).preRow enc Try.prog Try.f6 Rows.compShiftsRow.domain false Rows.compShiftsRow.laid) (((OpenSpec.ofChange Rows.compShiftsSpec).at F).post enc Try.prog Try.f6 false true false false) := by
  obtain ⟨places, hx⟩ := reads os enc
  refine returnsInHanded_of_row (C := Try.checked) (s := OpenSpec.ofChange Rows.compShiftsSpec) own started (by kernel_rfl) Try.func6
    (witness_row_atRef (enc := enc) (C := Try.checked) false (World.holding Try.prog os ⟨#[], #[], []⟩) #[.int .i32 0, .int .i32 0, .slice none 0 0] rfl (by kernel_rfl) (by kernel_rfl) (by kernel_rfl)
      (OpenSpec.preRow_of_cond 8 hx (by kernel_rfl) (fun k hk => by cases hk) (by kernel_rfl) (laid_met os _))) ?_
  intro W base args ds gs before hval hW _ _ _ hL _ _
  exact contract H enc W base args ds gs before hval hW
theorem said : Rows.CompShiftsSaid :=
  OpenClaim.holds_of_cond 6 Try.f6 rfl rfl rfl rfl rfl rfl rfl ⟨rfl, rfl, rfl, rfl, rfl⟩ rfl rfl rfl rfl rfl (by kernel_rfl) Try.func6 (by kernel_rfl)
    (of_decide_eq_true (by kernel_rfl)) (by unfold Func.isWrapper; first | (rw [if_pos (by decide +kernel)]; kernel_rfl) | (rw [if_neg (by decide +kernel)]; exact ⟨rfl, rfl⟩))
    (fun os started H enc _ F => by rw [OpenClaim.pre_eq_preRow]; exact lifted os started H enc F)
end Go.Proofs.Ytpjaijibkjmgiaa.CompW.CompShifts
