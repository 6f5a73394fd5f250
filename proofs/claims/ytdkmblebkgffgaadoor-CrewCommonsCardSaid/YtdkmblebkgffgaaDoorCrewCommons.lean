/- tocsinlaw07.CrewCommons answers true at every input: the common crew is that of the hosts of more than half of the crews, and a crew that stands in more than half of the places is within it. Condition: the library's table deBruijn32tab is as its initialiser lays it (tied by the card). -/
import Derived.Test.YtdkmblebkgffgaaDoorCrewLay
namespace Go.Proofs.YtdkmblebkgffgaaDoor.CrewW.CrewCommons
open Go.ChangeShapes Go.WideShapes Go.ChangeAt Go.RowKit Shell
/-- In how many places the crew stands. -/
def stands (l : List Nat) (c : Nat) : Nat := l.countP fun x => decide (x % 64 = c % 64)
theorem stands_take {l : List Nat} {k x : Nat} (h : l[k]? = some x) (c : Nat) : stands (l.take (k + 1)) c = stands (l.take k) c + (if x % 64 = c % 64 then 1 else 0) := same_take h c
theorem stands_le (l : List Nat) (c k : Nat) : stands (l.take k) c ≤ k := Nat.le_trans List.countP_le_length (by rw [List.length_take]; omega)
set_option maxHeartbeats 8000000 in
theorem walk (A : Option Addr) (l : List Nat) (d : Nat) (c : Nat) (w : World) (hx : CL w .u32 A (up l)) (hl : l.length ≤ 281474976710656) (hc : c < 4294967296) (hT : Tz w) :
    Calls Tryd.prog 5 #[.slice A l.length d, .int .u32 (c : Int)] w fun e w' => e = .returned (.bool true) ∧ Below w.heap.size w w' := by
  have HT := Lib.hid hT
  have HX := Lib.hid hx
  have HL := Lib.hid hl
  obtain ⟨n, hn⟩ : ∃ n, n = l.length := ⟨_, rfl⟩
  rw [← hn] at HL ⊢
  have HN := Lib.hid hn
  have HO1 := Lib.hid (fun W (k : CL W .u32 A (up l)) => common_any A n d l W k HN.out (by have := HL.out; omega))
  have HO2 := Lib.hid (fun W (k : CL W .u32 A (up l)) => refCommon_any A n d l W k HN.out HL.out)
  have HW := Lib.hid (fun W => within_any c (com l) W hc (by have := com_lt l; omega))
  have HMO := Lib.hid (show l.length < 2 * stands l c → wi c (com l) = true from com_most l c)
  rw [← hn] at HMO
  clear hT hx hl hn hc
  generalize com l = g at *
  generalize wi c g = q at *
  go_enter Tryd.func5, Tryd.ntmps5
  go_wp2_with fail
  refine (fixed_any w HT.out).mono ?_
  rintro e w1 ⟨rfl, b1⟩
  have B1 := Lib.hid b1
  have X1 := Lib.hid (HX.out.below b1)
  clear b1
  go_wp2_with fail
  refine (HO1.out _ X1.out).mono ?_
  rintro e w9 ⟨rfl, hw⟩
  obtain rfl := hw.symm
  go_wp2
  go_loopw [6, 15] (fun cv iv wr => ∃ (k : Nat), k ≤ n ∧ iv = .int .i64 k ∧ cv = .int .i64 (stands (l.take k) c : Nat) ∧ wr = w1) (fun _ iv _ => n - (intOf iv).toNat)
  case atStart => exact ⟨0, Nat.zero_le _, rfl, rfl, rfl⟩
  case round =>
    obtain ⟨k, hk, rfl, rfl, rfl⟩ := hrel
    have hll := HL.out
    by_cases hlt : k < n
    · obtain ⟨x, hx⟩ : ∃ x, l[k]? = some x := ⟨_, List.getElem?_eq_getElem (by rw [← HN.out]; exact hlt)⟩
      obtain ⟨ad, rfl, hcell, hwf⟩ := X1.out k x (up_get hx)
      have HS := Lib.hid (stands_take hx c)
      have hb := stands_le l c k
      clear hx hwf
      generalize stands (l.take k) c = a at *
      by_cases he : x % 64 = c % 64
      · have HS2 := Lib.hid (HS.out.trans (by rw [if_pos he]))
        have kt : ((x : Int) % 64 == (c : Int) % 64) = true := by rw [beq_iff_eq]; omega
        clear HS he
        go_wp2
        go_roundw
        case rel => exact ⟨k + 1, by omega, by go_num, by rw [HS2.out]; go_num, trivial⟩
        case measure => simp [intOf]; omega
      · have HS2 := Lib.hid (HS.out.trans (by rw [if_neg he, Nat.add_zero]))
        have kt : ((x : Int) % 64 == (c : Int) % 64) = false := by rw [beq_eq_false_iff_ne]; omega
        clear HS he
        go_wp2
        go_roundw
        case rel => exact ⟨k + 1, by omega, by go_num, by rw [HS2.out], trivial⟩
        case measure => simp [intOf]; omega
    · obtain rfl : k = n := by omega
      have e := HN.out
      rw [List.take_of_length_le (by omega)]
      clear e
      generalize stands l c = a at *
      by_cases ha : k < 2 * a
      · have hq := HMO.out ha
        rw [hq] at HW
        have kt : ¬ (a : Int) ≤ (k : Int) / 2 := by omega
        clear hq ha
        go_wp2_with fail
        refine (HO2.out _ X1.out).mono ?_
        rintro e w2 ⟨rfl, b2⟩
        have B2 := Lib.hid (B1.out.trans (b2.mono B1.out.size))
        clear b2
        go_wp2_with fail
        refine (HW.out _).mono ?_
        rintro e w9 ⟨rfl, hw⟩
        obtain rfl := hw.symm
        go_wp2
        go_ret
        exact ⟨rfl, B2.out⟩
      · have kt : (a : Int) ≤ (k : Int) / 2 := by omega
        clear ha
        go_wp2_with fail
        refine (HO2.out _ X1.out).mono ?_
        rintro e w2 ⟨rfl, b2⟩
        have B2 := Lib.hid (B1.out.trans (b2.mono B1.out.size))
        clear b2
        go_wp2
        go_ret
        exact ⟨rfl, B2.out⟩
theorem walkI (A : Option Addr) (xs : List Int) (d : Nat) (c : Int) (w : World) (hx : CL w .u32 A xs) (hl : xs.length ≤ 281474976710656) (wc : (Lit.int .u32 c).wf = true) (hT : Tz w) :
    Calls Tryd.prog 5 #[.slice A xs.length d, .int .u32 c] w fun e w' => e = .returned (.bool true) ∧ Below w.heap.size w w' := by
  obtain ⟨c, rfl, hc⟩ := u32_nat wc
  obtain ⟨l, rfl, hn⟩ := up_of hx.wf
  rw [← hn]
  exact walk A l d c w hx (by omega) hc hT
set_option maxRecDepth 100000 in
/-- What the walk gives, for every argument and every world. -/
theorem contract (H : Type) (enc : TypeId × Value → H) (W : World) (base : Nat) (args : Array Value) (ds gs : List (DataW H)) (before : List MemPlace)
    (hval : ∀ (j : Nat) t v, Tryd.f5.params[j]? = some t → args[j]? = some v → Value.okWide Tryd.prog W .any base t v)
    (hW : DataW.Whole enc Tryd.prog Tryd.f5.params.toList Rows.crewCommonsSpec.vars false W args.toList ds gs before) (hL : laidMetH Tryd.prog Rows.crewCommonsRow.laid W) (hz : (DataW.weightsEach Tryd.prog (Tryd.f5.params.toList ++ (OpenSpec.ofChange Rows.crewCommonsSpec).bare.plain.varTypes Tryd.prog) (ds ++ gs)).all (· ≤ reachBytes) = true) : 
    Calls Tryd.prog 5 args W fun e W' => ∃ v, e = .returned v ∧ Rows.crewCommonsSpec.post enc Tryd.prog Tryd.f5 false true false false W args v W' := by
  have hW' := hW
  obtain ⟨p, q, hA0, hV, rfl, hfz, hnd⟩ := hW
  have hA : DataW.TrodAll enc Tryd.prog W 0 (fun _ => true) true Tryd.f5.params.toList args.toList ds p := hA0
  rw [Tryd.params5] at hA hval
  obtain ⟨v0, vs0, d0, ds0, p0, q0, hargs, rfl, rfl, h0, r0⟩ := trodAll_cons hA
  obtain ⟨v1, vs1, d1, ds1, p1, q1, rfl, rfl, rfl, h1, r1⟩ := trodAll_cons r0
  obtain ⟨rfl, rfl, rfl⟩ := trodAll_nil r1
  obtain rfl : args = #[v0, v1] := by cases args; simp_all
  obtain ⟨rfl, rfl⟩ := trodVars_none hV
  obtain ⟨A0, l, c0, rfl, f0, l0, lc0, sz0, nl0⟩ := open_nums Tryd.underlying31 Tryd.underlying22 (by kernel_rfl) (hval 0 31 v0 rfl rfl) h0
  have z0 : l.length * 4 ≤ 140737488351232 := by
    rcases sz0 with h | ⟨es, sp, hd, hl⟩
    · rw [h]; decide
    · have := sized_slice hz (j := 0) (t := 31) (e := 22) (elems := es) (spare := sp) (by rw [Tryd.params5]; rfl) (by rw [hd]; rfl) Tryd.underlying31
      rw [show Tryd.prog.bytesOf 22 = 4 by kernel_rfl, show reachBytes = 140737488351232 from rfl] at this
      omega
  obtain ⟨c, rfl, rfl, rfl, w1⟩ := open_int Tryd.underlying22 (hval 1 22 v1 rfl rfl) h1
  refine (walkI A0 l c0 c W f0 (by omega) w1 (tz_of hL)).mono fun e W' ⟨he, hb⟩ => ?_
  exact ⟨_, he, Shell.post_law laidOut (by kernel_rfl) rfl Tryd.underlying4 rfl hW' rfl hb⟩
theorem reads (os : Os) {H : Type} (enc : TypeId × Value → H) : ∃ places, DataW.whole enc Tryd.prog ((laidWorld os).forCall (fun _ _ => 0) ⟨#[], #[.slice none 0 0, .int .u32 0], []⟩).memory Tryd.f5.params.toList Rows.crewCommonsSpec.vars false (#[Value.slice none 0 0, Value.int .u32 0]).toList 8 = some ([.nil, .lit (.int .u32 0)], [], places) :=
  ⟨[], by kernel_rfl⟩
set_option maxRecDepth 100000 in
theorem lifted (os : Os) (started : os.Started) (H : Type) (enc : TypeId × Value → H) (F : Stop.Interp) :
    ReturnsInHanded {} Tryd.checked os 5 .any ((OpenSpec.ofChange Rows.crewCommonsSpec).preRow enc Tryd.prog Tryd.f5 Rows.crewCommonsRow.domain false Rows.crewCommonsRow.laid) (((OpenSpec.ofChange Rows.crewCommonsSpec).at F).post enc Tryd.prog Tryd.f5 false true false false) := by
  obtain ⟨places, hx⟩ := reads os enc
  refine returnsInHanded_of_row (C := Tryd.checked) (s := OpenSpec.ofChange Rows.crewCommonsSpec) own started (by kernel_rfl) Tryd.func5
    (witness_row_atRef (enc := enc) (C := Tryd.checked) false (laidWorld os) #[.slice none 0 0, .int .u32 0] rfl (by kernel_rfl) (by kernel_rfl) (by kernel_rfl)
      (OpenSpec.preRow_of_cond 8 hx (by kernel_rfl) (fun k hk => by cases hk) (by kernel_rfl) (laid_met os _))) ?_
  intro W base args ds gs before hval hW _ _ hz hL _ _
  exact contract H enc W base args ds gs before hval hW hL hz
theorem said : Rows.CrewCommonsSaid :=
  OpenClaim.holds_of_cond 5 Tryd.f5 rfl rfl rfl rfl rfl rfl rfl ⟨rfl, rfl, rfl, rfl, rfl⟩ rfl rfl rfl rfl rfl (by kernel_rfl) Tryd.func5 (by kernel_rfl)
    (of_decide_eq_true (by kernel_rfl)) (by unfold Func.isWrapper; first | (rw [if_pos (by decide +kernel)]; kernel_rfl) | (rw [if_neg (by decide +kernel)]; exact ⟨rfl, rfl⟩))
    (fun os started H enc _ F => by rw [OpenClaim.pre_eq_preRow]; exact lifted os started H enc F)
theorem plain (f : FuncId) (fn : Func) (hf : Tryd.pinned.checked.prog.funcNamed "tocsin/tocsinlaw07.CrewCommons" = some f) (hfn : Tryd.pinned.checked.prog.funcs[f]? = some fn) :
    false = Tryd.pinned.checked.prog.looks [] ∧ ∀ (j : Nat) t, fn.params[j]? = some t → Tryd.pinned.checked.prog.wantsStandIn t = false := by
  obtain rfl : f = 5 := Option.some.inj ((show Tryd.prog.funcNamed "tocsin/tocsinlaw07.CrewCommons" = some 5 by kernel_rfl).symm.trans hf) |>.symm
  obtain rfl : fn = Tryd.f5 := (Option.some.inj (Tryd.func5.symm.trans hfn)).symm
  refine ⟨by kernel_rfl, fun j t ht => ?_⟩
  rw [Tryd.params5] at ht
  have hall : ∀ t ∈ Tryd.f5.params.toList, Tryd.prog.wantsStandIn t = false := by
    rw [Tryd.params5]
    have h : ((#[31, 22] : Array TypeId).toList.all fun t => !Tryd.prog.wantsStandIn t) = true := by kernel_rfl
    intro t ht
    simpa using (List.all_eq_true.1 h) t ht
  exact hall t (by rw [Tryd.params5]; exact Array.mem_toList_iff.2 (Array.mem_of_getElem? ht))
theorem card : Rows.CrewCommonsCardSaid :=
  Claim7.holds_tied_plain_at .later [] _ _ _ _ said (fun _ h => by cases h) (by kernel_rfl) (fun _ h => by cases h) crewCommons_row_tie rfl ⟨rfl, rfl⟩ (by kernel_rfl) rfl plain (by kernel_rfl)
end Go.Proofs.YtdkmblebkgffgaaDoor.CrewW.CrewCommons
