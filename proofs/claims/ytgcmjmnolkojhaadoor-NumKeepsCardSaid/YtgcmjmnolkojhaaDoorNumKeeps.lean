/- tocsinlaw01.NumKeeps: for every list of float64 (nil too) the call returns true and leaves its argument: num.Sort, num.Sum and num.Least leave the row and the cell behind it, and what is told is a new row. No condition but the row's own. -/
import Derived.Test.YtgcmjmnolkojhaaDoorNumKeepsA
namespace Go.Proofs.YtgcmjmnolkojhaaDoor.NumC.Keeps
open Go.ChangeShapes Go.WideShapes Go.ChangeAt Go.RowKit NumP NumW
set_option maxHeartbeats 1000000 in
set_option maxRecDepth 100000 in
theorem walk (A : Option Addr) (xs : List Nat) (c : Nat) (w : World) (hf : FL w A xs) (hn : A = none → c = 0) (hl : xs.length * 8 ≤ 140737488351232) (hT : Tz w) (hE : Es w) :
    Calls Tryd.prog 9 #[.slice A xs.length c] w fun e w' => e = .returned (.bool true) ∧ Below w.heap.size w w' := by
  have hl2 : (xs.length : Int) ≤ 17592186043904 := by omega
  obtain ⟨i0, hi, hz0, hz1, hz2⟩ := info_parts (show (Tryd.prog.info? 22).map (fun i => (i.zero, i.size, i.bytes)) = some (some (.float .f64 0), 1, 8) by kernel_rfl)
  have hmk : ∀ w : World, (Instr.makeSlice 30 (.int .i64 0) (.int .i64 ((xs.length : Int) + 2))).run Tryd.prog w = .ok (.slice (some ⟨w.heap.size, 0, none⟩) 0 (xs.length + 2)) (w.alloc (.cells (madeCells #[.float .f64 0] (xs.length + 2)) 22)) := by
    intro w
    have := run_make (P := Tryd.prog) w 30 22 i0 (.float .f64 0) (by kernel_rfl) hi hz0 .i64 .i64 0 ((xs.length : Int) + 2) (by omega) (by omega) (by rw [hz2]; omega) (by omega)
    rw [hz1, show ((xs.length : Int) + 2).toNat = xs.length + 2 by omega, Nat.mul_one] at this
    exact this
  have HT := Lib.hid hT
  have HE := Lib.hid hE
  have HF := Lib.hid hf
  have HL := Lib.hid hl
  have HI := Lib.hid hi
  have HZ0 := Lib.hid hz0
  have HZ1 := Lib.hid hz1
  have HZ2 := Lib.hid hz2
  have HN0 := Lib.hid hn
  clear hT hE hf hl hi hn
  go_enter Tryd.func9, Tryd.ntmps9
  go_wp2_with fail
  refine (fixed_any _ HT.out HE.out).mono ?_
  rintro e w1 ⟨rfl, hb1⟩
  have HB1 := Lib.hid hb1
  clear hb1
  have HM := Lib.hid (size_madeCells #[.float .f64 0] (xs.length + 2) : _)
  generalize madeCells #[.float .f64 0] (xs.length + 2) = C0 at *
  go_wp2_with (at_builtin; refine wpList_append_src rfl _ _ 30 rfl w1.heap.size 22 i0 Tryd.underlying30 HI.out HZ1.out w1.heap.size (xs.length + 2) rfl (World.ownsRow_made w1 C0 (xs.length + 2) (Nat.le_refl _) ?c1 ?c2) A xs c rfl ?c3 HN0.out ?c5 ?_)
  case c1 => unfold maxLen; omega
  case c2 => rw [Nat.mul_one]; exact HM.out
  case c3 => exact (HF.out.below HB1.out).alloc _
  case c5 => omega
  intro w2 hown hgrow
  obtain ⟨C, hC, hs, hc⟩ := own_words hown
  have HB2 : Hid (Below w.heap.size w w2) := Lib.hid ((HB1.out.alloc HB1.out.size _).grown hgrow (by rw [World.size_alloc]; have := HB1.out.size; omega) (fun k hk => by cases hk; exact HB1.out.size))
  have HG : Hid (w.heap.size ≤ w1.heap.size) := Lib.hid HB1.out.size
  clear hown hgrow HB1
  generalize w1.heap.size = g at *
  have hcell : w2.cell? ⟨g, xs.length, none⟩ = C[xs.length]? := hC.cell _
  obtain ⟨c0, hc0⟩ : ∃ c0, C[xs.length]? = some c0 := ⟨_, Array.getElem?_eq_getElem (by omega)⟩
  rw [hc0] at hcell
  have hfree := hC.free xs.length
  have HB3 : Hid (Blk (w2.setCell ⟨g, xs.length, none⟩ (.float .f64 4619567317775286272)) g (C.setIfInBounds xs.length (.float .f64 4619567317775286272))) := Lib.hid (hC.set _ _)
  have HR : Hid (Room xs (C.setIfInBounds xs.length (.float .f64 4619567317775286272))) := Lib.hid (room_set hs hc)
  have HW3 : Hid (Below w.heap.size w (w2.setCell ⟨g, xs.length, none⟩ (.float .f64 4619567317775286272))) := Lib.hid (HB2.out.setCell HG.out _)
  clear hC hs hc hc0 HB2
  generalize C.setIfInBounds xs.length (.float .f64 4619567317775286272) = C1 at *
  go_wp2_with fail
  clear hcell hfree hmk hz0 HM C0 c0
  generalize w2.setCell ⟨g, xs.length, none⟩ (.float .f64 4619567317775286272) = w3 at *
  have hgs : g < w3.heap.size := HB3.out.lt
  refine (sort_any _ _ _ _ (HR.out.fl HB3.out (FL.lt HF.out)) (by have := HL.out; omega)).mono ?_
  rintro e w4 ⟨rfl, hb4, ys, hys, hS⟩
  have hB4 : Blk w4 g C1 := HB3.out.below hb4 hgs
  have hW4 : Below w.heap.size w w4 := HW3.out.trans (hb4.mono HW3.out.size)
  have hys2 : ys.length = xs.length := by have := hys.1.length_eq; rw [List.length_map] at this; exact this
  have HS4 : Hid (Blk w4 w3.heap.size (ys.map (Value.float .f64)).toArray) := Lib.hid hS
  have hsz4 : (ys.map (Value.float .f64)).toArray.size = xs.length := by simp [hys2]
  have hss : w.heap.size ≤ w3.heap.size := HW3.out.size
  clear hys hS hys2 hb4 HB3 HW3
  generalize (ys.map (Value.float .f64)).toArray = S0 at *
  generalize w3.heap.size = s at *
  clear w3
  have HB4 := Lib.hid hB4
  have HW4 := Lib.hid hW4
  clear hB4 hW4
  go_wp2_with fail
  refine (sum_any _ _ _ _ (HR.out.fl HB4.out (FL.lt HF.out)) (by have := HL.out; unfold maxLen; omega)).mono ?_
  rintro e w5 ⟨rfl, n, rfl⟩
  go_wp2_with fail
  refine (least_any _ _ _ _ (HR.out.fl (w := w4.drewN n) HB4.out (FL.lt HF.out)) (by have := HL.out; unfold maxLen; omega)).mono ?_
  rintro e w5 ⟨rfl, rfl⟩
  have HB5 : Hid (Blk (w4.drewN n) g C1) := Lib.hid HB4.out
  have HS5 : Hid (Blk (w4.drewN n) s S0) := Lib.hid HS4.out
  have HW5 : Hid (Below w.heap.size w (w4.drewN n)) := Lib.hid (below_drewN HW4.out n)
  generalize w4.drewN n = w5 at *
  clear HB4 HS4 HW4
  have HGS := Lib.hid hgs
  have HZ4 := Lib.hid hsz4
  have HSS := Lib.hid hss
  clear hgs hsz4 hss
  go_wp2_with fail
  go_loopw [33] (fun i wr => ∃ (k : Nat) (S : Array Value), k ≤ xs.length ∧ i = .int .i64 k ∧ Blk wr s S ∧ S.size = xs.length ∧ Blk wr g C1 ∧ Below w.heap.size w wr) (fun i _ => xs.length - (intOf i).toNat)
  case atStart => exact ⟨0, S0, Nat.zero_le _, rfl, HS5.out, HZ4.out, HB5.out, HW5.out⟩
  case round =>
    clear HB5 HS5 HW5
    obtain ⟨k, S, hk, rfl, hS, hsz, hB, hW⟩ := hrel
    by_cases hlt : k < xs.length
    · obtain ⟨c0, hc0⟩ : ∃ c0, S[k]? = some c0 := ⟨_, Array.getElem?_eq_getElem (by omega)⟩
      have hcell : wr.cell? ⟨s, k, none⟩ = S[k]? := hS.cell _
      rw [hc0] at hcell
      have hfree := hS.free k
      have HS := Lib.hid hS
      have HZ := Lib.hid hsz
      have HB := Lib.hid hB
      have HW := Lib.hid hW
      clear hS hsz hB hW hc0
      go_wp2_with fail
      go_roundw
      case rel => exact ⟨k + 1, _, by omega, by go_num, HS.out.set _ _, by rw [Array.size_setIfInBounds]; exact HZ.out, HB.out.set_other _ (by have := HGS.out; show g ≠ s; omega) _, HW.out.setCell HSS.out _⟩
      case measure => simp [intOf]; omega
    · obtain rfl : k = xs.length := by omega
      have HS := Lib.hid hS
      have HZ := Lib.hid hsz
      have HB := Lib.hid hB
      have HW := Lib.hid hW
      clear hS hsz hB hW hk hlt
      go_wp2_with fail
      go_loopw [5, 40] (fun v i wr => ∃ (k : Nat) (vs : List Value), k ≤ 4 ∧ i = .int .i64 k ∧ wr.ownsRow (g + 1) 22 1 v (xs.length + k) vs ∧ Blk wr g C1 ∧ Below w.heap.size w wr) (fun _ i _ => 4 - (intOf i).toNat)
      case atStart => exact ⟨0, _, by omega, rfl, blk_own HS.out (by have := HGS.out; omega) HZ.out (by have := HL.out; unfold maxLen; omega), HB.out, HW.out⟩
      case round =>
        clear HB HS HW HZ S
        obtain ⟨k, vs, hk, rfl, hO, hB, hW⟩ := hrel
        by_cases hlt : k < 4
        · have HO := Lib.hid hO
          have HB := Lib.hid hB
          have HW := Lib.hid hW
          clear hO hB hW
          go_wp2_with (at_builtin; refine wpList_append_own _ rfl _ _ 30 rfl (g + 1) 22 i0 (.float .f64 0) 1 8 Tryd.underlying30 HI.out HZ0.out HZ1.out HZ2.out rfl (by decide) _ _ _ rfl (HO.out.alloc _) ⟨wr.heap.size, 0, none⟩ 1 1 [.float .f64 4607182418800017408] rfl rfl ?c1 ?c2 ?c3 ?c4 ?c5 ?_)
          case c1 => exact (cell_one_new _ _ _)
          case c2 => intro u hu; simp at hu; subst hu; rfl
          case c3 => have := HL.out; unfold maxLen; omega
          case c4 => have := HL.out; omega
          case c5 => rw [World.size_alloc]; have := HB.out.lt; omega
          intro v' w6 hown2 hgrow _
          have HN : Hid (w6.ownsRow (g + 1) 22 1 v' (xs.length + (k + 1)) (vs ++ [.float .f64 4607182418800017408])) := Lib.hid hown2
          have HW6 : Hid (Below w.heap.size w w6) := Lib.hid ((HW.out.alloc HW.out.size _).grown hgrow (by rw [World.size_alloc]; have := HW.out.size; omega) (fun p hp => by have := (HO.out.lt p hp).1; have := HG.out; omega))
          have HB6 : Hid (Blk w6 g C1) := Lib.hid ((HB.out.alloc _).grown hgrow (fun p hp => (HO.out.lt p hp).1))
          clear hown2 hgrow
          go_wp2_with fail
          exact ⟨⟨k + 1, _, by omega, by go_num, HN.out, HB6.out, HW6.out⟩, by simp [intOf]; omega⟩
        · obtain rfl : k = 4 := by omega
          have HB := Lib.hid hB
          have HW := Lib.hid hW
          clear hO hB hW hk hlt
          go_wp2_with fail
          go_loopw [48] (fun i wr => ∃ (k : Nat), k ≤ xs.length ∧ i = .int .i64 k ∧ Blk wr g C1 ∧ Below w.heap.size w wr) (fun i _ => xs.length - (intOf i).toNat)
          case atStart => exact ⟨0, Nat.zero_le _, rfl, HB.out, HW.out⟩
          case round =>
            clear HB HW
            obtain ⟨k, hk, rfl, hB, hW⟩ := hrel
            by_cases hlt : k < xs.length
            · obtain ⟨x, hx⟩ := at_ hlt
              have hcell : wr.cell? ⟨g, k, none⟩ = some (.float .f64 x) := (hB.cell _).trans (HR.out.2.1 k x hx)
              obtain ⟨ad, ha, hc, hb⟩ := (HF.out.below hW) k x hx
              subst ha
              have HB := Lib.hid hB
              have HW := Lib.hid hW
              clear hB hW hx
              go_wp2_with fail
              go_quiet (first | (go_at_call 15; refine Calls.quiet_of_same ((bits_any _ _).mono (fun _ _ h => ⟨h.1, h.2.symm⟩))))
              go_wp2_with fail
              go_roundw
              case rel => exact ⟨k + 1, by omega, by go_num, HB.out, below_drewN HW.out _⟩
              case measure => simp [intOf]; omega
            · obtain rfl : k = xs.length := by omega
              have hcell : wr.cell? ⟨g, xs.length, none⟩ = some (.float .f64 4619567317775286272) := (hB.cell _).trans HR.out.2.2
              have HW := Lib.hid hW
              clear hB hW hk hlt
              go_wp2_with fail
              go_ret
              exact ⟨rfl, HW.out⟩
set_option maxRecDepth 100000 in
/-- What the walk gives, for every argument and every world. -/
theorem contract (H : Type) (enc : TypeId × Value → H) (W : World) (base : Nat) (args : Array Value) (ds gs : List (DataW H)) (before : List MemPlace)
    (hval : ∀ (j : Nat) t v, Tryd.f9.params[j]? = some t → args[j]? = some v → Value.okWide Tryd.prog W .any base t v)
    (hW : DataW.Whole enc Tryd.prog Tryd.f9.params.toList Rows.numKeepsSpec.vars false W args.toList ds gs before) (hL : laidMetH Tryd.prog Rows.numKeepsRow.laid W) (hz : (DataW.weightsEach Tryd.prog (Tryd.f9.params.toList ++ (OpenSpec.ofChange Rows.numKeepsSpec).bare.plain.varTypes Tryd.prog) (ds ++ gs)).all (· ≤ reachBytes) = true) : 
    Calls Tryd.prog 9 args W fun e W' => ∃ v, e = .returned v ∧ Rows.numKeepsSpec.post enc Tryd.prog Tryd.f9 false true false false W args v W' := by
  have hW' := hW
  obtain ⟨p, q, hA0, hV, rfl, hfz, hnd⟩ := hW
  have hA : DataW.TrodAll enc Tryd.prog W 0 (fun _ => true) true Tryd.f9.params.toList args.toList ds p := hA0
  rw [Tryd.params9] at hA hval
  obtain ⟨v0, vs0, d0, ds0, p0, q0, hargs, rfl, rfl, h0, r0⟩ := trodAll_cons hA
  obtain ⟨rfl, rfl, rfl⟩ := trodAll_nil r0
  obtain rfl : args = #[v0] := by cases args; simp_all
  obtain ⟨rfl, rfl⟩ := trodVars_none hV
  obtain ⟨A0, xs, c0, rfl, f0, l0, lc0, sz0, nl0⟩ := Shell.open_floats Tryd.underlying30 Tryd.underlying22 (by kernel_rfl) (hval 0 30 v0 rfl rfl) h0
  have z0 : xs.length * 8 ≤ 140737488351232 := by
    rcases sz0 with h | ⟨es, sp, hd, hl⟩
    · rw [h]; decide
    · have := sized_slice hz (j := 0) (t := 30) (e := 22) (elems := es) (spare := sp) (by rw [Tryd.params9]; rfl) (by rw [hd]; rfl) Tryd.underlying30
      rw [show Tryd.prog.bytesOf 22 = 8 by kernel_rfl, show reachBytes = 140737488351232 from rfl] at this
      omega
  refine (walk A0 xs c0 W f0 nl0 z0 (tz_of hL) (es_of hL)).mono fun e W' ⟨he, hb⟩ => ?_
  exact ⟨_, he, Shell.post_law laidOut (by kernel_rfl) rfl Tryd.underlying4 rfl hW' rfl hb⟩
theorem reads (os : Os) {H : Type} (enc : TypeId × Value → H) : ∃ places, DataW.whole enc Tryd.prog ((laidWorld os).forCall (fun _ _ => 0) ⟨#[], #[.slice none 0 0], []⟩).memory Tryd.f9.params.toList Rows.numKeepsSpec.vars false (#[Value.slice none 0 0]).toList 8 = some ([.nil], [], places) :=
  ⟨[], by kernel_rfl⟩
set_option maxRecDepth 100000 in
theorem lifted (os : Os) (started : os.Started) (H : Type) (enc : TypeId × Value → H) (F : Stop.Interp) :
    ReturnsInHanded {} Tryd.checked os 9 .any ((OpenSpec.ofChange Rows.numKeepsSpec).preRow enc Tryd.prog Tryd.f9 Rows.numKeepsRow.domain false Rows.numKeepsRow.laid) (((OpenSpec.ofChange Rows.numKeepsSpec).at F).post enc Tryd.prog Tryd.f9 false true false false) := by
  obtain ⟨places, hx⟩ := reads os enc
  refine returnsInHanded_of_row (C := Tryd.checked) (s := OpenSpec.ofChange Rows.numKeepsSpec) own started (by kernel_rfl) Tryd.func9
    (witness_row_atRef (enc := enc) (C := Tryd.checked) false (laidWorld os) #[.slice none 0 0] rfl (by kernel_rfl) (by kernel_rfl) (by kernel_rfl)
      (OpenSpec.preRow_of_cond 8 hx (by kernel_rfl) (fun k hk => by cases hk) (by kernel_rfl) (laid_met os _))) ?_
  intro W base args ds gs before hval hW _ _ hz hL _ _
  exact contract H enc W base args ds gs before hval hW hL hz
theorem said : Rows.NumKeepsSaid :=
  OpenClaim.holds_of_cond 9 Tryd.f9 rfl rfl rfl rfl rfl rfl rfl ⟨rfl, rfl, rfl, rfl, rfl⟩ rfl rfl rfl rfl rfl (by kernel_rfl) Tryd.func9 (by kernel_rfl)
    (of_decide_eq_true (by kernel_rfl)) (by unfold Func.isWrapper; first | (rw [if_pos (by decide +kernel)]; kernel_rfl) | (rw [if_neg (by decide +kernel)]; exact ⟨rfl, rfl⟩))
    (fun os started H enc _ F => by rw [OpenClaim.pre_eq_preRow]; exact lifted os started H enc F)
theorem plain (f : FuncId) (fn : Func) (hf : Tryd.pinned.checked.prog.funcNamed "tocsin/tocsinlaw01.NumKeeps" = some f) (hfn : Tryd.pinned.checked.prog.funcs[f]? = some fn) :
    true = Tryd.pinned.checked.prog.looks [] ∧ ∀ (j : Nat) t, fn.params[j]? = some t → Tryd.pinned.checked.prog.wantsStandIn t = false := by
  obtain rfl : f = 9 := Option.some.inj ((show Tryd.prog.funcNamed "tocsin/tocsinlaw01.NumKeeps" = some 9 by kernel_rfl).symm.trans hf) |>.symm
  obtain rfl : fn = Tryd.f9 := (Option.some.inj (Tryd.func9.symm.trans hfn)).symm
  refine ⟨by kernel_rfl, fun j t ht => ?_⟩
  rw [Tryd.params9] at ht
  have hall : ∀ t ∈ Tryd.f9.params.toList, Tryd.prog.wantsStandIn t = false := by
    rw [Tryd.params9]
    have h : ((#[30] : Array TypeId).toList.all fun t => !Tryd.prog.wantsStandIn t) = true := by kernel_rfl
    intro t ht
    simpa using (List.all_eq_true.1 h) t ht
  exact hall t (by rw [Tryd.params9]; exact Array.mem_toList_iff.2 (Array.mem_of_getElem? ht))
theorem card : Rows.NumKeepsCardSaid :=
  Claim7.holds_tied_plain_at .later [] _ _ _ _ said (fun _ h => by cases h) (by kernel_rfl) (fun _ h => by cases h) numKeeps_row_tie rfl ⟨rfl, rfl⟩ (by kernel_rfl) rfl plain (by kernel_rfl)
end Go.Proofs.YtgcmjmnolkojhaaDoor.NumC.Keeps
