/- The law CompOrders: frames that come in another order behind the same first one have the same point, crew and cycle: for all times, gaps and orders. No condition. -/
import Derived.Test.YtpjaijibkjmgiaaCompAll
import Derived.Deep.RegionLaw
import Derived.Deep.RegionHeld3
namespace Go.Proofs.Ytpjaijibkjmgiaa.CompW.CompOrders
open Go.ChangeShapes Go.WideShapes Go.ChangeAt Go.RowKit CompW Shell
open FrameW (CV rightC)
open MeanW (halfAt tolK srt)
theorem turns : ∀ m, m < 6 → ∀ t, t < m → ((List.range m).map fun j => (j + t) % m).Perm (List.range m) := by decide +kernel
theorem apart : ∀ m, m < 6 → ∀ t, t < m → ∀ i, i < m → ∀ j, j < i → (j + t) % m ≠ (i + t) % m := by decide +kernel
theorem mod_in (j t m : Nat) : (j + t) % m = (j + t % m) % m := by rw [Nat.add_mod_mod]
def FR (b : Int) (xs : List Int) (k : Nat) : Fr := ⟨b + xs.getD k 0, k + 1, 3, 0, 0⟩
/-- The frames in the turned order. -/
def SB (b : Int) (xs : List Int) (m t i : Nat) : List Fr := ⟨b, 0, 3, 0, 0⟩ :: (List.range i).map fun j => FR b xs ((j + t) % m)
theorem SB_succ (b : Int) (xs : List Int) (m t i : Nat) : SB b xs m t (i + 1) = SB b xs m t i ++ [FR b xs ((i + t) % m)] := by
  unfold SB
  rw [List.range_succ, List.map_append]
  rfl
theorem SB_f {b : Int} {xs : List Int} {m t i : Nat} {z : Fr} (h : z ∈ SB b xs m t i) : z.f = 0 ∨ ∃ j, j < i ∧ z.f = (j + t) % m + 1 := by
  rcases List.mem_cons.1 h with rfl | h
  · exact Or.inl rfl
  · obtain ⟨j, hj, rfl⟩ := List.mem_map.1 h
    exact Or.inr ⟨j, List.mem_range.1 hj, rfl⟩
theorem SB_perm (b : Int) (xs : List Int) (m t : Nat) (hm : m < 6) (h0 : 0 < m) : (SB b xs m t m).Perm (SA b xs m) := by
  unfold SB SA
  refine List.Perm.cons _ ?_
  have e : ((List.range m).map fun j => FR b xs ((j + t) % m)) = ((List.range m).map fun j => (j + t % m) % m).map (FR b xs) := by
    rw [List.map_map]
    apply List.map_congr_left
    intro j _
    show FR b xs ((j + t) % m) = FR b xs ((j + t % m) % m)
    rw [mod_in]
  rw [e]
  exact (turns m hm (t % m) (Nat.mod_lt _ h0)).map _
theorem of_perm {l l' : List Int} (h : l.Perm l') : CrewW.of l = CrewW.of l' := by
  apply Nat.eq_of_testBit_eq
  intro i
  rw [CrewW.of_bit, CrewW.of_bit]
  congr 1
  rw [Bool.eq_iff_iff, List.contains_iff_mem, List.contains_iff_mem]
  exact h.mem_iff
theorem pt_perm {S S' : List Fr} (h : S.Perm S') : pt S = pt S' := by
  have hp : (ts S).Perm (ts S') := h.map _
  unfold pt
  rw [MeanW.halfAt_perm hp, MeanW.tolK_perm hp]
theorem sS_perm {S S' : List Fr} (h : S.Perm S') : sS S = sS S' := of_perm (h.map _)
theorem cy_perm {S S' : List Fr} (h : S.Perm S') : cy S = cy S' := by
  have hp : (ys S).Perm (ys S') := h.map _
  unfold cy
  rw [best_perm hp]
theorem add_block (a : Addr) (k : Nat) : (a.add k).block = a.block := by unfold Addr.add; split <;> rfl
theorem cl_kept {w w1 : World} {g : Nat} {q : IntKind} {a : Addr} {xs : List Int} (h : CL w q (some a) xs) (k : Kept g w w1) (hg : a.block ≠ g) : CL w1 q (some a) xs := by
  intro j x hx
  obtain ⟨b, hb, hc, hw⟩ := h j x hx
  cases hb
  refine ⟨a, rfl, ?_, hw⟩
  have hl := Lib.lt_of_cell hc
  exact (World.cell?_of_block (k.block _ (by rw [add_block]; exact hg) hl)).trans hc
theorem ts_at {b : Int} {xs : List Int} {m k : Nat} (hk : k < m) : (ts (SA b xs m))[k + 1]? = some (b + xs.getD k 0) := by
  unfold ts SA
  rw [List.map_cons, List.getElem?_cons_succ, List.map_map, List.getElem?_map, List.getElem?_range hk]
  rfl
set_option maxHeartbeats 8000000 in
set_option maxRecDepth 100000 in
theorem walk (b : Int) (A : Option Addr) (xs : List Int) (cp : Nat) (t8 : Int) (hb : -2147483648 ≤ b ∧ b ≤ 2147483647) (ht : 0 ≤ t8 ∧ t8 ≤ 255) (w : World) (hA : CL w .u8 A xs) (hc : xs.length ≤ cp) :
    Calls Try.prog 5 #[.int .i32 b, .slice A xs.length cp, .int .u8 t8] w fun e w' => e = .returned (.bool true) ∧ Below w.heap.size w w' := by
  obtain ⟨n, hn⟩ : ∃ n, xs.length = n := ⟨_, rfl⟩
  obtain ⟨m, hm⟩ : ∃ m, min n 5 = m := ⟨_, rfl⟩
  obtain ⟨N, hN⟩ : ∃ N, m + 1 = N := ⟨_, rfl⟩
  obtain ⟨tn, rfl⟩ := Int.eq_ofNat_of_zero_le ht.1
  rw [hn] at hc ⊢
  have R1 := fun W (h : Below w.heap.size w W) => all_any b A xs n cp m hn hm (by omega) W (hA.below h) hc
  have hX : ∀ k, k < m → 0 ≤ xs.getD k 0 ∧ xs.getD k 0 ≤ 255 := fun k hk => by
    obtain ⟨x, hx⟩ : ∃ x, xs[k]? = some x := ⟨_, List.getElem?_eq_getElem (by omega)⟩
    obtain ⟨-, -, -, hw⟩ := hA k x hx
    rw [getD_at hx]
    exact u8_wf hw
  have hl : (ts (SA b xs m)).length = N := by unfold ts; rw [List.length_map, SA_len, hN]
  have PT := Lib.hid (fun h0 : 0 < m => pt_perm (SB_perm b xs m tn (by omega) h0))
  have PS := Lib.hid (fun h0 : 0 < m => sS_perm (SB_perm b xs m tn (by omega) h0))
  have PY := Lib.hid (fun h0 : 0 < m => cy_perm (SB_perm b xs m tn (by omega) h0))
  have TA := Lib.hid (fun k (h : k < m) => ts_at (b := b) (xs := xs) h)
  generalize pt (SA b xs m) = pz at *
  generalize sS (SA b xs m) = sz at *
  generalize cy (SA b xs m) = cz at *
  generalize ts (SA b xs m) = T at *
  have R1 := Lib.hid R1
  have HX := Lib.hid hX
  have HL := Lib.hid hl
  have HN := Lib.hid hN
  have HB := Lib.hid hb
  have nb : (N : Int) ≤ 6 := by omega
  have m5 : (m : Int) ≤ 5 := by omega
  have e1 : IntKind.i64.wrap b = b := by rw [IntKind.wrap_i64]; omega
  have tb : (tn : Int) ≤ 255 := ht.2
  clear hA hc hn hm hN hl hX hb ht
  go_enter Try.func5, Try.ntmps5
  go_wp2_with fail
  refine (fixed_any _).mono ?_
  rintro e w1 ⟨rfl, b1⟩
  have S1 := Lib.hid ((Stay.start w).next b1)
  clear b1
  go_wp2_with fail
  refine (R1.out _ S1.out.b).mono ?_
  rintro e w2 ⟨v2, rfl, o2, b2, -⟩
  have S2 := Lib.hid ((S1.out.next b2).alloc (rbx pz sz cz))
  have O2 := Lib.hid (o2.alloc (rbx pz sz cz))
  clear b2 o2 S1
  obtain ⟨A2, c2, rfl, -⟩ := O2.out.form
  rw [HL.out] at O2 ⊢
  go_upto_region 4 with (fail)
  generalize w2.alloc (.cells #[.int .i64 pz, .int .u32 (sz : Int), .int .i64 cz] 39 (0, 0)) = w3 at *
  generalize w2.heap.size = q2 at *
  have C3 : CL w3 .i64 A2 T := by
    obtain ⟨A', c', e, h1, -⟩ := O2.out.form
    injection e with e1 _ e3
    rw [e1]
    exact h1
  have C3 := Lib.hid C3
  by_cases h2 : (N : Int) < 2
  · go_wp2
    go_ret
    exact ⟨rfl, S2.out.b⟩
  · have h0 : 0 < m := by have := HN.out; omega
    have e5 : IntKind.i64.wrap ((N : Int) - 1) = (m : Int) := by rw [IntKind.wrap_i64]; have := HN.out; omega
    obtain ⟨a, rfl⟩ : ∃ a, A2 = some a := C3.out.some (by rw [HL.out]; have := HN.out; omega)
    have AG : a.block < w3.heap.size := by
      obtain ⟨b', hb', hc', -⟩ := C3.out (0 + 1) _ (TA.out 0 h0)
      cases hb'
      have := Lib.lt_of_cell hc'
      rwa [add_block] at this
    have AG := Lib.hid AG
    go_wp2_with fail
    refine (new_ok 1000 (by decide) _).mono ?_
    rintro e w4 ⟨rfl, h4, b4⟩
    have P4 := Lib.hid (pc_new S2.out (by decide) h4 b4)
    have C4 := Lib.hid (C3.out.below b4)
    have GL := Lib.hid (lt_of_heap h4)
    generalize w3.heap.size = g at *
    clear h4 b4 S2 C3 O2
    go_wp2_with fail
    refine (from_any 0 _).mono ?_
    rintro e w5 ⟨rfl, b5⟩
    have P5 := Lib.hid (P4.out.next b5)
    have C5 := Lib.hid (C4.out.below b5)
    clear P4 C4 b5
    have hb := HB.out
    have Q : Calls Try.prog 11 #[.pointer (some ⟨g, 0, none⟩), .int .i64 b, CV 1 0 3 0 0] w5 fun e w' => e = .returned (.tuple #[.int .i64 (b + 1000), .int .i64 0]) ∧ PC w [(q2, rbx pz sz cz)] g 1000 (SB b xs m tn 0) w' ∧ Kept g w5 w' := P5.out.put b 0 3 0 0 (by decide) (by decide) (by omega) (Or.inl rfl) (by decide)
    have Q := Lib.hid Q
    go_wp2_with fail
    refine Q.out.mono ?_
    rintro e w6 ⟨rfl, p6, k6⟩
    have P6 := Lib.hid p6
    have C6 := Lib.hid (cl_kept C5.out k6 (by have := AG.out; omega))
    have H0 := Lib.hid h0
    have M5 := Lib.hid m5
    clear p6 k6 Q P5 C5 h2
    have e5 : IntKind.i64.wrap ((N : Int) - 1) = (m : Int) := by rw [IntKind.wrap_i64]; have := HN.out; omega
    go_wp2
    clear e5
    go_loopw [50] (fun iv wr => ∃ (i : Nat), i ≤ m ∧ iv = .int .i64 i ∧ Hid (PC w [(q2, rbx pz sz cz)] g 1000 (SB b xs m tn i) wr) ∧ Hid (CL wr .i64 (some a) T)) (fun iv _ => m - (intOf iv).toNat)
    case atStart => exact ⟨0, Nat.zero_le _, rfl, P6, C6⟩
    case round =>
      clear P6 C6
      obtain ⟨i, hi, rfl, P, C⟩ := hrel
      have m5 := M5.out
      have ib : (i : Int) ≤ 5 := by omega
      by_cases hlt : (i : Int) < (m : Int)
      · obtain ⟨k, hk⟩ : ∃ k, (i + tn) % m = k := ⟨_, rfl⟩
        have km : k < m := by rw [← hk]; exact Nat.mod_lt _ H0.out
        have kf : ¬ ∃ z ∈ SB b xs m tn i, z.f = k + 1 := by
          rintro ⟨z, hz, e⟩
          rcases SB_f hz with h | ⟨j, hj, h⟩
          · omega
          · have h1 := apart m (by omega) (tn % m) (Nat.mod_lt _ H0.out) i (by omega) j hj
            rw [← mod_in, ← mod_in] at h1
            omega
        have m1 : ((i : Int) + (tn : Int)) % (m : Int) = (k : Int) := by rw [← hk, Int.natCast_emod]; rfl
        have m2 : Int.tmod ((i : Int) + (tn : Int)) (m : Int) = (k : Int) := by rw [Int.tmod_eq_emod_of_nonneg (by omega)]; exact m1
        have m3 : (m : Int) ≠ 0 := by have := H0.out; omega
        have m4 : ¬ m = 0 := by have := H0.out; omega
        have SN := Lib.hid (show SB b xs m tn (i + 1) = SB b xs m tn i ++ [⟨b + xs.getD k 0, k + 1, 3, 0, 0⟩] by rw [SB_succ, hk]; rfl)
        clear hk
        have hx := HX.out k km
        have ht := TA.out k km
        generalize xs.getD k 0 = x at *
        obtain ⟨kk, hkk⟩ : ∃ kk, k + 1 = kk := ⟨_, rfl⟩
        rw [hkk] at ht kf SN
        obtain ⟨b', hb', hcell, -⟩ := C.out kk _ ht
        cases hb'
        have hb := HB.out
        have Q := fun W (h : Below wr.heap.size wr W) => (P.out.next h).put (b + x) kk 3 0 0 (by unfold rightC; omega) (by omega) (by omega) (Or.inr ⟨by show b ≤ b + x; omega, by show b + x ≤ b + 1000; omega⟩) kf
        rw [← SN.out] at Q
        generalize sB (SB b xs m tn (i + 1)) + 1000 = z at *
        have Q := Lib.hid Q
        have K1 := Lib.hid (show (k : Int) + 1 = (kk : Int) ∧ (kk : Int) < (N : Int) ∧ (kk : Int) ≤ 6 by have := HN.out; omega)
        clear hx ht kf km hkk hb
        go_upto_region 13 with (fail)
        clear m1 m2 m3 m4
        obtain ⟨q5, q6, q7⟩ := K1.out
        have q8 : IntKind.i64.wrap (kk : Int) = (kk : Int) := by rw [IntKind.wrap_i64]; omega
        have q9 : kk < N := by omega
        have F := Lib.hid (fun W => from_any (kk : Int) W)
        have HC := Lib.hid hcell
        apply wp_some (S := fun w' => PC w [(q2, rbx pz sz cz)] g 1000 (SB b xs m tn (i + 1)) w' ∧ CL w' .i64 (some a) T)
        case h =>
          refine wp_region_noPanic ?_
          go_region_law (first
            | (go_at_call 19; refine (F.out _).mono ?_; rintro e w7 ⟨rfl, b7⟩; have B7 := Lib.hid (show Below wr.heap.size wr w7 from ⟨b7.os, b7.tape, b7.output, b7.size, b7.block⟩); have hc7 := cell_keep HC.out B7.out; clear b7)
            | (go_at_call 11; refine (Q.out _ B7.out).mono ?_; rintro e w8 ⟨rfl, p8, k8⟩; have P8 := Lib.hid p8; have K8 := Lib.hid k8; clear p8 k8)
            | (go_simp; go_at_call 19; refine (F.out _).mono ?_; rintro e w7 ⟨rfl, b7⟩; have B7 := Lib.hid (show Below wr.heap.size wr w7 from ⟨b7.os, b7.tape, b7.output, b7.size, b7.block⟩); have hc7 := cell_keep HC.out B7.out; clear b7)
            | (go_simp; go_at_call 11; refine (Q.out _ B7.out).mono ?_; rintro e w8 ⟨rfl, p8, k8⟩; have P8 := Lib.hid p8; have K8 := Lib.hid k8; clear p8 k8))
          all_goals exact NoPanic.normal ⟨rfl, rfl, P8.out, cl_kept (C.out.below B7.out) K8.out (by have := AG.out; omega)⟩
        case hm =>
        rintro w9 ⟨p9, c9⟩
        have P9 := Lib.hid p9
        have C9 := Lib.hid c9
        clear p9 c9 hcell q5 q6 q7 q8 q9 P C Q
        go_wp2
        go_roundw
        case rel => exact ⟨i + 1, by omega, by go_num, P9, C9⟩
        case measure => simp only [intOf]; omega
      · obtain rfl : i = m := by omega
        have hb := HB.out
        have D := P.out.shut (by unfold SB; simp) (b + 1000) (Int.le_refl _)
        rw [PT.out H0.out, PS.out H0.out, PY.out H0.out] at D
        have D := Lib.hid D
        have e3 : IntKind.i64.wrap (b + 1000) = b + 1000 := by rw [IntKind.wrap_i64]; omega
        clear P C
        go_wp2_with fail
        refine D.out.mono ?_
        rintro e w7 ⟨rfl, p7, -⟩
        have P7 := Lib.hid (p7.alloc (rbx pz sz cz))
        clear p7 D
        go_upto_region 18 with (fail)
        generalize w7.alloc (rbx pz sz cz) = w8 at *
        generalize w7.heap.size = q7 at *
        obtain ⟨c0, c1, c2⟩ := cells3 (P7.out.st.at 0 rfl)
        obtain ⟨d0, d1, d2⟩ := cells3 (P7.out.st.at 1 rfl)
        have h1 := eql_res pz sz cz
        have h2 := guardR
        go_wp2
        go_ret
        exact ⟨rfl, P7.out.st.b⟩
set_option maxRecDepth 100000 in
/-- What the walk gives, for every argument and every world. -/
theorem contract (H : Type) (enc : TypeId × Value → H) (W : World) (base : Nat) (args : Array Value) (ds gs : List (DataW H)) (before : List MemPlace)
    (hval : ∀ (j : Nat) t v, Try.f5.params[j]? = some t → args[j]? = some v → Value.okWide Try.prog W .any base t v)
    (hW : DataW.Whole enc Try.prog Try.f5.params.toList Rows.compOrdersSpec.vars false W args.toList ds gs before) : 
    Calls Try.prog 5 args W fun e W' => ∃ v, e = .returned v ∧ Rows.compOrdersSpec.post enc Try.prog Try.f5 false true false false W args v W' := by
  have hW' := hW
  obtain ⟨p, q, hA0, hV, rfl, hfz, hnd⟩ := hW
  have hA : DataW.TrodAll enc Try.prog W 0 (fun _ => true) true Try.f5.params.toList args.toList ds p := hA0
  rw [Try.params5] at hA hval
  obtain ⟨v0, vs0, d0, ds0, p0, q0, hargs, rfl, rfl, h0, r0⟩ := trodAll_cons hA
  obtain ⟨v1, vs1, d1, ds1, p1, q1, rfl, rfl, rfl, h1, r1⟩ := trodAll_cons r0
  obtain ⟨v2, vs2, d2, ds2, p2, q2, rfl, rfl, rfl, h2, r2⟩ := trodAll_cons r1
  obtain ⟨rfl, rfl, rfl⟩ := trodAll_nil r2
  obtain rfl : args = #[v0, v1, v2] := by cases args; simp_all
  obtain ⟨rfl, rfl⟩ := trodVars_none hV
  obtain ⟨b, rfl, rfl, rfl, w0⟩ := open_int Try.underlying21 (hval 0 21 v0 rfl rfl) h0
  obtain ⟨A1, s, c1, rfl, f1, l1, lc1, sz1, nl1⟩ := Shell.open_nums (q := .u8) Try.underlying48 Try.underlying5 (by kernel_rfl) (hval 1 48 v1 rfl rfl) h1
  obtain ⟨k, rfl, rfl, rfl, w2⟩ := open_int Try.underlying5 (hval 2 5 v2 rfl rfl) h2
  refine (walk b A1 s c1 k (i32_wf w0) (u8_wf w2) W f1 lc1).mono fun e W' ⟨he, hb⟩ => ?_
  exact ⟨_, he, Shell.post_law laidOut (by kernel_rfl) rfl Try.underlying4 rfl hW' rfl hb⟩
theorem reads (os : Os) {H : Type} (enc : TypeId × Value → H) : ∃ places, DataW.whole enc Try.prog ((World.holding Try.prog os ⟨#[], #[], []⟩).forCall (fun _ _ => 0) ⟨#[], #[.int .i32 0, .slice none 0 0, .int .u8 0], []⟩).memory Try.f5.params.toList Rows.compOrdersSpec.vars false (#[Value.int .i32 0, Value.slice none 0 0, Value.int .u8 0]).toList 8 = some ([.lit (.int .i32 0), .nil, .lit (.int .u8 0)], [], places) :=
  ⟨[], by kernel_rfl⟩
set_option maxRecDepth 100000 in
theorem lifted (os : Os) (started : os.Started) (H : Type) (enc : TypeId × Value → H) (F : Stop.Interp) :
    ReturnsInHanded {} Try.checked os 5 .any ((OpenSpec.ofChange Rows.compOrdersSpec).preRow enc Try.prog Try.f5 Rows.compOrdersRow.domain false Rows.compOrdersRow.laid) (((OpenSpec.ofChange Rows.compOrdersSpec).at F).post enc Try.prog Try.f5 false true false false) := by
  obtain ⟨places, hx⟩ := reads os enc
  refine returnsInHanded_of_row (C := Try.checked) (s := OpenSpec.ofChange Rows.compOrdersSpec) own started (by kernel_rfl) Try.func5
    (witness_row_atRef (enc := enc) (C := Try.checked) false (World.holding Try.prog os ⟨#[], #[], []⟩) #[.int .i32 0, .slice none 0 0, .int .u8 0] rfl (by kernel_rfl) (by kernel_rfl) (by kernel_rfl)
      (OpenSpec.preRow_of_cond 8 hx (by kernel_rfl) (fun k hk => by cases hk) (by kernel_rfl) (laid_met os _))) ?_
  intro W base args ds gs before hval hW _ _ _ hL _ _
  exact contract H enc W base args ds gs before hval hW
theorem said : Rows.CompOrdersSaid :=
  OpenClaim.holds_of_cond 5 Try.f5 rfl rfl rfl rfl rfl rfl rfl ⟨rfl, rfl, rfl, rfl, rfl⟩ rfl rfl rfl rfl rfl (by kernel_rfl) Try.func5 (by kernel_rfl)
    (of_decide_eq_true (by kernel_rfl)) (by unfold Func.isWrapper; first | (rw [if_pos (by decide +kernel)]; kernel_rfl) | (rw [if_neg (by decide +kernel)]; exact ⟨rfl, rfl⟩))
    (fun os started H enc _ F => by rw [OpenClaim.pre_eq_preRow]; exact lifted os started H enc F)
end Go.Proofs.Ytpjaijibkjmgiaa.CompW.CompOrders
