/- The law CompMost: the cycle that most hosts send is the cycle that is told, whatever the others send: for all cycles. No condition. -/
import Derived.Test.YtpjaijibkjmgiaaCompFixed
namespace Go.Proofs.Ytpjaijibkjmgiaa.CompW.CompMost
open Go.ChangeShapes Go.WideShapes Go.ChangeAt Go.RowKit CompW Shell
open FrameW (CV rightC)
theorem best_most {cs : List Int} {y : Int} (hy : y ∈ cs) (h : ∀ z, z ≠ y → cs.count z < cs.count y) : (best cs cs).1 = y := by
  have B := best_is cs cs (fun _ h => h)
  generalize best cs cs = p at B
  obtain ⟨a, b⟩ := p
  rcases B.one with ⟨rfl, _⟩ | ⟨h1, h2⟩
  · cases hy
  · by_cases e : a = y
    · exact e
    · have h3 := h a e
      have h4 := B.up y hy
      dsimp only at h1 h2 h4
      omega
def S1 (y : Int) (i : Nat) : List Fr := (List.range i).map fun h => ⟨0, h, y, 0, 0⟩
def S2 (k : Nat) (xs : List Int) (j : Nat) : List Fr := (List.range j).map fun i => ⟨0, k + i, xs.getD i 0, 0, 0⟩
theorem S1_succ (y : Int) (i : Nat) : S1 y (i + 1) = S1 y i ++ [⟨0, i, y, 0, 0⟩] := by
  unfold S1
  rw [List.range_succ, List.map_append]
  rfl
theorem S2_succ (k : Nat) (xs : List Int) (j : Nat) : S2 k xs (j + 1) = S2 k xs j ++ [⟨0, k + j, xs.getD j 0, 0, 0⟩] := by
  unfold S2
  rw [List.range_succ, List.map_append]
  rfl
theorem S1_f {y : Int} {i : Nat} {z : Fr} (h : z ∈ S1 y i) : z.f < i ∧ z.t = 0 := by
  obtain ⟨k, hk, rfl⟩ := List.mem_map.1 h
  exact ⟨List.mem_range.1 hk, rfl⟩
theorem S2_f {k : Nat} {xs : List Int} {j : Nat} {z : Fr} (h : z ∈ S2 k xs j) : z.f < k + j ∧ z.t = 0 := by
  obtain ⟨i, hi, rfl⟩ := List.mem_map.1 h
  have := List.mem_range.1 hi
  exact ⟨by show k + i < k + j; omega, rfl⟩
theorem base0 {S : List Fr} (h : ∀ z ∈ S, z.t = 0) : sB S = 0 := by
  cases S with
  | nil => rfl
  | cons x S => exact h x List.mem_cons_self
theorem ys_S1 (y : Int) (i : Nat) : ys (S1 y i) = List.replicate i y := by
  unfold ys S1
  rw [List.map_map]
  apply List.ext_getElem?
  intro k
  rw [List.getElem?_map, List.getElem?_replicate]
  by_cases h : k < i
  · rw [List.getElem?_range h, if_pos h]; rfl
  · rw [if_neg h, List.getElem?_eq_none (by simp; omega)]; rfl
theorem most {y : Int} {xs : List Int} {m : Nat} : cy (S1 y (m + 1) ++ S2 (m + 1) xs m) = y := by
  unfold cy
  have e : ys (S1 y (m + 1) ++ S2 (m + 1) xs m) = List.replicate (m + 1) y ++ ys (S2 (m + 1) xs m) := by
    unfold ys
    rw [List.map_append]
    exact congrArg (· ++ _) (ys_S1 y (m + 1))
  have hl : (ys (S2 (m + 1) xs m)).length = m := by unfold ys S2; simp
  rw [e]
  refine best_most (List.mem_append_left _ (by rw [List.mem_replicate]; exact ⟨by omega, rfl⟩)) (fun z hz => ?_)
  have c1 : (List.replicate (m + 1) y).count z = 0 := List.count_eq_zero.2 (fun h => hz (List.mem_replicate.1 h).2)
  have c2 : (List.replicate (m + 1) y).count y = m + 1 := by simp
  rw [List.count_append, List.count_append, c1, c2]
  have := List.count_le_length (a := z) (l := ys (S2 (m + 1) xs m))
  omega
theorem getD_at {xs : List Int} {j : Nat} {x : Int} (h : xs[j]? = some x) : xs.getD j 0 = x := by rw [List.getD_eq_getElem?_getD, h]; rfl
set_option maxHeartbeats 4000000 in
set_option maxRecDepth 100000 in
theorem walk (y : Int) (A : Option Addr) (xs : List Int) (cp : Nat) (hy : 0 ≤ y ∧ y ≤ 4294967295) (w : World) (hA : CL w .u32 A xs) (hc : xs.length ≤ cp) :
    Calls Try.prog 8 #[.int .u32 y, .slice A xs.length cp] w fun e w' => e = .returned (.bool true) ∧ Below w.heap.size w w' := by
  have HA := Lib.hid hA
  obtain ⟨n, hn⟩ : ∃ n, xs.length = n := ⟨_, rfl⟩
  rw [hn] at hc ⊢
  obtain ⟨m, hm⟩ : ∃ m : Nat, min n 2 = m := ⟨_, rfl⟩
  have HM := Lib.hid (show m ≤ n ∧ m ≤ 2 by omega)
  have HN := Lib.hid hn
  have q1 : min (n : Int) 2 = (m : Int) := by omega
  have q2 : (if (2 : Int) < (n : Int) then (2 : Int) else (n : Int)) = (m : Int) := by split <;> omega
  have q3 : (if 2 < n then (2 : Int) else (n : Int)) = (m : Int) := by split <;> omega
  have q4 : (m : Int) ≤ (cp : Int) := by omega
  have q5 : (m : Int) ≤ (n : Int) := by omega
  have m2 : (m : Int) ≤ 2 := by omega
  have HY := Lib.hid hy
  clear hA hn hm hc
  go_enter Try.func8, Try.ntmps8
  go_wp2_with fail
  refine (fixed_any _).mono ?_
  rintro e w1 ⟨rfl, b1⟩
  have S1' := Lib.hid ((Stay.start w).next b1)
  clear b1
  go_wp2_with fail
  refine (new_ok 50 (by decide) _).mono ?_
  rintro e w2 ⟨rfl, h2, b2⟩
  have P := Lib.hid (pc_new S1'.out (by decide) h2 b2)
  generalize w1.heap.size = g at *
  clear h2 b2 S1'
  go_wp2
  go_loopw [7, 26] (fun hv iv wr => ∃ (i : Nat), i ≤ m + 1 ∧ iv = .int .i64 i ∧ Hid (PC w [] g 50 (S1 y i) wr)) (fun _ iv _ => m + 1 - (intOf iv).toNat)
  case atStart => exact ⟨0, Nat.zero_le _, rfl, P⟩
  case round =>
    clear P
    obtain ⟨i, hi, rfl, P⟩ := hrel
    have ib : (i : Int) ≤ 3 := by omega
    by_cases hlt : (i : Int) < (m : Int) + 1
    · have Q := P.out.put 0 i y 0 0 (by unfold rightC; have := HY.out; omega) (by omega) (by decide)
        (Or.inr (by rw [base0 (fun z hz => (S1_f hz).2)]; decide)) (fun ⟨z, hz, e⟩ => by have := (S1_f hz).1; omega)
      rw [← S1_succ] at Q
      generalize sB (S1 y (i + 1)) + 50 = z at *
      have Q := Lib.hid Q
      have e1 : IntKind.i64.wrap y = y := by rw [IntKind.wrap_i64]; have := HY.out; omega
      go_wp2_with fail
      refine Q.out.mono ?_
      rintro e w3 ⟨rfl, p3, -⟩
      have P3 := Lib.hid p3
      clear p3 Q P
      go_wp2
      go_roundw
      case rel => exact ⟨i + 1, by omega, by go_num, P3⟩
      case measure => simp only [intOf]; omega
    · obtain rfl : i = m + 1 := by omega
      have P0 := Lib.hid (show PC w [] g 50 (S1 y (m + 1) ++ S2 (m + 1) xs 0) wr by
        have h := P.out
        rw [show S2 (m + 1) xs 0 = [] from rfl, List.append_nil]
        exact h)
      clear P
      go_wp2
      go_loopw [8, 9, 38] (fun av bv jv wr => ∃ (j : Nat), j ≤ m ∧ jv = .int .i64 j ∧ Hid (PC w [] g 50 (S1 y (m + 1) ++ S2 (m + 1) xs j) wr)) (fun _ _ jv _ => m - (intOf jv).toNat)
      case atStart => exact ⟨0, Nat.zero_le _, rfl, P0⟩
      case round =>
        clear P0
        obtain ⟨j, hj, rfl, P⟩ := hrel
        have jb : (j : Int) ≤ 2 := by omega
        by_cases hlt2 : (j : Int) < (m : Int)
        · obtain ⟨o, ho⟩ : ∃ o, xs[j]? = some o := ⟨_, List.getElem?_eq_getElem (by have := HN.out; have := HM.out; omega)⟩
          obtain ⟨ad, rfl, hcell, hwf⟩ := (HA.out.below P.out.st.b) j o ho
          have ow := u32_wf hwf
          have Q := P.out.put 0 (m + 1 + j) o 0 0 (by unfold rightC; omega) (by omega) (by decide)
            (Or.inr (by
              rw [base0 (fun z hz => by
                rcases List.mem_append.1 hz with h | h
                · exact (S1_f h).2
                · exact (S2_f h).2)]
              decide))
            (fun ⟨z, hz, e⟩ => by
              rcases List.mem_append.1 hz with h | h
              · have := (S1_f h).1; omega
              · have := (S2_f h).1; omega)
          rw [List.append_assoc, show S2 (m + 1) xs j ++ [(⟨0, m + 1 + j, o, 0, 0⟩ : Fr)] = S2 (m + 1) xs (j + 1) by rw [S2_succ, getD_at ho]] at Q
          rw [show ((m + 1 + j : Nat) : Int) = (m : Int) + 1 + (j : Int) by omega] at Q
          generalize sB (S1 y (m + 1) ++ S2 (m + 1) xs (j + 1)) + 50 = z at *
          have Q := Lib.hid Q
          have e1 : IntKind.i64.wrap o = o := by rw [IntKind.wrap_i64]; omega
          clear ho hwf
          go_wp2_with fail
          refine Q.out.mono ?_
          rintro e w3 ⟨rfl, p3, -⟩
          have P3 := Lib.hid p3
          clear p3 Q P
          go_wp2
          go_roundw
          case rel => exact ⟨j + 1, by omega, by go_num, P3⟩
          case measure => simp only [intOf]; omega
        · obtain rfl : j = m := by omega
          have C := P.out.shut (by rw [S1_succ]; simp) 50 (by
            rw [base0 (fun z hz => by
              rcases List.mem_append.1 hz with h | h
              · exact (S1_f h).2
              · exact (S2_f h).2)]
            decide)
          rw [most] at C
          generalize pt (S1 y (j + 1) ++ S2 (j + 1) xs j) = pz at *
          generalize sS (S1 y (j + 1) ++ S2 (j + 1) xs j) = sz at *
          have C := Lib.hid C
          have e1 : IntKind.i64.wrap y = y := by rw [IntKind.wrap_i64]; have := HY.out; omega
          clear P
          go_wp2_with fail
          refine C.out.mono ?_
          rintro e w5 ⟨rfl, p5, -⟩
          have P5 := Lib.hid (p5.alloc (rbx pz sz y))
          clear p5 C
          go_upto_region 16 with (fail)
          generalize w5.alloc (rbx pz sz y) = w6 at *
          generalize w5.heap.size = q5 at *
          obtain ⟨c0, c1, c2⟩ := cells3 (P5.out.st.at 0 rfl)
          go_wp2
          go_ret
          exact ⟨rfl, P5.out.st.b⟩
set_option maxRecDepth 100000 in
/-- What the walk gives, for every argument and every world. -/
theorem contract (H : Type) (enc : TypeId × Value → H) (W : World) (base : Nat) (args : Array Value) (ds gs : List (DataW H)) (before : List MemPlace)
    (hval : ∀ (j : Nat) t v, Try.f8.params[j]? = some t → args[j]? = some v → Value.okWide Try.prog W .any base t v)
    (hW : DataW.Whole enc Try.prog Try.f8.params.toList Rows.compMostSpec.vars false W args.toList ds gs before) : 
    Calls Try.prog 8 args W fun e W' => ∃ v, e = .returned v ∧ Rows.compMostSpec.post enc Try.prog Try.f8 false true false false W args v W' := by
  have hW' := hW
  obtain ⟨p, q, hA0, hV, rfl, hfz, hnd⟩ := hW
  have hA : DataW.TrodAll enc Try.prog W 0 (fun _ => true) true Try.f8.params.toList args.toList ds p := hA0
  rw [Try.params8] at hA hval
  obtain ⟨v0, vs0, d0, ds0, p0, q0, hargs, rfl, rfl, h0, r0⟩ := trodAll_cons hA
  obtain ⟨v1, vs1, d1, ds1, p1, q1, rfl, rfl, rfl, h1, r1⟩ := trodAll_cons r0
  obtain ⟨rfl, rfl, rfl⟩ := trodAll_nil r1
  obtain rfl : args = #[v0, v1] := by cases args; simp_all
  obtain ⟨rfl, rfl⟩ := trodVars_none hV
  obtain ⟨y, rfl, rfl, rfl, w0⟩ := open_int Try.underlying29 (hval 0 29 v0 rfl rfl) h0
  obtain ⟨A1, s, c1, rfl, f1, l1, lc1, sz1, nl1⟩ := Shell.open_nums (q := .u32) Try.underlying58 Try.underlying29 (by kernel_rfl) (hval 1 58 v1 rfl rfl) h1
  refine (walk y A1 s c1 (u32_wf w0) W f1 lc1).mono fun e W' ⟨he, hb⟩ => ?_
  exact ⟨_, he, Shell.post_law laidOut (by kernel_rfl) rfl Try.underlying4 rfl hW' rfl hb⟩
theorem reads (os : Os) {H : Type} (enc : TypeId × Value → H) : ∃ places, DataW.whole enc Try.prog ((World.holding Try.prog os ⟨#[], #[], []⟩).forCall (fun _ _ => 0) ⟨#[], #[.int .u32 0, .slice none 0 0], []⟩).memory Try.f8.params.toList Rows.compMostSpec.vars false (#[Value.int .u32 0, Value.slice none 0 0]).toList 8 = some ([.lit (.int .u32 0), .nil], [], places) :=
  ⟨[], by kernel_rfl⟩
set_option maxRecDepth 100000 in
theorem lifted (os : Os) (started : os.Started) (H : Type) (enc : TypeId × Value → H) (F : Stop.Interp) :
    ReturnsInHanded {} Try.checked os 8 .any ((OpenSpec.ofChange Rows.compMostSpec).preRow enc Try.prog Try.f8 Rows.compMostRow.domain false Rows.compMostRow.laid) (((OpenSpec.ofChange Rows.compMostSpec).at F).post enc Try.prog Try.f8 false true false false) := by
  obtain ⟨places, hx⟩ := reads os enc
  refine returnsInHanded_of_row (C := Try.checked) (s := OpenSpec.ofChange Rows.compMostSpec) own started (by kernel_rfl) Try.func8
    (witness_row_atRef (enc := enc) (C := Try.checked) false (World.holding Try.prog os ⟨#[], #[], []⟩) #[.int .u32 0, .slice none 0 0] rfl (by kernel_rfl) (by kernel_rfl) (by kernel_rfl)
      (OpenSpec.preRow_of_cond 8 hx (by kernel_rfl) (fun k hk => by cases hk) (by kernel_rfl) (laid_met os _))) ?_
  intro W base args ds gs before hval hW _ _ _ hL _ _
  exact contract H enc W base args ds gs before hval hW
theorem said : Rows.CompMostSaid :=
  OpenClaim.holds_of_cond 8 Try.f8 rfl rfl rfl rfl rfl rfl rfl ⟨rfl, rfl, rfl, rfl, rfl⟩ rfl rfl rfl rfl rfl (by kernel_rfl) Try.func8 (by kernel_rfl)
    (of_decide_eq_true (by kernel_rfl)) (by unfold Func.isWrapper; first | (rw [if_pos (by decide +kernel)]; kernel_rfl) | (rw [if_neg (by decide +kernel)]; exact ⟨rfl, rfl⟩))
    (fun os started H enc _ F => by rw [OpenClaim.pre_eq_preRow]; exact lifted os started H enc F)
end Go.Proofs.Ytpjaijibkjmgiaa.CompW.CompMost
