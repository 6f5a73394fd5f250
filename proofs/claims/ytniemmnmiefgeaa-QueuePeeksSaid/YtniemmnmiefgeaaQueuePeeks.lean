/- The law QueuePeeks: what is looked at is what is popped next, and looking changes nothing: for all scripts. No condition. -/
import Derived.Test.YtniemmnmiefgeaaQueueLay
namespace Go.Proofs.Ytniemmnmiefgeaa.QueueW.QueuePeeks
open Go.ChangeShapes Go.WideShapes Go.ChangeAt Go.RowKit QueueW Shell
abbrev opBox (o : Op5) : Obj := .cells #[.int .i64 o.q, .int .i64 o.t, .int .i64 o.r, .int .i64 o.d, .int .i64 o.z] 28
theorem box {w wr : World} {K : List (Nat × Obj)} {k : Nat} {m n : Int} {v : Value} {S : List It} (h : OQI w wr K k m n v S) (ob : Obj) : OQI w (wr.alloc ob) ((wr.heap.size, ob) :: K) k m n v S := by
  have h1 := h.below (w1 := wr.alloc ob) ((Below.refl _ _).alloc (Nat.le_refl _) _)
  refine ⟨h1.q, h1.b, h1.k0, h1.o0, fun x hx => ?_⟩
  rcases List.mem_cons.1 hx with rfl | hx
  · exact ⟨heap_alloc_new _ _, fun e => by have := h.q.lt.1; omega, fun e => by have := h.q.lt.2 _ e; omega⟩
  · exact h1.keep x hx
theorem unbox {w wr : World} {x : Nat × Obj} {K : List (Nat × Obj)} {k : Nat} {m n : Int} {v : Value} {S : List It} (h : OQI w wr (x :: K) k m n v S) : OQI w wr K k m n v S := ⟨h.q, h.b, h.k0, h.o0, fun y hy => h.keep y (List.mem_cons_of_mem _ hy)⟩
/-- What the law keeps at call j. -/
structure PK (w wr : World) (k : Nat) (n : Int) (v : Value) (S : List It) (j : Nat) : Prop where
  q : OQI w wr [] k 100 n v S
  ints : Ints S
  n0 : 0 ≤ n
  n1 : n ≤ j
set_option maxHeartbeats 4000000 in
set_option maxRecDepth 100000 in
theorem walk5 (A : Option Addr) (ops : List Op5) (c : Nat) (w : World) (hA : RO w A ops) (hl : ops.length ≤ 4398046511104) :
    Calls Try.prog 7 #[.slice A ops.length c] w fun e w' => e = .returned (.bool true) ∧ Below w.heap.size w w' := by
  have HA := Lib.hid hA
  clear hA
  go_enter Try.func7, Try.ntmps7
  go_wp2_with fail
  refine (fixed_any _).mono ?_
  rintro e w1 ⟨rfl, b1⟩
  have B1 := Lib.hid b1
  clear b1
  go_wp2_with fail
  refine (newI_at (w := w) (K := []) 100 B1.out (fun x hx => (by cases hx))).mono ?_
  rintro e w2 ⟨rfl, h⟩
  have H0 := Lib.hid (show PK w w2 w1.heap.size 0 (.slice none 0 0) [] 0 from ⟨h, fun x hx => (by cases hx), Int.le_refl _, Int.le_refl _⟩)
  generalize w1.heap.size = k at *
  clear h B1
  go_wp2_with fail
  go_loopw [22] (fun iv wr => ∃ (j : Nat) (n : Int) (v : Value) (S : List It), iv = .int .i64 j ∧ j ≤ ops.length ∧ Hid (PK w wr k n v S j)) (fun iv _ => ops.length - (intOf iv).toNat)
  case atStart => exact ⟨0, 0, _, [], rfl, Nat.zero_le _, H0⟩
  case round =>
    clear H0
    obtain ⟨j, n, v, S, rfl, hj, H⟩ := hrel
    by_cases hjl : j < ops.length
    · obtain ⟨o, ho⟩ : ∃ o, ops[j]? = some o := ⟨_, List.getElem?_eq_getElem hjl⟩
      obtain ⟨b, off, rfl, a0, a1, a2, a3, a4⟩ := (HA.out.below H.out.q.b).row ho
      obtain ⟨q, t, r, d, z⟩ := o
      dsimp only at a0 a1 a2 a3 a4
      have HW := box H.out.q (opBox ⟨q, t, r, d, z⟩)
      dsimp only [opBox] at HW
      have Q0 := Lib.hid HW
      have I0 := Lib.hid H.out.ints
      have N0 := Lib.hid (show 0 ≤ n ∧ n < 4611686018427387904 from ⟨H.out.n0, by have := H.out.n1; omega⟩)
      have NJ := Lib.hid (show 0 ≤ n ∧ n ≤ (j : Int) from ⟨H.out.n0, H.out.n1⟩)
      clear HW H ho
      by_cases hq : q = 1
      · subst hq
        by_cases hs : (S.length : Int) < 100
        · go_wp2_with fail
          refine (Q0.out.len).mono ?_
          rintro e w3 ⟨rfl, h3⟩
          obtain ⟨c0, c1, c2, c3, c4⟩ := cells5 (h3.keep _ List.mem_cons_self).1
          have Q3 := Lib.hid h3
          clear h3
          go_wp2_with fail
          refine (Q3.out.push t r d z hs (by decide) N0.out).mono ?_
          rintro e w4 ⟨rfl, v4, h4⟩
          have Q4 := Lib.hid h4
          clear h4 c0 c1 c2 c3 c4
          go_wp2
          go_roundw
          case rel => exact ⟨j + 1, n + 1, v4, _, by congr 1, by omega, Lib.hid ⟨unbox Q4.out, I0.out.ins _ _ _ _ _, by have := N0.out.1; omega, by have := NJ.out.2; omega⟩⟩
          case measure => simp only [intOf]; omega
        · go_wp2_with fail
          refine (Q0.out.len).mono ?_
          rintro e w3 ⟨rfl, h3⟩
          obtain ⟨c0, c1, c2, c3, c4⟩ := cells5 (h3.keep _ List.mem_cons_self).1
          have Q3 := Lib.hid h3
          clear h3
          go_wp2_with fail
          refine (Q3.out.full t r d (.int .i64 z) (by omega)).mono ?_
          rintro e w4 ⟨rfl, h4⟩
          have Q4 := Lib.hid h4
          clear h4 c0 c1 c2 c3 c4
          go_wp2
          go_roundw
          case rel => exact ⟨j + 1, n, v, _, by congr 1, by omega, Lib.hid ⟨unbox Q4.out, I0.out, NJ.out.1, by have := NJ.out.2; omega⟩⟩
          case measure => simp only [intOf]; omega
      · have eq : (q == 1) = false := by simpa using hq
        match S, I0, Q0 with
        | [], I0, Q0 =>
          go_wp2_with fail
          refine (Q0.out.len).mono ?_
          rintro e w3 ⟨rfl, h3⟩
          obtain ⟨c0, c1, c2, c3, c4⟩ := cells5 (h3.keep _ List.mem_cons_self).1
          have Q3 := Lib.hid h3
          clear h3 Q0
          go_wp2_with fail
          refine (Q3.out.peek0).mono ?_
          rintro e w4 ⟨rfl, h4⟩
          have Q4 := Lib.hid h4
          clear h4 Q3 c0 c1 c2 c3 c4
          go_wp2_with fail
          refine (Q4.out.peek0).mono ?_
          rintro e w5 ⟨rfl, h5⟩
          have Q5 := Lib.hid h5
          clear h5 Q4
          go_wp2_with fail
          refine (Q5.out.len).mono ?_
          rintro e w6 ⟨rfl, h6⟩
          have Q6 := Lib.hid h6
          clear h6 Q5
          go_wp2_with fail
          refine (Q6.out.pop0).mono ?_
          rintro e w7 ⟨rfl, h7⟩
          have Q7 := Lib.hid h7
          clear h7 Q6
          go_wp2_with fail
          go_roundw
          case rel => exact ⟨j + 1, n, v, _, by congr 1, by omega, Lib.hid ⟨unbox Q7.out, I0.out, NJ.out.1, by have := NJ.out.2; omega⟩⟩
          case measure => simp only [intOf]; omega
        | x :: S, I0, Q0 =>
          have hx := I0.out x List.mem_cons_self
          have few : S.length ≤ 65536 := by have := Q0.out.q.few; rw [List.length_cons] at this; omega
          have I1 := Lib.hid (show Ints S from fun y hy => I0.out y (List.mem_cons_of_mem _ hy))
          go_wp2_with fail
          refine (Q0.out.len).mono ?_
          rintro e w3 ⟨rfl, h3⟩
          obtain ⟨c0, c1, c2, c3, c4⟩ := cells5 (h3.keep _ List.mem_cons_self).1
          have Q3 := Lib.hid h3
          clear h3 Q0
          go_wp2_with fail
          refine (Q3.out.peek).mono ?_
          rintro e w4 ⟨rfl, h4⟩
          rw [hx]
          have Q4 := Lib.hid h4
          clear h4 Q3 c0 c1 c2 c3 c4
          go_wp2_with fail
          refine (Q4.out.peek).mono ?_
          rintro e w5 ⟨rfl, h5⟩
          rw [hx]
          have Q5 := Lib.hid h5
          clear h5 Q4
          go_wp2_with fail
          refine (Q5.out.len).mono ?_
          rintro e w6 ⟨rfl, h6⟩
          have Q6 := Lib.hid h6
          clear h6 Q5
          go_wp2_with fail
          refine (Q6.out.pop).mono ?_
          rintro e w7 ⟨rfl, v7, h7⟩
          rw [hx]
          have Q7 := Lib.hid h7
          clear h7 Q6
          go_wp2_with fail
          refine (Q7.out.len).mono ?_
          rintro e w8 ⟨rfl, h8⟩
          have Q8 := Lib.hid h8
          clear h8 Q7
          go_wp2
          go_roundw
          case rel => exact ⟨j + 1, n, v7, _, by congr 1, by omega, Lib.hid ⟨unbox Q8.out, I1.out, NJ.out.1, by have := NJ.out.2; omega⟩⟩
          case measure => simp only [intOf]; omega
    · have hj' : ¬ (j : Int) < (ops.length : Int) := by omega
      go_wp2
      go_ret
      exact ⟨rfl, H.out.q.b⟩
theorem walk (A : Option Addr) (ops : List (List Int)) (c : Nat) (w : World) (hA : RL w [.i64, .i64, .i64, .i64, .i64] A ops) (hl : ops.length ≤ 4398046511104) :
    Calls Try.prog 7 #[.slice A ops.length c] w fun e w' => e = .returned (.bool true) ∧ Below w.heap.size w w' := by
  obtain ⟨l, rfl, h⟩ := RO.of hA
  rw [List.length_map] at hl ⊢
  exact walk5 A l c w h hl
set_option maxRecDepth 100000 in
/-- What the walk gives, for every argument and every world. -/
theorem contract (H : Type) (enc : TypeId × Value → H) (W : World) (base : Nat) (args : Array Value) (ds gs : List (DataW H)) (before : List MemPlace)
    (hval : ∀ (j : Nat) t v, Try.f7.params[j]? = some t → args[j]? = some v → Value.okWide Try.prog W .any base t v)
    (hW : DataW.Whole enc Try.prog Try.f7.params.toList Rows.queuePeeksSpec.vars false W args.toList ds gs before) (hz : (DataW.weightsEach Try.prog (Try.f7.params.toList ++ (OpenSpec.ofChange Rows.queuePeeksSpec).bare.plain.varTypes Try.prog) (ds ++ gs)).all (· ≤ reachBytes) = true) : 
    Calls Try.prog 7 args W fun e W' => ∃ v, e = .returned v ∧ Rows.queuePeeksSpec.post enc Try.prog Try.f7 false true false false W args v W' := by
  have hW' := hW
  obtain ⟨p, q, hA0, hV, rfl, hfz, hnd⟩ := hW
  have hA : DataW.TrodAll enc Try.prog W 0 (fun _ => true) true Try.f7.params.toList args.toList ds p := hA0
  rw [Try.params7] at hA hval
  obtain ⟨v0, vs0, d0, ds0, p0, q0, hargs, rfl, rfl, h0, r0⟩ := trodAll_cons hA
  obtain ⟨rfl, rfl, rfl⟩ := trodAll_nil r0
  obtain rfl : args = #[v0] := by cases args; simp_all
  obtain ⟨rfl, rfl⟩ := trodVars_none hV
  obtain ⟨A0, ops, c0, rfl, f0, l0, lc0, sz0, nl0⟩ := open_rows (qs := [.i64, .i64, .i64, .i64, .i64]) Try.underlying22 Try.underlying28 (by kernel_rfl) rfl (fun i f q hf hq => by
    match i, hf, hq with
    | 0, hf, hq => simp at hf hq; subst hf; subst hq; exact ⟨rfl, by kernel_rfl, Try.underlying3⟩
    | 1, hf, hq => simp at hf hq; subst hf; subst hq; exact ⟨rfl, by kernel_rfl, Try.underlying2⟩
    | 2, hf, hq => simp at hf hq; subst hf; subst hq; exact ⟨rfl, by kernel_rfl, Try.underlying2⟩
    | 3, hf, hq => simp at hf hq; subst hf; subst hq; exact ⟨rfl, by kernel_rfl, Try.underlying2⟩
    | 4, hf, hq => simp at hf hq; subst hf; subst hq; exact ⟨rfl, by kernel_rfl, Try.underlying3⟩
    | n + 5, hf, hq => simp at hq) (hval 0 22 v0 rfl rfl) h0
  have z0 : ops.length * 40 ≤ 140737488351232 := by
    rcases sz0 with h | ⟨es, sp, hd, hl⟩
    · rw [h]; decide
    · have := sized_slice hz (j := 0) (t := 22) (e := 28) (elems := es) (spare := sp) (by rw [Try.params7]; rfl) (by rw [hd]; rfl) Try.underlying22
      rw [show Try.prog.bytesOf 28 = 40 by kernel_rfl, show reachBytes = 140737488351232 from rfl] at this
      omega
  refine (walk A0 ops c0 W f0 (by omega)).mono fun e W' ⟨he, hb⟩ => ?_
  exact ⟨_, he, Shell.post_law laidOut (by kernel_rfl) rfl Try.underlying4 rfl hW' rfl hb⟩
theorem reads (os : Os) {H : Type} (enc : TypeId × Value → H) : ∃ places, DataW.whole enc Try.prog ((World.holding Try.prog os ⟨#[], #[], []⟩).forCall (fun _ _ => 0) ⟨#[], #[.slice none 0 0], []⟩).memory Try.f7.params.toList Rows.queuePeeksSpec.vars false (#[Value.slice none 0 0]).toList 8 = some ([.nil], [], places) :=
  ⟨[], by kernel_rfl⟩
set_option maxRecDepth 100000 in
theorem lifted (os : Os) (started : os.Started) (H : Type) (enc : TypeId × Value → H) (F : Stop.Interp) :
    ReturnsInHanded {} Try.checked os 7 .any ((OpenSpec.ofChange Rows.queuePeeksSpec).preRow enc Try.prog Try.f7 Rows.queuePeeksRow.domain false Rows.queuePeeksRow.laid) (((OpenSpec.ofChange Rows.queuePeeksSpec).at F).post enc Try.prog Try.f7 false true false false) := by
  obtain ⟨places, hx⟩ := reads os enc
  refine returnsInHanded_of_row (C := Try.checked) (s := OpenSpec.ofChange Rows.queuePeeksSpec) own started (by kernel_rfl) Try.func7
    (witness_row_atRef (enc := enc) (C := Try.checked) false (World.holding Try.prog os ⟨#[], #[], []⟩) #[.slice none 0 0] rfl (by kernel_rfl) (by kernel_rfl) (by kernel_rfl)
      (OpenSpec.preRow_of_cond 8 hx (by kernel_rfl) (fun k hk => by cases hk) (by kernel_rfl) (laid_met os _))) ?_
  intro W base args ds gs before hval hW _ _ hz hL _ _
  exact contract H enc W base args ds gs before hval hW hz
theorem said : Rows.QueuePeeksSaid :=
  OpenClaim.holds_of_cond 7 Try.f7 rfl rfl rfl rfl rfl rfl rfl ⟨rfl, rfl, rfl, rfl, rfl⟩ rfl rfl rfl rfl rfl (by kernel_rfl) Try.func7 (by kernel_rfl)
    (of_decide_eq_true (by kernel_rfl)) (by unfold Func.isWrapper; first | (rw [if_pos (by decide +kernel)]; kernel_rfl) | (rw [if_neg (by decide +kernel)]; exact ⟨rfl, rfl⟩))
    (fun os started H enc _ F => by rw [OpenClaim.pre_eq_preRow]; exact lifted os started H enc F)
end Go.Proofs.Ytniemmnmiefgeaa.QueueW.QueuePeeks
