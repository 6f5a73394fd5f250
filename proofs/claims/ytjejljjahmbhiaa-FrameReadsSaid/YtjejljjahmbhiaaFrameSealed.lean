/- tocsinlaw06.FrameSealed. -/
import Derived.Test.YtjejljjahmbhiaaFrameO
import Derived.Test.YtjejljjahmbhiaaFrameR
namespace Go.Proofs.Ytjejljjahmbhiaa.FrameW.FrameSealed
open Go.ChangeShapes Go.WideShapes Go.ChangeAt Go.RowKit Shell
theorem refReadControl_row {w : World} {base : Nat} {A : Option Addr} {m c : Nat} {xs : List Int} (h : OB w base (.slice A m c) xs) (hl : xs.length ≤ 9223372036854775807) :
    Calls Try.prog 21 #[.slice A m c] w fun e w' => e = .returned (.tuple #[rcV xs, .int .i64 (rcE xs)]) ∧ Below w.heap.size w w' := by
  obtain ⟨A', m', c', hv, hm, hb, hc⟩ := h.form2
  cases hv
  subst hm
  exact refReadControl_any _ _ xs w hb hl hc
theorem refReadData_row {w : World} {base : Nat} {A : Option Addr} {m c : Nat} {xs : List Int} (h : OB w base (.slice A m c) xs) (hl : xs.length ≤ 9223372036854775807) :
    Calls Try.prog 22 #[.slice A m c] w fun e w' => e = .returned (.tuple #[rdV xs, .int .i64 (rdE xs)]) ∧ Below w.heap.size w w' := by
  obtain ⟨A', m', c', hv, hm, hb, hc⟩ := h.form2
  cases hv
  subst hm
  exact refReadData_any _ _ xs w hb hl hc
theorem rc_sealed (l : List Int) : rcE (sealed l) ≠ 8 := by
  by_cases o : okC (sealed l)
  · rw [(rc_ok o).1]; decide
  · by_cases hk : chk (sealed l) 1 34 34 = 0
    · rw [(rc_bad hk o).1]; decide
    · rw [(rc_no hk).1]
      unfold chk
      split
      · decide
      · rw [if_neg (fun h => h (sealed_sum l))]; decide
theorem rd_sealed (l : List Int) : rdE (sealed l) ≠ 8 := by
  by_cases o : okD (sealed l)
  · rw [(rd_ok o).1]; decide
  · by_cases hk : chk (sealed l) 2 64 1518 = 0
    · rw [(rd_bad hk o).1]; decide
    · rw [(rd_no hk).1]
      unfold chk
      split
      · decide
      · rw [if_neg (fun h => h (sealed_sum l))]; decide
set_option maxHeartbeats 8000000 in
theorem walk (A : Option Addr) (xs : List Int) (c : Nat) (w : World) (hf : BL w A xs) (_hc : xs.length ≤ c) (hn : A = none → c = 0) (hl : xs.length ≤ 140737488351232) :
    Calls Try.prog 6 #[.slice A xs.length c] w fun e w' => e = .returned (.bool true) ∧ Below w.heap.size w w' := by
  have HX := Lib.hid (show ∀ W, Calls Try.prog 11 #[] W fun e w' => e = .returned (.bool true) ∧ Below W.heap.size W w' from fixed_any)
  have HF := Lib.hid hf
  have HL := Lib.hid hl
  clear hf hl
  go_enter Try.func6, Try.ntmps6
  go_wp2_with fail
  refine (HX.out _).mono ?_
  rintro e w1 ⟨rfl, b1⟩
  have F1 := Lib.hid (HF.out.below b1)
  have B1 := Lib.hid b1
  clear b1
  go_wp2_with fail
  refine (refSum_any A c xs w1 F1.out (by have := HL.out; omega)).mono ?_
  rintro e w2 ⟨rfl, hw⟩
  obtain rfl := hw.symm
  have hs := crc_lt xs
  have HS := Lib.hid (show sealed xs = xs ++ be 4 (crc xs) from rfl)
  obtain ⟨s, hse⟩ : ∃ s, s = crc xs := ⟨_, rfl⟩
  rw [← hse] at hs HS ⊢
  clear hse
  have HN := Lib.hid hn
  have HSB := Lib.hid hs
  have hb4 := be4 s
  have HB4 := Lib.hid hb4
  clear hn hs hb4
  have HEO := Lib.hid (empty_ob w1 (base := w.heap.size) B1.out.size)
  go_wp2_with (at_builtin; refine wpList_append_any _ rfl _ _ rfl w.heap.size _ [] rfl HEO.out A xs.length c xs rfl rfl (F1.out.below (al (Below.refl _ _) _)) HN.out ?c1 ?c2 ?_)
  case c1 => have := HL.out; simp; omega
  case c2 => rw [World.size_alloc]; have := B1.out.size; omega
  intro v3 w3 o3 s3
  have B3 := Lib.hid ((B1.out.alloc B1.out.size _).trans (s3.below HEO.out (by rw [World.size_alloc]; have := B1.out.size; omega)))
  obtain ⟨A3, m3, d3, rfl, hm3, -, -⟩ := o3.form2
  have O3 := Lib.hid o3
  have HM3 := Lib.hid hm3
  have HO3 := Lib.hid s3
  clear o3 s3 hm3
  have n1 := HSB.out
  have hys : [(s : Int) / 16777216, (s : Int) / 65536 % 256, (s : Int) / 256 % 256, (s : Int) % 256] = be 4 s := by
    rw [HB4.out]
    congr 1
    · omega
  have hyb : By [(s : Int) / 16777216, (s : Int) / 65536 % 256, (s : Int) / 256 % 256, (s : Int) % 256] := by rw [hys]; exact be_by _ _
  have HYS := Lib.hid hys
  have HYB := Lib.hid hyb
  clear hys hyb
  go_wp2_with (at_builtin; refine wpList_append_any _ rfl _ _ rfl w.heap.size _ _ rfl (O3.out.alloc _) (some ⟨w3.heap.size, 0, none⟩) 4 4 _ rfl rfl (four_bl w3 _ _ _ _ HYB.out _) (fun h => by cases h) ?c1 ?c2 ?_)
  case c1 => have := HL.out; omega
  case c2 => rw [World.size_alloc]; have := B3.out.size; omega
  intro v4 w4 o4 s4
  rw [HYS.out, ← HS.out] at o4
  have B4 := Lib.hid ((B3.out.alloc B3.out.size _).trans (s4.below (O3.out.alloc _) (by rw [World.size_alloc]; have := B3.out.size; omega)))
  obtain ⟨A4, m4, d4, rfl, hm4, hb4, hc4⟩ := o4.form2
  have O4 := Lib.hid o4
  have HSL := Lib.hid (show (sealed xs).length ≤ 9223372036854775807 by rw [sealed_len]; have := HL.out; omega)
  have HRC := Lib.hid (rc_sealed xs)
  have HRD := Lib.hid (rd_sealed xs)
  clear o4 s4 hm4 hb4 hc4 n1 O3 HO3 HM3 HYS HYB HEO HB4 HSB F1 B1 HF HS
  obtain ⟨k, f, cy, cr, cl, hV⟩ := rcv_form (sealed xs)
  obtain ⟨q, l, n, p, u, hD⟩ := rdv_form (sealed xs)
  have HV := Lib.hid hV
  have HD := Lib.hid hD
  clear hV hD
  obtain ⟨L, hL⟩ : ∃ L, L = sealed xs := ⟨_, rfl⟩
  rw [← hL] at O4 HSL HRC HRD HV HD
  clear hL
  go_wp2_with fail
  refine (readControl_row O4.out HSL.out).mono ?_
  rw [HV.out]
  rintro e w5 ⟨rfl, b5⟩
  have O5 := Lib.hid (O4.out.below b5)
  have B5 := Lib.hid (B4.out.trans (b5.mono B4.out.size))
  clear b5 O4 B4
  go_wp2_with fail
  have X5 := heap_alloc_new w5 (cbox k f cy cr cl)
  have b6 := al (Below.refl w5.heap.size w5) (cbox k f cy cr cl)
  generalize w5.heap.size = g5 at X5 ⊢
  have O6 := Lib.hid (O5.out.below b6)
  have B6 := Lib.hid (B5.out.trans (b6.mono B5.out.size))
  generalize w5.alloc (cbox k f cy cr cl) = w6 at *
  have X6 := Lib.hid X5
  clear b6 O5 B5 X5
  refine (readData_row O6.out HSL.out).mono ?_
  rw [HD.out]
  rintro e w7 ⟨rfl, b7⟩
  have O7 := Lib.hid (O6.out.below b7)
  have B7 := Lib.hid (B6.out.trans (b7.mono B6.out.size))
  have X7 := Lib.hid (row_below b7 X6.out)
  clear b7 O6 B6 X6
  go_wp2_with fail
  have Y7 := heap_alloc_new w7 (dbox q l n p u)
  have b8 := al (Below.refl w7.heap.size w7) (dbox q l n p u)
  generalize w7.heap.size = g7 at Y7 ⊢
  have O8 := Lib.hid (O7.out.below b8)
  have B8 := Lib.hid (B7.out.trans (b8.mono B7.out.size))
  have X8 := Lib.hid (row_below b8 X7.out)
  generalize w7.alloc (dbox q l n p u) = w8 at *
  have Y8 := Lib.hid Y7
  clear b8 O7 B7 X7 Y7
  refine (refReadControl_row O8.out HSL.out).mono ?_
  rw [HV.out]
  rintro e w9 ⟨rfl, b9⟩
  have O9 := Lib.hid (O8.out.below b9)
  have B9 := Lib.hid (B8.out.trans (b9.mono B8.out.size))
  have X9 := Lib.hid (row_below b9 X8.out)
  have Y9 := Lib.hid (row_below b9 Y8.out)
  clear b9 O8 B8 X8 Y8
  go_wp2_with fail
  have Z9 := heap_alloc_new w9 (cbox k f cy cr cl)
  have b10 := al (Below.refl w9.heap.size w9) (cbox k f cy cr cl)
  generalize w9.heap.size = g9 at Z9 ⊢
  have O10 := Lib.hid (O9.out.below b10)
  have B10 := Lib.hid (B9.out.trans (b10.mono B9.out.size))
  have X10 := Lib.hid (row_below b10 X9.out)
  have Y10 := Lib.hid (row_below b10 Y9.out)
  generalize w9.alloc (cbox k f cy cr cl) = w10 at *
  have Z10 := Lib.hid Z9
  clear b10 O9 B9 X9 Y9 Z9
  refine (refReadData_row O10.out HSL.out).mono ?_
  rw [HD.out]
  rintro e w11 ⟨rfl, b11⟩
  have B11 := Lib.hid (B10.out.trans (b11.mono B10.out.size))
  have b12 := al (Below.refl w11.heap.size w11) (dbox q l n p u)
  obtain ⟨c0, c1, c2, c3, c4⟩ := cells5 (row_below b12 (row_below b11 X10.out))
  obtain ⟨d0, d1, d2, d3, d4⟩ := cells5 (row_below b12 (row_below b11 Y10.out))
  obtain ⟨e0, e1, e2, e3, e4⟩ := cells5 (row_below b12 (row_below b11 Z10.out))
  clear b11 b12 O10 B10 X10 Y10 Z10
  have n8 := HRC.out
  have n9 := HRD.out
  generalize rcE L = E at *
  generalize rdE L = D at *
  have n8b : (E != 8) = true := by simp [n8]
  have n9b : (D != 8) = true := by simp [n9]
  have q1 := eql_ctl k f cy cr cl
  have q2 := eql_dat q l n p u
  have q3 := guardC
  have q4 := guardD
  clear n8 n9
  go_wp2
  go_ret
  exact ⟨rfl, B11.out.alloc B11.out.size _⟩
set_option maxRecDepth 100000 in
/-- What the walk gives, for every argument and every world. -/
theorem contract (H : Type) (enc : TypeId × Value → H) (W : World) (base : Nat) (args : Array Value) (ds gs : List (DataW H)) (before : List MemPlace)
    (hval : ∀ (j : Nat) t v, Try.f6.params[j]? = some t → args[j]? = some v → Value.okWide Try.prog W .any base t v)
    (hW : DataW.Whole enc Try.prog Try.f6.params.toList Rows.frameSealedSpec.vars false W args.toList ds gs before) (hz : (DataW.weightsEach Try.prog (Try.f6.params.toList ++ (OpenSpec.ofChange Rows.frameSealedSpec).bare.plain.varTypes Try.prog) (ds ++ gs)).all (· ≤ reachBytes) = true) : 
    Calls Try.prog 6 args W fun e W' => ∃ v, e = .returned v ∧ Rows.frameSealedSpec.post enc Try.prog Try.f6 false true false false W args v W' := by
  have hW' := hW
  obtain ⟨p, q, hA0, hV, rfl, hfz, hnd⟩ := hW
  have hA : DataW.TrodAll enc Try.prog W 0 (fun _ => true) true Try.f6.params.toList args.toList ds p := hA0
  rw [Try.params6] at hA hval
  obtain ⟨v0, vs0, d0, ds0, p0, q0, hargs, rfl, rfl, h0, r0⟩ := trodAll_cons hA
  obtain ⟨rfl, rfl, rfl⟩ := trodAll_nil r0
  obtain rfl : args = #[v0] := by cases args; simp_all
  obtain ⟨rfl, rfl⟩ := trodVars_none hV
  obtain ⟨A0, b, c0, rfl, f0, l0, lc0, sz0, nl0⟩ := open_bytes (hval 0 26 v0 rfl rfl) h0
  have z0 : b.length * 1 ≤ 140737488351232 := by
    rcases sz0 with h | ⟨es, sp, hd, hl⟩
    · rw [h]; decide
    · have := sized_slice hz (j := 0) (t := 26) (e := 5) (elems := es) (spare := sp) (by rw [Try.params6]; rfl) (by rw [hd]; rfl) Try.underlying26
      rw [show Try.prog.bytesOf 5 = 1 by kernel_rfl, show reachBytes = 140737488351232 from rfl] at this
      omega
  refine (walk A0 b c0 W f0 lc0 nl0 (by omega)).mono fun e W' ⟨he, hb⟩ => ?_
  exact ⟨_, he, Shell.post_law laidOut (by kernel_rfl) rfl Try.underlying4 rfl hW' rfl hb⟩
theorem reads (os : Os) {H : Type} (enc : TypeId × Value → H) : ∃ places, DataW.whole enc Try.prog ((World.holding Try.prog os ⟨#[], #[], []⟩).forCall (fun _ _ => 0) ⟨#[], #[.slice none 0 0], []⟩).memory Try.f6.params.toList Rows.frameSealedSpec.vars false (#[Value.slice none 0 0]).toList 8 = some ([.nil], [], places) :=
  ⟨[], by kernel_rfl⟩
set_option maxRecDepth 100000 in
theorem lifted (os : Os) (started : os.Started) (H : Type) (enc : TypeId × Value → H) (F : Stop.Interp) :
    ReturnsInHanded {} Try.checked os 6 .any ((OpenSpec.ofChange Rows.frameSealedSpec).preRow enc Try.prog Try.f6 Rows.frameSealedRow.domain false Rows.frameSealedRow.laid) (((OpenSpec.ofChange Rows.frameSealedSpec).at F).post enc Try.prog Try.f6 false true false false) := by
  obtain ⟨places, hx⟩ := reads os enc
  refine returnsInHanded_of_row (C := Try.checked) (s := OpenSpec.ofChange Rows.frameSealedSpec) own started (by kernel_rfl) Try.func6
    (witness_row_atRef (enc := enc) (C := Try.checked) false (World.holding Try.prog os ⟨#[], #[], []⟩) #[.slice none 0 0] rfl (by kernel_rfl) (by kernel_rfl) (by kernel_rfl)
      (OpenSpec.preRow_of_cond 8 hx (by kernel_rfl) (fun k hk => by cases hk) (by kernel_rfl) (laid_met os _))) ?_
  intro W base args ds gs before hval hW _ _ hz hL _ _
  exact contract H enc W base args ds gs before hval hW hz
theorem said : Rows.FrameSealedSaid :=
  OpenClaim.holds_of_cond 6 Try.f6 rfl rfl rfl rfl rfl rfl rfl ⟨rfl, rfl, rfl, rfl, rfl⟩ rfl rfl rfl rfl rfl (by kernel_rfl) Try.func6 (by kernel_rfl)
    (of_decide_eq_true (by kernel_rfl)) (by unfold Func.isWrapper; first | (rw [if_pos (by decide +kernel)]; kernel_rfl) | (rw [if_neg (by decide +kernel)]; exact ⟨rfl, rfl⟩))
    (fun os started H enc _ F => by rw [OpenClaim.pre_eq_preRow]; exact lifted os started H enc F)
end Go.Proofs.Ytjejljjahmbhiaa.FrameW.FrameSealed
