/- The point of a collection. -/
import Derived.Test.YtpjaijibkjmgiaaCompD
namespace Go.Proofs.Ytpjaijibkjmgiaa.CompW
open Go.RowKit Shell
open CrewW (only has of has_any of_any mem mem_len memTo_range members_any)
open MeanW (halfAt tolK ansM ansM_some tolerant_any)
theorem i64_one : One Try.prog 49 2 .i64 8 := ⟨Try.underlying49, by
  have h : (Try.prog.info? 2).map (fun i => (i.zero, i.size, i.bytes)) = some (some (.int .i64 0), 1, 8) := by kernel_rfl
  revert h
  cases Try.prog.info? 2 with
  | none => intro h; cases h
  | some i =>
    intro h
    simp only [Option.map_some, Option.some.injEq, Prod.mk.injEq] at h
    exact ⟨i, rfl, h.1, h.2.1, h.2.2⟩⟩
theorem i64_in {x : Int} (h0 : -4611686018427387904 ≤ x) (h1 : x < 4611686018427387904) : (Lit.int .i64 x).wf = true := by
  simp [Lit.wf]
  exact ⟨(by show -9223372036854775808 ≤ x; omega), (by show x ≤ 9223372036854775807; omega)⟩
theorem cl_one (w : World) (x : Int) (h0 : -4611686018427387904 ≤ x) (h1 : x < 4611686018427387904) (t : TypeId) : CL (w.alloc (.cells #[.int .i64 x] t)) .i64 (some ⟨w.heap.size, 0, none⟩) [x] :=
  new_cl w .i64 [x] t (Wf.one (i64_in h0 h1))
theorem cl_il {w : World} {A : Option Addr} {xs : List Int} (h : CL w .i64 A xs) : TickW.IL w A xs := by
  intro k x hx
  obtain ⟨a, ha, hc, hw⟩ := h k x hx
  simp [Lit.wf] at hw
  have hw : -9223372036854775808 ≤ x ∧ x ≤ 9223372036854775807 := hw
  exact ⟨a, ha, hc, hw⟩
set_option maxHeartbeats 2000000 in
theorem point_any (b : Int) (s : Nat) (R C : Nat → Int) (hs : s < 64) (hR : ∀ k, 0 ≤ R k ∧ R k ≤ 1048576) (hp : 0 < (mem s).length)
    (hw : IntKind.i64.wrap (b + halfAt (row s R) (tolK (row s R))) = b + halfAt (row s R) (tolK (row s R))) (w : World) :
    Calls Try.prog 26 #[GV b s R C] w fun e w' => e = .returned (.int .i64 (b + halfAt (row s R) (tolK (row s R)))) ∧ Below w.heap.size w w' := by
  have HM := Lib.hid (fun W => members_any s W (by omega))
  have HG := Lib.hid (fun i x (h : (mem s)[i]? = some x) => row_get (R := R) h)
  have HL := Lib.hid (row_len s R)
  have HW := Lib.hid hw
  have HR := Lib.hid hR
  have h6 := mem_len s
  clear hw hR
  have X := (Stay.start w).alloc (gbx b s R C)
  have X := Lib.hid X
  go_enter Try.func26, Try.ntmps26
  go_upto_region 2 with (fail)
  generalize w.alloc (gbx b s R C) = W at *
  generalize w.heap.size = g0 at *
  obtain ⟨a0, a1, a2, a3, a4, a5, a6, a7, a8, a9, a10, a11, a12, a13⟩ := cells14 (X.out.at 0 rfl)
  go_wp2_with (go_at_call 33; refine (HM.out _).mono ?_; rintro e w1 ⟨v, rfl, o1, b1⟩; obtain ⟨A, d, rfl, hcl, -⟩ := o1.form; have X1 := Lib.hid (X.out.next b1); have H := Lib.hid hcl; clear o1 b1 hcl)
  clear a0 a1 a2 a3 a4 a5 a6 a7 a8 a9 a10 a11 a12 a13 HM X
  obtain ⟨cs, hcs⟩ : ∃ cs, row s R = cs := ⟨_, rfl⟩
  rw [hcs] at HL HW
  have HG := Lib.hid (fun i x h => hcs ▸ HG.out i x h)
  have HCS := Lib.hid hcs
  clear hcs
  generalize mem s = ms at *
  obtain ⟨n, hn⟩ : ∃ n, ms.length = n := ⟨_, rfl⟩
  rw [hn] at HL h6 hp ⊢
  have HN := Lib.hid hn
  have H6 := Lib.hid h6
  have HP := Lib.hid hp
  clear hn h6 hp
  go_loopw [3, 12] (fun lv iv wr => ∃ (i : Nat), i ≤ n ∧ iv = .int .i64 i ∧ Hid (OR wr w1.heap.size 2 .i64 lv (cs.take i)) ∧ Hid (Below w1.heap.size w1 wr)) (fun _ iv _ => n - (intOf iv).toNat)
  case atStart => exact ⟨0, Nat.zero_le _, rfl, Lib.hid (OR.nil _ _ _ _), Lib.hid (Below.refl _ _)⟩
  case round =>
    obtain ⟨i, hi, rfl, HO, HB⟩ := hrel
    have n6 := H6.out
    have ib : (i : Int) ≤ 6 := by omega
    obtain ⟨A2, d2, rfl, hcl, hlc, -⟩ := HO.out.form
    by_cases hlt : (i : Int) < (n : Int)
    · obtain ⟨x, hx⟩ : ∃ x, ms[i]? = some x := ⟨_, List.getElem?_eq_getElem (by have := HN.out; omega)⟩
      obtain ⟨ad, rfl, hcell, _⟩ := (H.out.below HB.out) i x hx
      obtain ⟨k, rfl, hk, hr⟩ := HG.out i x hx
      have X2 := Lib.hid (X1.out.next HB.out)
      have hc := (at_host (X2.out.at 0 rfl) k hk).1
      have k1 : (k : Int) < 6 := by omega
      have HT := Lib.hid (show cs.take (i + 1) = cs.take i ++ [R k] by rw [List.take_add_one, hr]; rfl)
      have hl2 : (cs.take i).length = i := by rw [List.length_take]; have := HL.out; omega
      have HZ := Lib.hid (HR.out k)
      clear hx hr hcl hlc
      generalize R k = z at *
      generalize cs.take i = L at *
      rw [hl2] at HO ⊢
      have HL2 := Lib.hid hl2
      clear hl2
      go_wp2_with (at_builtin; refine wpList_append_or i64_one _ rfl _ _ rfl w1.heap.size _ _ rfl (HO.out.alloc _) (some ⟨wr.heap.size, 0, none⟩) 1 1 [z] rfl rfl ?c1 (fun h => by cases h) ?c2 (by decide) ?c3 ?_)
      case c1 => exact cl_one _ _ (by have := HZ.out; omega) (by have := HZ.out; omega) _
      case c2 => have := HL2.out; omega
      case c3 => rw [World.size_alloc]; have := HB.out.size; omega
      intro v2 w2 o2 s2
      have HO2 := Lib.hid (show OR w2 w1.heap.size 2 .i64 v2 (cs.take (i + 1)) by rw [HT.out]; exact o2)
      have HB2 := Lib.hid (HB.out.trans (((Step.alloc _ _ _).trans s2).below HO.out HB.out.size))
      clear o2 s2
      go_wp2
      go_roundw
      case rel => exact ⟨i + 1, by omega, by go_num, HO2, HB2⟩
      case measure => simp only [intOf]; omega
    · obtain rfl : i = n := by omega
      have e := HL.out
      rw [List.take_of_length_le (by omega)] at hcl hlc HO ⊢
      have T := tolerant_any A2 d2 cs wr (cl_il hcl) (by omega)
      rw [ansM_some (by have := HP.out; omega)] at T
      have T := Lib.hid T
      have X2 := Lib.hid (X1.out.next HB.out)
      obtain ⟨m, hm⟩ : ∃ m, cs.length = m := ⟨_, rfl⟩
      rw [hm] at T ⊢
      have e5 := HW.out
      generalize hz : halfAt cs (tolK cs) = z at *
      have HZ := Lib.hid hz
      clear e hcl hlc hm hz
      go_wp2_with (go_at_call 34; refine T.out.mono ?_; rintro e w3 ⟨rfl, b3⟩; have X3 := Lib.hid (X2.out.next b3); obtain ⟨a0, a1, a2, a3, a4, a5, a6, a7, a8, a9, a10, a11, a12, a13⟩ := cells14 (X3.out.at 0 rfl); clear b3)
      go_ret
      exact ⟨by rw [HCS.out, HZ.out]; rfl, X3.out.b⟩
end Go.Proofs.Ytpjaijibkjmgiaa.CompW
