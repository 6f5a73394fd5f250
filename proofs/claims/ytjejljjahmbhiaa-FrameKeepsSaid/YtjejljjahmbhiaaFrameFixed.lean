/- The chapter's examples. -/
import Derived.Test.YtjejljjahmbhiaaFrameT
namespace Go.Proofs.Ytjejljjahmbhiaa.FrameW
open Go.RowKit
theorem rc_ctl {k f cy cr cl : Int} (h : rightC k f cy cr cl) : rcE (ctl k f cy cr cl) = 0 ∧ rcV (ctl k f cy cr cl) = CV k f cy cr cl := by
  obtain ⟨o, e1, e2, e3, e4, e5⟩ := ctl_read h
  obtain ⟨r1, r2⟩ := rc_ok o
  exact ⟨r1, by rw [r2, e1, e2, e3, e4, e5]⟩
theorem rd_dat {c l n : Int} {p : ByteArray} {s : Int} (h : rightD c l n (bs p) s) : rdE (dat c l n (bs p) s) = 0 ∧ rdV (dat c l n (bs p) s) = DV c l n p s := by
  obtain ⟨o, e1, e2, e3, e4, e5⟩ := dat_read (bs_by p) h
  obtain ⟨r1, r2⟩ := rd_ok o
  exact ⟨r1, by rw [r2, e1, e2, e3, e4, e5, str_bs]⟩
theorem wh_ctl {k f cy cr cl : Int} (h : rightC k f cy cr cl) : wh (ctl k f cy cr cl) = 1 := (chk_ok.1 (ctl_read h).1.1).2.2.1
theorem wh_dat {c l n : Int} {p : List Int} {s : Int} (hp : By p) (h : rightD c l n p s) : wh (dat c l n p s) = 2 := (chk_ok.1 (dat_read hp h).1.1).2.2.1
theorem OB.form2 {w : World} {base : Nat} {v : Value} {xs : List Int} (h : OB w base v xs) : ∃ A m c, v = .slice A m c ∧ m = xs.length ∧ BL w A xs ∧ m ≤ c := by
  obtain ⟨A, c, hv, hb, hc, -⟩ := h.form
  exact ⟨A, _, c, hv, rfl, hb, hc⟩
theorem readControl_row {w : World} {base : Nat} {A : Option Addr} {m c : Nat} {xs : List Int} (h : OB w base (.slice A m c) xs) (hl : xs.length ≤ 9223372036854775807) :
    Calls Try.prog 14 #[.slice A m c] w fun e w' => e = .returned (.tuple #[rcV xs, .int .i64 (rcE xs)]) ∧ Below w.heap.size w w' := by
  obtain ⟨A', m', c', hv, hm, hb, hc⟩ := h.form2
  cases hv
  subst hm
  exact readControl_any _ _ xs w hb hl hc
theorem readData_row {w : World} {base : Nat} {A : Option Addr} {m c : Nat} {xs : List Int} (h : OB w base (.slice A m c) xs) (hl : xs.length ≤ 9223372036854775807) :
    Calls Try.prog 19 #[.slice A m c] w fun e w' => e = .returned (.tuple #[rdV xs, .int .i64 (rdE xs)]) ∧ Below w.heap.size w w' := by
  obtain ⟨A', m', c', hv, hm, hb, hc⟩ := h.form2
  cases hv
  subst hm
  exact readData_any _ _ xs w hb hl hc
theorem which_row {w : World} {base : Nat} {A : Option Addr} {m c : Nat} {xs : List Int} (h : OB w base (.slice A m c) xs) (hl : xs.length ≤ 9223372036854775807) :
    Calls Try.prog 16 #[.slice A m c] w fun e w' => e = .returned (.int .i64 (wh xs)) ∧ w' = w := by
  obtain ⟨A', m', c', hv, hm, hb, hc⟩ := h.form2
  cases hv
  subst hm
  exact which_any _ _ xs w hb hl hc
theorem sum_row {w : World} {base : Nat} {A : Option Addr} {m c : Nat} {xs : List Int} (h : OB w base (.slice A m c) xs) (hl : xs.length ≤ 9223372036854775807) :
    Calls Try.prog 23 #[.slice A m c] w fun e w' => e = .returned (.int .u32 (crc xs)) ∧ w' = w := by
  obtain ⟨A', m', c', hv, hm, hb, hc⟩ := h.form2
  cases hv
  subst hm
  exact sum_any _ _ xs w hb hl
/-- "ab". -/
abbrev ab : ByteArray := ⟨#[97, 98]⟩
theorem ab_bs : bs ab = [97, 98] := by decide +kernel
def raw : List Int := (List.replicate 64 0).set 0 8
theorem raw_by : By raw := by unfold By; decide +kernel
theorem raw_e : rdE raw = 8 := by
  have h : chk raw 2 64 1518 = 8 := by decide +kernel
  rw [(rd_no (by rw [h]; decide)).1, h]
theorem raw_v : rdV raw = DZ := by
  have h : chk raw 2 64 1518 = 8 := by decide +kernel
  rw [(rd_no (by rw [h]; decide)).2]
def nine : List Int := [49, 50, 51, 52, 53, 54, 55, 56, 57]
theorem nine_by : By nine := by unfold By; decide +kernel
theorem nine_crc : crc nine = 3421780262 := by decide +kernel
theorem exC : rightC 1 2 7 5 0 := by decide
theorem exD : rightD 2 3 4 (bs ab) 64 := by rw [ab_bs]; decide
theorem exN : ¬ rightD 1 0 0 (bs ⟨#[]⟩) 63 := by rw [show bs ⟨#[]⟩ = [] from rfl]; decide
theorem conv_mark (w : World) (C : Array Value) (n c : Nat) : (convert 26 26 (.slice (some ⟨w.heap.size, 0, none⟩) n c)).run Try.prog (w.alloc (.cells C 5)) =
    .ok (.slice (some ⟨w.heap.size, 0, none⟩) n c) (w.alloc (.cells C 5 (C.size, C.size + 1))) := by
  have hsh : (w.alloc (.cells C 5)).shape? w.heap.size = some (5, C.size) := by
    unfold World.shape?
    rw [heap_alloc_new]
  have hfr : (w.alloc (.cells C 5)).freeze ⟨w.heap.size, C.size, none⟩ 1 = w.alloc (.cells C 5 (C.size, C.size + 1)) := by
    have hm : ∀ (a : Array Obj) (x : Obj) (f : Obj → Obj), (a.push x).modify a.size f = a.push (f x) := by
      intro a x f
      apply Array.ext
      · simp
      · intro i h1 h2
        simp only [Array.getElem_modify, Array.getElem_push]
        by_cases h : a.size = i
        · subst h
          simp
        · have hi : i < a.size := by simp at h1; omega
          simp [h, hi]
    unfold World.freeze
    rw [if_neg (by decide)]
    show ({ w.alloc (.cells C 5) with heap := (w.heap.push (.cells C 5)).modify w.heap.size _ } : World) = _
    rw [hm]
    rfl
  simp [convert, run_underlying Try.underlying26, run_underlying Try.underlying5, markStringish, hsh]
  exact hfr
theorem bl_row {w : World} {g : Nat} {rs : List Int} {t : TypeId} {fr : Nat × Nat} (h : w.heap[g]? = some (.cells (u8s rs).toArray t fr)) (hy : By rs) : BL w (some ⟨g, 0, none⟩) rs := by
  intro k x hx
  refine ⟨_, rfl, ?_, hy.get hx⟩
  rw [show (⟨g, 0, none⟩ : Addr).add k = ⟨g, k, none⟩ by unfold Addr.add; split <;> simp_all, cell_of_row w g k _ _ _ h, List.getElem?_toArray]
  unfold u8s
  rw [List.getElem?_map, hx]
  rfl
set_option maxHeartbeats 8000000 in
set_option maxRecDepth 100000 in
theorem fixed_any (w : World) : Calls Try.prog 11 #[] w fun e w' => e = .returned (.bool true) ∧ Below w.heap.size w w' := by
  have hmk : ∀ w : World, (Instr.makeSlice 26 (.int .i64 64) (.int .i64 64)).run Try.prog w = .ok (.slice (some ⟨w.heap.size, 0, none⟩) 64 64) (w.alloc (.cells (madeCells #[.int .u8 0] 64) 5)) := fun w =>
    run_make_row' 26 5 (.int .u8 0) 1 Try.underlying26 (by kernel_rfl) rfl .i64 .i64 64 (by omega) (by omega) w
  rw [made_u8] at hmk
  obtain ⟨Z, hZ⟩ : ∃ Z, Z = (u8s (List.replicate 64 0)).toArray := ⟨_, rfl⟩
  rw [← hZ] at hmk
  have hzn : Z.size = 64 := by rw [hZ]; rfl
  have HZ := Lib.hid hZ
  clear hZ
  go_enter Try.func11, Try.ntmps11
  go_wp2_with fail
  refine (control_ok 1 2 7 5 0 w exC).mono ?_
  rintro e w1 ⟨v1, rfl, o1, b1⟩
  obtain ⟨A1, m1, d1, rfl, hm1, -, -⟩ := o1.form2
  obtain rfl : m1 = 34 := hm1.trans (ctl_len ..)
  have O1 := Lib.hid o1
  have B1 := Lib.hid b1
  clear o1 b1 hm1
  go_wp2_with fail
  refine (readControl_row O1.out (by rw [ctl_len]; decide)).mono ?_
  rw [(rc_ctl exC).1, (rc_ctl exC).2]
  rintro e w2 ⟨rfl, b2⟩
  have O2 := Lib.hid (O1.out.below b2)
  have B2 := Lib.hid (B1.out.trans (b2.mono B1.out.size))
  clear b2 O1 B1
  go_wp2_with fail
  have X3 := Lib.hid (heap_alloc_new w2 (cbox 1 2 7 5 0))
  have O3 := Lib.hid (O2.out.alloc (cbox 1 2 7 5 0))
  have B3 := Lib.hid (B2.out.alloc B2.out.size (cbox 1 2 7 5 0))
  generalize w2.heap.size = g3 at *
  generalize w2.alloc (cbox 1 2 7 5 0) = w3 at *
  clear O2 B2
  refine (data_bad 1 0 0 ⟨#[]⟩ 63 w3 exN (by decide)).mono ?_
  rintro e w4 ⟨rfl, b4⟩
  have X4 := Lib.hid (row_below b4 X3.out)
  have O4 := Lib.hid (O3.out.below b4)
  have B4 := Lib.hid (B3.out.trans (b4.mono B3.out.size))
  clear b4 O3 B3 X3
  go_wp2_with fail
  refine (data_ok 2 3 4 ab 64 w4 exD).mono ?_
  rintro e w5 ⟨v5, rfl, o5, b5⟩
  obtain ⟨A5, m5, d5, rfl, hm5, -, -⟩ := o5.form2
  obtain rfl : m5 = 64 := hm5.trans (dat_len exD)
  have P5 := Lib.hid o5
  have X5 := Lib.hid (row_below b5 X4.out)
  have O5 := Lib.hid (O4.out.below b5)
  have B5 := Lib.hid (B4.out.trans (b5.mono B4.out.size))
  clear o5 b5 hm5 O4 B4 X4
  go_wp2_with fail
  refine (readData_row P5.out (by rw [dat_len exD]; decide)).mono ?_
  rw [(rd_dat exD).1, (rd_dat exD).2]
  rintro e w6 ⟨rfl, b6⟩
  have P6 := Lib.hid (P5.out.below b6)
  have X6 := Lib.hid (row_below b6 X5.out)
  have O6 := Lib.hid (O5.out.below b6)
  have B6 := Lib.hid (B5.out.trans (b6.mono B5.out.size))
  clear b6 P5 O5 B5 X5
  go_wp2_with fail
  clear hzn hmk
  have Y7 := Lib.hid (heap_alloc2_old w6 (dbox 2 3 4 ab 64) (Obj.cells (Z.setIfInBounds 0 (.int .u8 8)) 5))
  have hb7 : Below w6.heap.size w6 ((w6.alloc (dbox 2 3 4 ab 64)).alloc (Obj.cells (Z.setIfInBounds 0 (.int .u8 8)) 5)) := al (al (Below.refl _ _) _) _
  have hr7 : ((w6.alloc (dbox 2 3 4 ab 64)).alloc (Obj.cells (Z.setIfInBounds 0 (.int .u8 8)) 5)).heap[w6.heap.size + 1]? = some (.cells (u8s raw).toArray 5 (0, 0)) := by
    rw [heap_at (by simp) _, HZ.out, u8s_set]
    rfl
  have X7 := Lib.hid (row_below hb7 X6.out)
  have O7 := Lib.hid (O6.out.below hb7)
  have P7 := Lib.hid (P6.out.below hb7)
  have B7 := Lib.hid (B6.out.trans (hb7.mono B6.out.size))
  have R7 := Lib.hid (ob_row hr7 (base := w6.heap.size) (by omega) raw_by (by decide))
  generalize (w6.alloc (dbox 2 3 4 ab 64)).alloc (Obj.cells (Z.setIfInBounds 0 (.int .u8 8)) 5) = w7 at *
  clear hb7 hr7 B6 P6 O6 X6 HZ
  generalize w6.heap.size = g6 at *
  refine (readData_row (m := 64) (c := 64) (xs := raw) R7.out (by decide)).mono ?_
  rw [raw_e, raw_v]
  rintro e w8 ⟨rfl, b8⟩
  have X8 := Lib.hid (row_below b8 X7.out)
  have Y8 := Lib.hid (row_below b8 Y7.out)
  have O8 := Lib.hid (O7.out.below b8)
  have P8 := Lib.hid (P7.out.below b8)
  have B8 := Lib.hid (B7.out.trans (b8.mono B7.out.size))
  clear b8 X7 Y7 O7 P7 B7 R7
  unfold DZ
  have hcs := conv_mark (w8.alloc (dbox 0 0 0 ⟨#[]⟩ 0)) (u8s nine).toArray 9 9
  rw [show (w8.alloc (dbox 0 0 0 ⟨#[]⟩ 0)).heap.size = w8.heap.size + 1 by simp, show (u8s nine).toArray = #[Value.int .u8 49, .int .u8 50, .int .u8 51, .int .u8 52, .int .u8 53, .int .u8 54, .int .u8 55, .int .u8 56, .int .u8 57] from rfl] at hcs
  go_wp2_with fail
  have hb9 : Below w8.heap.size w8 ((w8.alloc (dbox 0 0 0 ⟨#[]⟩ 0)).alloc (Obj.cells #[Value.int .u8 49, .int .u8 50, .int .u8 51, .int .u8 52, .int .u8 53, .int .u8 54, .int .u8 55, .int .u8 56, .int .u8 57] 5 (9, 10))) := al (al (Below.refl _ _) _) _
  have hr9 : ((w8.alloc (dbox 0 0 0 ⟨#[]⟩ 0)).alloc (Obj.cells #[Value.int .u8 49, .int .u8 50, .int .u8 51, .int .u8 52, .int .u8 53, .int .u8 54, .int .u8 55, .int .u8 56, .int .u8 57] 5 (9, 10))).heap[w8.heap.size + 1]? = some (.cells (u8s nine).toArray 5 (9, 10)) := heap_at (by simp) _
  have X9 := Lib.hid (row_below hb9 X8.out)
  have Y9 := Lib.hid (row_below hb9 Y8.out)
  have O9 := Lib.hid (O8.out.below hb9)
  have P9 := Lib.hid (P8.out.below hb9)
  have B9 := Lib.hid (B8.out.trans (hb9.mono B8.out.size))
  have R9 := Lib.hid (bl_row hr9 nine_by)
  clear hb9 hr9 B8 P8 O8 X8 Y8 hcs
  generalize (w8.alloc (dbox 0 0 0 ⟨#[]⟩ 0)).alloc (Obj.cells #[Value.int .u8 49, .int .u8 50, .int .u8 51, .int .u8 52, .int .u8 53, .int .u8 54, .int .u8 55, .int .u8 56, .int .u8 57] 5 (9, 10)) = w9 at *
  generalize w8.heap.size = g8 at *
  refine (sum_any _ 9 nine w9 R9.out (by decide)).mono ?_
  rw [nine_crc]
  rintro e wx ⟨rfl, hw⟩
  obtain rfl := hw.symm
  obtain ⟨c0, c1, c2, c3, c4⟩ := cells5 X9.out
  obtain ⟨d0, d1, d2, d3, d4⟩ := cells5 Y9.out
  clear R9
  have T1 : wh (ctl 1 2 7 5 0) = 1 := wh_ctl exC
  have T2 : wh (dat 2 3 4 (bs ab) 64) = 2 := wh_dat (bs_by ab) exD
  have HT1 := Lib.hid T1
  have HT2 := Lib.hid T2
  clear T1 T2
  go_wp2_with (first
    | (go_at_call 16; (with_reducible refine (which_row O9.out ?_).mono ?_); (rw [ctl_len]; decide); rintro e w' ⟨rfl, hw⟩; obtain rfl := hw.symm; rw [HT1.out])
    | (go_at_call 16; (with_reducible refine (which_row P9.out ?_).mono ?_); (rw [dat_len exD]; decide); rintro e w' ⟨rfl, hw⟩; obtain rfl := hw.symm; rw [HT2.out])
    | (go_at_call 25; (with_reducible refine (time_any _ _).mono ?_); rintro e w' ⟨rfl, hw⟩; obtain rfl := hw.symm; rw [show tim 10 = 512 from rfl]))
  go_ret
  exact ⟨rfl, B9.out⟩
end Go.Proofs.Ytjejljjahmbhiaa.FrameW
