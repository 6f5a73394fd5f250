/- tocsinlaw06.FrameBits. -/
import Derived.Test.YtjejljjahmbhiaaFrameQ
namespace Go.Proofs.Ytjejljjahmbhiaa.FrameW.FrameBits
open Go.ChangeShapes Go.WideShapes Go.ChangeAt Go.RowKit Shell
theorem pow_byte {T : Nat} (h : T < 8) : (2 : Int) ^ T % 256 = ((2 ^ T : Nat) : Int) := by
  have hb : 2 ^ T < 256 := Nat.lt_of_lt_of_le (Nat.pow_lt_pow_right (by decide) h) (by decide)
  rw [show (2 : Int) ^ T = ((2 ^ T : Nat) : Int) by rw [Int.natCast_pow]; rfl]
  generalize 2 ^ T = z at *
  omega
theorem bit_any (bit : Int) (L : Nat) (h0 : 0 < L) (h1 : L ≤ 1518) : ∃ K : Nat, (IntKind.u64.wrap bit).tmod (8 * (L : Int)) = (K : Int) ∧ K < 8 * L := by
  have hw : 0 ≤ IntKind.u64.wrap bit := by rw [IntKind.wrap_u64]; omega
  rw [Int.tmod_eq_emod_of_nonneg hw]
  have h2 := Int.emod_nonneg (IntKind.u64.wrap bit) (show 8 * (L : Int) ≠ 0 by omega)
  have h3 := Int.emod_lt_of_pos (IntKind.u64.wrap bit) (show 0 < 8 * (L : Int) by omega)
  exact ⟨(IntKind.u64.wrap bit % (8 * (L : Int))).toNat, by omega, by omega⟩
set_option maxHeartbeats 8000000 in
theorem walk (k f cy cr cl : Int) (c l n : Int) (p : ByteArray) (s : Int) (bit : Int) (w : World) (hcr : 0 ≤ cr) (hp : p.size ≤ 9223372036854775807) (_hbit : -9223372036854775808 ≤ bit ∧ bit ≤ 9223372036854775807) :
    Calls Try.prog 7 #[CV k f cy cr cl, DV c l n p s, .int .i64 bit] w fun e w' => e = .returned (.bool true) ∧ Below w.heap.size w w' := by
  have HX := Lib.hid (show ∀ W, Calls Try.prog 11 #[] W fun e w' => e = .returned (.bool true) ∧ Below W.heap.size W w' from fixed_any)
  go_enter Try.func7, Try.ntmps7
  go_wp2_with fail
  have hX := heap_alloc2_old w (cbox k f cy cr cl) (dbox c l n p s)
  have hY := heap_at (w := w.alloc (cbox k f cy cr cl)) (g := w.heap.size + 1) (by simp) (dbox c l n p s)
  have hB := al (al (Below.refl w.heap.size w) (cbox k f cy cr cl)) (dbox c l n p s)
  obtain ⟨g3, hg3⟩ : ∃ g, g = w.heap.size := ⟨_, rfl⟩
  rw [← hg3] at hX hY ⊢
  obtain ⟨g4, hg4⟩ : ∃ g, g = g3 + 1 := ⟨_, rfl⟩
  rw [← hg4] at hY ⊢
  generalize (w.alloc (cbox k f cy cr cl)).alloc (dbox c l n p s) = w0 at *
  clear hg3 hg4
  refine (HX.out _).mono ?_
  rintro e w1 ⟨rfl, b1⟩
  have X1 := Lib.hid (row_below b1 hX)
  have Y1 := Lib.hid (row_below b1 hY)
  have B1 := Lib.hid (show Below w.heap.size w w1 from hB.trans (b1.mono hB.size))
  clear b1 hX hY hB
  obtain ⟨c0, c1, c2, c3, c4⟩ := cells5 X1.out
  go_wp2_with fail
  by_cases hC : rightC k f cy cr cl
  · skip
    refine (control_ok k f cy cr cl w1 hC).mono ?_
    rintro e w2 ⟨v2, rfl, o2, b2⟩
    obtain ⟨A2, m2, d2, rfl, hm2, -, -⟩ := o2.form2
    obtain rfl : m2 = 34 := hm2.trans (ctl_len ..)
    obtain ⟨g2, rfl, -, hg2⟩ := o2.addr (by rw [ctl_len]; decide)
    have Y2 := row_below b2 Y1.out
    have B2 := B1.out.trans (b2.mono B1.out.size)
    clear c0 c1 c2 c3 c4
    obtain ⟨K, hK, hKl⟩ := bit_any bit 34 (by decide) (by decide)
    have hK : (IntKind.u64.wrap bit).tmod 272 = (K : Int) := hK
    obtain ⟨J, hJ⟩ : ∃ J, J = K / 8 := ⟨_, rfl⟩
    obtain ⟨T, hT⟩ : ∃ T, T = K % 8 := ⟨_, rfl⟩
    have j1 : (K : Int).tdiv 8 = (J : Int) := by rw [Int.tdiv_eq_ediv_of_nonneg (by omega)]; omega
    have j2 : (K : Int) / 8 = (J : Int) := by omega
    have t1 : (K : Int).tmod 8 = (T : Int) := by rw [Int.tmod_eq_emod_of_nonneg (by omega)]; omega
    have t2 : (K : Int) % 8 = (T : Int) := by omega
    have t3 : IntKind.u64.wrap (T : Int) = (T : Int) := by rw [IntKind.wrap_u64]; omega
    have kb : (K : Int) < 8 * (34 : Int) := by omega
    have k0 : (0 : Int) ≤ (K : Int) := by omega
    have jb : (J : Int) < (34 : Int) := by omega
    have j0 : (0 : Int) ≤ (J : Int) := by omega
    have hT8 : T < 8 := by omega
    have hJL : J < 34 := by omega
    obtain ⟨x, hx⟩ : ∃ x, (ctl k f cy cr cl)[J]? = some x := ⟨_, List.getElem?_eq_getElem (by rw [ctl_len]; exact hJL)⟩
    have hxb := (ctl_by k f cy cr cl).get hx
    have hfl := flip_byte hxb.1 hxb.2 hT8
    obtain ⟨z, hz⟩ : ∃ z : Int, z = ((2 ^ T : Nat) : Int) := ⟨_, rfl⟩
    rw [← hz] at hfl
    have hz2 : (2 : Int) ^ T % 256 = z := by
      have := pow_byte hT8
      rw [hz]; exact this
    obtain ⟨y, hy⟩ : ∃ y, y = bits .xor .u8 x z := ⟨_, rfl⟩
    rw [← hy] at hfl
    have hy2 := hy.symm
    have HE := Lib.hid (flip_ctl hx ⟨hfl.1, hfl.2.1⟩ hfl.2.2)
    obtain ⟨hcell, hfr⟩ := o2.cell (ctl_len ..).symm hx
    have O3 := Lib.hid (o2.store (ctl_len ..).symm J ⟨hfl.1, hfl.2.1⟩)
    have Y3 := Lib.hid ((heap_setCell_other w2 ⟨g2, J, none⟩ g4 (.int .u8 y) (show g4 ≠ g2 from fun e => by have := row_lt Y1.out; omega)).trans Y2)
    have B3 := Lib.hid (show Below w.heap.size w (w2.setCell ⟨g2, J, none⟩ (.int .u8 y)) from B2.setCell (show w.heap.size ≤ g2 by have := B1.out.size; omega) _)
    clear o2 b2 hm2 hC hg2 hx hxb hfl hz hy hKl hJ hT hT8 hJL Y2 B2
    go_wp2_with fail
    refine (readControl_row O3.out (by rw [List.length_set, ctl_len]; decide)).mono ?_
    rintro e w4 ⟨rfl, b4⟩
    have Y4 := Lib.hid (row_below b4 Y3.out)
    have B4 := Lib.hid (B3.out.trans (b4.mono B3.out.size))
    rw [HE.out.2]
    have he := HE.out.1
    generalize rcE ((ctl k f cy cr cl).set J y) = E at *
    have heb : (E == 0) = false := by simp [he]
    have hng := neq_ctl 0 0 0 0 0
    have hgC := guardC
    obtain ⟨c0, c1, c2, c3, c4⟩ := cells5 (row_below (al (Below.refl w4.heap.size w4) (cbox 0 0 0 0 0)) Y4.out)
    clear b4 he O3 Y3 B3 hcell hfr hz2 j1 j2 t1 t2 t3 kb k0 jb j0 hy2 hK HE
    go_wp2_with fail
    have X5 := Lib.hid (row_below (al (Below.refl w4.heap.size w4) (cbox 0 0 0 0 0)) Y4.out)
    have B5 := Lib.hid (B4.out.alloc B4.out.size (cbox 0 0 0 0 0))
    generalize w4.alloc (cbox 0 0 0 0 0) = w5 at *
    clear c0 c1 c2 c3 c4 B4 Y4 hng hgC heb
    by_cases hD : rightD c l n (bs p) s
    · refine (data_ok c l n p s w5 hD).mono ?_
      rintro e w6 ⟨v6, rfl, o6, b6⟩
      obtain ⟨A6, m6, d6, rfl, hm6, -, -⟩ := o6.form2
      obtain ⟨g6, rfl, -, hg6⟩ := o6.addr (by rw [dat_len hD]; have := hD.2.2.2.2.2.1; omega)
      have B6 := B5.out.trans (b6.mono B5.out.size)
      have m64 : 64 ≤ m6 ∧ m6 ≤ 1518 := by rw [hm6, dat_len hD]; have := hD.2.2.2.2.2; omega
      obtain ⟨m640, m641⟩ := m64
      have mi0 : (64 : Int) ≤ (m6 : Int) := by omega
      have mi1 : (m6 : Int) ≤ 1518 := by omega
      have mw : IntKind.u64.wrap (8 * (m6 : Int)) = 8 * (m6 : Int) := by rw [IntKind.wrap_u64]; omega
      have mn : ¬ 8 * (m6 : Int) = 0 := by omega
      have mn2 : ¬ m6 = 0 := by omega
      obtain ⟨K, hK, hKl⟩ := bit_any bit m6 (by omega) (by omega)
      obtain ⟨J, hJ⟩ : ∃ J, J = K / 8 := ⟨_, rfl⟩
      obtain ⟨T, hT⟩ : ∃ T, T = K % 8 := ⟨_, rfl⟩
      have j1 : (K : Int).tdiv 8 = (J : Int) := by rw [Int.tdiv_eq_ediv_of_nonneg (by omega)]; omega
      have j2 : (K : Int) / 8 = (J : Int) := by omega
      have t1 : (K : Int).tmod 8 = (T : Int) := by rw [Int.tmod_eq_emod_of_nonneg (by omega)]; omega
      have t2 : (K : Int) % 8 = (T : Int) := by omega
      have t3 : IntKind.u64.wrap (T : Int) = (T : Int) := by rw [IntKind.wrap_u64]; omega
      have kb : (K : Int) < 8 * (m6 : Int) := by omega
      have k0 : (0 : Int) ≤ (K : Int) := by omega
      have jb : (J : Int) < (m6 : Int) := by omega
      have j0 : (0 : Int) ≤ (J : Int) := by omega
      have hT8 : T < 8 := by omega
      have hJL : J < m6 := by omega
      obtain ⟨x, hx⟩ : ∃ x, (dat c l n (bs p) s)[J]? = some x := ⟨_, List.getElem?_eq_getElem (by rw [← hm6]; exact hJL)⟩
      have hxb := (dat_by c l n (bs_by p) s).get hx
      have hfl := flip_byte hxb.1 hxb.2 hT8
      obtain ⟨z, hz⟩ : ∃ z : Int, z = ((2 ^ T : Nat) : Int) := ⟨_, rfl⟩
      rw [← hz] at hfl
      have hz2 : (2 : Int) ^ T % 256 = z := by
        have := pow_byte hT8
        rw [hz]; exact this
      obtain ⟨y, hy⟩ : ∃ y, y = bits .xor .u8 x z := ⟨_, rfl⟩
      rw [← hy] at hfl
      have hy2 := hy.symm
      have HE := Lib.hid (flip_dat (bs_by p) hx ⟨hfl.1, hfl.2.1⟩ hfl.2.2)
      obtain ⟨hcell, hfr⟩ := o6.cell hm6 hx
      have O7 := Lib.hid (o6.store hm6 J ⟨hfl.1, hfl.2.1⟩)
      have HLN := Lib.hid (show (dat c l n (bs p) s).length ≤ 1518 by rw [← hm6]; exact m641)
      have B7 := Lib.hid (show Below w.heap.size w (w6.setCell ⟨g6, J, none⟩ (.int .u8 y)) from B6.setCell (show w.heap.size ≤ g6 by have := B5.out.size; omega) _)
      clear o6 b6 hm6 hD hg6 hx hxb hfl hz hy hKl hJ hT hT8 hJL B6
      go_wp2_with fail
      refine (readData_row O7.out (by rw [List.length_set]; have := HLN.out; omega)).mono ?_
      rintro e w8 ⟨rfl, b8⟩
      have B8 := Lib.hid (B7.out.trans (b8.mono B7.out.size))
      rw [HE.out.2]
      have he := HE.out.1
      generalize rdE ((dat c l n (bs p) s).set J y) = E at *
      have heb : (E == 0) = false := by simp [he]
      have hng := neq_dat 0 0 0 ⟨#[]⟩ 0
      have hgD := guardD
      clear b8 he O7 B7 hcell hfr hz2 j1 j2 t1 t2 t3 kb k0 jb j0 hy2 hK HE
      unfold DZ
      go_wp2
      go_ret
      exact ⟨rfl, B8.out.alloc B8.out.size _⟩
    · refine (data_bad c l n p s w5 hD hp).mono ?_
      rintro e w6 ⟨rfl, b6⟩
      have B6 := Lib.hid (B5.out.trans (b6.mono B5.out.size))
      clear b6 hD
      go_wp2
      go_ret
      exact ⟨rfl, B6.out⟩
  · skip
    refine (control_bad k f cy cr cl w1 hC hcr).mono ?_
    rintro e w5 ⟨rfl, b5⟩
    have X5 := Lib.hid (row_below b5 Y1.out)
    have B5 := Lib.hid (B1.out.trans (b5.mono B1.out.size))
    clear b5 hC c0 c1 c2 c3 c4
    obtain ⟨c0, c1, c2, c3, c4⟩ := cells5 X5.out
    go_wp2_with fail
    clear c0 c1 c2 c3 c4
    by_cases hD : rightD c l n (bs p) s
    · refine (data_ok c l n p s w5 hD).mono ?_
      rintro e w6 ⟨v6, rfl, o6, b6⟩
      obtain ⟨A6, m6, d6, rfl, hm6, -, -⟩ := o6.form2
      obtain ⟨g6, rfl, -, hg6⟩ := o6.addr (by rw [dat_len hD]; have := hD.2.2.2.2.2.1; omega)
      have B6 := B5.out.trans (b6.mono B5.out.size)
      have m64 : 64 ≤ m6 ∧ m6 ≤ 1518 := by rw [hm6, dat_len hD]; have := hD.2.2.2.2.2; omega
      obtain ⟨m640, m641⟩ := m64
      have mi0 : (64 : Int) ≤ (m6 : Int) := by omega
      have mi1 : (m6 : Int) ≤ 1518 := by omega
      have mw : IntKind.u64.wrap (8 * (m6 : Int)) = 8 * (m6 : Int) := by rw [IntKind.wrap_u64]; omega
      have mn : ¬ 8 * (m6 : Int) = 0 := by omega
      have mn2 : ¬ m6 = 0 := by omega
      obtain ⟨K, hK, hKl⟩ := bit_any bit m6 (by omega) (by omega)
      obtain ⟨J, hJ⟩ : ∃ J, J = K / 8 := ⟨_, rfl⟩
      obtain ⟨T, hT⟩ : ∃ T, T = K % 8 := ⟨_, rfl⟩
      have j1 : (K : Int).tdiv 8 = (J : Int) := by rw [Int.tdiv_eq_ediv_of_nonneg (by omega)]; omega
      have j2 : (K : Int) / 8 = (J : Int) := by omega
      have t1 : (K : Int).tmod 8 = (T : Int) := by rw [Int.tmod_eq_emod_of_nonneg (by omega)]; omega
      have t2 : (K : Int) % 8 = (T : Int) := by omega
      have t3 : IntKind.u64.wrap (T : Int) = (T : Int) := by rw [IntKind.wrap_u64]; omega
      have kb : (K : Int) < 8 * (m6 : Int) := by omega
      have k0 : (0 : Int) ≤ (K : Int) := by omega
      have jb : (J : Int) < (m6 : Int) := by omega
      have j0 : (0 : Int) ≤ (J : Int) := by omega
      have hT8 : T < 8 := by omega
      have hJL : J < m6 := by omega
      obtain ⟨x, hx⟩ : ∃ x, (dat c l n (bs p) s)[J]? = some x := ⟨_, List.getElem?_eq_getElem (by rw [← hm6]; exact hJL)⟩
      have hxb := (dat_by c l n (bs_by p) s).get hx
      have hfl := flip_byte hxb.1 hxb.2 hT8
      obtain ⟨z, hz⟩ : ∃ z : Int, z = ((2 ^ T : Nat) : Int) := ⟨_, rfl⟩
      rw [← hz] at hfl
      have hz2 : (2 : Int) ^ T % 256 = z := by
        have := pow_byte hT8
        rw [hz]; exact this
      obtain ⟨y, hy⟩ : ∃ y, y = bits .xor .u8 x z := ⟨_, rfl⟩
      rw [← hy] at hfl
      have hy2 := hy.symm
      have HE := Lib.hid (flip_dat (bs_by p) hx ⟨hfl.1, hfl.2.1⟩ hfl.2.2)
      obtain ⟨hcell, hfr⟩ := o6.cell hm6 hx
      have O7 := Lib.hid (o6.store hm6 J ⟨hfl.1, hfl.2.1⟩)
      have HLN := Lib.hid (show (dat c l n (bs p) s).length ≤ 1518 by rw [← hm6]; exact m641)
      have B7 := Lib.hid (show Below w.heap.size w (w6.setCell ⟨g6, J, none⟩ (.int .u8 y)) from B6.setCell (show w.heap.size ≤ g6 by have := B5.out.size; omega) _)
      clear o6 b6 hm6 hD hg6 hx hxb hfl hz hy hKl hJ hT hT8 hJL B6
      go_wp2_with fail
      refine (readData_row O7.out (by rw [List.length_set]; have := HLN.out; omega)).mono ?_
      rintro e w8 ⟨rfl, b8⟩
      have B8 := Lib.hid (B7.out.trans (b8.mono B7.out.size))
      rw [HE.out.2]
      have he := HE.out.1
      generalize rdE ((dat c l n (bs p) s).set J y) = E at *
      have heb : (E == 0) = false := by simp [he]
      have hng := neq_dat 0 0 0 ⟨#[]⟩ 0
      have hgD := guardD
      clear b8 he O7 B7 hcell hfr hz2 j1 j2 t1 t2 t3 kb k0 jb j0 hy2 hK HE
      unfold DZ
      go_wp2
      go_ret
      exact ⟨rfl, B8.out.alloc B8.out.size _⟩
    · refine (data_bad c l n p s w5 hD hp).mono ?_
      rintro e w6 ⟨rfl, b6⟩
      have B6 := Lib.hid (B5.out.trans (b6.mono B5.out.size))
      clear b6 hD
      go_wp2
      go_ret
      exact ⟨rfl, B6.out⟩
set_option maxRecDepth 100000 in
/-- What the walk gives, for every argument and every world. -/
theorem contract (H : Type) (enc : TypeId × Value → H) (W : World) (base : Nat) (args : Array Value) (ds gs : List (DataW H)) (before : List MemPlace)
    (hval : ∀ (j : Nat) t v, Try.f7.params[j]? = some t → args[j]? = some v → Value.okWide Try.prog W .any base t v)
    (hW : DataW.Whole enc Try.prog Try.f7.params.toList Rows.frameBitsSpec.vars false W args.toList ds gs before) : 
    Calls Try.prog 7 args W fun e W' => ∃ v, e = .returned v ∧ Rows.frameBitsSpec.post enc Try.prog Try.f7 false true false false W args v W' := by
  have hW' := hW
  obtain ⟨p, q, hA0, hV, rfl, hfz, hnd⟩ := hW
  have hA : DataW.TrodAll enc Try.prog W 0 (fun _ => true) true Try.f7.params.toList args.toList ds p := hA0
  rw [Try.params7] at hA hval
  obtain ⟨v0, vs0, d0, ds0, p0, q0, hargs, rfl, rfl, h0, r0⟩ := trodAll_cons hA
  obtain ⟨v1, vs1, d1, ds1, p1, q1, rfl, rfl, rfl, h1, r1⟩ := trodAll_cons r0
  obtain ⟨v2, vs2, d2, ds2, p2, q2, rfl, rfl, rfl, h2, r2⟩ := trodAll_cons r1
  obtain ⟨rfl, rfl, rfl⟩ := trodAll_nil r2
  obtain rfl : args = #[v0, v1, v2] := by cases args; simp_all
  obtain ⟨rfl, rfl⟩ := trodVars_none hV
  obtain ⟨k0, f0, cy0, cr0, cl0, rfl, hcr0⟩ := open_ctl (hval 0 24 v0 rfl rfl) h0
  obtain ⟨q1, l1, n1, s1, u1, rfl, hs1⟩ := open_dat (hval 1 36 v1 rfl rfl) h1
  obtain ⟨k, rfl, rfl, rfl, w2⟩ := open_int Try.underlying3 (hval 2 3 v2 rfl rfl) h2
  refine (walk k0 f0 cy0 cr0 cl0 q1 l1 n1 s1 u1 k W hcr0 hs1 (i64_wf w2)).mono fun e W' ⟨he, hb⟩ => ?_
  exact ⟨_, he, Shell.post_law laidOut (by kernel_rfl) rfl Try.underlying4 rfl hW' rfl hb⟩
theorem reads (os : Os) {H : Type} (enc : TypeId × Value → H) : ∃ places, DataW.whole enc Try.prog ((World.holding Try.prog os ⟨#[], #[], []⟩).forCall (fun _ _ => 0) ⟨#[], #[.agg #[.int .i64 0, .int .i64 0, .int .i64 0, .int .u32 0, .int .i64 0], .agg #[.int .i64 0, .int .i64 0, .int .i64 0, .string ⟨#[]⟩, .int .i64 0], .int .i64 0], []⟩).memory Try.f7.params.toList Rows.frameBitsSpec.vars false (#[Value.agg #[.int .i64 0, .int .i64 0, .int .i64 0, .int .u32 0, .int .i64 0], Value.agg #[.int .i64 0, .int .i64 0, .int .i64 0, .string ⟨#[]⟩, .int .i64 0], Value.int .i64 0]).toList 8 = some ([.agg [.lit (.int .i64 0), .lit (.int .i64 0), .lit (.int .i64 0), .lit (.int .u32 0), .lit (.int .i64 0)], .agg [.lit (.int .i64 0), .lit (.int .i64 0), .lit (.int .i64 0), .lit (.string []), .lit (.int .i64 0)], .lit (.int .i64 0)], [], places) :=
  ⟨[], by kernel_rfl⟩
set_option maxRecDepth 100000 in
theorem lifted (os : Os) (started : os.Started) (H : Type) (enc : TypeId × Value → H) (F : Stop.Interp) :
    ReturnsInHanded {} Try.checked os 7 .any ((OpenSpec.ofChange Rows.frameBitsSpec).preRow enc Try.prog Try.f7 Rows.frameBitsRow.domain false Rows.frameBitsRow.laid) (((OpenSpec.ofChange Rows.frameBitsSpec).at F).post enc Try.prog Try.f7 false true false false) := by
  obtain ⟨places, hx⟩ := reads os enc
  refine returnsInHanded_of_row (C := Try.checked) (s := OpenSpec.ofChange Rows.frameBitsSpec) own started (by kernel_rfl) Try.func7
    (witness_row_atRef (enc := enc) (C := Try.checked) false (World.holding Try.prog os ⟨#[], #[], []⟩) #[.agg #[.int .i64 0, .int .i64 0, .int .i64 0, .int .u32 0, .int .i64 0], .agg #[.int .i64 0, .int .i64 0, .int .i64 0, .string ⟨#[]⟩, .int .i64 0], .int .i64 0] rfl (by kernel_rfl) (by kernel_rfl) (by kernel_rfl)
      (OpenSpec.preRow_of_cond 8 hx (by kernel_rfl) (fun k hk => by cases hk) (by kernel_rfl) (laid_met os _))) ?_
  intro W base args ds gs before hval hW _ _ _ hL _ _
  exact contract H enc W base args ds gs before hval hW
theorem said : Rows.FrameBitsSaid :=
  OpenClaim.holds_of_cond 7 Try.f7 rfl rfl rfl rfl rfl rfl rfl ⟨rfl, rfl, rfl, rfl, rfl⟩ rfl rfl rfl rfl rfl (by kernel_rfl) Try.func7 (by kernel_rfl)
    (of_decide_eq_true (by kernel_rfl)) (by unfold Func.isWrapper; first | (rw [if_pos (by decide +kernel)]; kernel_rfl) | (rw [if_neg (by decide +kernel)]; exact ⟨rfl, rfl⟩))
    (fun os started H enc _ F => by rw [OpenClaim.pre_eq_preRow]; exact lifted os started H enc F)
end Go.Proofs.Ytjejljjahmbhiaa.FrameW.FrameBits
