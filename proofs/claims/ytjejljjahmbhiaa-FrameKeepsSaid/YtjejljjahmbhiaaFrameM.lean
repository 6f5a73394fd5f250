/- ReadData. -/
import Derived.Test.YtjejljjahmbhiaaFrameK
namespace Go.Proofs.Ytjejljjahmbhiaa.FrameW
open Go.RowKit
theorem conv_str {w : World} {A : Option Addr} {xs : List Int} {n c : Nat} (h : BL w A xs) (hn : n = xs.length) :
    (convert 26 9 (.slice A n c)).run Try.prog w = .ok (.string (strOfNums xs)) w := by
  subst hn
  cases A with
  | none =>
    have hx : xs = [] := by
      rcases xs with _ | ⟨x, xs⟩
      · rfl
      · obtain ⟨a, ha, -⟩ := h 0 x rfl
        cases ha
    subst hx
    show (convert 26 9 (.slice none 0 c)).run Try.prog w = _
    rw [run_convert_bytes_nil w 26 5 Try.underlying26 Try.underlying5 0 c 9 Try.underlying9]
    rfl
  | some a =>
    have hl : (loadCells a xs.length).run Try.prog w = .ok (xs.map (Value.int .u8)).toArray w := by
      have := run_loadCells_list (P := Try.prog) w a (xs.map (Value.int .u8)) (fun j v hj => by
        rw [List.getElem?_map] at hj
        cases hx : xs[j]? with
        | none => rw [hx] at hj; cases hj
        | some x =>
          rw [hx] at hj
          obtain ⟨b, hb, hc, -⟩ := h j x hx
          cases hb
          cases hj
          exact hc)
      simpa using this
    rw [run_convert_bytes_string w 26 9 5 (some a) xs.length c Try.underlying26 Try.underlying5 Try.underlying9, run_bytesToString w a xs.length c xs hl, foldl_push_bytes]
    simp [strOfNums, ByteArray.empty, ByteArray.emptyWithCapacity]
    rfl
theorem results_dat {fn : Func} {p u : Tmp} (h : fn.results = #[.cell p 36, .tmp u]) (tmps : Array Value) (w : World) (g : Nat) (t : TypeId) (x1 x2 x3 x4 x5 : Value) (fr : Nat × Nat)
    (hp : tmps.getD p undef = .pointer (some ⟨g, 0, none⟩)) (hg : w.heap[g]? = some (.cells #[x1, x2, x3, x4, x5] t fr)) :
    (results fn tmps).run Try.prog w = .ok (.tuple #[.agg #[x1, x2, x3, x4, x5], tmps.getD u undef]) w := by
  have hp' : tmps[p]?.getD undef = .pointer (some ⟨g, 0, none⟩) := by simpa using hp
  simp [results, h, hp', asAddr, run_loadVar_row w g t 36 #[x1, x2, x3, x4, x5] fr _ hg Try.underlying36 rfl (by kernel_rfl)]
theorem ret_dat {fn : Func} {R : Ending → World → Prop} {p u : Tmp} (h : fn.results = #[.cell p 36, .tmp u]) {tmps : Array Value} {w : World} {g : Nat} {x1 x2 x3 x4 x5 : Value} {t : TypeId} {fr : Nat × Nat}
    (hp : tmps.getD p undef = .pointer (some ⟨g, 0, none⟩)) (hg : w.heap[g]? = some (.cells #[x1, x2, x3, x4, x5] t fr)) (hR : R (.returned (.tuple #[.agg #[x1, x2, x3, x4, x5], tmps.getD u undef])) w) :
    bodyPost Try.prog fn R .ret { tmps := tmps, defers := [] } w :=
  bodyPost_ret (results_dat h tmps w g t x1 x2 x3 x4 x5 fr hp hg) rfl hR
theorem add_ten (a : Addr) (Z : Nat) : (⟨a.block, a.off + 10 + Z, none⟩ : Addr) = a.add (10 + Z) := by
  unfold Addr.add
  rw [if_neg (by omega), Nat.add_assoc]
/-- What ReadData tells. -/
def rdE (l : List Int) : Int := if okD l then 0 else if chk l 2 64 1518 = 0 then 2 else chk l 2 64 1518
def DZ : Value := DV 0 0 0 ⟨#[]⟩ 0
def rdV (l : List Int) : Value := if okD l then DV (cOf l) (lOf l) (nOf l) (strOfNums (pOf l)) l.length else DZ
theorem rd_no {l : List Int} (h : chk l 2 64 1518 ≠ 0) : rdE l = chk l 2 64 1518 ∧ rdV l = DZ := by
  unfold rdE rdV
  rw [if_neg (fun h2 => h h2.1), if_neg h, if_neg (fun h2 => h h2.1)]
  exact ⟨rfl, rfl⟩
theorem rd_bad {l : List Int} (h : chk l 2 64 1518 = 0) (h2 : ¬ okD l) : rdE l = 2 ∧ rdV l = DZ := by
  unfold rdE rdV
  rw [if_neg h2, if_pos h, if_neg h2]
  exact ⟨rfl, rfl⟩
theorem rd_ok {l : List Int} (h2 : okD l) : rdE l = 0 ∧ rdV l = DV (cOf l) (lOf l) (nOf l) (strOfNums (pOf l)) l.length := by
  unfold rdE rdV
  rw [if_pos h2, if_pos h2]
  exact ⟨rfl, rfl⟩
set_option maxHeartbeats 4000000 in
theorem readData_any (A : Option Addr) (c : Nat) (xs : List Int) (w : World) (h : BL w A xs) (hl : xs.length ≤ 9223372036854775807) (hc : xs.length ≤ c) :
    Calls Try.prog 19 #[.slice A xs.length c] w fun e w' => e = .returned (.tuple #[rdV xs, .int .i64 (rdE xs)]) ∧ Below w.heap.size w w' := by
  have C := fun W (hW : Below w.heap.size w W) => check_any A c xs 2 64 1518 W (h.below hW) hl hc (by decide)
  by_cases hk : chk xs 2 64 1518 = 0
  · rw [hk] at C
    obtain ⟨g1, g2, -, -⟩ := chk_ok.1 hk
    have hA : ∃ a, A = some a := h.some (by omega)
    obtain ⟨a, rfl⟩ := hA
    have HX := Lib.hid h
    have hy := h.by
    obtain ⟨M, hM⟩ : ∃ M, xs.length = M + 14 := ⟨xs.length - 14, by omega⟩
    have v1 := val_small2 hy 2 3 (by decide) (by omega)
    have v2 := val_small2 hy 3 4 (by decide) (by omega)
    have v3 := val_small2 hy 4 8 (by decide) (by omega)
    have v4 := val_small2 hy 8 10 (by decide) (by omega)
    have e1 : IntKind.i64.wrap (cOf xs) = cOf xs := wrap_right (by unfold cOf; omega) (by unfold cOf; omega)
    have e2 : IntKind.i64.wrap (lOf xs) = lOf xs := wrap_right (by unfold lOf; omega) (by unfold lOf; omega)
    have e3 : IntKind.i64.wrap (nOf xs) = nOf xs := wrap_right (by unfold nOf; omega) (by unfold nOf; omega)
    have e4 : IntKind.i64.wrap (zOf xs : Int) = (zOf xs : Int) := wrap_right (by unfold zOf; omega) (by unfold zOf; omega)
    have zb : zOf xs < 65536 := by unfold zOf; omega
    have N1 := fun W (hW : BL W (some a) xs) (d : Nat) (b : Addr) (hb : b = a.add 2) => number_at hW 2 3 d 1 b hb rfl (by decide) (by omega) (by decide)
    have N2 := fun W (hW : BL W (some a) xs) (d : Nat) (b : Addr) (hb : b = a.add 3) => number_at hW 3 4 d 1 b hb rfl (by decide) (by omega) (by decide)
    have N3 := fun W (hW : BL W (some a) xs) (d : Nat) (b : Addr) (hb : b = a.add 4) => number_at hW 4 8 d 4 b hb rfl (by decide) (by omega) (by decide)
    have N4 := fun W (hW : BL W (some a) xs) (d : Nat) (b : Addr) (hb : b = a.add 8) => number_at hW 8 10 d 2 b hb rfl (by decide) (by omega) (by decide)
    rw [show (val (sl xs 2 3) : Int) = cOf xs from rfl] at N1
    rw [show (val (sl xs 3 4) : Int) = lOf xs from rfl] at N2
    rw [show (val (sl xs 4 8) : Int) = nOf xs from rfl] at N3
    rw [show (val (sl xs 8 10) : Int) = (zOf xs : Int) from rfl] at N4
    have HBAD := Lib.hid (show ¬ okD xs → rdE xs = 2 ∧ rdV xs = DZ from fun r => rd_bad hk r)
    have hfit : fitD xs ↔ zOf xs ≤ M := by unfold fitD; rw [hM]; omega
    have HC := Lib.hid C
    have H1 := Lib.hid N1
    have H2 := Lib.hid N2
    have H3 := Lib.hid N3
    have H4 := Lib.hid N4
    have cI : ((M : Int) + 14) ≤ (c : Int) := by omega
    have m0 : (M : Int) ≤ 1504 := by omega
    have m1 : 50 ≤ (M : Int) := by omega
    have n2 : ¬ c = 2 := by omega
    have n3 : ¬ c = 3 := by omega
    have n4 : ¬ c = 4 := by omega
    have n8 : ¬ c = 8 := by omega
    have n10 : ¬ c = 10 := by omega
    have i3 : (3 : Int) ≤ (c : Int) := by omega
    have i4 : (4 : Int) ≤ (c : Int) := by omega
    have i8 : (8 : Int) ≤ (c : Int) := by omega
    have i10 : (10 : Int) ≤ (c : Int) := by omega
    have i10M : ((M : Int) + 10) ≤ (c : Int) := by omega
    by_cases hz : zOf xs ≤ M
    · have RD := fun (p : ByteArray) W (hp : p.size ≤ 9223372036854775807) => rightData_any (cOf xs) (lOf xs) (nOf xs) p ((M : Int) + 14) W hp
      have BK := fun W (hW : BL W (some a) xs) (d : Nat) (b : Addr) (hb : b = a.add (10 + zOf xs)) => blank_any (some b) d (sl xs (10 + zOf xs) (M + 10)) W (by rw [hb]; exact hW.sl _ _) (by rw [sl_len (by omega) (by omega)]; omega)
      rw [sl_len (by omega) (by omega), show M + 10 - (10 + zOf xs) = M - zOf xs by omega] at BK
      have hpl : (pOf xs).length = zOf xs := pOf_len (by omega) (hfit.2 hz)
      have CV1 := fun W (hW : BL W (some a) xs) (d : Nat) (b : Addr) (hb : b = a.add 10) => conv_str (w := W) (A := some b) (xs := pOf xs) (n := zOf xs) (c := d) (by rw [hb]; exact hW.sl 10 (10 + zOf xs)) hpl.symm
      have hps : (strOfNums (pOf xs)).size = zOf xs := by rw [strOfNums_size, hpl]
      have hbsp : bs (strOfNums (pOf xs)) = pOf xs := bs_str (hy.drop 10 |>.take _)
      have HOK := Lib.hid (show blank (sl xs (10 + zOf xs) (M + 10)) → rightD (cOf xs) (lOf xs) (nOf xs) (bs (strOfNums (pOf xs))) ((M : Int) + 14) → rdE xs = 0 ∧ rdV xs = DV (cOf xs) (lOf xs) (nOf xs) (strOfNums (pOf xs)) ((M : Int) + 14) from fun b r => by
        rw [hbsp] at r
        have e : ((xs.length : Nat) : Int) = (M : Int) + 14 := by rw [hM]; rfl
        have := rd_ok (l := xs) ⟨hk, hfit.2 hz, by rw [hM]; exact b, by rw [e]; exact r⟩
        rwa [e] at this)
      have HBAD2 := Lib.hid (show ¬ (blank (sl xs (10 + zOf xs) (M + 10)) ∧ rightD (cOf xs) (lOf xs) (nOf xs) (bs (strOfNums (pOf xs))) ((M : Int) + 14)) → rdE xs = 2 ∧ rdV xs = DZ from fun r => HBAD.out (fun o => r ⟨by have := o.2.2.1; rw [hM] at this; exact this, by
        rw [hbsp]
        have e : ((xs.length : Nat) : Int) = (M : Int) + 14 := by rw [hM]; rfl
        have := o.2.2.2
        rwa [e] at this⟩))
      have HR := Lib.hid (fun W => RD (strOfNums (pOf xs)) W (by omega))
      clear RD hfit HBAD hpl hbsp hy v1 v2 v3 v4 g1 g2 hk h
      rw [hM] at HC ⊢
      generalize rdE xs = E at *
      generalize rdV xs = V at *
      generalize sl xs (10 + zOf xs) (M + 10) = B at *
      generalize cOf xs = k at *
      generalize lOf xs = f at *
      generalize nOf xs = cy at *
      generalize strOfNums (pOf xs) = ps at *
      generalize zOf xs = Z at *
      have z0 : (0 : Int) ≤ (Z : Int) := by omega
      have z1 : (Z : Int) ≤ (M : Int) := by omega
      have z2 : (Z : Int) ≤ ((c - 10 : Nat) : Int) := by omega
      have z3 : ¬ c - 10 = Z := by omega
      have z4 : ¬ (M : Int) < (Z : Int) := by omega
      have H6 := Lib.hid BK
      have H7 := Lib.hid CV1
      clear C N1 N2 N3 N4 BK CV1 hl hc
      go_enter Try.func19, Try.ntmps19
      go_wp2_with fail
      refine (HC.out _ (al (Below.refl _ _) _)).mono ?_
      rintro e w1 ⟨rfl, b1⟩
      have X1 := Lib.hid (show w1.heap[w.heap.size]? = some (dbox 0 0 0 ⟨#[]⟩ 0) from row_below b1 (heap_alloc_new w _))
      have B1 := Lib.hid ((al (Below.refl w.heap.size w) (dbox 0 0 0 ⟨#[]⟩ 0)).trans (b1.mono (by simp)))
      have Y1 := HX.out.below B1.out
      clear b1
      by_cases hb : blank B
      · have HBT := Lib.hid (decide_eq_true hb)
        have HBP := Lib.hid hb
        clear hb
        go_wp2_with (first
          | (go_at_call 31; refine (H4.out _ Y1 _ _ rfl).mono ?_; rintro e w9 ⟨rfl, hw⟩; obtain rfl := hw.symm)
          | (go_at_call 32; refine (H6.out _ Y1 _ _ (add_ten a Z)).mono ?_; rintro e w9 ⟨rfl, hw⟩; obtain rfl := hw.symm; rw [HBT.out]))
        have hv1 : (convert 26 9 (.slice (some ⟨a.block, a.off + 10, none⟩) Z (c - 10))).run Try.prog w1.drew = .ok (.string ps) w1.drew := H7.out w1.drew (show BL w1.drew (some a) xs from Y1) _ _ rfl
        have hv2 : (convert 26 9 (.slice (some ⟨a.block, a.off + 10, none⟩) Z (c - 10))).run Try.prog (w1.alloc (dbox 0 0 0 ⟨#[]⟩ 0)).drew = .ok (.string ps) (w1.alloc (dbox 0 0 0 ⟨#[]⟩ 0)).drew := H7.out _ (Y1.below (al (Below.refl _ _) _).drew) _ _ rfl
        have hv3 : (convert 26 9 (.slice (some ⟨a.block, a.off + 10, none⟩) Z (c - 10))).run Try.prog (w1.alloc (dbox k f cy ps ((M : Int) + 14))).drew = .ok (.string ps) (w1.alloc (dbox k f cy ps ((M : Int) + 14))).drew := H7.out _ (Y1.below (al (Below.refl _ _) _).drew) _ _ rfl
        apply wp_cut
        case h =>
         go_region_held3 (fun w' => (convert 26 9 (.slice (some ⟨a.block, a.off + 10, none⟩) Z (c - 10))).run Try.prog w' = .ok (.string ps) w') (first | exact hv1 | exact hv2 | exact hv3) (first
           | (go_at_call 31; (with_reducible refine (H1.out _ ?_ _ _ ?_).mono ?_); (first | exact Y1 | exact Y1.below (al (Below.refl _ _) _).drew | exact Y1.below (al (Below.refl _ _) _)); rfl; rintro e w9 ⟨rfl, hw⟩; cases hw)
           | (go_at_call 31; (with_reducible refine (H2.out _ ?_ _ _ ?_).mono ?_); (first | exact Y1 | exact Y1.below (al (Below.refl _ _) _).drew | exact Y1.below (al (Below.refl _ _) _)); rfl; rintro e w9 ⟨rfl, hw⟩; cases hw)
           | (go_at_call 31; (with_reducible refine (H3.out _ ?_ _ _ ?_).mono ?_); (first | exact Y1 | exact Y1.below (al (Below.refl _ _) _).drew | exact Y1.below (al (Below.refl _ _) _)); rfl; rintro e w9 ⟨rfl, hw⟩; cases hw))
         all_goals exact ⟨rfl, rfl, rfl⟩
        case hm =>
          have Z2 := heap_alloc_new w1 (dbox k f cy ps ((M : Int) + 14))
          have B2 := (al (Below.refl w1.heap.size w1) (dbox k f cy ps ((M : Int) + 14))).drew
          clear hv1 hv2 hv3
          go_wp2_with fail
          refine (HR.out _).mono ?_
          rintro e w3 ⟨rfl, b3⟩
          have B3 := B2.trans (b3.mono B2.size)
          have Z3 := Lib.hid (show w3.heap[w1.heap.size]? = some (dbox k f cy ps ((M : Int) + 14)) from row_below b3 Z2)
          have X3 := Lib.hid (row_below B3 X1.out)
          have W3 := Lib.hid (B1.out.trans (B3.mono B1.out.size))
          obtain ⟨d0, d1, d2, d3, d4⟩ := cells5 Z3.out
          obtain ⟨c0, c1, c2, c3, c4⟩ := cells5 X3.out
          have f0 := frozen_of_row w3 w.heap.size 0 _ _ X3.out
          have f1 := frozen_of_row w3 w.heap.size 1 _ _ X3.out
          have f2 := frozen_of_row w3 w.heap.size 2 _ _ X3.out
          have f3 := frozen_of_row w3 w.heap.size 3 _ _ X3.out
          have f4 := frozen_of_row w3 w.heap.size 4 _ _ X3.out
          clear b3 B3 B2 Z2
          by_cases hr : rightD k f cy (bs ps) ((M : Int) + 14)
          · rw [decide_eq_true hr]
            obtain ⟨hE, hV⟩ := HOK.out HBP.out hr
            have HE := Lib.hid hE
            have HV := Lib.hid hV
            clear hE hV hr
            go_wp2
            exact ret_dat rfl rfl (set5 X3.out) ⟨by rw [HE.out, HV.out]; rfl, keep5 W3.out (Nat.le_refl _)⟩
          · rw [decide_eq_false hr]
            obtain ⟨hE, hV⟩ := HBAD2.out (fun h => hr h.2)
            have HE := Lib.hid hE
            have HV := Lib.hid hV
            clear hE hV hr
            go_wp2
            exact ret_dat rfl rfl (set5 X3.out) ⟨by rw [HE.out, HV.out]; rfl, keep5 W3.out (Nat.le_refl _)⟩
      · obtain ⟨hE, hV⟩ := HBAD2.out (fun h => hb h.1)
        have HE := Lib.hid hE
        have HV := Lib.hid hV
        have HBT := Lib.hid (decide_eq_false hb)
        obtain ⟨c0, c1, c2, c3, c4⟩ := cells5 X1.out
        have f0 := frozen_of_row w1 w.heap.size 0 _ _ X1.out
        have f1 := frozen_of_row w1 w.heap.size 1 _ _ X1.out
        have f2 := frozen_of_row w1 w.heap.size 2 _ _ X1.out
        have f3 := frozen_of_row w1 w.heap.size 3 _ _ X1.out
        have f4 := frozen_of_row w1 w.heap.size 4 _ _ X1.out
        clear hE hV hb
        go_wp2_with (first
          | (go_at_call 31; refine (H4.out _ Y1 _ _ rfl).mono ?_; rintro e w9 ⟨rfl, hw⟩; obtain rfl := hw.symm)
          | (go_at_call 32; refine (H6.out _ Y1 _ _ (add_ten a Z)).mono ?_; rintro e w9 ⟨rfl, hw⟩; obtain rfl := hw.symm; rw [HBT.out]))
        exact ret_dat rfl rfl (set5 X1.out) ⟨by rw [HE.out, HV.out]; rfl, keep5 B1.out (Nat.le_refl _)⟩
    · obtain ⟨hE, hV⟩ := HBAD.out (fun h => hz (hfit.1 h.2.1))
      have HE := Lib.hid hE
      have HV := Lib.hid hV
      clear hE hV hfit HBAD hy v1 v2 v3 v4 g1 g2 hk h
      rw [hM] at HC ⊢
      generalize rdE xs = E at *
      generalize rdV xs = V at *
      generalize zOf xs = Z at *
      have z4 : (M : Int) < (Z : Int) := by omega
      clear C N1 N2 N3 N4 hl hc hz
      go_enter Try.func19, Try.ntmps19
      go_wp2_with fail
      refine (HC.out _ (al (Below.refl _ _) _)).mono ?_
      rintro e w1 ⟨rfl, b1⟩
      have X1 := Lib.hid (show w1.heap[w.heap.size]? = some (dbox 0 0 0 ⟨#[]⟩ 0) from row_below b1 (heap_alloc_new w _))
      have B1 := Lib.hid ((al (Below.refl w.heap.size w) (dbox 0 0 0 ⟨#[]⟩ 0)).trans (b1.mono (by simp)))
      have Y1 := HX.out.below B1.out
      obtain ⟨c0, c1, c2, c3, c4⟩ := cells5 X1.out
      have f0 := frozen_of_row w1 w.heap.size 0 _ _ X1.out
      have f1 := frozen_of_row w1 w.heap.size 1 _ _ X1.out
      have f2 := frozen_of_row w1 w.heap.size 2 _ _ X1.out
      have f3 := frozen_of_row w1 w.heap.size 3 _ _ X1.out
      have f4 := frozen_of_row w1 w.heap.size 4 _ _ X1.out
      clear b1
      go_wp2_with (go_at_call 31; refine (H4.out _ Y1 _ _ rfl).mono ?_; rintro e w9 ⟨rfl, hw⟩; obtain rfl := hw.symm)
      exact ret_dat rfl rfl (set5 X1.out) ⟨by rw [HE.out, HV.out]; rfl, keep5 B1.out (Nat.le_refl _)⟩
  · obtain ⟨hE, hV⟩ := rd_no hk
    rw [hE, hV]
    have hkb : (chk xs 2 64 1518 != 0) = true := by simp [hk]
    generalize chk xs 2 64 1518 = E at *
    have HC := Lib.hid C
    clear C h hE hV hl hc hk
    go_enter Try.func19, Try.ntmps19
    go_wp2_with fail
    refine (HC.out _ (al (Below.refl _ _) _)).mono ?_
    rintro e w1 ⟨rfl, b1⟩
    have X1 := Lib.hid (show w1.heap[w.heap.size]? = some (dbox 0 0 0 ⟨#[]⟩ 0) from row_below b1 (heap_alloc_new w _))
    have B1 := Lib.hid ((al (Below.refl w.heap.size w) (dbox 0 0 0 ⟨#[]⟩ 0)).trans (b1.mono (by simp)))
    obtain ⟨c0, c1, c2, c3, c4⟩ := cells5 X1.out
    have f0 := frozen_of_row w1 w.heap.size 0 _ _ X1.out
    have f1 := frozen_of_row w1 w.heap.size 1 _ _ X1.out
    have f2 := frozen_of_row w1 w.heap.size 2 _ _ X1.out
    have f3 := frozen_of_row w1 w.heap.size 3 _ _ X1.out
    have f4 := frozen_of_row w1 w.heap.size 4 _ _ X1.out
    clear b1
    go_wp2
    exact ret_dat rfl rfl (set5 X1.out) ⟨rfl, keep5 B1.out (Nat.le_refl _)⟩
end Go.Proofs.Ytjejljjahmbhiaa.FrameW
