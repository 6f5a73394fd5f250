/- A configuration in memory; walks: rightDelays, rightEntries, rightLinks, rightPhases. -/
import Derived.Test.YtdaoemjkefpmcaaConfD
import Derived.Test.YtdaoemjkefpmcaaConfQ
namespace Go.Proofs.Ytdaoemjkefpmcaa.ConfW
open Go.RowKit Shell
/-- Entries, or links, in memory. -/
def ML (w : World) (A : Option Addr) (l : List R4) : Prop :=
  ∀ (k : Nat) (e : R4), l[k]? = some e → ∃ b off, A = some ⟨b, off, none⟩ ∧ (w.cell? ⟨b, off + k * 4, none⟩ = some (.int .i64 e.a) ∧ w.cell? ⟨b, off + k * 4 + 1, none⟩ = some (.int .u32 (e.b : Int)) ∧ w.cell? ⟨b, off + k * 4 + 2, none⟩ = some (.int .i64 e.c) ∧ w.cell? ⟨b, off + k * 4 + 3, none⟩ = some (.int .i64 e.d)) ∧ e.b < 4294967296
theorem ML.below {w w1 : World} {A : Option Addr} {l : List R4} (h : ML w A l) (b : Below w.heap.size w w1) : ML w1 A l := by
  intro k e hk
  obtain ⟨g, off, hA, ⟨h0, h1, h2, h3⟩, hb⟩ := h k e hk
  exact ⟨g, off, hA, ⟨(b.cell (Lib.lt_of_cell h0)).trans h0, (b.cell (Lib.lt_of_cell h1)).trans h1, (b.cell (Lib.lt_of_cell h2)).trans h2, (b.cell (Lib.lt_of_cell h3)).trans h3⟩, hb⟩
theorem ML.u32 {w : World} {A : Option Addr} {l : List R4} (h : ML w A l) : ∀ e ∈ l, e.b < 4294967296 := by
  intro e he
  obtain ⟨k, hk⟩ := List.getElem?_of_mem he
  obtain ⟨_, _, _, _, hb⟩ := h k e hk
  exact hb
/-- Rows of whole numbers in memory. -/
def DL (w : World) (D : Option Addr) (l : List (List Int)) : Prop :=
  ∀ (k : Nat) (r : List Int), l[k]? = some r → ∃ a A cp, D = some a ∧ w.cell? (a.add k) = some (.slice A r.length cp) ∧ CL w .i64 A r ∧ r.length ≤ maxLen ∧ r.length ≤ cp ∧ (A = none → cp = 0)
theorem DL.below {w w1 : World} {D : Option Addr} {l : List (List Int)} (h : DL w D l) (b : Below w.heap.size w w1) : DL w1 D l := by
  intro k r hk
  obtain ⟨a, A, cp, h1, h2, h3, h4⟩ := h k r hk
  exact ⟨a, A, cp, h1, (b.cell (Lib.lt_of_cell h2)).trans h2, h3.below b, h4⟩
/-- A configuration in memory. -/
structure CM (w : World) (c : Cfg) (D E L : Option Addr) (nd cd ne ce nl cl : Nat) : Prop where
  hd : DL w D c.delays
  he : ML w E c.entries
  hl : ML w L c.links
  nD : nd = c.delays.length
  nE : ne = c.entries.length
  nL : nl = c.links.length
  mD : nd ≤ maxLen
  mE : ne ≤ maxLen
  mL : nl ≤ maxLen
  cD : nd ≤ cd
  cE : ne ≤ ce
  cL : nl ≤ cl
  zD : D = none → cd = 0
  zE : E = none → ce = 0
  zL : L = none → cl = 0
theorem CM.below {w w1 : World} {c : Cfg} {D E L : Option Addr} {nd cd ne ce nl cl : Nat} (h : CM w c D E L nd cd ne ce nl cl) (b : Below w.heap.size w w1) : CM w1 c D E L nd cd ne ce nl cl :=
  { h with hd := h.hd.below b, he := h.he.below b, hl := h.hl.below b }
section
variable {w0 w w1 : World} {c : Cfg} {D E L : Option Addr} {nd cd ne ce nl cl : Nat} {e : R4}
theorem btw_false {n l h : Int} (g : ¬ (l ≤ n ∧ n ≤ h)) : btw n l h = false := by rw [← Bool.not_eq_true, btw_iff]; exact g
end
set_option maxHeartbeats 2000000 in
theorem rightDelays_any (c : Cfg) (D E L : Option Addr) (nd cd ne ce nl cl : Nat) (w : World) (h : CM w c D E L nd cd ne ce nl cl) : Calls Try.prog 48 #[.agg #[.int .i64 c.hosts, .int .i64 c.cycle, .int .i64 c.delay, .int .i64 c.window, .int .i64 c.precision, .slice D nd cd, .slice E ne ce, .slice L nl cl, .int .i64 c.queue]] w fun r w' => r = .returned (.bool (rowsOk c)) ∧ Below w.heap.size w w' := by
  have HD := Lib.hid h.hd
  have HN := Lib.hid h.nD
  have HM := Lib.hid h.mD
  have hm : nd ≤ 9223372036854775807 := h.mD
  clear h
  by_cases hne : (nd : Int) = c.hosts
  · have HR : rowsOk c = c.delays.all (rowOk c) := by unfold rowsOk; rw [← HN.out, decide_eq_true hne]; rfl
    generalize hq : rowsOk c = q at *
    have HQ := Lib.hid HR
    clear HR hq
    have hne2 : ((nd : Int) != c.hosts) = false := by rw [bne_eq_false_iff_eq]; exact hne
    have HNE := Lib.hid hne
    clear hne
    have BW := fun x W => between_i64 x 0 c.delay W
    go_enter Try.func48, Try.ntmps48
    go_wp2
    have X := Lib.hid (CX.start (w0 := w) (c := c) (D := D) (E := E) (L := L) (nd := nd) (cd := cd) (ne := ne) (ce := ce) (nl := nl) (cl := cl))
    have HD1 := Lib.hid (HD.out.below (al (Below.refl w.heap.size w) (Obj.cells #[.int .i64 c.hosts, .int .i64 c.cycle, .int .i64 c.delay, .int .i64 c.window, .int .i64 c.precision, .slice D nd cd, .slice E ne ce, .slice L nl cl, .int .i64 c.queue] 26)))
    obtain ⟨-, a0, a1, a2, a3, a4, a5, a6, a7, a8⟩ := X.out.s
    generalize hw1 : w.alloc (Obj.cells #[.int .i64 c.hosts, .int .i64 c.cycle, .int .i64 c.delay, .int .i64 c.window, .int .i64 c.precision, .slice D nd cd, .slice E ne ce, .slice L nl cl, .int .i64 c.queue] 26) = w1 at *
    go_loopw [16] (fun iv wr => ∃ (k : Nat), k ≤ nd ∧ iv = .int .i64 k ∧ wr = w1 ∧ Hid (∀ j r, j < k → c.delays[j]? = some r → rowOk c r = true)) (fun iv _ => nd - (intOf iv).toNat)
    case atStart => exact ⟨0, Nat.zero_le _, rfl, rfl, Lib.hid (fun j r hj => by omega)⟩
    case round =>
      obtain ⟨k, hk, rfl, hwr, HI⟩ := hrel
      obtain rfl := hwr
      by_cases hlt : (k : Int) < (nd : Int)
      · obtain ⟨r, hr⟩ : ∃ r, c.delays[k]? = some r := ⟨_, List.getElem?_eq_getElem (by rw [← HN.out]; omega)⟩
        obtain ⟨a, A, cp, rfl, hcell, hrow, hrm, hrc, hrz⟩ := HD1.out k r hr
        have HX := Lib.hid hr
        have HRW := Lib.hid hrow
        clear hr hrow hrc hrz
        generalize hrl : r.length = m at *
        by_cases h2 : m = 2
        · subst h2
          have HRL := Lib.hid hrl
          clear hrl
          go_wp2
          obtain ⟨w0, hw0⟩ : ∃ w0, w0 = wr := ⟨_, rfl⟩
          subst hw0
          go_loopw [25] (fun iv wr => ∃ (i : Nat), i ≤ 2 ∧ iv = .int .i64 i ∧ wr = w0 ∧ Hid (∀ j x, j < i → r[j]? = some x → btw x 0 c.delay = true)) (fun iv _ => 2 - (intOf iv).toNat)
          case atStart => exact ⟨0, Nat.zero_le _, rfl, rfl, Lib.hid (fun j x hj => by omega)⟩
          case round =>
            obtain ⟨i, hi, rfl, hwr, HJ⟩ := hrel
            obtain rfl := hwr
            by_cases hlt2 : (i : Int) < 2
            · obtain ⟨x, hx⟩ : ∃ x, r[i]? = some x := ⟨_, List.getElem?_eq_getElem (by rw [HRL.out]; omega)⟩
              obtain ⟨ad, rfl, hc2, -⟩ := HRW.out i x hx
              have HXX := Lib.hid hx
              clear hx
              have BX := BW x
              cases hb : btw x 0 c.delay
              · have HQ2 := Lib.hid (show q = false by
                  rw [HQ.out]
                  refine all_false HX.out ?_
                  unfold rowOk
                  rw [all_false HXX.out hb, Bool.and_false])
                rw [hb] at BX
                clear hb
                go_wp2_with fail
                refine (BX _).mono ?_
                rintro e w9 ⟨rfl, hw⟩
                obtain rfl := hw.symm
                go_wp2
                go_ret
                exact ⟨by rw [HQ2.out]; rfl, X.out.b⟩
              · have HJ2 := Lib.hid (show ∀ (j : Nat) (y : Int), j < i + 1 → r[j]? = some y → btw y 0 c.delay = true by
                  intro j y hj hy
                  by_cases hji : j = i
                  · subst hji
                    rw [HXX.out] at hy
                    cases hy
                    exact hb
                  · exact HJ.out j y (by omega) hy)
                rw [hb] at BX
                clear hb
                go_wp2_with fail
                refine (BX _).mono ?_
                rintro e w9 ⟨rfl, hw⟩
                obtain rfl := hw.symm
                go_wp2
                go_roundw
                case rel => exact ⟨i + 1, by omega, by go_num, trivial, HJ2⟩
                case measure => simp [intOf]; omega
            · have HI2 := Lib.hid (show ∀ (j : Nat) (y : List Int), j < k + 1 → c.delays[j]? = some y → rowOk c y = true by
                intro j y hj hy
                by_cases hji : j = k
                · subst hji
                  rw [HX.out] at hy
                  cases hy
                  unfold rowOk
                  rw [decide_eq_true HRL.out, Bool.true_and]
                  exact all_true (fun j x hx => HJ.out j x (by have := lt_of_get hx; rw [HRL.out] at this; omega) hx)
                · exact HI.out j y (by omega) hy)
              go_wp2
              exact ⟨⟨k + 1, by omega, by go_num, trivial, HI2⟩, by simp [intOf]; omega⟩
        · have hm2 : ((m : Int) != 2) = true := by rw [bne_iff_ne]; omega
          have HQ2 := Lib.hid (show q = false by
            rw [HQ.out]
            refine all_false HX.out ?_
            unfold rowOk
            rw [hrl, decide_eq_false h2, Bool.false_and])
          clear hrl h2
          go_wp2
          go_ret
          exact ⟨by rw [HQ2.out]; rfl, X.out.b⟩
      · have HQ2 := Lib.hid (show q = true by
          rw [HQ.out]
          exact all_true (fun j r hj => HI.out j r (by have := lt_of_get hj; rw [← HN.out] at this; omega) hj))
        go_wp2
        go_ret
        exact ⟨by rw [HQ2.out]; rfl, X.out.b⟩
  · have HR : rowsOk c = false := by unfold rowsOk; rw [← HN.out, decide_eq_false hne]; rfl
    rw [HR]
    have hne2 : ((nd : Int) != c.hosts) = true := by rw [bne_iff_ne]; exact hne
    have HNE := Lib.hid hne
    clear hne HR
    have X := Lib.hid (CX.start (w0 := w) (c := c) (D := D) (E := E) (L := L) (nd := nd) (cd := cd) (ne := ne) (ce := ce) (nl := nl) (cl := cl))
    go_enter Try.func48, Try.ntmps48
    go_wp2
    go_ret
    exact ⟨rfl, X.out.b⟩
theorem CX.mem {w0 w : World} {c : Cfg} {D E L : Option Addr} {nd cd ne ce nl cl : Nat} (h : CX w0 c D E L nd cd ne ce nl cl w) (m : CM w0 c D E L nd cd ne ce nl cl) : CM w c D E L nd cd ne ce nl cl := m.below h.b
set_option maxHeartbeats 2000000 in
theorem rightEntries_any (c : Cfg) (D E L : Option Addr) (nd cd ne ce nl cl : Nat) (w : World) (h : CM w c D E L nd cd ne ce nl cl) (hh : 1 ≤ c.hosts ∧ c.hosts ≤ 6) : Calls Try.prog 49 #[.agg #[.int .i64 c.hosts, .int .i64 c.cycle, .int .i64 c.delay, .int .i64 c.window, .int .i64 c.precision, .slice D nd cd, .slice E ne ce, .slice L nl cl, .int .i64 c.queue]] w fun r w' => r = .returned (.bool (entOk c)) ∧ Below w.heap.size w w' := by
  have HM := Lib.hid h
  have HH := Lib.hid hh
  have hm : ne ≤ 9223372036854775807 := h.mE
  clear h hh
  have X := Lib.hid (CX.start (w0 := w) (c := c) (D := D) (E := E) (L := L) (nd := nd) (cd := cd) (ne := ne) (ce := ce) (nl := nl) (cl := cl))
  by_cases hn : 16 < ne
  · have HR : entOk c = false := by unfold entOk; rw [← HM.out.nE, decide_eq_false (by omega)]; rfl
    rw [HR]
    clear HR
    have hn2 : (16 : Int) < (ne : Int) := by omega
    go_enter Try.func49, Try.ntmps49
    go_wp2
    go_ret
    exact ⟨rfl, X.out.b⟩
  · have HR : entOk c = c.entries.all (wayE c.hosts) := by unfold entOk; rw [← HM.out.nE, decide_eq_true (by omega)]; rfl
    generalize hq : entOk c = q at *
    have HQ := Lib.hid HR
    clear HR hq
    have hn2 : ¬ (16 : Int) < (ne : Int) := by omega
    clear hn
    go_enter Try.func49, Try.ntmps49
    go_wp2
    go_loopw [12] (fun iv wr => ∃ (k : Nat), k ≤ ne ∧ iv = .int .i64 k ∧ Hid (CX w c D E L nd cd ne ce nl cl wr) ∧ Hid (∀ j r, j < k → c.entries[j]? = some r → wayE c.hosts r = true)) (fun iv _ => ne - (intOf iv).toNat)
    case atStart => exact ⟨0, Nat.zero_le _, rfl, X, Lib.hid (fun j r hj => by omega)⟩
    case round =>
      clear X
      obtain ⟨k, hk, rfl, X, HI⟩ := hrel
      obtain ⟨-, a0, a1, a2, a3, a4, a5, a6, a7, a8⟩ := X.out.s
      by_cases hlt : (k : Int) < (ne : Int)
      · obtain ⟨x, hx⟩ : ∃ x, c.entries[k]? = some x := ⟨_, List.getElem?_eq_getElem (by rw [← HM.out.nE]; omega)⟩
        obtain ⟨b, off, rfl, ⟨x0, x1, x2, x3⟩, hxb⟩ := (X.out.mem HM.out).he k x hx
        have HX := Lib.hid hx
        clear hx
        have RW := fun W => rightWay_any c.hosts x.a x.b x.d W HH.out hxb
        have X1 := Lib.hid (X.out.next (al (Below.refl wr.heap.size wr) (Obj.cells #[.int .i64 x.a, .int .u32 x.b, .int .i64 x.c, .int .i64 x.d] 40)))
        obtain ⟨-, b0, b1, b2, b3, b4, b5, b6, b7, b8⟩ := X1.out.s
        have HJ2 := Lib.hid (show wayE c.hosts x = true → ∀ (j : Nat) (y : R4), j < k + 1 → c.entries[j]? = some y → wayE c.hosts y = true by
          intro hb j y hj hy
          by_cases hji : j = k
          · subst hji
            rw [HX.out] at hy
            cases hy
            exact hb
          · exact HI.out j y (by omega) hy)
        have HQ2 := Lib.hid (show wayE c.hosts x = false → q = false from fun hb => by
          rw [HQ.out]
          exact all_false HX.out hb)
        have hway : wayE c.hosts x = way c.hosts x.a x.b x.d := rfl
        cases hb : way c.hosts x.a x.b x.d
        · have HB := Lib.hid (show wayE c.hosts x = false by rw [hway, hb])
          clear hway
          rw [hb] at RW
          clear hb
          go_wp2_with fail
          refine (RW _).mono ?_
          rintro e w9 ⟨rfl, hw⟩
          obtain rfl := hw.symm
          go_wp2
          go_ret
          exact ⟨by rw [HQ2.out HB.out]; rfl, X1.out.b⟩
        · have HB := Lib.hid (show wayE c.hosts x = true by rw [hway, hb])
          clear hway
          rw [hb] at RW
          clear hb
          go_wp2_with fail
          refine (RW _).mono ?_
          rintro e w9 ⟨rfl, hw⟩
          obtain rfl := hw.symm
          go_wp2
          go_roundw
          case rel => exact ⟨k + 1, by omega, by go_num, X1, HJ2.out HB.out⟩
          case measure => simp [intOf]; omega
      · have HQ2 := Lib.hid (show q = true by
          rw [HQ.out]
          exact all_true (fun j r hj => HI.out j r (by have := lt_of_get hj; rw [← HM.out.nE] at this; omega) hj))
        go_wp2
        go_ret
        exact ⟨by rw [HQ2.out]; rfl, X.out.b⟩
set_option maxHeartbeats 2000000 in
theorem rightLinks_any (c : Cfg) (D E L : Option Addr) (nd cd ne ce nl cl : Nat) (w : World) (h : CM w c D E L nd cd ne ce nl cl) (hh : 1 ≤ c.hosts ∧ c.hosts ≤ 6) : Calls Try.prog 54 #[.agg #[.int .i64 c.hosts, .int .i64 c.cycle, .int .i64 c.delay, .int .i64 c.window, .int .i64 c.precision, .slice D nd cd, .slice E ne ce, .slice L nl cl, .int .i64 c.queue]] w fun r w' => r = .returned (.bool (linkOk c)) ∧ Below w.heap.size w w' := by
  have HM := Lib.hid h
  have HH := Lib.hid hh
  have hm : nl ≤ 9223372036854775807 := h.mL
  clear h hh
  have X := Lib.hid (CX.start (w0 := w) (c := c) (D := D) (E := E) (L := L) (nd := nd) (cd := cd) (ne := ne) (ce := ce) (nl := nl) (cl := cl))
  by_cases hn : 16 < nl
  · have HR : linkOk c = false := by unfold linkOk; rw [← HM.out.nL, decide_eq_false (by omega)]; rfl
    rw [HR]
    clear HR
    have hn2 : (16 : Int) < (nl : Int) := by omega
    go_enter Try.func54, Try.ntmps54
    go_wp2
    go_ret
    exact ⟨rfl, X.out.b⟩
  · have HR : linkOk c = c.links.all (lnk c) := by unfold linkOk; rw [← HM.out.nL, decide_eq_true (by omega)]; rfl
    generalize hq : linkOk c = q at *
    have HQ := Lib.hid HR
    clear HR hq
    have hn2 : ¬ (16 : Int) < (nl : Int) := by omega
    clear hn
    go_enter Try.func54, Try.ntmps54
    go_wp2
    go_loopw [12] (fun iv wr => ∃ (k : Nat), k ≤ nl ∧ iv = .int .i64 k ∧ Hid (CX w c D E L nd cd ne ce nl cl wr) ∧ Hid (∀ j r, j < k → c.links[j]? = some r → lnk c r = true)) (fun iv _ => nl - (intOf iv).toNat)
    case atStart => exact ⟨0, Nat.zero_le _, rfl, X, Lib.hid (fun j r hj => by omega)⟩
    case round =>
      clear X
      obtain ⟨k, hk, rfl, X, HI⟩ := hrel
      obtain ⟨-, a0, a1, a2, a3, a4, a5, a6, a7, a8⟩ := X.out.s
      by_cases hlt : (k : Int) < (nl : Int)
      · obtain ⟨x, hx⟩ : ∃ x, c.links[k]? = some x := ⟨_, List.getElem?_eq_getElem (by rw [← HM.out.nL]; omega)⟩
        obtain ⟨b, off, rfl, ⟨x0, x1, x2, x3⟩, hxb⟩ := (X.out.mem HM.out).hl k x hx
        have HX := Lib.hid hx
        clear hx
        have RW := fun W => rightWay_any c.hosts x.a x.b x.d W HH.out hxb
        have X1 := Lib.hid (X.out.next (al (Below.refl wr.heap.size wr) (Obj.cells #[.int .i64 x.a, .int .u32 x.b, .int .i64 x.c, .int .i64 x.d] 63)))
        obtain ⟨-, b0, b1, b2, b3, b4, b5, b6, b7, b8⟩ := X1.out.s
        have HJ2 := Lib.hid (show lnk c x = true → ∀ (j : Nat) (y : R4), j < k + 1 → c.links[j]? = some y → lnk c y = true by
          intro hb j y hj hy
          by_cases hji : j = k
          · subst hji
            rw [HX.out] at hy
            cases hy
            exact hb
          · exact HI.out j y (by omega) hy)
        have HQ2 := Lib.hid (show lnk c x = false → q = false from fun hb => by
          rw [HQ.out]
          exact all_false HX.out hb)
        have hway : wayE c.hosts x = way c.hosts x.a x.b x.d := rfl
        have BW := fun W => between_i64 x.c 1 1073741824 W
        cases hb : way c.hosts x.a x.b x.d
        · have HB := Lib.hid (show lnk c x = false by unfold lnk; rw [hway, hb]; rfl)
          clear hway BW
          rw [hb] at RW
          clear hb
          go_wp2_with fail
          refine (RW _).mono ?_
          rintro e w9 ⟨rfl, hw⟩
          obtain rfl := hw.symm
          go_wp2
          go_ret
          exact ⟨by rw [HQ2.out HB.out]; rfl, X1.out.b⟩
        · cases hb2 : btw x.c 1 1073741824
          · have HB := Lib.hid (show lnk c x = false by unfold lnk; rw [hway, hb, hb2]; rfl)
            clear hway
            rw [hb2] at BW
            clear hb2
            rw [hb] at RW
            clear hb
            go_wp2_with fail
            refine (RW _).mono ?_
            rintro e w9 ⟨rfl, hw⟩
            obtain rfl := hw.symm
            go_wp2_with fail
            refine (BW _).mono ?_
            rintro e w9 ⟨rfl, hw⟩
            obtain rfl := hw.symm
            go_wp2
            go_ret
            exact ⟨by rw [HQ2.out HB.out]; rfl, X1.out.b⟩
          · have HB := Lib.hid (show lnk c x = true by unfold lnk; rw [hway, hb, hb2]; rfl)
            clear hway
            rw [hb2] at BW
            clear hb2
            rw [hb] at RW
            clear hb
            go_wp2_with fail
            refine (RW _).mono ?_
            rintro e w9 ⟨rfl, hw⟩
            obtain rfl := hw.symm
            go_wp2_with fail
            refine (BW _).mono ?_
            rintro e w9 ⟨rfl, hw⟩
            obtain rfl := hw.symm
            go_wp2
            go_roundw
            case rel => exact ⟨k + 1, by omega, by go_num, X1, HJ2.out HB.out⟩
            case measure => simp [intOf]; omega
      · have HQ2 := Lib.hid (show q = true by
          rw [HQ.out]
          exact all_true (fun j r hj => HI.out j r (by have := lt_of_get hj; rw [← HM.out.nL] at this; omega) hj))
        go_wp2
        go_ret
        exact ⟨by rw [HQ2.out]; rfl, X.out.b⟩
end Go.Proofs.Ytdaoemjkefpmcaa.ConfW

