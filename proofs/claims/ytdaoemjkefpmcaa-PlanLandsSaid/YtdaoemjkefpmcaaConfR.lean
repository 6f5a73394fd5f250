/- The document's own Check. -/
import Derived.Test.YtdaoemjkefpmcaaConfN
import Derived.Test.YtdaoemjkefpmcaaConfO
namespace Go.Proofs.Ytdaoemjkefpmcaa.ConfW
open Go.RowKit Shell
theorem ph_range2 {c : Cfg} (h2 : btw c.cycle 1 1073741824 = true) (h6 : phOk c = true) : ∀ e ∈ c.entries, 0 ≤ e.c ∧ e.c ≤ 1073741824 := by
  intro e he
  have h := List.all_eq_true.1 h6 e he
  rw [ph_iff] at h
  have h0 := quiet_nonneg (c := c)
  have := btw_iff.1 h2
  omega
theorem placed_all {c : Cfg} (h1 : btw c.hosts 1 6 = true) (h2 : btw c.cycle 1 1073741824 = true) (h3 : spansT c = true) (h5 : entOk c = true) (h6 : phOk c = true) : ∀ e ∈ c.entries, placed c e = true := by
  intro e he
  have hr := ph_range2 h2 h6 e he
  exact placed_in (spans_iff.2 ⟨btw_iff.1 h2, h3⟩) (btw_iff.1 h1) ((entOk_iff.1 h5).2 e he) hr.1 hr.2
set_option maxHeartbeats 8000000 in
set_option maxRecDepth 100000 in
theorem refCheck_any (c : Cfg) (D E L : Option Addr) (nd cd ne ce nl cl : Nat) (w : World) (h : CM w c D E L nd cd ne ce nl cl) : Calls Try.prog 22 #[.agg #[.int .i64 c.hosts, .int .i64 c.cycle, .int .i64 c.delay, .int .i64 c.window, .int .i64 c.precision, .slice D nd cd, .slice E ne ce, .slice L nl cl, .int .i64 c.queue]] w fun r w' => r = .returned (.int .i64 (chk c)) ∧ Below w.heap.size w w' := by
  have HM := Lib.hid h
  have hm : nl ≤ 9223372036854775807 := h.mL
  clear h
  have H3 := Lib.hid (fun W (hW : CX w c D E L nd cd ne ce nl cl W) => (refSpans_any c D E L nd cd ne ce nl cl W).mono (fun r W' (g : _ ∧ _) => (⟨g.1, hW.next g.2⟩ : r = _ ∧ CX w c D E L nd cd ne ce nl cl W')))
  have H4 := Lib.hid (fun W (hW : CX w c D E L nd cd ne ce nl cl W) => (refRows_any c D E L nd cd ne ce nl cl W (hW.mem HM.out)).mono (fun r W' (g : _ ∧ _) => (⟨g.1, hW.next g.2⟩ : r = _ ∧ CX w c D E L nd cd ne ce nl cl W')))
  generalize hq : chk c = q
  have HQ := Lib.hid (show q = chk c from hq.symm)
  clear hq
  unfold chk at HQ
  have X := Lib.hid (CX.start (w0 := w) (c := c) (D := D) (E := E) (L := L) (nd := nd) (cd := cd) (ne := ne) (ce := ce) (nl := nl) (cl := cl))
  by_cases h1a : c.hosts < 1
  · have HQ2 := Lib.hid (show q = 1 by rw [HQ.out, btw_false (by omega)]; rfl)
    go_enter Try.func22, Try.ntmps22
    go_wp2
    go_ret
    exact ⟨by rw [HQ2.out]; rfl, X.out.b⟩
  by_cases h1b : 6 < c.hosts
  · have HQ2 := Lib.hid (show q = 1 by rw [HQ.out, btw_false (by omega)]; rfl)
    go_enter Try.func22, Try.ntmps22
    go_wp2
    go_ret
    exact ⟨by rw [HQ2.out]; rfl, X.out.b⟩
  have B1 := Lib.hid (show btw c.hosts 1 6 = true from btw_iff.2 ⟨by omega, by omega⟩)
  by_cases h2a : c.cycle < 1
  · have HQ2 := Lib.hid (show q = 2 by rw [HQ.out, B1.out, btw_false (by omega)]; rfl)
    go_enter Try.func22, Try.ntmps22
    go_wp2
    go_ret
    exact ⟨by rw [HQ2.out]; rfl, X.out.b⟩
  by_cases h2b : 1073741824 < c.cycle
  · have HQ2 := Lib.hid (show q = 2 by rw [HQ.out, B1.out, btw_false (n := c.cycle) (by omega)]; rfl)
    go_enter Try.func22, Try.ntmps22
    go_wp2
    go_ret
    exact ⟨by rw [HQ2.out]; rfl, X.out.b⟩
  have B2 := Lib.hid (show btw c.cycle 1 1073741824 = true from btw_iff.2 ⟨by omega, by omega⟩)
  have HS : spans c = spansT c := by unfold spans; rw [B2.out]; rfl
  rw [HS] at H3
  clear HS
  go_enter Try.func22, Try.ntmps22
  go_wp2_with fail
  refine (H3.out _ X.out).mono ?_
  rintro r w3 ⟨rfl, hx⟩
  have X := Lib.hid hx
  clear hx
  obtain ⟨-, a0, a1, a2, a3, a4, a5, a6, a7, a8⟩ := X.out.s
  cases b3 : spansT c
  · have HQ2 := Lib.hid (show q = 3 by rw [HQ.out, B1.out, B2.out, b3]; rfl)
    clear b3
    go_wp2
    go_ret
    exact ⟨by rw [HQ2.out]; rfl, X.out.b⟩
  have B3 := Lib.hid b3
  clear b3
  go_wp2_with fail
  refine (H4.out _ X.out).mono ?_
  rintro r w4 ⟨rfl, hx⟩
  have X := Lib.hid hx
  clear hx a0 a1 a2 a3 a4 a5 a6 a7 a8
  obtain ⟨-, a0, a1, a2, a3, a4, a5, a6, a7, a8⟩ := X.out.s
  cases b4 : rowsOk c
  · have HQ2 := Lib.hid (show q = 4 by rw [HQ.out, B1.out, B2.out, B3.out, b4]; rfl)
    clear b4
    go_wp2
    go_ret
    exact ⟨by rw [HQ2.out]; rfl, X.out.b⟩
  have HQ4 := Lib.hid (show q = if entOk c then if phOk c then if prs snd c.entries then 7 else if prs (rcv c) c.entries then 8 else if linkOk c then if btw c.queue 1 64 then 0 else 10 else 9 else 6 else 5 by
    rw [HQ.out, B1.out, B2.out, B3.out, b4]; rfl)
  clear b4
  go_wp2
  go_loopw [3] (fun kv wr => ∃ (k : Nat), 5 ≤ k ∧ k ≤ 9 ∧ kv = .int .i64 k ∧ Hid (CX w c D E L nd cd ne ce nl cl wr) ∧ Hid ((6 ≤ k → entOk c = true) ∧ (7 ≤ k → phOk c = true) ∧ (8 ≤ k → prs snd c.entries = false) ∧ (9 ≤ k → prs (rcv c) c.entries = false))) (fun kv _ => 9 - (intOf kv).toNat)
  case atStart => exact ⟨5, by omega, by omega, rfl, X, Lib.hid (by omega)⟩
  case round =>
    clear X a0 a1 a2 a3 a4 a5 a6 a7 a8
    obtain ⟨k, hk1, hk2, rfl, X, HK⟩ := hrel
    obtain ⟨-, a0, a1, a2, a3, a4, a5, a6, a7, a8⟩ := X.out.s
    rcases (show k = 5 ∨ k = 6 ∨ k = 7 ∨ k = 8 ∨ k = 9 by omega) with rfl | rfl | rfl | rfl | rfl
    · have hh := btw_iff.1 B1.out
      have C := Lib.hid (ent5_any c D E L nd cd ne ce nl cl wr (X.out.mem HM.out) hh)
      clear hk1 hk2 hh
      cases hb : entOk c
      · have HQ2 := Lib.hid (show q = 5 by rw [HQ4.out, hb]; rfl)
        rw [hb] at C
        clear hb
        go_wp2_with fail
        refine C.out.mono ?_
        rintro r w5 ⟨rfl, hx⟩
        have X5 := Lib.hid (X.out.next hx)
        clear hx
        go_wp2
        go_ret
        exact ⟨by rw [HQ2.out]; rfl, X5.out.b⟩
      · have HK2 := Lib.hid (show (6 ≤ 6 → entOk c = true) ∧ (7 ≤ 6 → phOk c = true) ∧ (8 ≤ 6 → prs snd c.entries = false) ∧ (9 ≤ 6 → prs (rcv c) c.entries = false) from ⟨fun _ => hb, fun h => by omega, fun h => by omega, fun h => by omega⟩)
        rw [hb] at C
        clear hb
        go_wp2_with fail
        refine C.out.mono ?_
        rintro r w5 ⟨rfl, hx⟩
        have X5 := Lib.hid (X.out.next hx)
        clear hx
        go_wp2
        go_roundw
        case rel => exact ⟨6, by omega, by omega, rfl, X5, Lib.hid ⟨fun h => by first | trivial | exact HK2.out.1 h, fun h => by first | trivial | exact HK2.out.2.1 h, fun h => by first | trivial | exact HK2.out.2.2.1 h, fun h => by first | trivial | exact HK2.out.2.2.2 h⟩⟩
        case measure => simp [intOf]
    · have b5 := HK.out.1 (by omega)
      have C := Lib.hid (ent6_any c D E L nd cd ne ce nl cl wr (X.out.mem HM.out) (spans_iff.2 ⟨btw_iff.1 B2.out, B3.out⟩) (btw_iff.1 B1.out) b5)
      clear hk1 hk2
      cases hb : phOk c
      · have HQ2 := Lib.hid (show q = 6 by rw [HQ4.out, b5, hb]; rfl)
        rw [hb] at C
        clear hb b5
        go_wp2_with fail
        refine C.out.mono ?_
        rintro r w5 ⟨rfl, hx⟩
        have X5 := Lib.hid (X.out.next hx)
        clear hx
        go_wp2
        go_ret
        exact ⟨by rw [HQ2.out]; rfl, X5.out.b⟩
      · have HK2 := Lib.hid (show (6 ≤ 7 → entOk c = true) ∧ (7 ≤ 7 → phOk c = true) ∧ (8 ≤ 7 → prs snd c.entries = false) ∧ (9 ≤ 7 → prs (rcv c) c.entries = false) from ⟨fun _ => b5, fun _ => hb, fun h => by omega, fun h => by omega⟩)
        rw [hb] at C
        clear hb b5
        go_wp2_with fail
        refine C.out.mono ?_
        rintro r w5 ⟨rfl, hx⟩
        have X5 := Lib.hid (X.out.next hx)
        clear hx
        go_wp2
        go_roundw
        case rel => exact ⟨7, by omega, by omega, rfl, X5, Lib.hid ⟨fun h => by first | trivial | exact HK2.out.1 h, fun h => by first | trivial | exact HK2.out.2.1 h, fun h => by first | trivial | exact HK2.out.2.2.1 h, fun h => by first | trivial | exact HK2.out.2.2.2 h⟩⟩
        case measure => simp [intOf]
    · have b5 := HK.out.1 (by omega)
      have b6 := HK.out.2.1 (by omega)
      have C := Lib.hid (ent7_any c D E L nd cd ne ce nl cl wr (X.out.mem HM.out) (ph_range2 B2.out b6))
      clear hk1 hk2
      cases hb : prs snd c.entries
      · have HK2 := Lib.hid (show (6 ≤ 8 → entOk c = true) ∧ (7 ≤ 8 → phOk c = true) ∧ (8 ≤ 8 → prs snd c.entries = false) ∧ (9 ≤ 8 → prs (rcv c) c.entries = false) from ⟨fun _ => b5, fun _ => b6, fun _ => hb, fun h => by omega⟩)
        rw [hb] at C
        clear hb b5 b6
        go_wp2_with fail
        refine C.out.mono ?_
        rintro r w5 ⟨rfl, hx⟩
        have X5 := Lib.hid (X.out.next hx)
        clear hx
        go_wp2
        go_roundw
        case rel => exact ⟨8, by omega, by omega, rfl, X5, Lib.hid ⟨fun h => by first | trivial | exact HK2.out.1 h, fun h => by first | trivial | exact HK2.out.2.1 h, fun h => by first | trivial | exact HK2.out.2.2.1 h, fun h => by first | trivial | exact HK2.out.2.2.2 h⟩⟩
        case measure => simp [intOf]
      · have HQ2 := Lib.hid (show q = 7 by rw [HQ4.out, b5, b6, hb]; rfl)
        rw [hb] at C
        clear hb b5 b6
        go_wp2_with fail
        refine C.out.mono ?_
        rintro r w5 ⟨rfl, hx⟩
        have X5 := Lib.hid (X.out.next hx)
        clear hx
        go_wp2
        go_ret
        exact ⟨by rw [HQ2.out]; rfl, X5.out.b⟩
    · have b5 := HK.out.1 (by omega)
      have b6 := HK.out.2.1 (by omega)
      have b7 := HK.out.2.2.1 (by omega)
      have C := Lib.hid (ent8_any c D E L nd cd ne ce nl cl wr (X.out.mem HM.out) (ph_range2 B2.out b6) (placed_all B1.out B2.out B3.out b5 b6))
      clear hk1 hk2
      cases hb : prs (rcv c) c.entries
      · have HK2 := Lib.hid (show (6 ≤ 9 → entOk c = true) ∧ (7 ≤ 9 → phOk c = true) ∧ (8 ≤ 9 → prs snd c.entries = false) ∧ (9 ≤ 9 → prs (rcv c) c.entries = false) from ⟨fun _ => b5, fun _ => b6, fun _ => b7, fun _ => hb⟩)
        rw [hb] at C
        clear hb b5 b6 b7
        go_wp2_with fail
        refine C.out.mono ?_
        rintro r w5 ⟨rfl, hx⟩
        have X5 := Lib.hid (X.out.next hx)
        clear hx
        go_wp2
        go_roundw
        case rel => exact ⟨9, by omega, by omega, rfl, X5, Lib.hid ⟨fun h => by first | trivial | exact HK2.out.1 h, fun h => by first | trivial | exact HK2.out.2.1 h, fun h => by first | trivial | exact HK2.out.2.2.1 h, fun h => by first | trivial | exact HK2.out.2.2.2 h⟩⟩
        case measure => simp [intOf]
      · have HQ2 := Lib.hid (show q = 8 by rw [HQ4.out, b5, b6, b7, hb]; rfl)
        rw [hb] at C
        clear hb b5 b6 b7
        go_wp2_with fail
        refine C.out.mono ?_
        rintro r w5 ⟨rfl, hx⟩
        have X5 := Lib.hid (X.out.next hx)
        clear hx
        go_wp2
        go_ret
        exact ⟨by rw [HQ2.out]; rfl, X5.out.b⟩
    · have b5 := HK.out.1 (by omega)
      have b6 := HK.out.2.1 (by omega)
      have b7 := HK.out.2.2.1 (by omega)
      have b8 := HK.out.2.2.2 (by omega)
      have HQ9 := Lib.hid (show q = if linkOk c then if btw c.queue 1 64 then 0 else 10 else 9 by rw [HQ4.out, b5, b6, b7, b8]; rfl)
      clear b5 b6 b7 b8 hk1 hk2 HK
      by_cases hn : 16 < nl
      · have HQ2 := Lib.hid (show q = 9 by
          rw [HQ9.out]
          unfold linkOk
          rw [← HM.out.nL, decide_eq_false (by omega)]
          rfl)
        have hn2 : (16 : Int) < (nl : Int) := by omega
        clear hn
        go_wp2
        go_ret
        exact ⟨by rw [HQ2.out]; rfl, X.out.b⟩
      · have HN := Lib.hid hn
        have hn2 : ¬ (16 : Int) < (nl : Int) := by omega
        clear hn
        go_wp2
        go_loopw [4] (fun iv wr => ∃ (n : Nat), n ≤ nl ∧ iv = .int .i64 n ∧ Hid (CX w c D E L nd cd ne ce nl cl wr) ∧ Hid (∀ j r, j < n → c.links[j]? = some r → lnk c r = true)) (fun iv _ => nl - (intOf iv).toNat)
        case atStart => exact ⟨0, Nat.zero_le _, rfl, X, Lib.hid (by intros; omega)⟩
        case round =>
          clear X a0 a1 a2 a3 a4 a5 a6 a7 a8
          obtain ⟨n, hk, rfl, X, HI⟩ := hrel
          obtain ⟨-, a0, a1, a2, a3, a4, a5, a6, a7, a8⟩ := X.out.s
          by_cases hlt : (n : Int) < (nl : Int)
          · obtain ⟨x, hx⟩ : ∃ x, c.links[n]? = some x := ⟨_, List.getElem?_eq_getElem (by rw [← HM.out.nL]; omega)⟩
            obtain ⟨b, off, rfl, ⟨x0, x1, x2, x3⟩, hxb⟩ := (X.out.mem HM.out).hl n x hx
            have HX := Lib.hid hx
            clear hx
            have RW := Lib.hid (fun W => route_any c.hosts x.a x.b x.d W (btw_iff.1 B1.out) hxb)
            have X1 := Lib.hid (X.out.next (al (Below.refl wr.heap.size wr) (Obj.cells #[.int .i64 x.a, .int .u32 x.b, .int .i64 x.c, .int .i64 x.d] 63)))
            obtain ⟨-, b0, b1, b2, b3, b4, b5, b6, b7, b8⟩ := X1.out.s
            have HJ2 := Lib.hid (show lnk c x = true → ∀ (j : Nat) (y : R4), j < n + 1 → c.links[j]? = some y → lnk c y = true by
              intro hb j y hj hy
              by_cases hji : j = n
              · subst hji
                rw [HX.out] at hy
                cases hy
                exact hb
              · exact HI.out j y (by omega) hy)
            have HQ2 := Lib.hid (show lnk c x = false → q = 9 from fun hb => by
              rw [HQ9.out]
              unfold linkOk
              rw [all_false HX.out hb, Bool.and_false]
              rfl)
            have hway : wayE c.hosts x = way c.hosts x.a x.b x.d := rfl
            cases hb : way c.hosts x.a x.b x.d
            · have HB := Lib.hid (show lnk c x = false by unfold lnk; rw [hway, hb]; rfl)
              clear hway
              rw [hb] at RW
              clear hb hxb
              go_wp2_with fail
              refine (RW.out _).mono ?_
              rintro r w9 ⟨rfl, hw⟩
              obtain rfl := hw.symm
              go_wp2
              go_ret
              exact ⟨by rw [HQ2.out HB.out]; rfl, X1.out.b⟩
            · rw [hb] at RW
              by_cases g1 : x.c < 1
              · have HB := Lib.hid (show lnk c x = false by unfold lnk; rw [hway, hb, btw_false (by omega)]; rfl)
                clear hway hb hxb
                go_wp2_with fail
                refine (RW.out _).mono ?_
                rintro r w9 ⟨rfl, hw⟩
                obtain rfl := hw.symm
                go_wp2
                go_ret
                exact ⟨by rw [HQ2.out HB.out]; rfl, X1.out.b⟩
              · by_cases g2 : 1073741824 < x.c
                · have HB := Lib.hid (show lnk c x = false by unfold lnk; rw [hway, hb, btw_false (by omega)]; rfl)
                  clear hway hb hxb
                  go_wp2_with fail
                  refine (RW.out _).mono ?_
                  rintro r w9 ⟨rfl, hw⟩
                  obtain rfl := hw.symm
                  go_wp2
                  go_ret
                  exact ⟨by rw [HQ2.out HB.out]; rfl, X1.out.b⟩
                · have HB := Lib.hid (show lnk c x = true by unfold lnk; rw [hway, hb, btw_iff.2 ⟨by omega, by omega⟩]; rfl)
                  clear hway hb hxb
                  go_wp2_with fail
                  refine (RW.out _).mono ?_
                  rintro r w9 ⟨rfl, hw⟩
                  obtain rfl := hw.symm
                  go_wp2
                  go_roundw
                  case rel => exact ⟨n + 1, by omega, by go_num, X1, HJ2.out HB.out⟩
                  case measure => simp [intOf]; omega
          · have hlk : linkOk c = true := by
              unfold linkOk
              rw [all_true (p := lnk c) (fun j r hj => HI.out j r (by have := lt_of_get hj; rw [← HM.out.nL] at this; omega) hj), ← HM.out.nL, decide_eq_true (by have := HN.out; omega)]
              rfl
            have HQA := Lib.hid (show q = if btw c.queue 1 64 then 0 else 10 by rw [HQ9.out, hlk]; rfl)
            clear hlk
            by_cases g1 : c.queue < 1
            · have HQ2 := Lib.hid (show q = 10 by rw [HQA.out, btw_false (by omega)]; rfl)
              go_wp2
              go_ret
              exact ⟨by rw [HQ2.out]; rfl, X.out.b⟩
            · by_cases g2 : 64 < c.queue
              · have HQ2 := Lib.hid (show q = 10 by rw [HQA.out, btw_false (by omega)]; rfl)
                go_wp2
                go_ret
                exact ⟨by rw [HQ2.out]; rfl, X.out.b⟩
              · have HQ2 := Lib.hid (show q = 0 by rw [HQA.out, btw_iff.2 ⟨by omega, by omega⟩]; rfl)
                go_wp2
                go_ret
                exact ⟨by rw [HQ2.out]; rfl, X.out.b⟩
end Go.Proofs.Ytdaoemjkefpmcaa.ConfW

