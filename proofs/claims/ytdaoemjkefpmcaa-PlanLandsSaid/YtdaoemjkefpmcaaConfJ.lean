/- Check. -/
import Derived.Test.YtdaoemjkefpmcaaConfI
namespace Go.Proofs.Ytdaoemjkefpmcaa.ConfW
open Go.RowKit Shell
theorem CX.drew {w0 w : World} (c : Cfg) (D E L : Option Addr) (nd cd ne ce nl cl : Nat) (h : CX w0 c D E L nd cd ne ce nl cl w) : CX w0 c D E L nd cd ne ce nl cl w.drew := h.next (Below.refl _ _).drew
theorem ph_range {c : Cfg} (h2 : btw c.cycle 1 1073741824 = true) (h6 : phOk c = true) : ∀ e ∈ c.entries, 0 ≤ e.c ∧ e.c ≤ 1073741824 := by
  intro e he
  have h := List.all_eq_true.1 h6 e he
  rw [ph_iff] at h
  have h0 := quiet_nonneg (c := c)
  have := btw_iff.1 h2
  omega
set_option maxHeartbeats 8000000 in
theorem check_any (c : Cfg) (D E L : Option Addr) (nd cd ne ce nl cl : Nat) (w : World) (h : CM w c D E L nd cd ne ce nl cl) : Calls Try.prog 27 #[.agg #[.int .i64 c.hosts, .int .i64 c.cycle, .int .i64 c.delay, .int .i64 c.window, .int .i64 c.precision, .slice D nd cd, .slice E ne ce, .slice L nl cl, .int .i64 c.queue]] w fun r w' => r = .returned (.int .i64 (chk c)) ∧ Below w.heap.size w w' := by
  have HM := Lib.hid h
  clear h
  have H1 := Lib.hid (fun W => between_int c.hosts 1 6 W)
  have H2 := Lib.hid (fun W => between_i64 c.cycle 1 1073741824 W)
  have H3 := Lib.hid (fun W (hW : CX w c D E L nd cd ne ce nl cl W) => (rightTimes_any c D E L nd cd ne ce nl cl W).mono (fun r W' (g : _ ∧ _) => (⟨g.1, hW.next g.2⟩ : r = _ ∧ CX w c D E L nd cd ne ce nl cl W')))
  have H4 := Lib.hid (fun W (hW : CX w c D E L nd cd ne ce nl cl W) => (rightDelays_any c D E L nd cd ne ce nl cl W (hW.mem HM.out)).mono (fun r W' (g : _ ∧ _) => (⟨g.1, hW.next g.2⟩ : r = _ ∧ CX w c D E L nd cd ne ce nl cl W')))
  have H5 := Lib.hid (fun (b1 : btw c.hosts 1 6 = true) W (hW : CX w c D E L nd cd ne ce nl cl W) => (rightEntries_any c D E L nd cd ne ce nl cl W (hW.mem HM.out) (btw_iff.1 b1)).mono (fun r W' (g : _ ∧ _) => (⟨g.1, hW.next g.2⟩ : r = _ ∧ CX w c D E L nd cd ne ce nl cl W')))
  have H6 := Lib.hid (fun W (hW : CX w c D E L nd cd ne ce nl cl W) => (rightPhases_any c D E L nd cd ne ce nl cl W (hW.mem HM.out)).mono (fun r W' (g : _ ∧ _) => (⟨g.1, hW.next g.2⟩ : r = _ ∧ CX w c D E L nd cd ne ce nl cl W')))
  have H9 := Lib.hid (fun (b1 : btw c.hosts 1 6 = true) W (hW : CX w c D E L nd cd ne ce nl cl W) => (rightLinks_any c D E L nd cd ne ce nl cl W (hW.mem HM.out) (btw_iff.1 b1)).mono (fun r W' (g : _ ∧ _) => (⟨g.1, hW.next g.2⟩ : r = _ ∧ CX w c D E L nd cd ne ce nl cl W')))
  have H10 := Lib.hid (fun W => between_int c.queue 1 64 W)
  have H7a := Lib.hid (show btw c.cycle 1 1073741824 = true → phOk c = true → ∀ W, (Hid (CX w c D E L nd cd ne ce nl cl W) ∧ W.cell? ⟨w.heap.size, 0, none⟩ = some (.int .i64 c.hosts) ∧ W.cell? ⟨w.heap.size, 1, none⟩ = some (.int .i64 c.cycle) ∧ W.cell? ⟨w.heap.size, 2, none⟩ = some (.int .i64 c.delay) ∧ W.cell? ⟨w.heap.size, 3, none⟩ = some (.int .i64 c.window) ∧ W.cell? ⟨w.heap.size, 4, none⟩ = some (.int .i64 c.precision) ∧ W.cell? ⟨w.heap.size, 5, none⟩ = some (.slice D nd cd) ∧ W.cell? ⟨w.heap.size, 6, none⟩ = some (.slice E ne ce) ∧ W.cell? ⟨w.heap.size, 7, none⟩ = some (.slice L nl cl) ∧ W.cell? ⟨w.heap.size, 8, none⟩ = some (.int .i64 c.queue)) → Calls Try.prog 52 #[] W fun r W' => ∃ lf, r = .returned (.func (.func 72) #[] lf) ∧ FnS W' 72 lf c.entries snd ∧ (Hid (CX w c D E L nd cd ne ce nl cl W') ∧ W'.cell? ⟨w.heap.size, 0, none⟩ = some (.int .i64 c.hosts) ∧ W'.cell? ⟨w.heap.size, 1, none⟩ = some (.int .i64 c.cycle) ∧ W'.cell? ⟨w.heap.size, 2, none⟩ = some (.int .i64 c.delay) ∧ W'.cell? ⟨w.heap.size, 3, none⟩ = some (.int .i64 c.window) ∧ W'.cell? ⟨w.heap.size, 4, none⟩ = some (.int .i64 c.precision) ∧ W'.cell? ⟨w.heap.size, 5, none⟩ = some (.slice D nd cd) ∧ W'.cell? ⟨w.heap.size, 6, none⟩ = some (.slice E ne ce) ∧ W'.cell? ⟨w.heap.size, 7, none⟩ = some (.slice L nl cl) ∧ W'.cell? ⟨w.heap.size, 8, none⟩ = some (.int .i64 c.queue)) from
    fun b2 b6 W hW => (sent_any c.entries W (ph_range b2 b6)).mono fun r W' ⟨lf, h1, h2, h3⟩ => ⟨lf, h1, h2, (hW.1.out.next h3).s⟩)
  have H8a := Lib.hid (show ∀ W, (Hid (CX w c D E L nd cd ne ce nl cl W) ∧ W.cell? ⟨w.heap.size, 0, none⟩ = some (.int .i64 c.hosts) ∧ W.cell? ⟨w.heap.size, 1, none⟩ = some (.int .i64 c.cycle) ∧ W.cell? ⟨w.heap.size, 2, none⟩ = some (.int .i64 c.delay) ∧ W.cell? ⟨w.heap.size, 3, none⟩ = some (.int .i64 c.window) ∧ W.cell? ⟨w.heap.size, 4, none⟩ = some (.int .i64 c.precision) ∧ W.cell? ⟨w.heap.size, 5, none⟩ = some (.slice D nd cd) ∧ W.cell? ⟨w.heap.size, 6, none⟩ = some (.slice E ne ce) ∧ W.cell? ⟨w.heap.size, 7, none⟩ = some (.slice L nl cl) ∧ W.cell? ⟨w.heap.size, 8, none⟩ = some (.int .i64 c.queue)) → Calls Try.prog 53 #[.agg #[.int .i64 c.hosts, .int .i64 c.cycle, .int .i64 c.delay, .int .i64 c.window, .int .i64 c.precision, .slice D nd cd, .slice E ne ce, .slice L nl cl, .int .i64 c.queue]] W fun r W' => ∃ lf, r = .returned (.func (.func 72) #[] lf) ∧ FnS W' 72 lf c.entries (rcv c) ∧ (Hid (CX w c D E L nd cd ne ce nl cl W') ∧ W'.cell? ⟨w.heap.size, 0, none⟩ = some (.int .i64 c.hosts) ∧ W'.cell? ⟨w.heap.size, 1, none⟩ = some (.int .i64 c.cycle) ∧ W'.cell? ⟨w.heap.size, 2, none⟩ = some (.int .i64 c.delay) ∧ W'.cell? ⟨w.heap.size, 3, none⟩ = some (.int .i64 c.window) ∧ W'.cell? ⟨w.heap.size, 4, none⟩ = some (.int .i64 c.precision) ∧ W'.cell? ⟨w.heap.size, 5, none⟩ = some (.slice D nd cd) ∧ W'.cell? ⟨w.heap.size, 6, none⟩ = some (.slice E ne ce) ∧ W'.cell? ⟨w.heap.size, 7, none⟩ = some (.slice L nl cl) ∧ W'.cell? ⟨w.heap.size, 8, none⟩ = some (.int .i64 c.queue)) from
    fun W hW => (forwarded_any c D E L nd cd ne ce nl cl c.entries W HM.out.he.u32).mono fun r W' ⟨lf, h1, h2, h3⟩ => ⟨lf, h1, h2, (hW.1.out.next h3).s⟩)
  have HP := Lib.hid (show ∀ W lf p, FnS W 72 lf c.entries p → (Hid (CX w c D E L nd cd ne ce nl cl W) ∧ W.cell? ⟨w.heap.size, 0, none⟩ = some (.int .i64 c.hosts) ∧ W.cell? ⟨w.heap.size, 1, none⟩ = some (.int .i64 c.cycle) ∧ W.cell? ⟨w.heap.size, 2, none⟩ = some (.int .i64 c.delay) ∧ W.cell? ⟨w.heap.size, 3, none⟩ = some (.int .i64 c.window) ∧ W.cell? ⟨w.heap.size, 4, none⟩ = some (.int .i64 c.precision) ∧ W.cell? ⟨w.heap.size, 5, none⟩ = some (.slice D nd cd) ∧ W.cell? ⟨w.heap.size, 6, none⟩ = some (.slice E ne ce) ∧ W.cell? ⟨w.heap.size, 7, none⟩ = some (.slice L nl cl) ∧ W.cell? ⟨w.heap.size, 8, none⟩ = some (.int .i64 c.queue)) → Calls Try.prog 51 #[.slice E ne ce, .func (.func 72) #[] lf] W fun r W' => r = .returned (.bool (prs p c.entries)) ∧ (Hid (CX w c D E L nd cd ne ce nl cl W') ∧ W'.cell? ⟨w.heap.size, 0, none⟩ = some (.int .i64 c.hosts) ∧ W'.cell? ⟨w.heap.size, 1, none⟩ = some (.int .i64 c.cycle) ∧ W'.cell? ⟨w.heap.size, 2, none⟩ = some (.int .i64 c.delay) ∧ W'.cell? ⟨w.heap.size, 3, none⟩ = some (.int .i64 c.window) ∧ W'.cell? ⟨w.heap.size, 4, none⟩ = some (.int .i64 c.precision) ∧ W'.cell? ⟨w.heap.size, 5, none⟩ = some (.slice D nd cd) ∧ W'.cell? ⟨w.heap.size, 6, none⟩ = some (.slice E ne ce) ∧ W'.cell? ⟨w.heap.size, 7, none⟩ = some (.slice L nl cl) ∧ W'.cell? ⟨w.heap.size, 8, none⟩ = some (.int .i64 c.queue)) from
    fun W lf p hF hW => (pair_any E ne ce c.entries _ lf p W (hW.1.out.mem HM.out).he HM.out.nE HM.out.mE HM.out.cE hF).mono fun r W' ⟨h1, h2⟩ => ⟨h1, (hW.1.out.next h2).s⟩)
  have HP1 := Lib.hid (fun W lf => HP.out W lf snd)
  have HP2 := Lib.hid (fun W lf => HP.out W lf (rcv c))
  clear HP
  generalize hq : chk c = q
  have HQ := Lib.hid (show q = chk c from hq.symm)
  clear hq
  unfold chk at HQ
  generalize btw c.hosts 1 6 = b1 at *
  generalize btw c.cycle 1 1073741824 = b2 at *
  generalize spansT c = b3 at *
  generalize rowsOk c = b4 at *
  generalize entOk c = b5 at *
  generalize phOk c = b6 at *
  generalize prs snd c.entries = b7 at *
  generalize prs (rcv c) c.entries = b8 at *
  generalize linkOk c = b9 at *
  generalize btw c.queue 1 64 = b10 at *
  have X := Lib.hid (CX.start (w0 := w) (c := c) (D := D) (E := E) (L := L) (nd := nd) (cd := cd) (ne := ne) (ce := ce) (nl := nl) (cl := cl))
  go_enter Try.func27, Try.ntmps27
  go_wp2_with fail
  refine (H1.out _).mono ?_
  rintro r w9 ⟨rfl, hw⟩
  obtain rfl := hw.symm
  cases b1
  · go_wp2
    go_ret
    exact ⟨by rw [HQ.out]; rfl, X.out.b⟩
  · go_wp2_with fail
    refine (H2.out _).mono ?_
    rintro r w9 ⟨rfl, hw⟩
    obtain rfl := hw.symm
    cases b2
    · go_wp2
      go_ret
      exact ⟨by rw [HQ.out]; rfl, X.out.b⟩
    · go_wp2_with fail
      refine (H3.out _ X.out).mono ?_
      rintro r w3 ⟨rfl, hx⟩
      have X := Lib.hid hx
      clear hx
      obtain ⟨-, a30, a31, a32, a33, a34, a35, a36, a37, a38⟩ := X.out.s
      cases b3
      · go_wp2
        go_ret
        exact ⟨by rw [HQ.out]; rfl, X.out.b⟩
      · go_wp2_with fail
        refine (H4.out _ X.out).mono ?_
        rintro r w4 ⟨rfl, hx⟩
        have X := Lib.hid hx
        clear hx
        obtain ⟨-, a40, a41, a42, a43, a44, a45, a46, a47, a48⟩ := X.out.s
        cases b4
        · go_wp2
          go_ret
          exact ⟨by rw [HQ.out]; rfl, X.out.b⟩
        · go_wp2_with fail
          refine (H5.out (by first | rfl | trivial) _ X.out).mono ?_
          rintro r w5 ⟨rfl, hx⟩
          have X := Lib.hid hx
          clear hx
          obtain ⟨-, a50, a51, a52, a53, a54, a55, a56, a57, a58⟩ := X.out.s
          cases b5
          · go_wp2
            go_ret
            exact ⟨by rw [HQ.out]; rfl, X.out.b⟩
          · go_wp2_with fail
            refine (H6.out _ X.out).mono ?_
            rintro r w6 ⟨rfl, hx⟩
            have X := Lib.hid hx
            clear hx
            obtain ⟨-, a60, a61, a62, a63, a64, a65, a66, a67, a68⟩ := X.out.s
            cases b6
            · go_wp2
              go_ret
              exact ⟨by rw [HQ.out]; rfl, X.out.b⟩
            · go_wp2_with fail
              refine wp_region_held_drew (S := fun W : World => Hid (CX w c D E L nd cd ne ce nl cl W) ∧ W.cell? ⟨w.heap.size, 0, none⟩ = some (.int .i64 c.hosts) ∧ W.cell? ⟨w.heap.size, 1, none⟩ = some (.int .i64 c.cycle) ∧ W.cell? ⟨w.heap.size, 2, none⟩ = some (.int .i64 c.delay) ∧ W.cell? ⟨w.heap.size, 3, none⟩ = some (.int .i64 c.window) ∧ W.cell? ⟨w.heap.size, 4, none⟩ = some (.int .i64 c.precision) ∧ W.cell? ⟨w.heap.size, 5, none⟩ = some (.slice D nd cd) ∧ W.cell? ⟨w.heap.size, 6, none⟩ = some (.slice E ne ce) ∧ W.cell? ⟨w.heap.size, 7, none⟩ = some (.slice L nl cl) ∧ W.cell? ⟨w.heap.size, 8, none⟩ = some (.int .i64 c.queue)) (by kernel_rfl) (X.out.drew.s) (fun hHeld => ?_)
              refine wpAnyH_take (i := 0) (oi := ⟨(some 30), _, _, _, _, _⟩) (v := ?_) rfl (by kernel_rfl) (by kernel_rfl) (by kernel_rfl) (fun _ _ _ h => h) (Or.inl ⟨by kernel_rfl, ?_⟩) (by assumption) ?_; rotate_left; (focus (intro w hSw; (try dsimp only at hSw); go_simp; (try with_reducible rfl)))
              simp only [Act.put, List.setIfInBounds_toArray, List.set_cons_zero, List.set_cons_succ]
              refine wpAnyH_take (i := 1) (oi := ⟨(some 31), _, _, _, _, _⟩) (v := ?_) rfl (by kernel_rfl) (by kernel_rfl) (by kernel_rfl) (fun _ _ _ h => h) (Or.inl ⟨by kernel_rfl, ?_⟩) (by assumption) ?_; rotate_left; (focus (intro w hSw; (try dsimp only at hSw); go_simp; (try with_reducible rfl)))
              simp only [Act.put, List.setIfInBounds_toArray, List.set_cons_zero, List.set_cons_succ]
              refine wpAnyH_ready (rs := [2]) (by kernel_rfl) (by simp) ?_
              refine AllReadyH.cons (o := ⟨(some 32), _, _, _, _, _⟩) rfl (fun K hK => ?_) AllReadyH.nil
              go_simp
              ((with_reducible refine (H7a.out (by first | rfl | trivial) (by first | rfl | trivial) _ (by assumption)).mono ?_); rintro r w9 ⟨lf, rfl, hF, hs9⟩)
              go_simp
              refine hK.out _ _ (by assumption) (fun hHeld => ?_)
              clear hK K
              refine wpAnyH_ready (rs := [3]) (by kernel_rfl) (by simp) ?_
              refine AllReadyH.cons (o := ⟨(some 33), _, _, _, _, _⟩) rfl (fun K hK => ?_) AllReadyH.nil
              go_simp
              ((with_reducible refine (HP1.out _ _ hF (by assumption)).mono ?_); rintro r w9 ⟨rfl, hs9⟩)
              go_simp
              refine hK.out _ _ (by assumption) (fun hHeld => ?_)
              clear hK K
              refine wpAnyH_take (i := 4) (oi := ⟨(some 29), _, _, _, _, _⟩) (v := ?_) rfl (by kernel_rfl) (by kernel_rfl) (by kernel_rfl) (fun _ _ _ h => h) (Or.inl ⟨by kernel_rfl, ?_⟩) (by assumption) ?_; rotate_left; (focus (intro w hSw; (try dsimp only at hSw); go_simp; (try with_reducible rfl)))
              simp only [Act.put, List.setIfInBounds_toArray, List.set_cons_zero, List.set_cons_succ]
              refine wpAnyH_done (by kernel_rfl) ?_ _
              obtain ⟨X, a70, a71, a72, a73, a74, a75, a76, a77, a78⟩ := hHeld
              cases b7
              · go_wp2_with fail
                refine wp_region_held_drew (S := fun W : World => Hid (CX w c D E L nd cd ne ce nl cl W) ∧ W.cell? ⟨w.heap.size, 0, none⟩ = some (.int .i64 c.hosts) ∧ W.cell? ⟨w.heap.size, 1, none⟩ = some (.int .i64 c.cycle) ∧ W.cell? ⟨w.heap.size, 2, none⟩ = some (.int .i64 c.delay) ∧ W.cell? ⟨w.heap.size, 3, none⟩ = some (.int .i64 c.window) ∧ W.cell? ⟨w.heap.size, 4, none⟩ = some (.int .i64 c.precision) ∧ W.cell? ⟨w.heap.size, 5, none⟩ = some (.slice D nd cd) ∧ W.cell? ⟨w.heap.size, 6, none⟩ = some (.slice E ne ce) ∧ W.cell? ⟨w.heap.size, 7, none⟩ = some (.slice L nl cl) ∧ W.cell? ⟨w.heap.size, 8, none⟩ = some (.int .i64 c.queue)) (by kernel_rfl) (X.out.drew.s) (fun hHeld => ?_)
                refine wpAnyH_take (i := 0) (oi := ⟨(some 35), _, _, _, _, _⟩) (v := ?_) rfl (by kernel_rfl) (by kernel_rfl) (by kernel_rfl) (fun _ _ _ h => h) (Or.inl ⟨by kernel_rfl, ?_⟩) (by assumption) ?_; rotate_left; (focus (intro w hSw; (try dsimp only at hSw); go_simp; (try with_reducible rfl)))
                simp only [Act.put, List.setIfInBounds_toArray, List.set_cons_zero, List.set_cons_succ]
                refine wpAnyH_take (i := 1) (oi := ⟨(some 36), _, _, _, _, _⟩) (v := ?_) rfl (by kernel_rfl) (by kernel_rfl) (by kernel_rfl) (fun _ _ _ h => h) (Or.inl ⟨by kernel_rfl, ?_⟩) (by assumption) ?_; rotate_left; (focus (intro w hSw; (try dsimp only at hSw); go_simp; (try with_reducible rfl)))
                simp only [Act.put, List.setIfInBounds_toArray, List.set_cons_zero, List.set_cons_succ]
                refine wpAnyH_take (i := 2) (oi := ⟨(some 37), _, _, _, _, _⟩) (v := ?_) rfl (by kernel_rfl) (by kernel_rfl) (by kernel_rfl) (fun _ _ _ h => h) (Or.inl ⟨by kernel_rfl, ?_⟩) (by assumption) ?_; rotate_left; (focus (intro w hSw; (try dsimp only at hSw); go_simp; (try with_reducible rfl)))
                simp only [Act.put, List.setIfInBounds_toArray, List.set_cons_zero, List.set_cons_succ]
                refine wpAnyH_ready (rs := [3]) (by kernel_rfl) (by simp) ?_
                refine AllReadyH.cons (o := ⟨(some 38), _, _, _, _, _⟩) rfl (fun K hK => ?_) AllReadyH.nil
                go_simp
                ((with_reducible refine (H8a.out _ (by assumption)).mono ?_); rintro r w9 ⟨lf, rfl, hF, hs9⟩)
                go_simp
                refine hK.out _ _ (by assumption) (fun hHeld => ?_)
                clear hK K
                refine wpAnyH_ready (rs := [4]) (by kernel_rfl) (by simp) ?_
                refine AllReadyH.cons (o := ⟨(some 39), _, _, _, _, _⟩) rfl (fun K hK => ?_) AllReadyH.nil
                go_simp
                ((with_reducible refine (HP2.out _ _ hF (by assumption)).mono ?_); rintro r w9 ⟨rfl, hs9⟩)
                go_simp
                refine hK.out _ _ (by assumption) (fun hHeld => ?_)
                clear hK K
                refine wpAnyH_take (i := 5) (oi := ⟨(some 34), _, _, _, _, _⟩) (v := ?_) rfl (by kernel_rfl) (by kernel_rfl) (by kernel_rfl) (fun _ _ _ h => h) (Or.inl ⟨by kernel_rfl, ?_⟩) (by assumption) ?_; rotate_left; (focus (intro w hSw; (try dsimp only at hSw); go_simp; (try with_reducible rfl)))
                simp only [Act.put, List.setIfInBounds_toArray, List.set_cons_zero, List.set_cons_succ]
                refine wpAnyH_done (by kernel_rfl) ?_ _
                obtain ⟨X, a80, a81, a82, a83, a84, a85, a86, a87, a88⟩ := hHeld
                cases b8
                · go_wp2_with fail
                  refine (H9.out (by first | rfl | trivial) _ X.out).mono ?_
                  rintro r w9 ⟨rfl, hx⟩
                  have X := Lib.hid hx
                  clear hx
                  obtain ⟨-, a90, a91, a92, a93, a94, a95, a96, a97, a98⟩ := X.out.s
                  cases b9
                  · go_wp2
                    go_ret
                    exact ⟨by rw [HQ.out]; rfl, X.out.b⟩
                  · go_wp2_with fail
                    refine (H10.out _).mono ?_
                    rintro r w9 ⟨rfl, hw⟩
                    obtain rfl := hw.symm
                    cases b10
                    · go_wp2
                      go_ret
                      exact ⟨by rw [HQ.out]; rfl, X.out.b⟩
                    · go_wp2
                      go_ret
                      exact ⟨by rw [HQ.out]; rfl, X.out.b⟩
                · go_wp2
                  go_ret
                  exact ⟨by rw [HQ.out]; rfl, X.out.b⟩
              · go_wp2
                go_ret
                exact ⟨by rw [HQ.out]; rfl, X.out.b⟩
end Go.Proofs.Ytdaoemjkefpmcaa.ConfW

