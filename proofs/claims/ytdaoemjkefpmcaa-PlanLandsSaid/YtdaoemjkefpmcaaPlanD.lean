/- Package plan: Free, Wait. -/
import Derived.Test.YtdaoemjkefpmcaaPlanC
namespace Go.Proofs.Ytdaoemjkefpmcaa.PlanW
open Go.RowKit Shell
open ConfW (Cfg R4 CM ML chk tim fwd)
/-- Is a wire free: what is told. -/
def freeV (c : Cfg) (h : Int) (down : Bool) (t n : Int) : Bool := ask c h t n && !mtb c.cycle t n (rs c h down c.entries)
theorem wait_ok {c : Cfg} {h t n : Int} (g : ask c h t n = true) : ((0 ≤ t ∧ t ≤ 1125899906842624) ∧ chk c = 0) ∧ (1 ≤ c.cycle ∧ c.cycle ≤ 1073741824) ∧ 1 ≤ n ∧ n ≤ c.cycle := by
  obtain ⟨g1, -, g3⟩ := ask_iff.1 g
  have g2 := god_iff.1 g1
  exact ⟨g2, (chk_span g2.2).1, g3⟩
theorem rs_16 {c : Cfg} (h : Int) (down : Bool) (hz : chk c = 0) : (rs c h down c.entries).length ≤ 16 := Nat.le_trans (rs_len _ _ _ _) (chk_len hz)
set_option maxHeartbeats 8000000 in
set_option maxRecDepth 100000 in
theorem free_any (c : Cfg) (D E L : Option Addr) (nd cd ne ce nl cl : Nat) (h : Int) (down : Bool) (t n : Int) (w : World) (m : CM w c D E L nd cd ne ce nl cl) : Calls Try.prog 19 #[.agg #[.int .i64 c.hosts, .int .i64 c.cycle, .int .i64 c.delay, .int .i64 c.window, .int .i64 c.precision, .slice D nd cd, .slice E ne ce, .slice L nl cl, .int .i64 c.queue], .int .i64 h, .bool down, .int .i64 t, .int .i64 n] w fun r w' => r = .returned (.bool (freeV c h down t n)) ∧ Below w.heap.size w w' := by
  have S0 := Lib.hid ((Stay.start w).alloc (Obj.cells #[.int .i64 c.hosts, .int .i64 c.cycle, .int .i64 c.delay, .int .i64 c.window, .int .i64 c.precision, .slice D nd cd, .slice E ne ce, .slice L nl cl, .int .i64 c.queue] 26))
  have HM := Lib.hid m
  have KA := Lib.hid (fun W (hW : CM W c D E L nd cd ne ce nl cl) => askable_any c D E L nd cd ne ce nl cl h t n W hW)
  obtain ⟨a0, a1, a2, a3, a4, a5, a6, a7, a8⟩ := cells9 (S0.out.at 0 rfl)
  unfold freeV
  cases ha : ask c h t n with
  | false =>
    rw [ha] at KA
    clear ha m
    go_enter Try.func19, Try.ntmps19
    go_wp2_with (go_at_call 34; refine (KA.out _ (HM.out.below S0.out.b)).mono ?_; rintro r w5 ⟨rfl, b5⟩; have S := Lib.hid (S0.out.next b5); clear b5 a0 a1 a2 a3 a4 a5 a6 a7 a8)
    go_ret
    exact ⟨rfl, S.out.b⟩
  | true =>
    rw [ha] at KA
    obtain ⟨⟨t01, hz⟩, hC, hn⟩ := wait_ok ha
    have KR := Lib.hid (fun W (hW : CM W c D E L nd cd ne ce nl cl) => reserved_any c D E L nd cd ne ce nl cl h down W hW hz)
    have RO := Lib.hid (rs_ok (h := h) (down := down) hz)
    have RL := Lib.hid (rs_16 h down hz)
    generalize rs c h down c.entries = T at *
    have KM := Lib.hid (fun A cp W (hs : SL W A T) (hcp : T.length ≤ cp) => meet_any A T T.length cp c.cycle t n W hs rfl RL.out hcp RO.out hC (by omega) hn)
    generalize hB : mtb c.cycle t n T = B at *
    clear ha m hz hC hn t01 hB
    go_enter Try.func19, Try.ntmps19
    go_wp2_with (go_at_call 34; refine (KA.out _ (HM.out.below S0.out.b)).mono ?_; rintro r w5 ⟨rfl, b5⟩; have S := Lib.hid (S0.out.next b5); clear b5 a0 a1 a2 a3 a4 a5 a6 a7 a8)
    refine wp_region_held_drew (S := fun W : World => Stay w [(w.heap.size, Obj.cells #[.int .i64 c.hosts, .int .i64 c.cycle, .int .i64 c.delay, .int .i64 c.window, .int .i64 c.precision, .slice D nd cd, .slice E ne ce, .slice L nl cl, .int .i64 c.queue] 26)] W) (by kernel_rfl) (S.out.drew) (fun hHeld => ?_)
    refine wpAnyH_take (i := 0) (oi := ⟨some 20, _, _, _, _, _⟩) (v := ?_) rfl (by kernel_rfl) (by kernel_rfl) (by kernel_rfl) (fun _ _ _ h => h) (Or.inl ⟨by kernel_rfl, ?_⟩) (by assumption) ?_; rotate_left; (focus (intro w hSw; (try dsimp only at hSw); obtain ⟨a0, a1, a2, a3, a4, a5, a6, a7, a8⟩ := cells9 (Stay.at hSw 0 rfl); go_simp; (try with_reducible rfl)))
    simp only [Act.put, List.setIfInBounds_toArray, List.set_cons_zero, List.set_cons_succ]
    refine wpAnyH_take (i := 1) (oi := ⟨some 21, _, _, _, _, _⟩) (v := ?_) rfl (by kernel_rfl) (by kernel_rfl) (by kernel_rfl) (fun _ _ _ h => h) (Or.inl ⟨by kernel_rfl, ?_⟩) (by assumption) ?_; rotate_left; (focus (intro w hSw; (try dsimp only at hSw); go_simp; (try with_reducible rfl)))
    simp only [Act.put, List.setIfInBounds_toArray, List.set_cons_zero, List.set_cons_succ]
    refine wpAnyH_take (i := 2) (oi := ⟨some 22, _, _, _, _, _⟩) (v := ?_) rfl (by kernel_rfl) (by kernel_rfl) (by kernel_rfl) (fun _ _ _ h => h) (Or.inl ⟨by kernel_rfl, ?_⟩) (by assumption) ?_; rotate_left; (focus (intro w hSw; (try dsimp only at hSw); go_simp; (try with_reducible rfl)))
    simp only [Act.put, List.setIfInBounds_toArray, List.set_cons_zero, List.set_cons_succ]
    refine wpAnyH_take (i := 4) (oi := ⟨some 24, _, _, _, _, _⟩) (v := ?_) rfl (by kernel_rfl) (by kernel_rfl) (by kernel_rfl) (fun _ _ _ h => h) (Or.inl ⟨by kernel_rfl, ?_⟩) (by assumption) ?_; rotate_left; (focus (intro w hSw; (try dsimp only at hSw); go_simp; (try with_reducible rfl)))
    simp only [Act.put, List.setIfInBounds_toArray, List.set_cons_zero, List.set_cons_succ]
    refine wpAnyH_take (i := 5) (oi := ⟨some 25, _, _, _, _, _⟩) (v := ?_) rfl (by kernel_rfl) (by kernel_rfl) (by kernel_rfl) (fun _ _ _ h => h) (Or.inl ⟨by kernel_rfl, ?_⟩) (by assumption) ?_; rotate_left; (focus (intro w hSw; (try dsimp only at hSw); obtain ⟨a0, a1, a2, a3, a4, a5, a6, a7, a8⟩ := cells9 (Stay.at hSw 0 rfl); go_simp; (try with_reducible rfl)))
    simp only [Act.put, List.setIfInBounds_toArray, List.set_cons_zero, List.set_cons_succ]
    refine wpAnyH_take (i := 6) (oi := ⟨some 26, _, _, _, _, _⟩) (v := ?_) rfl (by kernel_rfl) (by kernel_rfl) (by kernel_rfl) (fun _ _ _ h => h) (Or.inl ⟨by kernel_rfl, ?_⟩) (by assumption) ?_; rotate_left; (focus (intro w hSw; (try dsimp only at hSw); go_simp; (try with_reducible rfl)))
    simp only [Act.put, List.setIfInBounds_toArray, List.set_cons_zero, List.set_cons_succ]
    refine wpAnyH_take (i := 7) (oi := ⟨some 27, _, _, _, _, _⟩) (v := ?_) rfl (by kernel_rfl) (by kernel_rfl) (by kernel_rfl) (fun _ _ _ h => h) (Or.inl ⟨by kernel_rfl, ?_⟩) (by assumption) ?_; rotate_left; (focus (intro w hSw; (try dsimp only at hSw); go_simp; (try with_reducible rfl)))
    simp only [Act.put, List.setIfInBounds_toArray, List.set_cons_zero, List.set_cons_succ]
    refine wpAnyH_ready (rs := [3]) (by kernel_rfl) (by simp) ?_
    refine AllReadyH.cons (o := ⟨some 23, _, _, _, _, _⟩) rfl (fun K hK => ?_) AllReadyH.nil
    rw [if_pos (by kernel_rfl)]
    go_simp
    refine (KR.out _ (HM.out.below (Stay.b hHeld))).mono ?_
    rintro r w9 ⟨v9, rfl, sr9, b9⟩
    have hS9 := Stay.next hHeld b9
    obtain ⟨A9, cp9, rfl, sl9, -, hc9⟩ := sr9.form
    clear b9 sr9
    go_simp
    refine hK.out _ _ (by assumption) (fun hHeld => ?_)
    clear hK K
    refine wpAnyH_ready (rs := [8]) (by kernel_rfl) (by simp) ?_
    refine AllReadyH.cons (o := ⟨some 28, _, _, _, _, _⟩) rfl (fun K hK => ?_) AllReadyH.nil
    rw [if_pos (by kernel_rfl)]
    go_simp
    refine (KM.out A9 cp9 _ sl9 hc9).mono ?_
    rintro r w10 ⟨v10, rfl, -, b10⟩
    have hS10 := Stay.next hHeld b10
    clear b10
    go_simp
    refine hK.out _ _ (by assumption) (fun hHeld => ?_)
    clear hK K
    refine wpAnyH_take (i := 9) (oi := ⟨some 19, _, _, _, _, _⟩) (v := ?_) rfl (by kernel_rfl) (by kernel_rfl) (by kernel_rfl) (fun _ _ _ h => h) (Or.inl ⟨by kernel_rfl, ?_⟩) (by assumption) ?_; rotate_left; (focus (intro w hSw; (try dsimp only at hSw); go_simp; (try with_reducible rfl)))
    simp only [Act.put, List.setIfInBounds_toArray, List.set_cons_zero, List.set_cons_succ]
    refine wpAnyH_take (i := 10) (oi := ⟨some 29, _, _, _, _, _⟩) (v := ?_) rfl (by kernel_rfl) (by kernel_rfl) (by kernel_rfl) (fun _ _ _ h => h) (Or.inl ⟨by kernel_rfl, ?_⟩) (by assumption) ?_; rotate_left; (focus (intro w hSw; (try dsimp only at hSw); go_simp; (try with_reducible rfl)))
    simp only [Act.put, List.setIfInBounds_toArray, List.set_cons_zero, List.set_cons_succ]
    refine wpAnyH_take (i := 12) (oi := ⟨some 11, _, _, _, _, _⟩) (v := ?_) rfl (by kernel_rfl) (by kernel_rfl) (by kernel_rfl) (fun _ _ _ h => h) (Or.inl ⟨by kernel_rfl, ?_⟩) (by assumption) ?_; rotate_left; (focus (intro w hSw; (try dsimp only at hSw); go_simp; (try with_reducible rfl)))
    simp only [Act.put, List.setIfInBounds_toArray, List.set_cons_zero, List.set_cons_succ]
    refine wpAnyH_take (i := 11) (oi := ⟨some 30, _, _, _, _, _⟩) (v := ?_) rfl (by kernel_rfl) (by kernel_rfl) (by kernel_rfl) (fun _ _ _ h => h) (Or.inl ⟨by kernel_rfl, ?_⟩) (by assumption) ?_; rotate_left; (focus (intro w hSw; (try dsimp only at hSw); go_simp; (try with_reducible rfl)))
    simp only [Act.put, List.setIfInBounds_toArray, List.set_cons_zero, List.set_cons_succ]
    refine wpAnyH_take (i := 13) (oi := ⟨some 12, _, _, _, _, _⟩) (v := ?_) rfl (by kernel_rfl) (by kernel_rfl) (by kernel_rfl) (fun _ _ _ h => h) (Or.inl ⟨by kernel_rfl, ?_⟩) (by assumption) ?_; rotate_left; (focus (intro w hSw; (try dsimp only at hSw); go_simp; (try with_reducible rfl)))
    simp only [Act.put, List.setIfInBounds_toArray, List.set_cons_zero, List.set_cons_succ]
    refine wpAnyH_done (by kernel_rfl) ?_ _
    cases B
    · go_wp2
      go_ret
      exact ⟨rfl, hHeld.b⟩
    · go_wp2
      go_ret
      exact ⟨rfl, hHeld.b⟩
/-- How long is waited: none, or the first free time. -/
def WaitT (c : Cfg) (h : Int) (down : Bool) (t n : Int) (r : Option Int) : Prop := if ask c h t n then First c.cycle (rs c h down c.entries) n t r else r = none
def WaitEnd (c : Cfg) (h : Int) (down : Bool) (t n : Int) (e : Ending) : Prop := ∃ r : Option Int, e = .returned (.tuple #[.int .i64 (tel r).1, .bool (tel r).2]) ∧ WaitT c h down t n r
theorem wait_none {c : Cfg} {h : Int} {down : Bool} {t n : Int} (g : ask c h t n = false) : WaitEnd c h down t n (.returned (.tuple #[.int .i64 0, .bool false])) := ⟨none, rfl, by unfold WaitT; rw [g]; rfl⟩
theorem wait_end {c : Cfg} {h : Int} {down : Bool} {t n : Int} (g : ask c h t n = true) {r : Option Int} (hf : First c.cycle (rs c h down c.entries) n t r) : WaitEnd c h down t n (.returned (.tuple #[.int .i64 (tel r).1, .bool (tel r).2])) := ⟨r, rfl, by unfold WaitT; rw [g]; exact hf⟩
set_option maxHeartbeats 8000000 in
set_option maxRecDepth 100000 in
theorem wait_any (c : Cfg) (D E L : Option Addr) (nd cd ne ce nl cl : Nat) (h : Int) (down : Bool) (t n : Int) (w : World) (m : CM w c D E L nd cd ne ce nl cl) : Calls Try.prog 17 #[.agg #[.int .i64 c.hosts, .int .i64 c.cycle, .int .i64 c.delay, .int .i64 c.window, .int .i64 c.precision, .slice D nd cd, .slice E ne ce, .slice L nl cl, .int .i64 c.queue], .int .i64 h, .bool down, .int .i64 t, .int .i64 n] w fun r w' => WaitEnd c h down t n r ∧ Below w.heap.size w w' := by
  have S0 := Lib.hid ((Stay.start w).alloc (Obj.cells #[.int .i64 c.hosts, .int .i64 c.cycle, .int .i64 c.delay, .int .i64 c.window, .int .i64 c.precision, .slice D nd cd, .slice E ne ce, .slice L nl cl, .int .i64 c.queue] 26))
  have HM := Lib.hid m
  have KA := Lib.hid (fun W (hW : CM W c D E L nd cd ne ce nl cl) => askable_any c D E L nd cd ne ce nl cl h t n W hW)
  obtain ⟨a0, a1, a2, a3, a4, a5, a6, a7, a8⟩ := cells9 (S0.out.at 0 rfl)
  cases ha : ask c h t n with
  | false =>
    rw [ha] at KA
    have WN := Lib.hid (wait_none (down := down) ha)
    clear ha m
    go_enter Try.func17, Try.ntmps17
    go_wp2_with (go_at_call 34; refine (KA.out _ (HM.out.below S0.out.b)).mono ?_; rintro r w5 ⟨rfl, b5⟩; have S := Lib.hid (S0.out.next b5); clear b5 a0 a1 a2 a3 a4 a5 a6 a7 a8)
    go_ret2
    exact ⟨WN.out, S.out.b⟩
  | true =>
    rw [ha] at KA
    have WE := Lib.hid (fun r => wait_end (down := down) (r := r) ha)
    obtain ⟨⟨t01, hz⟩, hC, hn⟩ := wait_ok ha
    have KR := Lib.hid (fun W (hW : CM W c D E L nd cd ne ce nl cl) => reserved_any c D E L nd cd ne ce nl cl h down W hW hz)
    have RO := Lib.hid (rs_ok (h := h) (down := down) hz)
    have RL := Lib.hid (rs_16 h down hz)
    generalize rs c h down c.entries = T at *
    have KM := Lib.hid (fun A cp a W (hs : SL W A T) (hcp : T.length ≤ cp) (h0 : t ≤ a) (h1 : a ≤ t + 2 * c.cycle) => meet_any A T T.length cp c.cycle a n W hs rfl RL.out hcp RO.out hC (by omega) hn)
    have HT := Lib.hid t01
    have HC := Lib.hid hC
    have HN := Lib.hid hn
    obtain ⟨E2, hE2⟩ : ∃ E2, t + 2 * c.cycle = E2 := ⟨_, rfl⟩
    have w1 : IntKind.i64.wrap (2 * c.cycle) = 2 * c.cycle := by rw [IntKind.wrap_i64]; omega
    have w2 : wrap64 (2 * c.cycle) = 2 * c.cycle := by unfold wrap64; omega
    have w3 : IntKind.i64.wrap (t + 2 * c.cycle) = E2 := by rw [IntKind.wrap_i64]; omega
    have w4 : wrap64 (t + 2 * c.cycle) = E2 := by unfold wrap64; omega
    have HE := Lib.hid hE2
    clear ha m hz hC hn t01 hE2
    go_enter Try.func17, Try.ntmps17
    go_wp2_with (first
      | (go_at_call 34; refine (KA.out _ (HM.out.below S0.out.b)).mono ?_; rintro r w5 ⟨rfl, b5⟩; have S := Lib.hid (S0.out.next b5); clear b5 a0 a1 a2 a3 a4 a5 a6 a7 a8; obtain ⟨a0, a1, a2, a3, a4, a5, a6, a7, a8⟩ := cells9 (S.out.at 0 rfl))
      | (go_at_call 35; refine (KR.out _ (HM.out.below S.out.b)).mono ?_; rintro r w9 ⟨v9, rfl, sr9, b9⟩; have S9 := Lib.hid (Stay.next S.out b9); obtain ⟨A9, cp9, rfl, sl9, -, hc9⟩ := sr9.form; have SL9 := Lib.hid sl9; have HC9 := Lib.hid hc9; clear b9 sr9 sl9 hc9))
    clear a0 a1 a2 a3 a4 a5 a6 a7 a8
    go_loopw [13] (fun iv wr => ∃ a : Int, iv = .int .i64 a ∧ Hid (t ≤ a ∧ a ≤ t + 4 * c.cycle) ∧ Hid (∀ v, t ≤ v → v < a → met c.cycle T v n) ∧ Hid (SL wr A9 T) ∧ Hid (Stay w [(w.heap.size, Obj.cells #[.int .i64 c.hosts, .int .i64 c.cycle, .int .i64 c.delay, .int .i64 c.window, .int .i64 c.precision, .slice D nd cd, .slice E ne ce, .slice L nl cl, .int .i64 c.queue] 26)] wr)) (fun iv _ => (t + 4 * c.cycle + 1 - intOf iv).toNat)
    case atStart => exact ⟨t, rfl, Lib.hid (by have := HC.out; omega), Lib.hid (fun v h1 h2 => by omega), SL9, S9⟩
    case round =>
      clear S9 SL9 S0 S
      obtain ⟨a, rfl, HA, HV, HS, HX⟩ := hrel
      obtain ⟨a0, a1, a2, a3, a4, a5, a6, a7, a8⟩ := cells9 (HX.out.at 0 rfl)
      by_cases hle : a ≤ E2
      · have KB := Lib.hid (KM.out A9 cp9 a wr HS.out HC9.out HA.out.1 (by rw [HE.out]; exact hle))
        have MI := Lib.hid (mtb_iff (C := c.cycle) (t := a) (n := n) (S := T) (by have := HC.out; omega) RO.out HN.out.2)
        cases hB : mtb c.cycle a n T with
        | false =>
          have HF := Lib.hid (WE.out (some a) ⟨⟨HA.out.1, by rw [HE.out]; exact hle⟩, (fun hm => by rw [MI.out.2 hm] at hB; cases hB), HV.out⟩)
          rw [hB] at KB
          clear hB
          go_wp2_with (go_at_call 36; refine KB.out.mono ?_; rintro r w6 ⟨v6, rfl, -, b6⟩; have S6 := Lib.hid (HX.out.next b6); clear b6)
          go_ret2
          exact ⟨HF.out, S6.out.b⟩
        | true =>
          have ME := Lib.hid (fun v (hv : MetEnd c.cycle a n T v) => hv hB)
          rw [hB] at KB
          clear hB
          go_wp2_with (go_at_call 36; refine KB.out.mono ?_; rintro r w6 ⟨v6, rfl, me6, b6⟩; have S6 := Lib.hid (HX.out.next b6); have L6 := Lib.hid (HS.out.below b6); have M6 := Lib.hid (ME.out _ me6); clear b6 me6)
          have H6 := Lib.hid (show (a < v6 ∧ v6 ≤ t + 4 * c.cycle) ∧ ∀ v, t ≤ v → v < v6 → met c.cycle T v n by
            obtain ⟨x, hx, k, hk, hv⟩ := M6.out
            have ro := RO.out x hx
            have h1 := hk.1
            have h2 := hk.2
            have h3 := HE.out
            have h4 := HN.out
            have h5 := HC.out
            refine ⟨⟨by omega, by omega⟩, fun v g1 g2 => ?_⟩
            by_cases g : v < a
            · exact HV.out v g1 g
            · exact met_till hx hk (by omega) (by omega))
          clear M6 KB
          have HA6 := Lib.hid (show t ≤ v6 ∧ v6 ≤ t + 4 * c.cycle by have := HA.out; have := H6.out.1; omega)
          have HV6 := Lib.hid H6.out.2
          go_wp2
          go_roundw
          case rel => exact ⟨v6, rfl, HA6, HV6, L6, S6⟩
          case measure => have h1 := H6.out.1; have h2 := HA.out; simp [intOf]; omega
      · have HF := Lib.hid (WE.out none (fun v h1 h2 => HV.out v h1 (by have := HE.out; omega)))
        go_wp2
        go_ret2
        exact ⟨HF.out, HX.out.b⟩
end Go.Proofs.Ytdaoemjkefpmcaa.PlanW
