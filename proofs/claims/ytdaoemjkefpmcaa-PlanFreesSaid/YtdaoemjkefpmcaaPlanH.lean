/- The document's own question when a wire is free. -/
import Derived.Test.YtdaoemjkefpmcaaPlanG
namespace Go.Proofs.Ytdaoemjkefpmcaa.PlanW
open Go.RowKit Shell
open ConfW (Cfg R4 CM ML chk tim fwd ear lat at0 at1 refTime_any)
/-- What may be told. -/
abbrev gd (c : Cfg) (h : Int) (down : Bool) (t n : Int) (u : Int) : Prop := good c.cycle (rs c h down c.entries) n t u
/-- An end of an entry's stretch. -/
def en (c : Cfg) (down : Bool) (e : R4) (K : Int) : Int := K * c.cycle + ((str c down e).1 + tim e.d)
/-- The best so far, of the ends of the first k entries. -/
def BestC (c : Cfg) (h : Int) (down : Bool) (t n q : Int) (k : Nat) (r : Option Int) : Prop :=
  ∃ cs, Best (gd c h down t n) cs r ∧ ∀ j e, j < k → c.entries[j]? = some e → ∀ K, q - 1 ≤ K → K ≤ q + 3 → en c down e K ∈ cs
/-- And of some of the next one. -/
def BestK (c : Cfg) (h : Int) (down : Bool) (t n q : Int) (k : Nat) (e : R4) (M : Int) (r : Option Int) : Prop :=
  ∃ cs, Best (gd c h down t n) cs r ∧ (∀ j e, j < k → c.entries[j]? = some e → ∀ K, q - 1 ≤ K → K ≤ q + 3 → en c down e K ∈ cs) ∧ ∀ K, q - 1 ≤ K → K < M → en c down e K ∈ cs
section
variable {c : Cfg} {h : Int} {down : Bool} {t n q M : Int} {k : Nat} {e : R4} {r : Option Int}
theorem bc_start : BestC c h down t n q 0 none := ⟨[], best_nil _, fun j e hj => by omega⟩
theorem bk_start (g : BestC c h down t n q k r) : BestK c h down t n q k e (q - 1) r := by
  obtain ⟨cs, h1, h2⟩ := g
  exact ⟨cs, h1, h2, fun K a b => by omega⟩
theorem bk_no (g : BestK c h down t n q k e M r) (hu : ¬ gd c h down t n (en c down e M) ∨ ∃ b, r = some b ∧ b ≤ en c down e M) : BestK c h down t n q k e (M + 1) r := by
  obtain ⟨cs, h1, h2, h3⟩ := g
  refine ⟨_, best_no h1 hu, fun j e hj he K a b => List.mem_append_left _ (h2 j e hj he K a b), fun K a b => ?_⟩
  by_cases hK : K = M
  · rw [hK]; exact List.mem_append_right _ (List.mem_singleton.2 rfl)
  · exact List.mem_append_left _ (h3 K a (by omega))
theorem bk_yes (g : BestK c h down t n q k e M r) (hu : gd c h down t n (en c down e M)) (hb : ∀ b, r = some b → en c down e M < b) : BestK c h down t n q k e (M + 1) (some (en c down e M)) := by
  obtain ⟨cs, h1, h2, h3⟩ := g
  refine ⟨_, best_yes h1 hu hb, fun j e hj he K a b => List.mem_append_left _ (h2 j e hj he K a b), fun K a b => ?_⟩
  by_cases hK : K = M
  · rw [hK]; exact List.mem_append_right _ (List.mem_singleton.2 rfl)
  · exact List.mem_append_left _ (h3 K a (by omega))
theorem bk_end (g : BestK c h down t n q k e M r) (hM : q + 3 < M) (he : c.entries[k]? = some e) : BestC c h down t n q (k + 1) r := by
  obtain ⟨cs, h1, h2, h3⟩ := g
  refine ⟨cs, h1, fun j e' hj he' K a b => ?_⟩
  by_cases hjk : j = k
  · rw [hjk, he] at he'
    cases he'
    exact h3 K a (by omega)
  · exact h2 j e' (by omega) he' K a b
theorem bc_end (hz : chk c = 0) (hm : met c.cycle (rs c h down c.entries) t n) (hq : t / c.cycle = q) (g : BestC c h down t n q c.entries.length r) : First c.cycle (rs c h down c.entries) n t r := by
  obtain ⟨cs, h1, h2⟩ := g
  refine best_first (by have := (chk_span hz).1; omega) (rs_ok hz) hm h1 (fun x hx K a b => ?_)
  obtain ⟨e, he, -, rfl⟩ := rs_mem.1 hx
  obtain ⟨j, hj⟩ := List.getElem?_of_mem he
  have hlt : j < c.entries.length := by
    rcases Nat.lt_or_ge j c.entries.length with g | g
    · exact g
    · rw [List.getElem?_eq_none g] at hj; cases hj
  have := h2 j e hlt hj K (by omega) (by omega)
  unfold en at this
  rw [Int.add_assoc]
  exact this
end
set_option maxHeartbeats 16000000 in
set_option maxRecDepth 100000 in
theorem refw_false (c : Cfg) (D E L : Option Addr) (nd cd ne ce nl cl : Nat) (h t n : Int) (w : World) (m : CM w c D E L nd cd ne ce nl cl) (ha : ask c h t n = true) : Calls Try.prog 18 #[.agg #[.int .i64 c.hosts, .int .i64 c.cycle, .int .i64 c.delay, .int .i64 c.window, .int .i64 c.precision, .slice D nd cd, .slice E ne ce, .slice L nl cl, .int .i64 c.queue], .int .i64 h, .bool false, .int .i64 t, .int .i64 n] w fun r w' => WaitEnd c h false t n r ∧ Below w.heap.size w w' := by
  have S0 := Lib.hid ((Stay.start w).alloc (Obj.cells #[.int .i64 c.hosts, .int .i64 c.cycle, .int .i64 c.delay, .int .i64 c.window, .int .i64 c.precision, .slice D nd cd, .slice E ne ce, .slice L nl cl, .int .i64 c.queue] 26))
  have HM := Lib.hid m
  have KA := Lib.hid (fun W (hW : CM W c D E L nd cd ne ce nl cl) => by have := wire_any c D E L nd cd ne ce nl cl h t n W hW; rw [ha] at this; exact this)
  have WE := Lib.hid (fun r => wait_end (down := false) (r := r) ha)
  obtain ⟨⟨ht, hz⟩, hC, hn⟩ := wait_ok ha
  have HZ := Lib.hid hz
  have HC := Lib.hid (show 0 < c.cycle ∧ c.cycle ≤ 1073741824 by omega)
  have HT := Lib.hid ht
  have HN := Lib.hid hn
  have RO := Lib.hid (rs_ok (h := h) (down := false) hz)
  have MI0 := Lib.hid (mtb_iff (t := t) (n := n) (HC.out.1) RO.out hn.2)
  have KF0 := Lib.hid (fun W (hW : CM W c D E L nd cd ne ce nl cl) => reff_any c D E L nd cd ne ce nl cl h false t n W hW hz (by omega) hn)
  have dv := div_ok ht.1 HC.out.1
  obtain ⟨q, hq⟩ : ∃ q, t / c.cycle = q := ⟨_, rfl⟩
  rw [hq] at dv
  have dq2 := dv.eq2
  have QB := Lib.hid (show 0 ≤ q ∧ q ≤ 1125904201809920 by have := dv.bq; omega)
  have ZB := Lib.hid (show 0 ≤ q * c.cycle ∧ q * c.cycle ≤ t from ⟨Int.mul_nonneg QB.out.1 (by omega), by have := dv.es; have := dv.bp; omega⟩)
  obtain ⟨Q1, hQ1⟩ : ∃ Q1, q - 1 = Q1 := ⟨_, rfl⟩
  obtain ⟨Q3, hQ3⟩ : ∃ Q3, q + 3 = Q3 := ⟨_, rfl⟩
  obtain ⟨T2, hT2⟩ : ∃ T2, 2 * c.cycle = T2 := ⟨_, rfl⟩
  obtain ⟨E2, hE2⟩ : ∃ E2, t + T2 = E2 := ⟨_, rfl⟩
  obtain ⟨y1, z1⟩ := wr_of (show q = q from rfl) (by have := QB.out; omega)
  obtain ⟨y2, z2⟩ := wr_of hQ1 (by have := QB.out; omega)
  obtain ⟨y3, z3⟩ := wr_of hQ3 (by have := QB.out; omega)
  obtain ⟨y4, z4⟩ := wr_of hT2 (by omega)
  obtain ⟨y5, z5⟩ := wr_of hE2 (by omega)
  have HQ1 := Lib.hid hQ1
  have HQ3 := Lib.hid hQ3
  have HE2 := Lib.hid (show t + 2 * c.cycle = E2 by rw [hT2]; exact hE2)
  have hl : ne ≤ 16 := by rw [m.nE]; exact chk_len hz
  have nz : ¬ c.cycle = 0 := by omega
  obtain ⟨a0, a1, a2, a3, a4, a5, a6, a7, a8⟩ := cells9 (S0.out.at 0 rfl)
  cases hB : mtb c.cycle t n (rs c h false c.entries) with
  | false =>
    have HF := Lib.hid (WE.out (some t) (first_now HC.out.1 (fun hm => by rw [MI0.out.2 hm] at hB; cases hB)))
    rw [hB] at KF0
    clear hB m ha ht hz hC hn dv hq hQ1 hQ3 hT2 hE2
    go_enter Try.func18, Try.ntmps18
    go_wp2_with (first
      | (go_at_call 37; refine (KA.out _ (HM.out.below S0.out.b)).mono ?_; rintro r w5 ⟨rfl, b5⟩; have S := Lib.hid (S0.out.next b5); clear b5 a0 a1 a2 a3 a4 a5 a6 a7 a8; obtain ⟨a0, a1, a2, a3, a4, a5, a6, a7, a8⟩ := cells9 (S.out.at 0 rfl))
      | (go_at_call 38; refine (KF0.out _ (HM.out.below S.out.b)).mono ?_; rintro r w6 ⟨rfl, b6⟩; have S6 := Lib.hid (S.out.next b6); clear b6))
    go_ret2
    exact ⟨HF.out, S6.out.b⟩
  | true =>
    have BE := Lib.hid (fun r (g : BestC c h false t n q c.entries.length r) => WE.out r (bc_end HZ.out (MI0.out.1 hB) hq g))
    rw [hB] at KF0
    clear hB m ha ht hz hC hn dv hq hQ1 hQ3 hT2 hE2 MI0 WE
    go_enter Try.func18, Try.ntmps18
    go_wp2_with (first
      | (go_at_call 37; refine (KA.out _ (HM.out.below S0.out.b)).mono ?_; rintro r w5 ⟨rfl, b5⟩; have S := Lib.hid (S0.out.next b5); clear b5 a0 a1 a2 a3 a4 a5 a6 a7 a8; obtain ⟨a0, a1, a2, a3, a4, a5, a6, a7, a8⟩ := cells9 (S.out.at 0 rfl))
      | (go_at_call 38; refine (KF0.out _ (HM.out.below S.out.b)).mono ?_; rintro r w6 ⟨rfl, b6⟩; have S6 := Lib.hid (S.out.next b6); clear b6 a0 a1 a2 a3 a4 a5 a6 a7 a8))
    go_loopw [12, 13, 14] (fun bv fv iv wr => ∃ (k : Nat) (r : Option Int), k ≤ ne ∧ iv = .int .i64 k ∧ bv = .int .i64 (tel r).1 ∧ fv = .bool (tel r).2 ∧ Hid (Stay w [(w.heap.size, Obj.cells #[.int .i64 c.hosts, .int .i64 c.cycle, .int .i64 c.delay, .int .i64 c.window, .int .i64 c.precision, .slice D nd cd, .slice E ne ce, .slice L nl cl, .int .i64 c.queue] 26)] wr) ∧ Hid (BestC c h false t n q k r)) (fun _ _ iv _ => ne - (intOf iv).toNat)
    case atStart => exact ⟨0, none, Nat.zero_le _, rfl, rfl, rfl, S6, Lib.hid bc_start⟩
    case round =>
    clear S0 S6 S
    obtain ⟨k, r, hk, rfl, rfl, rfl, HS, HI⟩ := hrel
    obtain ⟨a0, a1, a2, a3, a4, a5, a6, a7, a8⟩ := cells9 (HS.out.at 0 rfl)
    by_cases hlt : (k : Int) < (ne : Int)
    · obtain ⟨e, he⟩ : ∃ e, c.entries[k]? = some e := ⟨_, List.getElem?_eq_getElem (by rw [← HM.out.nE]; omega)⟩
      obtain ⟨b, off, rfl, ⟨x0, x1, x2, x3⟩, hb⟩ := (HM.out.below HS.out.b).he k e he
      have OK := Lib.hid (ent_ok HZ.out (List.mem_of_getElem? he))
      have HE0 := Lib.hid he
      have KT := Lib.hid (fun W => times_ok c D (some ⟨b, off, none⟩) L nd cd ne ce nl cl e W OK.out)
      have KTm := Lib.hid (fun W => refTime_any e.d W)
      have SB := Lib.hid (str_b false HZ.out OK.out)
      have ix := idx2 (.int .i64 (at0 c e)) (.int .i64 (at1 c e)) (.int .i64 (fwd c e)) (.int .i64 (ear c e)) (.int .i64 (lat c e))
      obtain ⟨E, hE⟩ : ∃ E, e.c + tim e.d = E := ⟨_, rfl⟩
      obtain ⟨F, hF⟩ : ∃ F, e.c + tim e.d = F := ⟨_, rfl⟩
      have sb := SB.out
      have sb2 := str_b false HZ.out OK.out
      rw [show (str c false e).1 = e.c from rfl] at sb
      rw [show (str c false e).1 = e.c from rfl] at sb2
      obtain ⟨y6, z6⟩ := wr_of hE (by omega)
      obtain ⟨y7, z7⟩ := wr_of hF (by omega)
      have HEE := Lib.hid (show (str c false e).1 + tim e.d = E from hE)
      replace SB := Lib.hid (show 512 ≤ E ∧ E ≤ 1073753968 by omega)
      clear he hb hE hF sb sb2
      have X2 := Lib.hid (HS.out.alloc (eb e))
      go_wp2_with fail
      generalize hG : wr.heap.size = g at *
      generalize wr.alloc _ = wa at *
      clear hG HS x0 x1 x2 x3 a0 a1 a2 a3 a4 a5 a6 a7 a8
      refine wp_region_held_drew (S := fun W : World => Stay w [(g, eb e), (w.heap.size, Obj.cells #[.int .i64 c.hosts, .int .i64 c.cycle, .int .i64 c.delay, .int .i64 c.window, .int .i64 c.precision, .slice D nd cd, .slice (some ⟨b, off, none⟩) ne ce, .slice L nl cl, .int .i64 c.queue] 26)] W) (by kernel_rfl) (X2.out.drew) (fun hHeld => ?_)
      refine wpAnyH_take (i := 0) (oi := ⟨some 44, _, _, _, _, _⟩) (v := ?_) rfl (by kernel_rfl) (by kernel_rfl) (by kernel_rfl) (fun _ _ _ h => h) (Or.inl ⟨by kernel_rfl, ?_⟩) (by assumption) ?_; rotate_left; (focus (intro w hSw; (try dsimp only at hSw); go_simp; (try with_reducible rfl)))
      simp only [Act.put, List.setIfInBounds_toArray, List.set_cons_zero, List.set_cons_succ]
      refine wpAnyH_take (i := 1) (oi := ⟨some 45, _, _, _, _, _⟩) (v := ?_) rfl (by kernel_rfl) (by kernel_rfl) (by kernel_rfl) (fun _ _ _ h => h) (Or.inl ⟨by kernel_rfl, ?_⟩) (by assumption) ?_; rotate_left; (focus (intro w hSw; (try dsimp only at hSw); obtain ⟨a0, a1, a2, a3, a4, a5, a6, a7, a8⟩ := cells9 (Stay.at hSw 1 rfl); obtain ⟨e0, e1, e2, e3⟩ := cells4 (Stay.at hSw 0 rfl); go_simp; (try with_reducible rfl)))
      simp only [Act.put, List.setIfInBounds_toArray, List.set_cons_zero, List.set_cons_succ]
      refine wpAnyH_take (i := 2) (oi := ⟨some 46, _, _, _, _, _⟩) (v := ?_) rfl (by kernel_rfl) (by kernel_rfl) (by kernel_rfl) (fun _ _ _ h => h) (Or.inl ⟨by kernel_rfl, ?_⟩) (by assumption) ?_; rotate_left; (focus (intro w hSw; (try dsimp only at hSw); go_simp; (try with_reducible rfl)))
      simp only [Act.put, List.setIfInBounds_toArray, List.set_cons_zero, List.set_cons_succ]
      refine wpAnyH_take (i := 3) (oi := ⟨some 47, _, _, _, _, _⟩) (v := ?_) rfl (by kernel_rfl) (by kernel_rfl) (by kernel_rfl) (fun _ _ _ h => h) (Or.inl ⟨by kernel_rfl, ?_⟩) (by assumption) ?_; rotate_left; (focus (intro w hSw; (try dsimp only at hSw); obtain ⟨a0, a1, a2, a3, a4, a5, a6, a7, a8⟩ := cells9 (Stay.at hSw 1 rfl); obtain ⟨e0, e1, e2, e3⟩ := cells4 (Stay.at hSw 0 rfl); go_simp; (try with_reducible rfl)))
      simp only [Act.put, List.setIfInBounds_toArray, List.set_cons_zero, List.set_cons_succ]
      refine wpAnyH_ready (rs := [4]) (by kernel_rfl) (by simp) ?_
      refine AllReadyH.cons (o := ⟨some 48, _, _, _, _, _⟩) rfl (fun K hK => ?_) AllReadyH.nil
      rw [if_pos (by kernel_rfl)]
      go_simp
      refine (KTm.out _).mono ?_
      rintro r w9 ⟨rfl, hw⟩
      obtain rfl := hw.symm
      go_simp
      refine hK.out _ _ (by assumption) (fun hHeld => ?_)
      clear hK K
      refine wpAnyH_take (i := 5) (oi := ⟨some 49, _, _, _, _, _⟩) (v := ?_) rfl (by kernel_rfl) (by kernel_rfl) (by kernel_rfl) (fun _ _ _ h => h) (Or.inl ⟨by kernel_rfl, ?_⟩) (by assumption) ?_; rotate_left; (focus (intro w hSw; (try dsimp only at hSw); go_simp; (try with_reducible rfl)))
      simp only [Act.put, List.setIfInBounds_toArray, List.set_cons_zero, List.set_cons_succ]
      refine wpAnyH_take (i := 6) (oi := ⟨some 16, _, _, _, _, _⟩) (v := ?_) rfl (by kernel_rfl) (by kernel_rfl) (by kernel_rfl) (fun _ _ _ h => h) (Or.inl ⟨by kernel_rfl, ?_⟩) (by assumption) ?_; rotate_left; (focus (intro w hSw; (try dsimp only at hSw); go_simp; (try with_reducible rfl)))
      simp only [Act.put, List.setIfInBounds_toArray, List.set_cons_zero, List.set_cons_succ]
      refine wpAnyH_done (by kernel_rfl) ?_ _
      
      have X3 := Lib.hid hHeld
      clear hHeld X2
      obtain ⟨a0, a1, a2, a3, a4, a5, a6, a7, a8⟩ := cells9 (X3.out.at 1 rfl)
      obtain ⟨e0, e1, e2, e3⟩ := cells4 (X3.out.at 0 rfl)
      go_wp2_with fail
      clear a0 a1 a2 a3 a4 a5 a6 a7 a8 e0 e1 e2 e3
      have HI0 := Lib.hid (show BestK c h false t n q k e Q1 r by rw [← HQ1.out]; exact bk_start HI.out)
      clear HI
      go_loopw [12, 13, 17] (fun bv fv iv wq => ∃ (K : Int) (r : Option Int), iv = .int .i64 K ∧ bv = .int .i64 (tel r).1 ∧ fv = .bool (tel r).2 ∧ Hid (q - 1 ≤ K ∧ K ≤ q + 4) ∧ Hid (Stay w [(g, eb e), (w.heap.size, Obj.cells #[.int .i64 c.hosts, .int .i64 c.cycle, .int .i64 c.delay, .int .i64 c.window, .int .i64 c.precision, .slice D nd cd, .slice (some ⟨b, off, none⟩) ne ce, .slice L nl cl, .int .i64 c.queue] 26)] wq) ∧ Hid (BestK c h false t n q k e K r)) (fun _ _ iv _ => (q + 4 - intOf iv).toNat)
      case atStart => exact ⟨Q1, r, rfl, rfl, rfl, Lib.hid (by have := HQ1.out; omega), X3, HI0⟩
      case round =>
        clear X3 HI0
        obtain ⟨K, r, rfl, rfl, rfl, HK, HX, HJ⟩ := hrel
        obtain ⟨a0, a1, a2, a3, a4, a5, a6, a7, a8⟩ := cells9 (HX.out.at 1 rfl)
        obtain ⟨e0, e1, e2, e3⟩ := cells4 (HX.out.at 0 rfl)
        by_cases hle : K ≤ Q3
        · have hkm := k_mul ZB.out.1 ZB.out.2 HC.out.1 HK.out.1 (by have := HQ3.out; omega)
          have sb := SB.out
          have hcc := HC.out
          have htt := HT.out
          obtain ⟨B, hB⟩ : ∃ B, K * c.cycle = B := ⟨_, rfl⟩
          rw [hB] at hkm
          obtain ⟨U, hU⟩ : ∃ U, B + E = U := ⟨_, rfl⟩
          obtain ⟨K2, hK2⟩ : ∃ K2, K + 1 = K2 := ⟨_, rfl⟩
          have HU := Lib.hid (show en c false e K = U by unfold en; rw [hB, HEE.out]; exact hU)
          obtain ⟨u1, v1⟩ := wr_of hB (by omega)
          obtain ⟨u2, v2⟩ := wr_of hU (by omega)
          obtain ⟨u4, v4⟩ := wr_of hK2 (by have := HK.out; have := QB.out; omega)
          have HK2 := Lib.hid (show q - 1 ≤ K2 ∧ K2 ≤ q + 4 by have := HK.out; have := HQ3.out; omega)
          have HLT := Lib.hid (show K < K2 ∧ K2 ≤ q + 4 by have := HK.out; have := HQ3.out; omega)
          have NX := Lib.hid (show (¬ gd c h false t n U ∨ ∃ b, r = some b ∧ b ≤ U) → BestK c h false t n q k e K2 r from fun hh => by rw [← hK2]; exact bk_no HJ.out (by rw [HU.out]; exact hh))
          have YX := Lib.hid (show gd c h false t n U → (∀ b, r = some b → U < b) → BestK c h false t n q k e K2 (some U) from fun h1 h2 => by
            have := bk_yes HJ.out (by rw [HU.out]; exact h1) (by rw [HU.out]; exact h2)
            rw [HU.out, hK2] at this
            exact this)
          have UB := Lib.hid (show U ≤ 4503599627370496 by omega)
          have KF := Lib.hid (fun W (hW : CM W c D (some ⟨b, off, none⟩) L nd cd ne ce nl cl) (h1 : t ≤ U) (h2 : U ≤ E2) => reff_any c D (some ⟨b, off, none⟩) L nd cd ne ce nl cl h false U n W hW HZ.out (by have := HT.out; have := HE2.out; have := HC.out; omega) HN.out)
          have MI := Lib.hid (mtb_iff (t := U) (n := n) HC.out.1 RO.out HN.out.2)
          clear hB hU hK2 hkm sb hcc htt
          by_cases g1 : t ≤ U
          case neg =>
            have HJ2 := Lib.hid (NX.out (Or.inl (fun hh => g1 hh.1.1)))
            go_wp2
            go_roundw
            case rel => exact ⟨K2, r, rfl, rfl, rfl, HK2, HX, HJ2⟩
            case measure => have h1 := HLT.out; simp [intOf]; omega
          by_cases g2 : U ≤ E2
          case neg =>
            have HJ2 := Lib.hid (NX.out (Or.inl (fun hh => g2 (by rw [← HE2.out]; exact hh.1.2))))
            go_wp2
            go_roundw
            case rel => exact ⟨K2, r, rfl, rfl, rfl, HK2, HX, HJ2⟩
            case measure => have h1 := HLT.out; simp [intOf]; omega
          replace KF := Lib.hid (fun W hW => KF.out W hW g1 g2)
          have GO := Lib.hid (show t ≤ U ∧ U ≤ t + 2 * c.cycle from ⟨g1, by rw [HE2.out]; exact g2⟩)
          cases r with
          | none =>
            dsimp only [tel, Option.getD_none, Option.isSome_none, Option.getD_some, Option.isSome_some]
            cases hB : mtb c.cycle U n (rs c h false c.entries) with
            | false =>
              have HJ2 := Lib.hid (YX.out ⟨GO.out, fun hm => by rw [MI.out.2 hm] at hB; cases hB⟩ (fun b hb => by cases hb))
              rw [hB] at KF
              clear hB
              go_wp2_with (go_at_call 38; refine (KF.out _ (HM.out.below HX.out.b)).mono ?_; rintro r w8 ⟨rfl, b8⟩; have X8 := Lib.hid (HX.out.next b8); clear b8)
              go_roundw
              case rel => exact ⟨K2, some U, rfl, rfl, rfl, HK2, X8, HJ2⟩
              case measure => have h1 := HLT.out; simp [intOf]; omega
            | true =>
              have HJ2 := Lib.hid (NX.out (Or.inl (fun hh => hh.2 (MI.out.1 hB))))
              rw [hB] at KF
              clear hB
              go_wp2_with (go_at_call 38; refine (KF.out _ (HM.out.below HX.out.b)).mono ?_; rintro r w8 ⟨rfl, b8⟩; have X8 := Lib.hid (HX.out.next b8); clear b8)
              go_roundw
              case rel => exact ⟨K2, none, rfl, rfl, rfl, HK2, X8, HJ2⟩
              case measure => have h1 := HLT.out; simp [intOf]; omega
          | some bb =>
            dsimp only [tel, Option.getD_none, Option.isSome_none, Option.getD_some, Option.isSome_some]
            by_cases g3 : U < bb
            case neg =>
              have HJ2 := Lib.hid (NX.out (Or.inr ⟨bb, rfl, by omega⟩))
              go_wp2
              go_roundw
              case rel => exact ⟨K2, some bb, rfl, rfl, rfl, HK2, HX, HJ2⟩
              case measure => have h1 := HLT.out; simp [intOf]; omega
            cases hB : mtb c.cycle U n (rs c h false c.entries) with
            | false =>
              have HJ2 := Lib.hid (YX.out ⟨GO.out, fun hm => by rw [MI.out.2 hm] at hB; cases hB⟩ (fun b hb => by cases hb; exact g3))
              rw [hB] at KF
              clear hB
              go_wp2_with (go_at_call 38; refine (KF.out _ (HM.out.below HX.out.b)).mono ?_; rintro r w8 ⟨rfl, b8⟩; have X8 := Lib.hid (HX.out.next b8); clear b8)
              go_roundw
              case rel => exact ⟨K2, some U, rfl, rfl, rfl, HK2, X8, HJ2⟩
              case measure => have h1 := HLT.out; simp [intOf]; omega
            | true =>
              have HJ2 := Lib.hid (NX.out (Or.inl (fun hh => hh.2 (MI.out.1 hB))))
              rw [hB] at KF
              clear hB
              go_wp2_with (go_at_call 38; refine (KF.out _ (HM.out.below HX.out.b)).mono ?_; rintro r w8 ⟨rfl, b8⟩; have X8 := Lib.hid (HX.out.next b8); clear b8)
              go_roundw
              case rel => exact ⟨K2, some bb, rfl, rfl, rfl, HK2, X8, HJ2⟩
              case measure => have h1 := HLT.out; simp [intOf]; omega
        · have HB9 := Lib.hid (bk_end HJ.out (by have := HQ3.out; omega) HE0.out)
          have X9 := Lib.hid HX.out.drop
          go_wp2
          go_roundw
          case rel => exact ⟨k + 1, r, by omega, by go_num, rfl, rfl, X9, HB9⟩
          case measure => simp [intOf]; omega
    · obtain rfl : k = ne := by omega
      have HF := Lib.hid (BE.out r (by have := HI.out; rwa [HM.out.nE] at this))
      go_wp2
      go_ret2
      exact ⟨HF.out, HS.out.b⟩
set_option maxHeartbeats 16000000 in
set_option maxRecDepth 100000 in
theorem refw_true (c : Cfg) (D E L : Option Addr) (nd cd ne ce nl cl : Nat) (h t n : Int) (w : World) (m : CM w c D E L nd cd ne ce nl cl) (ha : ask c h t n = true) : Calls Try.prog 18 #[.agg #[.int .i64 c.hosts, .int .i64 c.cycle, .int .i64 c.delay, .int .i64 c.window, .int .i64 c.precision, .slice D nd cd, .slice E ne ce, .slice L nl cl, .int .i64 c.queue], .int .i64 h, .bool true, .int .i64 t, .int .i64 n] w fun r w' => WaitEnd c h true t n r ∧ Below w.heap.size w w' := by
  have S0 := Lib.hid ((Stay.start w).alloc (Obj.cells #[.int .i64 c.hosts, .int .i64 c.cycle, .int .i64 c.delay, .int .i64 c.window, .int .i64 c.precision, .slice D nd cd, .slice E ne ce, .slice L nl cl, .int .i64 c.queue] 26))
  have HM := Lib.hid m
  have KA := Lib.hid (fun W (hW : CM W c D E L nd cd ne ce nl cl) => by have := wire_any c D E L nd cd ne ce nl cl h t n W hW; rw [ha] at this; exact this)
  have WE := Lib.hid (fun r => wait_end (down := true) (r := r) ha)
  obtain ⟨⟨ht, hz⟩, hC, hn⟩ := wait_ok ha
  have HZ := Lib.hid hz
  have HC := Lib.hid (show 0 < c.cycle ∧ c.cycle ≤ 1073741824 by omega)
  have HT := Lib.hid ht
  have HN := Lib.hid hn
  have RO := Lib.hid (rs_ok (h := h) (down := true) hz)
  have MI0 := Lib.hid (mtb_iff (t := t) (n := n) (HC.out.1) RO.out hn.2)
  have KF0 := Lib.hid (fun W (hW : CM W c D E L nd cd ne ce nl cl) => reff_any c D E L nd cd ne ce nl cl h true t n W hW hz (by omega) hn)
  have dv := div_ok ht.1 HC.out.1
  obtain ⟨q, hq⟩ : ∃ q, t / c.cycle = q := ⟨_, rfl⟩
  rw [hq] at dv
  have dq2 := dv.eq2
  have QB := Lib.hid (show 0 ≤ q ∧ q ≤ 1125904201809920 by have := dv.bq; omega)
  have ZB := Lib.hid (show 0 ≤ q * c.cycle ∧ q * c.cycle ≤ t from ⟨Int.mul_nonneg QB.out.1 (by omega), by have := dv.es; have := dv.bp; omega⟩)
  obtain ⟨Q1, hQ1⟩ : ∃ Q1, q - 1 = Q1 := ⟨_, rfl⟩
  obtain ⟨Q3, hQ3⟩ : ∃ Q3, q + 3 = Q3 := ⟨_, rfl⟩
  obtain ⟨T2, hT2⟩ : ∃ T2, 2 * c.cycle = T2 := ⟨_, rfl⟩
  obtain ⟨E2, hE2⟩ : ∃ E2, t + T2 = E2 := ⟨_, rfl⟩
  obtain ⟨y1, z1⟩ := wr_of (show q = q from rfl) (by have := QB.out; omega)
  obtain ⟨y2, z2⟩ := wr_of hQ1 (by have := QB.out; omega)
  obtain ⟨y3, z3⟩ := wr_of hQ3 (by have := QB.out; omega)
  obtain ⟨y4, z4⟩ := wr_of hT2 (by omega)
  obtain ⟨y5, z5⟩ := wr_of hE2 (by omega)
  have HQ1 := Lib.hid hQ1
  have HQ3 := Lib.hid hQ3
  have HE2 := Lib.hid (show t + 2 * c.cycle = E2 by rw [hT2]; exact hE2)
  have hl : ne ≤ 16 := by rw [m.nE]; exact chk_len hz
  have nz : ¬ c.cycle = 0 := by omega
  obtain ⟨a0, a1, a2, a3, a4, a5, a6, a7, a8⟩ := cells9 (S0.out.at 0 rfl)
  cases hB : mtb c.cycle t n (rs c h true c.entries) with
  | false =>
    have HF := Lib.hid (WE.out (some t) (first_now HC.out.1 (fun hm => by rw [MI0.out.2 hm] at hB; cases hB)))
    rw [hB] at KF0
    clear hB m ha ht hz hC hn dv hq hQ1 hQ3 hT2 hE2
    go_enter Try.func18, Try.ntmps18
    go_wp2_with (first
      | (go_at_call 37; refine (KA.out _ (HM.out.below S0.out.b)).mono ?_; rintro r w5 ⟨rfl, b5⟩; have S := Lib.hid (S0.out.next b5); clear b5 a0 a1 a2 a3 a4 a5 a6 a7 a8; obtain ⟨a0, a1, a2, a3, a4, a5, a6, a7, a8⟩ := cells9 (S.out.at 0 rfl))
      | (go_at_call 38; refine (KF0.out _ (HM.out.below S.out.b)).mono ?_; rintro r w6 ⟨rfl, b6⟩; have S6 := Lib.hid (S.out.next b6); clear b6))
    go_ret2
    exact ⟨HF.out, S6.out.b⟩
  | true =>
    have BE := Lib.hid (fun r (g : BestC c h true t n q c.entries.length r) => WE.out r (bc_end HZ.out (MI0.out.1 hB) hq g))
    rw [hB] at KF0
    clear hB m ha ht hz hC hn dv hq hQ1 hQ3 hT2 hE2 MI0 WE
    go_enter Try.func18, Try.ntmps18
    go_wp2_with (first
      | (go_at_call 37; refine (KA.out _ (HM.out.below S0.out.b)).mono ?_; rintro r w5 ⟨rfl, b5⟩; have S := Lib.hid (S0.out.next b5); clear b5 a0 a1 a2 a3 a4 a5 a6 a7 a8; obtain ⟨a0, a1, a2, a3, a4, a5, a6, a7, a8⟩ := cells9 (S.out.at 0 rfl))
      | (go_at_call 38; refine (KF0.out _ (HM.out.below S.out.b)).mono ?_; rintro r w6 ⟨rfl, b6⟩; have S6 := Lib.hid (S.out.next b6); clear b6 a0 a1 a2 a3 a4 a5 a6 a7 a8))
    go_loopw [12, 13, 14] (fun bv fv iv wr => ∃ (k : Nat) (r : Option Int), k ≤ ne ∧ iv = .int .i64 k ∧ bv = .int .i64 (tel r).1 ∧ fv = .bool (tel r).2 ∧ Hid (Stay w [(w.heap.size, Obj.cells #[.int .i64 c.hosts, .int .i64 c.cycle, .int .i64 c.delay, .int .i64 c.window, .int .i64 c.precision, .slice D nd cd, .slice E ne ce, .slice L nl cl, .int .i64 c.queue] 26)] wr) ∧ Hid (BestC c h true t n q k r)) (fun _ _ iv _ => ne - (intOf iv).toNat)
    case atStart => exact ⟨0, none, Nat.zero_le _, rfl, rfl, rfl, S6, Lib.hid bc_start⟩
    case round =>
    clear S0 S6 S
    obtain ⟨k, r, hk, rfl, rfl, rfl, HS, HI⟩ := hrel
    obtain ⟨a0, a1, a2, a3, a4, a5, a6, a7, a8⟩ := cells9 (HS.out.at 0 rfl)
    by_cases hlt : (k : Int) < (ne : Int)
    · obtain ⟨e, he⟩ : ∃ e, c.entries[k]? = some e := ⟨_, List.getElem?_eq_getElem (by rw [← HM.out.nE]; omega)⟩
      obtain ⟨b, off, rfl, ⟨x0, x1, x2, x3⟩, hb⟩ := (HM.out.below HS.out.b).he k e he
      have OK := Lib.hid (ent_ok HZ.out (List.mem_of_getElem? he))
      have HE0 := Lib.hid he
      have KT := Lib.hid (fun W => times_ok c D (some ⟨b, off, none⟩) L nd cd ne ce nl cl e W OK.out)
      have KTm := Lib.hid (fun W => refTime_any e.d W)
      have SB := Lib.hid (str_b true HZ.out OK.out)
      have ix := idx2 (.int .i64 (at0 c e)) (.int .i64 (at1 c e)) (.int .i64 (fwd c e)) (.int .i64 (ear c e)) (.int .i64 (lat c e))
      obtain ⟨E, hE⟩ : ∃ E, fwd c e + tim e.d = E := ⟨_, rfl⟩
      obtain ⟨F, hF⟩ : ∃ F, e.c + tim e.d = F := ⟨_, rfl⟩
      have sb := SB.out
      have sb2 := str_b false HZ.out OK.out
      rw [show (str c true e).1 = fwd c e from rfl] at sb
      rw [show (str c false e).1 = e.c from rfl] at sb2
      obtain ⟨y6, z6⟩ := wr_of hE (by omega)
      obtain ⟨y7, z7⟩ := wr_of hF (by omega)
      have HEE := Lib.hid (show (str c true e).1 + tim e.d = E from hE)
      replace SB := Lib.hid (show 512 ≤ E ∧ E ≤ 1073753968 by omega)
      clear he hb hE hF sb sb2
      have X2 := Lib.hid (HS.out.alloc (eb e))
      go_wp2_with fail
      generalize hG : wr.heap.size = g at *
      generalize wr.alloc _ = wa at *
      clear hG HS x0 x1 x2 x3 a0 a1 a2 a3 a4 a5 a6 a7 a8
      refine wp_region_held_drew (S := fun W : World => Stay w [(g, eb e), (w.heap.size, Obj.cells #[.int .i64 c.hosts, .int .i64 c.cycle, .int .i64 c.delay, .int .i64 c.window, .int .i64 c.precision, .slice D nd cd, .slice (some ⟨b, off, none⟩) ne ce, .slice L nl cl, .int .i64 c.queue] 26)] W) (by kernel_rfl) (X2.out.drew) (fun hHeld => ?_)
      refine wpAnyH_take (i := 0) (oi := ⟨some 44, _, _, _, _, _⟩) (v := ?_) rfl (by kernel_rfl) (by kernel_rfl) (by kernel_rfl) (fun _ _ _ h => h) (Or.inl ⟨by kernel_rfl, ?_⟩) (by assumption) ?_; rotate_left; (focus (intro w hSw; (try dsimp only at hSw); go_simp; (try with_reducible rfl)))
      simp only [Act.put, List.setIfInBounds_toArray, List.set_cons_zero, List.set_cons_succ]
      refine wpAnyH_take (i := 1) (oi := ⟨some 45, _, _, _, _, _⟩) (v := ?_) rfl (by kernel_rfl) (by kernel_rfl) (by kernel_rfl) (fun _ _ _ h => h) (Or.inl ⟨by kernel_rfl, ?_⟩) (by assumption) ?_; rotate_left; (focus (intro w hSw; (try dsimp only at hSw); obtain ⟨a0, a1, a2, a3, a4, a5, a6, a7, a8⟩ := cells9 (Stay.at hSw 1 rfl); obtain ⟨e0, e1, e2, e3⟩ := cells4 (Stay.at hSw 0 rfl); go_simp; (try with_reducible rfl)))
      simp only [Act.put, List.setIfInBounds_toArray, List.set_cons_zero, List.set_cons_succ]
      refine wpAnyH_take (i := 2) (oi := ⟨some 46, _, _, _, _, _⟩) (v := ?_) rfl (by kernel_rfl) (by kernel_rfl) (by kernel_rfl) (fun _ _ _ h => h) (Or.inl ⟨by kernel_rfl, ?_⟩) (by assumption) ?_; rotate_left; (focus (intro w hSw; (try dsimp only at hSw); go_simp; (try with_reducible rfl)))
      simp only [Act.put, List.setIfInBounds_toArray, List.set_cons_zero, List.set_cons_succ]
      refine wpAnyH_take (i := 3) (oi := ⟨some 47, _, _, _, _, _⟩) (v := ?_) rfl (by kernel_rfl) (by kernel_rfl) (by kernel_rfl) (fun _ _ _ h => h) (Or.inl ⟨by kernel_rfl, ?_⟩) (by assumption) ?_; rotate_left; (focus (intro w hSw; (try dsimp only at hSw); obtain ⟨a0, a1, a2, a3, a4, a5, a6, a7, a8⟩ := cells9 (Stay.at hSw 1 rfl); obtain ⟨e0, e1, e2, e3⟩ := cells4 (Stay.at hSw 0 rfl); go_simp; (try with_reducible rfl)))
      simp only [Act.put, List.setIfInBounds_toArray, List.set_cons_zero, List.set_cons_succ]
      refine wpAnyH_ready (rs := [4]) (by kernel_rfl) (by simp) ?_
      refine AllReadyH.cons (o := ⟨some 48, _, _, _, _, _⟩) rfl (fun K hK => ?_) AllReadyH.nil
      rw [if_pos (by kernel_rfl)]
      go_simp
      refine (KTm.out _).mono ?_
      rintro r w9 ⟨rfl, hw⟩
      obtain rfl := hw.symm
      go_simp
      refine hK.out _ _ (by assumption) (fun hHeld => ?_)
      clear hK K
      refine wpAnyH_take (i := 5) (oi := ⟨some 49, _, _, _, _, _⟩) (v := ?_) rfl (by kernel_rfl) (by kernel_rfl) (by kernel_rfl) (fun _ _ _ h => h) (Or.inl ⟨by kernel_rfl, ?_⟩) (by assumption) ?_; rotate_left; (focus (intro w hSw; (try dsimp only at hSw); go_simp; (try with_reducible rfl)))
      simp only [Act.put, List.setIfInBounds_toArray, List.set_cons_zero, List.set_cons_succ]
      refine wpAnyH_take (i := 6) (oi := ⟨some 16, _, _, _, _, _⟩) (v := ?_) rfl (by kernel_rfl) (by kernel_rfl) (by kernel_rfl) (fun _ _ _ h => h) (Or.inl ⟨by kernel_rfl, ?_⟩) (by assumption) ?_; rotate_left; (focus (intro w hSw; (try dsimp only at hSw); go_simp; (try with_reducible rfl)))
      simp only [Act.put, List.setIfInBounds_toArray, List.set_cons_zero, List.set_cons_succ]
      refine wpAnyH_done (by kernel_rfl) ?_ _
      
      have X3 := Lib.hid hHeld
      clear hHeld X2
      obtain ⟨a0, a1, a2, a3, a4, a5, a6, a7, a8⟩ := cells9 (X3.out.at 1 rfl)
      obtain ⟨e0, e1, e2, e3⟩ := cells4 (X3.out.at 0 rfl)
      go_wp2_with fail
      refine wp_region_held_drew (S := fun W : World => Stay w [(g, eb e), (w.heap.size, Obj.cells #[.int .i64 c.hosts, .int .i64 c.cycle, .int .i64 c.delay, .int .i64 c.window, .int .i64 c.precision, .slice D nd cd, .slice (some ⟨b, off, none⟩) ne ce, .slice L nl cl, .int .i64 c.queue] 26)] W) (by kernel_rfl) (X3.out.drew) (fun hHeld => ?_)
      refine wpAnyH_take (i := 0) (oi := ⟨some 51, _, _, _, _, _⟩) (v := ?_) rfl (by kernel_rfl) (by kernel_rfl) (by kernel_rfl) (fun _ _ _ h => h) (Or.inl ⟨by kernel_rfl, ?_⟩) (by assumption) ?_; rotate_left; (focus (intro w hSw; (try dsimp only at hSw); obtain ⟨a0, a1, a2, a3, a4, a5, a6, a7, a8⟩ := cells9 (Stay.at hSw 1 rfl); obtain ⟨e0, e1, e2, e3⟩ := cells4 (Stay.at hSw 0 rfl); go_simp; (try with_reducible rfl)))
      simp only [Act.put, List.setIfInBounds_toArray, List.set_cons_zero, List.set_cons_succ]
      refine wpAnyH_take (i := 1) (oi := ⟨some 52, _, _, _, _, _⟩) (v := ?_) rfl (by kernel_rfl) (by kernel_rfl) (by kernel_rfl) (fun _ _ _ h => h) (Or.inl ⟨by kernel_rfl, ?_⟩) (by assumption) ?_; rotate_left; (focus (intro w hSw; (try dsimp only at hSw); obtain ⟨a0, a1, a2, a3, a4, a5, a6, a7, a8⟩ := cells9 (Stay.at hSw 1 rfl); obtain ⟨e0, e1, e2, e3⟩ := cells4 (Stay.at hSw 0 rfl); go_simp; (try with_reducible rfl)))
      simp only [Act.put, List.setIfInBounds_toArray, List.set_cons_zero, List.set_cons_succ]
      refine wpAnyH_take (i := 4) (oi := ⟨some 55, _, _, _, _, _⟩) (v := ?_) rfl (by kernel_rfl) (by kernel_rfl) (by kernel_rfl) (fun _ _ _ h => h) (Or.inl ⟨by kernel_rfl, ?_⟩) (by assumption) ?_; rotate_left; (focus (intro w hSw; (try dsimp only at hSw); go_simp; (try with_reducible rfl)))
      simp only [Act.put, List.setIfInBounds_toArray, List.set_cons_zero, List.set_cons_succ]
      refine wpAnyH_take (i := 5) (oi := ⟨some 56, _, _, _, _, _⟩) (v := ?_) rfl (by kernel_rfl) (by kernel_rfl) (by kernel_rfl) (fun _ _ _ h => h) (Or.inl ⟨by kernel_rfl, ?_⟩) (by assumption) ?_; rotate_left; (focus (intro w hSw; (try dsimp only at hSw); obtain ⟨a0, a1, a2, a3, a4, a5, a6, a7, a8⟩ := cells9 (Stay.at hSw 1 rfl); obtain ⟨e0, e1, e2, e3⟩ := cells4 (Stay.at hSw 0 rfl); go_simp; (try with_reducible rfl)))
      simp only [Act.put, List.setIfInBounds_toArray, List.set_cons_zero, List.set_cons_succ]
      refine wpAnyH_ready (rs := [2]) (by kernel_rfl) (by simp) ?_
      refine AllReadyH.cons (o := ⟨some 53, _, _, _, _, _⟩) rfl (fun K hK => ?_) AllReadyH.nil
      rw [if_pos (by kernel_rfl)]
      go_simp
      refine (KT.out _).mono ?_
      rintro r w9 ⟨rfl, b9⟩
      have hS9 := Stay.next hHeld b9
      clear b9
      go_simp
      refine hK.out _ _ (by assumption) (fun hHeld => ?_)
      clear hK K
      refine wpAnyH_take (i := 3) (oi := ⟨some 54, _, _, _, _, _⟩) (v := ?_) rfl (by kernel_rfl) (by kernel_rfl) (by kernel_rfl) (fun _ _ _ h => h) (Or.inl ⟨by kernel_rfl, ?_⟩) (by assumption) ?_; rotate_left; (focus (intro w hSw; (try dsimp only at hSw); obtain ⟨a0, a1, a2, a3, a4, a5, a6, a7, a8⟩ := cells9 (Stay.at hSw 1 rfl); obtain ⟨e0, e1, e2, e3⟩ := cells4 (Stay.at hSw 0 rfl); go_simp; (try with_reducible rfl)))
      simp only [Act.put, List.setIfInBounds_toArray, List.set_cons_zero, List.set_cons_succ]
      refine wpAnyH_ready (rs := [6]) (by kernel_rfl) (by simp) ?_
      refine AllReadyH.cons (o := ⟨some 57, _, _, _, _, _⟩) rfl (fun K hK => ?_) AllReadyH.nil
      rw [if_pos (by kernel_rfl)]
      go_simp
      refine (KTm.out _).mono ?_
      rintro r w9 ⟨rfl, hw⟩
      obtain rfl := hw.symm
      go_simp
      refine hK.out _ _ (by assumption) (fun hHeld => ?_)
      clear hK K
      refine wpAnyH_take (i := 7) (oi := ⟨some 58, _, _, _, _, _⟩) (v := ?_) rfl (by kernel_rfl) (by kernel_rfl) (by kernel_rfl) (fun _ _ _ h => h) (Or.inl ⟨by kernel_rfl, ?_⟩) (by assumption) ?_; rotate_left; (focus (intro w hSw; (try dsimp only at hSw); go_simp; (try with_reducible rfl)))
      simp only [Act.put, List.setIfInBounds_toArray, List.set_cons_zero, List.set_cons_succ]
      refine wpAnyH_take (i := 8) (oi := ⟨some 16, _, _, _, _, _⟩) (v := ?_) rfl (by kernel_rfl) (by kernel_rfl) (by kernel_rfl) (fun _ _ _ h => h) (Or.inl ⟨by kernel_rfl, ?_⟩) (by assumption) ?_; rotate_left; (focus (intro w hSw; (try dsimp only at hSw); go_simp; (try with_reducible rfl)))
      simp only [Act.put, List.setIfInBounds_toArray, List.set_cons_zero, List.set_cons_succ]
      refine wpAnyH_done (by kernel_rfl) ?_ _
      
      have X4 := Lib.hid hHeld
      clear hHeld X3 a0 a1 a2 a3 a4 a5 a6 a7 a8 e0 e1 e2 e3
      obtain ⟨a0, a1, a2, a3, a4, a5, a6, a7, a8⟩ := cells9 (X4.out.at 1 rfl)
      obtain ⟨e0, e1, e2, e3⟩ := cells4 (X4.out.at 0 rfl)
      go_wp2_with fail
      clear a0 a1 a2 a3 a4 a5 a6 a7 a8 e0 e1 e2 e3
      have HI0 := Lib.hid (show BestK c h true t n q k e Q1 r by rw [← HQ1.out]; exact bk_start HI.out)
      clear HI
      go_loopw [12, 13, 17] (fun bv fv iv wq => ∃ (K : Int) (r : Option Int), iv = .int .i64 K ∧ bv = .int .i64 (tel r).1 ∧ fv = .bool (tel r).2 ∧ Hid (q - 1 ≤ K ∧ K ≤ q + 4) ∧ Hid (Stay w [(g, eb e), (w.heap.size, Obj.cells #[.int .i64 c.hosts, .int .i64 c.cycle, .int .i64 c.delay, .int .i64 c.window, .int .i64 c.precision, .slice D nd cd, .slice (some ⟨b, off, none⟩) ne ce, .slice L nl cl, .int .i64 c.queue] 26)] wq) ∧ Hid (BestK c h true t n q k e K r)) (fun _ _ iv _ => (q + 4 - intOf iv).toNat)
      case atStart => exact ⟨Q1, r, rfl, rfl, rfl, Lib.hid (by have := HQ1.out; omega), X4, HI0⟩
      case round =>
        clear X4 HI0
        obtain ⟨K, r, rfl, rfl, rfl, HK, HX, HJ⟩ := hrel
        obtain ⟨a0, a1, a2, a3, a4, a5, a6, a7, a8⟩ := cells9 (HX.out.at 1 rfl)
        obtain ⟨e0, e1, e2, e3⟩ := cells4 (HX.out.at 0 rfl)
        by_cases hle : K ≤ Q3
        · have hkm := k_mul ZB.out.1 ZB.out.2 HC.out.1 HK.out.1 (by have := HQ3.out; omega)
          have sb := SB.out
          have hcc := HC.out
          have htt := HT.out
          obtain ⟨B, hB⟩ : ∃ B, K * c.cycle = B := ⟨_, rfl⟩
          rw [hB] at hkm
          obtain ⟨U, hU⟩ : ∃ U, B + E = U := ⟨_, rfl⟩
          obtain ⟨K2, hK2⟩ : ∃ K2, K + 1 = K2 := ⟨_, rfl⟩
          have HU := Lib.hid (show en c true e K = U by unfold en; rw [hB, HEE.out]; exact hU)
          obtain ⟨u1, v1⟩ := wr_of hB (by omega)
          obtain ⟨u2, v2⟩ := wr_of hU (by omega)
          obtain ⟨u4, v4⟩ := wr_of hK2 (by have := HK.out; have := QB.out; omega)
          have HK2 := Lib.hid (show q - 1 ≤ K2 ∧ K2 ≤ q + 4 by have := HK.out; have := HQ3.out; omega)
          have HLT := Lib.hid (show K < K2 ∧ K2 ≤ q + 4 by have := HK.out; have := HQ3.out; omega)
          have NX := Lib.hid (show (¬ gd c h true t n U ∨ ∃ b, r = some b ∧ b ≤ U) → BestK c h true t n q k e K2 r from fun hh => by rw [← hK2]; exact bk_no HJ.out (by rw [HU.out]; exact hh))
          have YX := Lib.hid (show gd c h true t n U → (∀ b, r = some b → U < b) → BestK c h true t n q k e K2 (some U) from fun h1 h2 => by
            have := bk_yes HJ.out (by rw [HU.out]; exact h1) (by rw [HU.out]; exact h2)
            rw [HU.out, hK2] at this
            exact this)
          have UB := Lib.hid (show U ≤ 4503599627370496 by omega)
          have KF := Lib.hid (fun W (hW : CM W c D (some ⟨b, off, none⟩) L nd cd ne ce nl cl) (h1 : t ≤ U) (h2 : U ≤ E2) => reff_any c D (some ⟨b, off, none⟩) L nd cd ne ce nl cl h true U n W hW HZ.out (by have := HT.out; have := HE2.out; have := HC.out; omega) HN.out)
          have MI := Lib.hid (mtb_iff (t := U) (n := n) HC.out.1 RO.out HN.out.2)
          clear hB hU hK2 hkm sb hcc htt
          by_cases g1 : t ≤ U
          case neg =>
            have HJ2 := Lib.hid (NX.out (Or.inl (fun hh => g1 hh.1.1)))
            go_wp2
            go_roundw
            case rel => exact ⟨K2, r, rfl, rfl, rfl, HK2, HX, HJ2⟩
            case measure => have h1 := HLT.out; simp [intOf]; omega
          by_cases g2 : U ≤ E2
          case neg =>
            have HJ2 := Lib.hid (NX.out (Or.inl (fun hh => g2 (by rw [← HE2.out]; exact hh.1.2))))
            go_wp2
            go_roundw
            case rel => exact ⟨K2, r, rfl, rfl, rfl, HK2, HX, HJ2⟩
            case measure => have h1 := HLT.out; simp [intOf]; omega
          replace KF := Lib.hid (fun W hW => KF.out W hW g1 g2)
          have GO := Lib.hid (show t ≤ U ∧ U ≤ t + 2 * c.cycle from ⟨g1, by rw [HE2.out]; exact g2⟩)
          cases r with
          | none =>
            dsimp only [tel, Option.getD_none, Option.isSome_none, Option.getD_some, Option.isSome_some]
            cases hB : mtb c.cycle U n (rs c h true c.entries) with
            | false =>
              have HJ2 := Lib.hid (YX.out ⟨GO.out, fun hm => by rw [MI.out.2 hm] at hB; cases hB⟩ (fun b hb => by cases hb))
              rw [hB] at KF
              clear hB
              go_wp2_with (go_at_call 38; refine (KF.out _ (HM.out.below HX.out.b)).mono ?_; rintro r w8 ⟨rfl, b8⟩; have X8 := Lib.hid (HX.out.next b8); clear b8)
              go_roundw
              case rel => exact ⟨K2, some U, rfl, rfl, rfl, HK2, X8, HJ2⟩
              case measure => have h1 := HLT.out; simp [intOf]; omega
            | true =>
              have HJ2 := Lib.hid (NX.out (Or.inl (fun hh => hh.2 (MI.out.1 hB))))
              rw [hB] at KF
              clear hB
              go_wp2_with (go_at_call 38; refine (KF.out _ (HM.out.below HX.out.b)).mono ?_; rintro r w8 ⟨rfl, b8⟩; have X8 := Lib.hid (HX.out.next b8); clear b8)
              go_roundw
              case rel => exact ⟨K2, none, rfl, rfl, rfl, HK2, X8, HJ2⟩
              case measure => have h1 := HLT.out; simp [intOf]; omega
          | some bb =>
            dsimp only [tel, Option.getD_none, Option.isSome_none, Option.getD_some, Option.isSome_some]
            by_cases g3 : U < bb
            case neg =>
              have HJ2 := Lib.hid (NX.out (Or.inr ⟨bb, rfl, by omega⟩))
              go_wp2
              go_roundw
              case rel => exact ⟨K2, some bb, rfl, rfl, rfl, HK2, HX, HJ2⟩
              case measure => have h1 := HLT.out; simp [intOf]; omega
            cases hB : mtb c.cycle U n (rs c h true c.entries) with
            | false =>
              have HJ2 := Lib.hid (YX.out ⟨GO.out, fun hm => by rw [MI.out.2 hm] at hB; cases hB⟩ (fun b hb => by cases hb; exact g3))
              rw [hB] at KF
              clear hB
              go_wp2_with (go_at_call 38; refine (KF.out _ (HM.out.below HX.out.b)).mono ?_; rintro r w8 ⟨rfl, b8⟩; have X8 := Lib.hid (HX.out.next b8); clear b8)
              go_roundw
              case rel => exact ⟨K2, some U, rfl, rfl, rfl, HK2, X8, HJ2⟩
              case measure => have h1 := HLT.out; simp [intOf]; omega
            | true =>
              have HJ2 := Lib.hid (NX.out (Or.inl (fun hh => hh.2 (MI.out.1 hB))))
              rw [hB] at KF
              clear hB
              go_wp2_with (go_at_call 38; refine (KF.out _ (HM.out.below HX.out.b)).mono ?_; rintro r w8 ⟨rfl, b8⟩; have X8 := Lib.hid (HX.out.next b8); clear b8)
              go_roundw
              case rel => exact ⟨K2, some bb, rfl, rfl, rfl, HK2, X8, HJ2⟩
              case measure => have h1 := HLT.out; simp [intOf]; omega
        · have HB9 := Lib.hid (bk_end HJ.out (by have := HQ3.out; omega) HE0.out)
          have X9 := Lib.hid HX.out.drop
          go_wp2
          go_roundw
          case rel => exact ⟨k + 1, r, by omega, by go_num, rfl, rfl, X9, HB9⟩
          case measure => simp [intOf]; omega
    · obtain rfl : k = ne := by omega
      have HF := Lib.hid (BE.out r (by have := HI.out; rwa [HM.out.nE] at this))
      go_wp2
      go_ret2
      exact ⟨HF.out, HS.out.b⟩
set_option maxHeartbeats 2000000 in
theorem refWait_any (c : Cfg) (D E L : Option Addr) (nd cd ne ce nl cl : Nat) (h : Int) (down : Bool) (t n : Int) (w : World) (m : CM w c D E L nd cd ne ce nl cl) : Calls Try.prog 18 #[.agg #[.int .i64 c.hosts, .int .i64 c.cycle, .int .i64 c.delay, .int .i64 c.window, .int .i64 c.precision, .slice D nd cd, .slice E ne ce, .slice L nl cl, .int .i64 c.queue], .int .i64 h, .bool down, .int .i64 t, .int .i64 n] w fun r w' => WaitEnd c h down t n r ∧ Below w.heap.size w w' := by
  cases ha : ask c h t n with
  | false =>
    have S0 := Lib.hid ((Stay.start w).alloc (Obj.cells #[.int .i64 c.hosts, .int .i64 c.cycle, .int .i64 c.delay, .int .i64 c.window, .int .i64 c.precision, .slice D nd cd, .slice E ne ce, .slice L nl cl, .int .i64 c.queue] 26))
    have HM := Lib.hid m
    have KA := Lib.hid (fun W (hW : CM W c D E L nd cd ne ce nl cl) => by have := wire_any c D E L nd cd ne ce nl cl h t n W hW; rw [ha] at this; exact this)
    obtain ⟨a0, a1, a2, a3, a4, a5, a6, a7, a8⟩ := cells9 (S0.out.at 0 rfl)
    have WN := Lib.hid (wait_none (down := down) ha)
    clear ha m
    go_enter Try.func18, Try.ntmps18
    go_wp2_with (go_at_call 37; refine (KA.out _ (HM.out.below S0.out.b)).mono ?_; rintro r w5 ⟨rfl, b5⟩; have S := Lib.hid (S0.out.next b5); clear b5 a0 a1 a2 a3 a4 a5 a6 a7 a8)
    go_ret2
    exact ⟨WN.out, S.out.b⟩
  | true =>
    cases down
    · exact refw_false c D E L nd cd ne ce nl cl h t n w m ha
    · exact refw_true c D E L nd cd ne ce nl cl h t n w m ha
end Go.Proofs.Ytdaoemjkefpmcaa.PlanW
