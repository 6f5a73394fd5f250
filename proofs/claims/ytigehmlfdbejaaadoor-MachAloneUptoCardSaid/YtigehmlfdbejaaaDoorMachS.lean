/- Run. -/
import Derived.Test.YtigehmlfdbejaaaDoorMachR
namespace Go.Proofs.YtigehmlfdbejaaaDoor.MachW
open Go.RowKit Shell
open CrewW (Tz only u32_bound)
theorem make_mach (n : Nat) (hn : 32 * n ≤ 281474976710656) (W : World) : (Instr.makeSlice 24 (.int .i64 (n : Int)) (.int .i64 (n : Int))).run Tryd.prog W = .ok (.slice (some ⟨W.heap.size, 0, none⟩) n n) (W.alloc (mrow (List.replicate n ⟨0, 0, 0, 0⟩))) := by
  obtain ⟨i, hi, hzz⟩ := Option.map_eq_some_iff.1 (show (Tryd.prog.info? 36).map (fun i => (i.zero, i.size, i.bytes)) = some (some (mv ⟨0, 0, 0, 0⟩), 4, 32) by kernel_rfl)
  simp only [Prod.mk.injEq] at hzz
  obtain ⟨hz, hs, hb⟩ := hzz
  have hr := run_make (P := Tryd.prog) W 24 36 i _ Tryd.underlying24 hi hz .i64 .i64 n n (by omega) (Int.le_refl _) (by rw [hb]; omega) (by omega)
  rw [hs, Int.toNat_natCast] at hr
  unfold mrow
  rw [← made_flat]
  exact hr
theorem make_int (n : Nat) (hn : 8 * n ≤ 281474976710656) (W : World) : (Instr.makeSlice 25 (.int .i64 (n : Int)) (.int .i64 (n : Int))).run Tryd.prog W = .ok (.slice (some ⟨W.heap.size, 0, none⟩) n n) (W.alloc (nrow (List.replicate n 0))) := by
  have hr := run_make_row' (P := Tryd.prog) 25 3 (.int .i64 0) 8 Tryd.underlying25 (by kernel_rfl) rfl .i64 .i64 n (by omega) (by omega) W
  unfold nrow
  rw [← made_nums]
  exact hr
set_option maxHeartbeats 1000000 in
theorem runNo_any (h : Int) (A : Option Addr) (n c : Nat) (w : World) (hh : hostB h = false) : Calls Tryd.prog 9 #[.int .i64 h, .slice A n c] w fun e w' => e = .returned (.tuple #[.slice none 0 0, .slice none 0 0]) ∧ w' = w := by
  have HH := Lib.hid (fun W => isHost_any h W)
  rw [hh] at HH
  clear hh
  go_enter Tryd.func9, Tryd.ntmps9
  go_wp2_with (go_at_call 18; refine (HH.out _).mono ?_; rintro e w9 ⟨rfl, hw⟩; obtain rfl := hw.symm)
  go_ret2
  exact ⟨rfl, rfl⟩
/-- What Run holds behind the first i events: its machine, its two rows. -/
structure RS (w0 : World) (h : Int) (E : Nat → Int × Nat) (n g d p i : Nat) (w : World) : Prop where
  st : Stay w0 [(p, mb (mc h E i)), (g, mrow (mcs h E n i)), (d, nrow (dns h E n i))] w
  gd : g ≠ d
  pg : p ≠ g
  pd : p ≠ d
  hg : w0.heap.size ≤ g
  hd : w0.heap.size ≤ d
  hp : w0.heap.size ≤ p
theorem RS.next {w0 w w1 : World} {h : Int} {E : Nat → Int × Nat} {n g d p i : Nat} (H : RS w0 h E n g d p i w) (b : Below w.heap.size w w1) : RS w0 h E n g d p i w1 := ⟨H.st.next b, H.gd, H.pg, H.pd, H.hg, H.hd, H.hp⟩
theorem kept4 (w : World) (k i : Nat) (x y z u : Value) : Kept k w ((((w.setCell ⟨k, i, none⟩ x).setCell ⟨k, i + 1, none⟩ y).setCell ⟨k, i + 2, none⟩ z).setCell ⟨k, i + 3, none⟩ u) :=
  ((kept2 w k i (i + 1) x y).trans (kept1 _ k (i + 2) z)).trans (kept1 _ k (i + 3) u)
theorem kept40 (w : World) (k : Nat) (x y z u : Value) : Kept k w ((((w.setCell ⟨k, 0, none⟩ x).setCell ⟨k, 1, none⟩ y).setCell ⟨k, 2, none⟩ z).setCell ⟨k, 3, none⟩ u) :=
  ((kept2 w k 0 1 x y).trans (kept1 _ k 2 z)).trans (kept1 _ k 3 u)
/-- Where the next number is put, behind the machine's turn. -/
theorem nrow_at {w0 w : World} {h : Int} {E : Nat → Int × Nat} {n g d p i : Nat} (H : RS w0 h E n g d p i w) (a : Mc) {ob : Int} (hob : (dns h E n i)[i]? = some ob) :
    ((((w.setCell ⟨p, 0, none⟩ (.int .i64 a.s)).setCell ⟨p, 1, none⟩ (.int .u32 (a.c : Int))).setCell ⟨p, 2, none⟩ (.int .i64 a.m)).setCell ⟨p, 3, none⟩ (.int .i64 a.x)).cell? ⟨d, i, none⟩ = some (.int .i64 ob) ∧
    ((((w.setCell ⟨p, 0, none⟩ (.int .i64 a.s)).setCell ⟨p, 1, none⟩ (.int .u32 (a.c : Int))).setCell ⟨p, 2, none⟩ (.int .i64 a.m)).setCell ⟨p, 3, none⟩ (.int .i64 a.x)).frozen? ⟨d, i, none⟩ = false := by
  have kp := kept40 w p (.int .i64 a.s) (.int .u32 (a.c : Int)) (.int .i64 a.m) (.int .i64 a.x)
  have hd := H.st.at 2 rfl
  have hd' := (kp.block d (fun e => H.pd e.symm) (lt_of_heap hd)).trans hd
  exact ⟨nrow_get hd' hob, frozen_of_row _ d i _ _ hd'⟩
theorem rs_mid {w0 w : World} {h : Int} {E : Nat → Int × Nat} {n g d p i : Nat} (H : RS w0 h E n g d p i w) :
    Stay w0 [(p, mb (mc h E (i + 1))), (g, mrow (mcs h E n i)), (d, nrow (dns h E n (i + 1)))] (((((w.setCell ⟨p, 0, none⟩ (.int .i64 (mc h E (i + 1)).s)).setCell ⟨p, 1, none⟩ (.int .u32 ((mc h E (i + 1)).c : Int))).setCell ⟨p, 2, none⟩ (.int .i64 (mc h E (i + 1)).m)).setCell ⟨p, 3, none⟩ (.int .i64 (mc h E (i + 1)).x)).setCell ⟨d, i, none⟩ (.int .i64 (dn h E i))) := by
  have kp := kept40 w p (.int .i64 (mc h E (i + 1)).s) (.int .u32 ((mc h E (i + 1)).c : Int)) (.int .i64 (mc h E (i + 1)).m) (.int .i64 (mc h E (i + 1)).x)
  have hp := put4 (H.st.at 0 rfl) (.int .i64 (mc h E (i + 1)).s) (.int .u32 ((mc h E (i + 1)).c : Int)) (.int .i64 (mc h E (i + 1)).m) (.int .i64 (mc h E (i + 1)).x)
  have S1 := H.st.turn kp hp H.hp (fun x hx => by
    simp only [List.mem_cons, List.not_mem_nil, or_false] at hx
    rcases hx with rfl | rfl
    · exact fun e => H.pg e.symm
    · exact fun e => H.pd e.symm)
  generalize ((((w.setCell ⟨p, 0, none⟩ (.int .i64 (mc h E (i + 1)).s)).setCell ⟨p, 1, none⟩ (.int .u32 ((mc h E (i + 1)).c : Int))).setCell ⟨p, 2, none⟩ (.int .i64 (mc h E (i + 1)).m)).setCell ⟨p, 3, none⟩ (.int .i64 (mc h E (i + 1)).x)) = w1 at *
  have S2 := S1.sub (M := [(d, nrow (dns h E n i)), (p, mb (mc h E (i + 1))), (g, mrow (mcs h E n i))]) (fun x hx => by
    simp only [List.mem_cons, List.not_mem_nil, or_false] at hx ⊢
    rcases hx with rfl | rfl | rfl <;> simp)
  have S3 := S2.turn (kept1 w1 d i (.int .i64 (dn h E i))) (nrow_set (S2.at 0 rfl) i (dn h E i)) H.hd (fun x hx => by
    simp only [List.mem_cons, List.not_mem_nil, or_false] at hx
    rcases hx with rfl | rfl
    · exact H.pd
    · exact H.gd)
  rw [dns_set] at S3
  exact S3.sub (fun x hx => by
    simp only [List.mem_cons, List.not_mem_nil, or_false] at hx ⊢
    rcases hx with rfl | rfl | rfl <;> simp)
theorem rs_end {w0 w5 : World} {h : Int} {E : Nat → Int × Nat} {n g d p i : Nat} (S : Stay w0 [(p, mb (mc h E (i + 1))), (g, mrow (mcs h E n i)), (d, nrow (dns h E n (i + 1)))] w5) {w : World} (H : RS w0 h E n g d p i w) (hi : i < n) :
    RS w0 h E n g d p (i + 1) ((((w5.setCell ⟨g, i * 4, none⟩ (.int .i64 (mc h E (i + 1)).s)).setCell ⟨g, i * 4 + 1, none⟩ (.int .u32 ((mc h E (i + 1)).c : Int))).setCell ⟨g, i * 4 + 2, none⟩ (.int .i64 (mc h E (i + 1)).m)).setCell ⟨g, i * 4 + 3, none⟩ (.int .i64 (mc h E (i + 1)).x)) := by
  have hg := mrow_set (S.at 1 rfl) (i := i) (by rw [mcs_len]; exact hi) (mc h E (i + 1))
  rw [mcs_set] at hg
  have S2 := S.sub (M := [(g, mrow (mcs h E n i)), (p, mb (mc h E (i + 1))), (d, nrow (dns h E n (i + 1)))]) (fun x hx => by
    simp only [List.mem_cons, List.not_mem_nil, or_false] at hx ⊢
    rcases hx with rfl | rfl | rfl <;> simp)
  have S3 := S2.turn (kept4 w5 g (i * 4) _ _ _ _) hg H.hg (fun x hx => by
    simp only [List.mem_cons, List.not_mem_nil, or_false] at hx
    rcases hx with rfl | rfl
    · exact H.pg
    · exact fun e => H.gd e.symm)
  exact ⟨S3.sub (fun x hx => by
    simp only [List.mem_cons, List.not_mem_nil, or_false] at hx ⊢
    rcases hx with rfl | rfl | rfl <;> simp), H.gd, H.pg, H.pd, H.hg, H.hd, H.hp⟩
set_option maxHeartbeats 4000000 in
theorem run_any (h : Int) (A : Option Addr) (n c : Nat) (E : Nat → Int × Nat) (w : World) (hh : hostB h = true) (hE : EV w A n E) (hn : 32 * n ≤ 281474976710656) (hT : Tz w) :
    Calls Tryd.prog 9 #[.int .i64 h, .slice A n c] w fun e w' => ∃ g d, e = .returned (.tuple #[.slice (some ⟨g, 0, none⟩) n n, .slice (some ⟨d, 0, none⟩) n n]) ∧ w'.heap[g]? = some (mrow (mcs h E n n)) ∧ w'.heap[d]? = some (nrow (dns h E n n)) ∧ Below w.heap.size w w' := by
  have HH := Lib.hid (fun W => isHost_any h W)
  rw [hh] at HH
  have HB := Lib.hid hh
  have HE := Lib.hid hE
  have HT := Lib.hid hT
  have HN := Lib.hid hn
  clear hh hE hT
  have k1 := make_mach n hn
  have k2 := make_int n (by omega)
  clear hn
  go_enter Tryd.func9, Tryd.ntmps9
  go_upto_region 3 with (go_at_call 18; refine (HH.out _).mono ?_; rintro e w9 ⟨rfl, hw⟩; obtain rfl := hw.symm)
  go_region
  · have R0 := Lib.hid ((((Stay.start w).alloc (mrow (List.replicate n ⟨0, 0, 0, 0⟩))).alloc (nrow (List.replicate n 0))).drew.sub (M := [(w.heap.size, mrow (List.replicate n ⟨0, 0, 0, 0⟩)), (w.heap.size + 1, nrow (List.replicate n 0))]) (fun x hx => by
      rw [World.size_alloc]
      simp only [List.mem_cons, List.not_mem_nil, or_false] at hx ⊢
      rcases hx with rfl | rfl <;> simp))
    obtain ⟨g, hg⟩ : ∃ g, g = w.heap.size := ⟨_, rfl⟩
    obtain ⟨d, hd⟩ : ∃ d, d = w.heap.size + 1 := ⟨_, rfl⟩
    have HG := Lib.hid (show g ≠ d ∧ w.heap.size ≤ g ∧ w.heap.size ≤ d by omega)
    rw [← hd, ← hg] at R0
    rw [← hd, ← hg]
    generalize ((w.alloc (mrow (List.replicate n ⟨0, 0, 0, 0⟩))).alloc (nrow (List.replicate n 0))).drew = w1 at *
    clear hg hd k1 k2 HH
    go_wp2
    have HP := Lib.hid (show w1.heap.size ≠ g ∧ w1.heap.size ≠ d ∧ w.heap.size ≤ w1.heap.size by
      have h1 := lt_of_heap (R0.out.at 0 rfl)
      have h2 := lt_of_heap (R0.out.at 1 rfl)
      have h3 := R0.out.b.size
      omega)
    have R1 := Lib.hid (show RS w h E n g d w1.heap.size 0 (w1.alloc (mb ⟨1, 0, 0, 0⟩)) from
      ⟨by rw [mcs_zero, dns_zero]; exact R0.out.alloc (mb ⟨1, 0, 0, 0⟩), HG.out.1, HP.out.1, HP.out.2.1, HG.out.2.1, HG.out.2.2, HP.out.2.2⟩)
    generalize w1.alloc (mb ⟨1, 0, 0, 0⟩) = w2 at *
    generalize w1.heap.size = p at *
    clear R0 HG HP
    go_loopw [23] (fun iv wr => ∃ (i : Nat), i ≤ n ∧ iv = .int .i64 i ∧ Hid (RS w h E n g d p i wr)) (fun iv _ => n - (intOf iv).toNat)
    case atStart => exact ⟨0, Nat.zero_le _, rfl, R1⟩
    case round =>
      obtain ⟨i, hi, rfl, HR⟩ := hrel
      have hnn := HN.out
      by_cases hlt : i < n
      · obtain ⟨b, off, rfl, hc1, hc2, he32⟩ := (HE.out.below HR.out.st.b) i hlt
        have HSt := Lib.hid (fun W => step_any h (mc h E i) (E i).1 (E i).2 W he32 (mc32 HB.out E i))
        have HQ := Lib.hid (show stp h (mc h E i) (E i).1 (E i).2 = (mc h E (i + 1), dn h E i) from rfl)
        have hlt' : (i : Int) < (n : Int) := by omega
        obtain ⟨x0, x1, x2, x3⟩ := cells4 (HR.out.st.at 0 rfl)
        generalize (E i).1 = ek at *
        generalize (E i).2 = ee at *
        rw [HQ.out] at HSt
        clear hnn
        obtain ⟨oa, hoa⟩ := mcs_some h E (n := n) (i := i) hlt
        obtain ⟨ob, hob⟩ := dns_some h E (n := n) (i := i) hlt
        have HOA := Lib.hid hoa
        have HOB := Lib.hid hob
        clear hoa hob
        have HSZ := Lib.hid (HT.out.below HR.out.st.b)
        have HRa := Lib.hid (HR.out.next (al (Below.refl _ _) (eb ek ee)))
        obtain ⟨z0, z1, z2, z3⟩ := cells4 (HRa.out.st.at 0 rfl)
        go_upto_region 9 with (go_at_call 16; (refine (HSt.out _ (HT.out.below HRa.out.st.b)).mono ?_); rintro r w3 ⟨rfl, b3⟩; have HR3 := Lib.hid (HRa.out.next b3); clear b3; obtain ⟨y0, y1, y2, y3⟩ := cells4 (HR3.out.st.at 0 rfl); obtain ⟨f0, f1, f2, f3⟩ := frozen4 (HR3.out.st.at 0 rfl); have KD := nrow_at HR3.out (mc h E (i + 1)) HOB.out)
        have MID := Lib.hid (rs_mid HR3.out)
        have HEND := Lib.hid (fun W S => rs_end (w5 := W) S HR3.out hlt)
        generalize (((((w3.setCell ⟨p, 0, none⟩ (.int .i64 (mc h E (i + 1)).s)).setCell ⟨p, 1, none⟩ (.int .u32 ((mc h E (i + 1)).c : Int))).setCell ⟨p, 2, none⟩ (.int .i64 (mc h E (i + 1)).m)).setCell ⟨p, 3, none⟩ (.int .i64 (mc h E (i + 1)).x)).setCell ⟨d, i, none⟩ (.int .i64 (dn h E i))) = w5 at *
        clear KD y0 y1 y2 y3 f0 f1 f2 f3 z0 z1 z2 z3 x0 x1 x2 x3 hc1 hc2 HSt
        have HEND2 := Lib.hid (HEND.out _ MID.out)
        obtain ⟨y0, y1, y2, y3⟩ := cells4 (MID.out.at 0 rfl)
        obtain ⟨o0, o1, o2, o3⟩ := mrow_get (MID.out.at 1 rfl) HOA.out
        have f0 := mrow_free (MID.out.at 1 rfl) (i * 4)
        have f1 := mrow_free (MID.out.at 1 rfl) (i * 4 + 1)
        have f2 := mrow_free (MID.out.at 1 rfl) (i * 4 + 2)
        have f3 := mrow_free (MID.out.at 1 rfl) (i * 4 + 3)
        have hnn := HN.out
        go_wp2
        go_roundw
        case rel => exact ⟨i + 1, by omega, by go_num, HEND2⟩
        case measure => simp [intOf]; omega
      · obtain rfl : i = n := by omega
        go_wp2
        go_ret2
        exact ⟨g, d, rfl, HR.out.st.at 1 rfl, HR.out.st.at 2 rfl, HR.out.st.b⟩
  · have R0 := Lib.hid ((((Stay.start w).alloc (nrow (List.replicate n 0))).alloc (mrow (List.replicate n ⟨0, 0, 0, 0⟩))).drew.sub (M := [(w.heap.size + 1, mrow (List.replicate n ⟨0, 0, 0, 0⟩)), (w.heap.size, nrow (List.replicate n 0))]) (fun x hx => by
      rw [World.size_alloc]
      simp only [List.mem_cons, List.not_mem_nil, or_false] at hx ⊢
      rcases hx with rfl | rfl <;> simp))
    obtain ⟨g, hg⟩ : ∃ g, g = w.heap.size + 1 := ⟨_, rfl⟩
    obtain ⟨d, hd⟩ : ∃ d, d = w.heap.size := ⟨_, rfl⟩
    have HG := Lib.hid (show g ≠ d ∧ w.heap.size ≤ g ∧ w.heap.size ≤ d by omega)
    rw [← hg, ← hd] at R0
    rw [← hg, ← hd]
    generalize ((w.alloc (nrow (List.replicate n 0))).alloc (mrow (List.replicate n ⟨0, 0, 0, 0⟩))).drew = w1 at *
    clear hg hd k1 k2 HH
    go_wp2
    have HP := Lib.hid (show w1.heap.size ≠ g ∧ w1.heap.size ≠ d ∧ w.heap.size ≤ w1.heap.size by
      have h1 := lt_of_heap (R0.out.at 0 rfl)
      have h2 := lt_of_heap (R0.out.at 1 rfl)
      have h3 := R0.out.b.size
      omega)
    have R1 := Lib.hid (show RS w h E n g d w1.heap.size 0 (w1.alloc (mb ⟨1, 0, 0, 0⟩)) from
      ⟨by rw [mcs_zero, dns_zero]; exact R0.out.alloc (mb ⟨1, 0, 0, 0⟩), HG.out.1, HP.out.1, HP.out.2.1, HG.out.2.1, HG.out.2.2, HP.out.2.2⟩)
    generalize w1.alloc (mb ⟨1, 0, 0, 0⟩) = w2 at *
    generalize w1.heap.size = p at *
    clear R0 HG HP
    go_loopw [23] (fun iv wr => ∃ (i : Nat), i ≤ n ∧ iv = .int .i64 i ∧ Hid (RS w h E n g d p i wr)) (fun iv _ => n - (intOf iv).toNat)
    case atStart => exact ⟨0, Nat.zero_le _, rfl, R1⟩
    case round =>
      obtain ⟨i, hi, rfl, HR⟩ := hrel
      have hnn := HN.out
      by_cases hlt : i < n
      · obtain ⟨b, off, rfl, hc1, hc2, he32⟩ := (HE.out.below HR.out.st.b) i hlt
        have HSt := Lib.hid (fun W => step_any h (mc h E i) (E i).1 (E i).2 W he32 (mc32 HB.out E i))
        have HQ := Lib.hid (show stp h (mc h E i) (E i).1 (E i).2 = (mc h E (i + 1), dn h E i) from rfl)
        have hlt' : (i : Int) < (n : Int) := by omega
        obtain ⟨x0, x1, x2, x3⟩ := cells4 (HR.out.st.at 0 rfl)
        generalize (E i).1 = ek at *
        generalize (E i).2 = ee at *
        rw [HQ.out] at HSt
        clear hnn
        obtain ⟨oa, hoa⟩ := mcs_some h E (n := n) (i := i) hlt
        obtain ⟨ob, hob⟩ := dns_some h E (n := n) (i := i) hlt
        have HOA := Lib.hid hoa
        have HOB := Lib.hid hob
        clear hoa hob
        have HSZ := Lib.hid (HT.out.below HR.out.st.b)
        have HRa := Lib.hid (HR.out.next (al (Below.refl _ _) (eb ek ee)))
        obtain ⟨z0, z1, z2, z3⟩ := cells4 (HRa.out.st.at 0 rfl)
        go_upto_region 9 with (go_at_call 16; (refine (HSt.out _ (HT.out.below HRa.out.st.b)).mono ?_); rintro r w3 ⟨rfl, b3⟩; have HR3 := Lib.hid (HRa.out.next b3); clear b3; obtain ⟨y0, y1, y2, y3⟩ := cells4 (HR3.out.st.at 0 rfl); obtain ⟨f0, f1, f2, f3⟩ := frozen4 (HR3.out.st.at 0 rfl); have KD := nrow_at HR3.out (mc h E (i + 1)) HOB.out)
        have MID := Lib.hid (rs_mid HR3.out)
        have HEND := Lib.hid (fun W S => rs_end (w5 := W) S HR3.out hlt)
        generalize (((((w3.setCell ⟨p, 0, none⟩ (.int .i64 (mc h E (i + 1)).s)).setCell ⟨p, 1, none⟩ (.int .u32 ((mc h E (i + 1)).c : Int))).setCell ⟨p, 2, none⟩ (.int .i64 (mc h E (i + 1)).m)).setCell ⟨p, 3, none⟩ (.int .i64 (mc h E (i + 1)).x)).setCell ⟨d, i, none⟩ (.int .i64 (dn h E i))) = w5 at *
        clear KD y0 y1 y2 y3 f0 f1 f2 f3 z0 z1 z2 z3 x0 x1 x2 x3 hc1 hc2 HSt
        have HEND2 := Lib.hid (HEND.out _ MID.out)
        obtain ⟨y0, y1, y2, y3⟩ := cells4 (MID.out.at 0 rfl)
        obtain ⟨o0, o1, o2, o3⟩ := mrow_get (MID.out.at 1 rfl) HOA.out
        have f0 := mrow_free (MID.out.at 1 rfl) (i * 4)
        have f1 := mrow_free (MID.out.at 1 rfl) (i * 4 + 1)
        have f2 := mrow_free (MID.out.at 1 rfl) (i * 4 + 2)
        have f3 := mrow_free (MID.out.at 1 rfl) (i * 4 + 3)
        have hnn := HN.out
        go_wp2
        go_roundw
        case rel => exact ⟨i + 1, by omega, by go_num, HEND2⟩
        case measure => simp [intOf]; omega
      · obtain rfl : i = n := by omega
        go_wp2
        go_ret2
        exact ⟨g, d, rfl, HR.out.st.at 1 rfl, HR.out.st.at 2 rfl, HR.out.st.b⟩
end Go.Proofs.YtigehmlfdbejaaaDoor.MachW
