/- The document's own question whether a wire is free. -/
import Derived.Test.YtdaoemjkefpmcaaPlanE
import Derived.Test.YtdaoemjkefpmcaaPlanD
namespace Go.Proofs.Ytdaoemjkefpmcaa.PlanW
open Go.RowKit Shell
open ConfW (Cfg R4 CM ML chk tim fwd ear lat at0 at1 refTime_any)
open CrewW (refHas_any)
theorem idx2 (x0 x1 x2 x3 x4 : Value) (w : World) : Sem.run Try.prog (Instr.index 47 (.agg #[x0, x1, x2, x3, x4]) (.int .i64 2)) w = .ok x2 w := rfl
theorem k_mul {q C k t : Int} (h0 : 0 ≤ q * C) (h1 : q * C ≤ t) (hC : 0 < C) (lo : q - 1 ≤ k) (hi : k ≤ q + 3) : -C ≤ k * C ∧ k * C ≤ t + 3 * C := by
  have a := Int.mul_le_mul_of_nonneg_right lo (Int.le_of_lt hC)
  have b := Int.mul_le_mul_of_nonneg_right hi (Int.le_of_lt hC)
  rw [Int.sub_mul, Int.one_mul] at a
  rw [Int.add_mul] at b
  omega
theorem wr_of {x z : Int} (h : x = z) (hz : -4503599627370496 ≤ z ∧ z ≤ 4503599627370496) : IntKind.i64.wrap x = z ∧ wrap64 x = z := by
  subst h
  constructor
  · rw [IntKind.wrap_i64]; omega
  · unfold wrap64; omega
/-- What is known of an entry's stretch. -/
theorem str_b {c : Cfg} {e : R4} (down : Bool) (hz : chk c = 0) (g : EntOk c e) : (0 ≤ (str c down e).1 ∧ (str c down e).1 ≤ 1073741824) ∧ 512 ≤ tim e.d ∧ tim e.d ≤ 12144 := by
  have i := (ent_in g).f
  have i2 := g.lo
  have i3 := g.hi
  have i4 := g.tp
  have i5 := chk_span hz
  cases down
  · show (0 ≤ e.c ∧ e.c ≤ 1073741824) ∧ _
    omega
  · show (0 ≤ fwd c e ∧ fwd c e ≤ 1073741824) ∧ _
    omega
theorem rs_sub (c : Cfg) (h : Int) (down : Bool) (l : List R4) (k : Nat) : ∀ x ∈ rs c h down (l.take k), x ∈ rs c h down l := by
  intro x hx
  obtain ⟨e, he, h1, h2⟩ := rs_mem.1 hx
  exact rs_mem.2 ⟨e, List.mem_of_mem_take he, h1, h2⟩
set_option maxHeartbeats 16000000 in
set_option maxRecDepth 100000 in
theorem reff_false (c : Cfg) (D E L : Option Addr) (nd cd ne ce nl cl : Nat) (h t n : Int) (w : World) (m : CM w c D E L nd cd ne ce nl cl) (hz : chk c = 0) (ht : 0 ≤ t ∧ t ≤ 1125904201809920) (hn : 1 ≤ n ∧ n ≤ c.cycle) : Calls Try.prog 38 #[.agg #[.int .i64 c.hosts, .int .i64 c.cycle, .int .i64 c.delay, .int .i64 c.window, .int .i64 c.precision, .slice D nd cd, .slice E ne ce, .slice L nl cl, .int .i64 c.queue], .int .i64 h, .bool false, .int .i64 t, .int .i64 n] w fun r w' => r = .returned (.bool (!mtb c.cycle t n (rs c h false c.entries))) ∧ Below w.heap.size w w' := by
  have S0 := Lib.hid ((Stay.start w).alloc (Obj.cells #[.int .i64 c.hosts, .int .i64 c.cycle, .int .i64 c.delay, .int .i64 c.window, .int .i64 c.precision, .slice D nd cd, .slice E ne ce, .slice L nl cl, .int .i64 c.queue] 26))
  have HM := Lib.hid m
  have HZ := Lib.hid hz
  have hsp := chk_span hz
  have HC := Lib.hid (show 0 < c.cycle ∧ c.cycle ≤ 1073741824 by omega)
  have HT := Lib.hid ht
  have HN := Lib.hid hn
  have RO := Lib.hid (rs_ok (h := h) (down := false) hz)
  have MI := Lib.hid (mtb_iff (t := t) (n := n) (HC.out.1) RO.out hn.2)
  have OW := Lib.hid (own_iff (t := t) (n := n) HC.out.1 RO.out hn.2)
  have dv := div_ok ht.1 HC.out.1
  have FIN := Lib.hid (show ∀ x ∈ rs c h false c.entries, ∀ j, hit c.cycle t n x j → mtb c.cycle t n (rs c h false c.entries) = true from fun x hx j hj => MI.out.2 ⟨x, hx, j, hj⟩)
  obtain ⟨q, hq⟩ : ∃ q, t / c.cycle = q := ⟨_, rfl⟩
  have OWN := Lib.hid (show (∀ x ∈ rs c h false c.entries, ∀ j, q - 1 ≤ j → j ≤ q + 2 → ¬ hit c.cycle t n x j) → mtb c.cycle t n (rs c h false c.entries) = false from fun H => by
    rw [← Bool.not_eq_true, MI.out]
    refine OW.out.1 (fun x hx j h1 h2 => ?_)
    rw [hq] at h1 h2
    exact H x hx j h1 h2)
  rw [hq] at dv
  have dq2 := dv.eq2
  have QB := Lib.hid (show 0 ≤ q ∧ q ≤ 1125904201809920 by have := dv.bq; omega)
  have ZB := Lib.hid (show 0 ≤ q * c.cycle ∧ q * c.cycle ≤ t from ⟨Int.mul_nonneg QB.out.1 (by omega), by have := dv.es; have := dv.bp; omega⟩)
  obtain ⟨Q1, hQ1⟩ : ∃ Q1, q - 1 = Q1 := ⟨_, rfl⟩
  obtain ⟨Q2, hQ2⟩ : ∃ Q2, q + 2 = Q2 := ⟨_, rfl⟩
  obtain ⟨e5, he5⟩ : ∃ e5, t + n = e5 := ⟨_, rfl⟩
  obtain ⟨u1, v1⟩ := wr_of (show q = q from rfl) (by have := QB.out; omega)
  obtain ⟨u2, v2⟩ := wr_of hQ1 (by have := QB.out; omega)
  obtain ⟨u3, v3⟩ := wr_of hQ2 (by have := QB.out; omega)
  obtain ⟨u4, v4⟩ := wr_of he5 (by omega)
  have HQ1 := Lib.hid hQ1
  have HQ2 := Lib.hid hQ2
  have HE5 := Lib.hid he5
  have hl : ne ≤ 16 := by rw [m.nE]; exact chk_len hz
  have nz : ¬ c.cycle = 0 := by omega
  obtain ⟨a0, a1, a2, a3, a4, a5, a6, a7, a8⟩ := cells9 (S0.out.at 0 rfl)
  clear m hz hsp ht hn dv hq hQ1 hQ2 he5 MI OW RO
  go_enter Try.func38, Try.ntmps38
  go_wp2
  go_loopw [11] (fun iv wr => ∃ (k : Nat), k ≤ ne ∧ iv = .int .i64 k ∧ Hid (Stay w [(w.heap.size, Obj.cells #[.int .i64 c.hosts, .int .i64 c.cycle, .int .i64 c.delay, .int .i64 c.window, .int .i64 c.precision, .slice D nd cd, .slice E ne ce, .slice L nl cl, .int .i64 c.queue] 26)] wr) ∧ Hid (∀ x ∈ rs c h false (c.entries.take k), ∀ j, q - 1 ≤ j → j ≤ q + 2 → ¬ hit c.cycle t n x j)) (fun iv _ => ne - (intOf iv).toNat)
  case atStart => exact ⟨0, Nat.zero_le _, rfl, S0, Lib.hid (fun x hx => by cases hx)⟩
  case round =>
    clear S0 a0 a1 a2 a3 a4 a5 a6 a7 a8
    obtain ⟨k, hk, rfl, HS, HI⟩ := hrel
    obtain ⟨a0, a1, a2, a3, a4, a5, a6, a7, a8⟩ := cells9 (HS.out.at 0 rfl)
    by_cases hlt : (k : Int) < (ne : Int)
    · obtain ⟨e, he⟩ : ∃ e, c.entries[k]? = some e := ⟨_, List.getElem?_eq_getElem (by rw [← HM.out.nE]; omega)⟩
      obtain ⟨b, off, rfl, ⟨x0, x1, x2, x3⟩, hb⟩ := (HM.out.below HS.out.b).he k e he
      have OK := Lib.hid (ent_ok HZ.out (List.mem_of_getElem? he))
      have RT := Lib.hid (rs_take (c := c) (h := h) (down := false) he)
      have SUB := Lib.hid (rs_sub c h false c.entries (k + 1))
      have KT := Lib.hid (fun W => times_ok c D (some ⟨b, off, none⟩) L nd cd ne ce nl cl e W OK.out)
      have KH := Lib.hid (fun W => refHas_any e.b h W hb)
      have KTm := Lib.hid (fun W => refTime_any e.d W)
      clear he hb
      have ix := idx2 (.int .i64 (at0 c e)) (.int .i64 (at1 c e)) (.int .i64 (fwd c e)) (.int .i64 (ear c e)) (.int .i64 (lat c e))
      have X2 := Lib.hid (HS.out.alloc (eb e))
      generalize rs c h false (c.entries.take k) = T at *
      obtain ⟨c0, c1, c2, c3, c4, c5, c6, c7, c8⟩ := cells9 (X2.out.at 1 rfl)
      obtain ⟨e0, e1, e2, e3⟩ := cells4 (X2.out.at 0 rfl)
      obtain ⟨g, hG⟩ : ∃ g, g = wr.heap.size := ⟨_, rfl⟩
      rw [← hG] at X2 e0 e1 e2 e3
      have HG := Lib.hid hG
      clear hG
      have ST := Lib.hid (show str c false e = (e.c, tim e.d) from rfl)
      have SB := Lib.hid (str_b false HZ.out OK.out)
      by_cases hon : e.a = h
      case neg =>
        have NO := Lib.hid (show ¬ onW h false e = true by show ¬ decide (e.a = h) = true; rw [decide_eq_true_eq]; exact hon)
        have q1 : (e.a != h) = true := by rw [bne_iff_ne]; exact hon
        clear hon
        have HJ := Lib.hid (show ∀ x ∈ rs c h false (c.entries.take (k + 1)), ∀ j, q - 1 ≤ j → j ≤ q + 2 → ¬ hit c.cycle t n x j by rw [RT.out, if_neg NO.out]; exact HI.out)
        go_wp2_with (first
          | (go_at_call 25; refine (KT.out _).mono ?_; rintro r w5 ⟨rfl, b5⟩; have X3 := Lib.hid (X2.out.next b5); clear b5 a0 a1 a2 a3 a4 a5 a6 a7 a8 c0 c1 c2 c3 c4 c5 c6 c7 c8 e0 e1 e2 e3; obtain ⟨a0, a1, a2, a3, a4, a5, a6, a7, a8⟩ := cells9 (X3.out.at 1 rfl); obtain ⟨e0, e1, e2, e3⟩ := cells4 (X3.out.at 0 rfl); rw [HG.out] at e0 e1 e2 e3)
          | (go_at_call 58; refine (KH.out _).mono ?_; rintro r w9 ⟨rfl, hw⟩; obtain rfl := hw.symm))
        have X9 := Lib.hid X2.out.drop
        go_wp2
        go_roundw
        case rel => exact ⟨k + 1, by omega, by go_num, X9, HJ⟩
        case measure => simp [intOf]; omega
      have NO := Lib.hid (show onW h false e = true from decide_eq_true hon)
      have q1 : (e.a != h) = false := by rw [bne_eq_false_iff_eq]; exact hon
      clear hon
      go_wp2_with (first
          | (go_at_call 25; refine (KT.out _).mono ?_; rintro r w5 ⟨rfl, b5⟩; have X3 := Lib.hid (X2.out.next b5); clear b5 a0 a1 a2 a3 a4 a5 a6 a7 a8 c0 c1 c2 c3 c4 c5 c6 c7 c8 e0 e1 e2 e3; obtain ⟨a0, a1, a2, a3, a4, a5, a6, a7, a8⟩ := cells9 (X3.out.at 1 rfl); obtain ⟨e0, e1, e2, e3⟩ := cells4 (X3.out.at 0 rfl); rw [HG.out] at e0 e1 e2 e3)
          | (go_at_call 58; refine (KH.out _).mono ?_; rintro r w9 ⟨rfl, hw⟩; obtain rfl := hw.symm))
      have RT2 := Lib.hid (show rs c h false (c.entries.take (k + 1)) = T ++ [str c false e] by rw [RT.out, if_pos NO.out])
      rw [ST.out] at SB RT2
      clear RT NO ST q1
      rw [← HG.out]
      go_loopw [14] (fun iv wq => ∃ K : Int, iv = .int .i64 K ∧ Hid (q - 1 ≤ K ∧ K ≤ q + 3) ∧ Hid (Stay w [(g, eb e), (w.heap.size, Obj.cells #[.int .i64 c.hosts, .int .i64 c.cycle, .int .i64 c.delay, .int .i64 c.window, .int .i64 c.precision, .slice D nd cd, .slice (some ⟨b, off, none⟩) ne ce, .slice L nl cl, .int .i64 c.queue] 26)] wq) ∧ Hid (∀ j, q - 1 ≤ j → j < K → ¬ hit c.cycle t n (e.c, tim e.d) j)) (fun iv _ => (q + 3 - intOf iv).toNat)
      case atStart => exact ⟨Q1, rfl, Lib.hid (by have := HQ1.out; omega), X2, Lib.hid (fun j h1 h2 => by have := HQ1.out; omega)⟩
      case round =>
        clear X2 a0 a1 a2 a3 a4 a5 a6 a7 a8 e0 e1 e2 e3 c0 c1 c2 c3 c4 c5 c6 c7 c8 x0 x1 x2 x3
        obtain ⟨K, rfl, HK, HX, HJ⟩ := hrel
        obtain ⟨a0, a1, a2, a3, a4, a5, a6, a7, a8⟩ := cells9 (HX.out.at 1 rfl)
        obtain ⟨e0, e1, e2, e3⟩ := cells4 (HX.out.at 0 rfl)
        by_cases hle : K ≤ Q2
        · have hkm := k_mul ZB.out.1 ZB.out.2 HC.out.1 HK.out.1 HK.out.2
          have sb := SB.out
          have hcc := HC.out
          have htt := HT.out
          have hnn := HN.out
          dsimp only at sb
          obtain ⟨B, hB⟩ : ∃ B, K * c.cycle = B := ⟨_, rfl⟩
          rw [hB] at hkm
          obtain ⟨A1, hA⟩ : ∃ A1, B + e.c = A1 := ⟨_, rfl⟩
          obtain ⟨A2, hA2⟩ : ∃ A2, A1 + tim e.d = A2 := ⟨_, rfl⟩
          obtain ⟨K2, hK2⟩ : ∃ K2, K + 1 = K2 := ⟨_, rfl⟩
          obtain ⟨u1, v1⟩ := wr_of hB (by omega)
          obtain ⟨u2, v2⟩ := wr_of hA (by omega)
          obtain ⟨u3, v3⟩ := wr_of hA2 (by omega)
          obtain ⟨u4, v4⟩ := wr_of hK2 (by have := HK.out; have := QB.out; omega)
          have HH := Lib.hid (show hit c.cycle t n (e.c, tim e.d) K ↔ A1 < e5 ∧ t < A2 by
            unfold hit
            rw [hB, HE5.out]
            dsimp only
            constructor <;> rintro ⟨h1, h2⟩ <;> constructor <;> omega)
          have HK2 := Lib.hid (show q - 1 ≤ K2 ∧ K2 ≤ q + 3 by have := HK.out; have := HQ2.out; omega)
          have HLT := Lib.hid (show K < K2 ∧ K2 ≤ q + 3 by have := HK.out; have := HQ2.out; omega)
          have NX := Lib.hid (show ¬ hit c.cycle t n (e.c, tim e.d) K → ∀ j, q - 1 ≤ j → j < K2 → ¬ hit c.cycle t n (e.c, tim e.d) j by
            intro hn2 j h1 h2
            by_cases hj : j = K
            · rw [hj]; exact hn2
            · exact HJ.out j h1 (by omega))
          have kg : IntKind.i64.wrap K2 = K2 := (wr_of rfl (by have := HK.out; have := QB.out; omega)).1
          clear hB hA hA2 hK2 hkm sb hcc htt hnn
          by_cases g1 : A1 < e5
          · by_cases g2 : t < A2
            · have HM2 := Lib.hid (FIN.out (e.c, tim e.d) (SUB.out _ (by rw [RT2.out]; exact List.mem_append_right _ (List.mem_singleton.2 rfl))) K (HH.out.2 ⟨g1, g2⟩))
              go_wp2_with (go_at_call 39; refine (KTm.out _).mono ?_; rintro r w9 ⟨rfl, hw⟩; obtain rfl := hw.symm)
              go_ret
              exact ⟨by rw [HM2.out]; rfl, HX.out.b⟩
            · have HJ2 := Lib.hid (NX.out (fun h => g2 (HH.out.1 h).2))
              go_wp2_with (go_at_call 39; refine (KTm.out _).mono ?_; rintro r w9 ⟨rfl, hw⟩; obtain rfl := hw.symm)
              go_roundw
              case rel => exact ⟨K2, rfl, HK2, HX, HJ2⟩
              case measure => have h1 := HLT.out; simp [intOf]; omega
          · have HJ2 := Lib.hid (NX.out (fun h => g1 (HH.out.1 h).1))
            go_wp2_with (go_at_call 39; refine (KTm.out _).mono ?_; rintro r w9 ⟨rfl, hw⟩; obtain rfl := hw.symm)
            go_roundw
            case rel => exact ⟨K2, rfl, HK2, HX, HJ2⟩
            case measure => have h1 := HLT.out; simp [intOf]; omega
        · have HJ3 := Lib.hid (show ∀ x ∈ rs c h false (c.entries.take (k + 1)), ∀ j, q - 1 ≤ j → j ≤ q + 2 → ¬ hit c.cycle t n x j by
            rw [RT2.out]
            intro x hx j h1 h2
            rcases List.mem_append.1 hx with hx | hx
            · exact HI.out x hx j h1 h2
            · rw [List.mem_singleton] at hx
              subst hx
              exact HJ.out j h1 (by have := HQ2.out; omega))
          have X9 := Lib.hid HX.out.drop
          go_wp2
          go_roundw
          case rel => exact ⟨k + 1, by omega, by go_num, X9, HJ3⟩
          case measure => simp [intOf]; omega
    · obtain rfl : k = ne := by omega
      have HF := Lib.hid (OWN.out (by have := HI.out; rwa [HM.out.nE, List.take_length] at this))
      go_wp2
      go_ret
      exact ⟨by rw [HF.out]; rfl, HS.out.b⟩
set_option maxHeartbeats 16000000 in
set_option maxRecDepth 100000 in
theorem reff_true (c : Cfg) (D E L : Option Addr) (nd cd ne ce nl cl : Nat) (h t n : Int) (w : World) (m : CM w c D E L nd cd ne ce nl cl) (hz : chk c = 0) (ht : 0 ≤ t ∧ t ≤ 1125904201809920) (hn : 1 ≤ n ∧ n ≤ c.cycle) : Calls Try.prog 38 #[.agg #[.int .i64 c.hosts, .int .i64 c.cycle, .int .i64 c.delay, .int .i64 c.window, .int .i64 c.precision, .slice D nd cd, .slice E ne ce, .slice L nl cl, .int .i64 c.queue], .int .i64 h, .bool true, .int .i64 t, .int .i64 n] w fun r w' => r = .returned (.bool (!mtb c.cycle t n (rs c h true c.entries))) ∧ Below w.heap.size w w' := by
  have S0 := Lib.hid ((Stay.start w).alloc (Obj.cells #[.int .i64 c.hosts, .int .i64 c.cycle, .int .i64 c.delay, .int .i64 c.window, .int .i64 c.precision, .slice D nd cd, .slice E ne ce, .slice L nl cl, .int .i64 c.queue] 26))
  have HM := Lib.hid m
  have HZ := Lib.hid hz
  have hsp := chk_span hz
  have HC := Lib.hid (show 0 < c.cycle ∧ c.cycle ≤ 1073741824 by omega)
  have HT := Lib.hid ht
  have HN := Lib.hid hn
  have RO := Lib.hid (rs_ok (h := h) (down := true) hz)
  have MI := Lib.hid (mtb_iff (t := t) (n := n) (HC.out.1) RO.out hn.2)
  have OW := Lib.hid (own_iff (t := t) (n := n) HC.out.1 RO.out hn.2)
  have dv := div_ok ht.1 HC.out.1
  have FIN := Lib.hid (show ∀ x ∈ rs c h true c.entries, ∀ j, hit c.cycle t n x j → mtb c.cycle t n (rs c h true c.entries) = true from fun x hx j hj => MI.out.2 ⟨x, hx, j, hj⟩)
  obtain ⟨q, hq⟩ : ∃ q, t / c.cycle = q := ⟨_, rfl⟩
  have OWN := Lib.hid (show (∀ x ∈ rs c h true c.entries, ∀ j, q - 1 ≤ j → j ≤ q + 2 → ¬ hit c.cycle t n x j) → mtb c.cycle t n (rs c h true c.entries) = false from fun H => by
    rw [← Bool.not_eq_true, MI.out]
    refine OW.out.1 (fun x hx j h1 h2 => ?_)
    rw [hq] at h1 h2
    exact H x hx j h1 h2)
  rw [hq] at dv
  have dq2 := dv.eq2
  have QB := Lib.hid (show 0 ≤ q ∧ q ≤ 1125904201809920 by have := dv.bq; omega)
  have ZB := Lib.hid (show 0 ≤ q * c.cycle ∧ q * c.cycle ≤ t from ⟨Int.mul_nonneg QB.out.1 (by omega), by have := dv.es; have := dv.bp; omega⟩)
  obtain ⟨Q1, hQ1⟩ : ∃ Q1, q - 1 = Q1 := ⟨_, rfl⟩
  obtain ⟨Q2, hQ2⟩ : ∃ Q2, q + 2 = Q2 := ⟨_, rfl⟩
  obtain ⟨e5, he5⟩ : ∃ e5, t + n = e5 := ⟨_, rfl⟩
  obtain ⟨u1, v1⟩ := wr_of (show q = q from rfl) (by have := QB.out; omega)
  obtain ⟨u2, v2⟩ := wr_of hQ1 (by have := QB.out; omega)
  obtain ⟨u3, v3⟩ := wr_of hQ2 (by have := QB.out; omega)
  obtain ⟨u4, v4⟩ := wr_of he5 (by omega)
  have HQ1 := Lib.hid hQ1
  have HQ2 := Lib.hid hQ2
  have HE5 := Lib.hid he5
  have hl : ne ≤ 16 := by rw [m.nE]; exact chk_len hz
  have nz : ¬ c.cycle = 0 := by omega
  obtain ⟨a0, a1, a2, a3, a4, a5, a6, a7, a8⟩ := cells9 (S0.out.at 0 rfl)
  clear m hz hsp ht hn dv hq hQ1 hQ2 he5 MI OW RO
  go_enter Try.func38, Try.ntmps38
  go_wp2
  go_loopw [11] (fun iv wr => ∃ (k : Nat), k ≤ ne ∧ iv = .int .i64 k ∧ Hid (Stay w [(w.heap.size, Obj.cells #[.int .i64 c.hosts, .int .i64 c.cycle, .int .i64 c.delay, .int .i64 c.window, .int .i64 c.precision, .slice D nd cd, .slice E ne ce, .slice L nl cl, .int .i64 c.queue] 26)] wr) ∧ Hid (∀ x ∈ rs c h true (c.entries.take k), ∀ j, q - 1 ≤ j → j ≤ q + 2 → ¬ hit c.cycle t n x j)) (fun iv _ => ne - (intOf iv).toNat)
  case atStart => exact ⟨0, Nat.zero_le _, rfl, S0, Lib.hid (fun x hx => by cases hx)⟩
  case round =>
    clear S0 a0 a1 a2 a3 a4 a5 a6 a7 a8
    obtain ⟨k, hk, rfl, HS, HI⟩ := hrel
    obtain ⟨a0, a1, a2, a3, a4, a5, a6, a7, a8⟩ := cells9 (HS.out.at 0 rfl)
    by_cases hlt : (k : Int) < (ne : Int)
    · obtain ⟨e, he⟩ : ∃ e, c.entries[k]? = some e := ⟨_, List.getElem?_eq_getElem (by rw [← HM.out.nE]; omega)⟩
      obtain ⟨b, off, rfl, ⟨x0, x1, x2, x3⟩, hb⟩ := (HM.out.below HS.out.b).he k e he
      have OK := Lib.hid (ent_ok HZ.out (List.mem_of_getElem? he))
      have RT := Lib.hid (rs_take (c := c) (h := h) (down := true) he)
      have SUB := Lib.hid (rs_sub c h true c.entries (k + 1))
      have KT := Lib.hid (fun W => times_ok c D (some ⟨b, off, none⟩) L nd cd ne ce nl cl e W OK.out)
      have KH := Lib.hid (fun W => refHas_any e.b h W hb)
      have KTm := Lib.hid (fun W => refTime_any e.d W)
      clear he hb
      have ix := idx2 (.int .i64 (at0 c e)) (.int .i64 (at1 c e)) (.int .i64 (fwd c e)) (.int .i64 (ear c e)) (.int .i64 (lat c e))
      have X2 := Lib.hid (HS.out.alloc (eb e))
      generalize rs c h true (c.entries.take k) = T at *
      obtain ⟨c0, c1, c2, c3, c4, c5, c6, c7, c8⟩ := cells9 (X2.out.at 1 rfl)
      obtain ⟨e0, e1, e2, e3⟩ := cells4 (X2.out.at 0 rfl)
      obtain ⟨g, hG⟩ : ∃ g, g = wr.heap.size := ⟨_, rfl⟩
      rw [← hG] at X2 e0 e1 e2 e3
      have HG := Lib.hid hG
      clear hG
      have ST := Lib.hid (show str c true e = (fwd c e, tim e.d) from rfl)
      have SB := Lib.hid (str_b true HZ.out OK.out)
      by_cases hon : CrewW.has e.b h = true
      case neg =>
        have NO := Lib.hid (show ¬ onW h true e = true from hon)
        rw [show CrewW.has e.b h = false by rw [← Bool.not_eq_true]; exact hon] at KH
        skip
        clear hon
        have HJ := Lib.hid (show ∀ x ∈ rs c h true (c.entries.take (k + 1)), ∀ j, q - 1 ≤ j → j ≤ q + 2 → ¬ hit c.cycle t n x j by rw [RT.out, if_neg NO.out]; exact HI.out)
        go_wp2_with (first
          | (go_at_call 25; refine (KT.out _).mono ?_; rintro r w5 ⟨rfl, b5⟩; have X3 := Lib.hid (X2.out.next b5); clear b5 a0 a1 a2 a3 a4 a5 a6 a7 a8 c0 c1 c2 c3 c4 c5 c6 c7 c8 e0 e1 e2 e3; obtain ⟨a0, a1, a2, a3, a4, a5, a6, a7, a8⟩ := cells9 (X3.out.at 1 rfl); obtain ⟨e0, e1, e2, e3⟩ := cells4 (X3.out.at 0 rfl); rw [HG.out] at e0 e1 e2 e3)
          | (go_at_call 58; refine (KH.out _).mono ?_; rintro r w9 ⟨rfl, hw⟩; obtain rfl := hw.symm))
        have X9 := Lib.hid X3.out.drop
        go_wp2
        go_roundw
        case rel => exact ⟨k + 1, by omega, by go_num, X9, HJ⟩
        case measure => simp [intOf]; omega
      have NO := Lib.hid (show onW h true e = true from hon)
      rw [hon] at KH
      skip
      clear hon
      go_wp2_with (first
          | (go_at_call 25; refine (KT.out _).mono ?_; rintro r w5 ⟨rfl, b5⟩; have X3 := Lib.hid (X2.out.next b5); clear b5 a0 a1 a2 a3 a4 a5 a6 a7 a8 c0 c1 c2 c3 c4 c5 c6 c7 c8 e0 e1 e2 e3; obtain ⟨a0, a1, a2, a3, a4, a5, a6, a7, a8⟩ := cells9 (X3.out.at 1 rfl); obtain ⟨e0, e1, e2, e3⟩ := cells4 (X3.out.at 0 rfl); rw [HG.out] at e0 e1 e2 e3)
          | (go_at_call 58; refine (KH.out _).mono ?_; rintro r w9 ⟨rfl, hw⟩; obtain rfl := hw.symm))
      have RT2 := Lib.hid (show rs c h true (c.entries.take (k + 1)) = T ++ [str c true e] by rw [RT.out, if_pos NO.out])
      rw [ST.out] at SB RT2
      clear RT NO ST
      rw [← HG.out]
      go_loopw [14] (fun iv wq => ∃ K : Int, iv = .int .i64 K ∧ Hid (q - 1 ≤ K ∧ K ≤ q + 3) ∧ Hid (Stay w [(g, eb e), (w.heap.size, Obj.cells #[.int .i64 c.hosts, .int .i64 c.cycle, .int .i64 c.delay, .int .i64 c.window, .int .i64 c.precision, .slice D nd cd, .slice (some ⟨b, off, none⟩) ne ce, .slice L nl cl, .int .i64 c.queue] 26)] wq) ∧ Hid (∀ j, q - 1 ≤ j → j < K → ¬ hit c.cycle t n (fwd c e, tim e.d) j)) (fun iv _ => (q + 3 - intOf iv).toNat)
      case atStart => exact ⟨Q1, rfl, Lib.hid (by have := HQ1.out; omega), X3, Lib.hid (fun j h1 h2 => by have := HQ1.out; omega)⟩
      case round =>
        clear X3 a0 a1 a2 a3 a4 a5 a6 a7 a8 e0 e1 e2 e3 x0 x1 x2 x3
        obtain ⟨K, rfl, HK, HX, HJ⟩ := hrel
        obtain ⟨a0, a1, a2, a3, a4, a5, a6, a7, a8⟩ := cells9 (HX.out.at 1 rfl)
        obtain ⟨e0, e1, e2, e3⟩ := cells4 (HX.out.at 0 rfl)
        by_cases hle : K ≤ Q2
        · have hkm := k_mul ZB.out.1 ZB.out.2 HC.out.1 HK.out.1 HK.out.2
          have sb := SB.out
          have hcc := HC.out
          have htt := HT.out
          have hnn := HN.out
          dsimp only at sb
          obtain ⟨B, hB⟩ : ∃ B, K * c.cycle = B := ⟨_, rfl⟩
          rw [hB] at hkm
          obtain ⟨A1, hA⟩ : ∃ A1, B + fwd c e = A1 := ⟨_, rfl⟩
          obtain ⟨A2, hA2⟩ : ∃ A2, A1 + tim e.d = A2 := ⟨_, rfl⟩
          obtain ⟨K2, hK2⟩ : ∃ K2, K + 1 = K2 := ⟨_, rfl⟩
          obtain ⟨u1, v1⟩ := wr_of hB (by omega)
          obtain ⟨u2, v2⟩ := wr_of hA (by omega)
          obtain ⟨u3, v3⟩ := wr_of hA2 (by omega)
          obtain ⟨u4, v4⟩ := wr_of hK2 (by have := HK.out; have := QB.out; omega)
          have HH := Lib.hid (show hit c.cycle t n (fwd c e, tim e.d) K ↔ A1 < e5 ∧ t < A2 by
            unfold hit
            rw [hB, HE5.out]
            dsimp only
            constructor <;> rintro ⟨h1, h2⟩ <;> constructor <;> omega)
          have HK2 := Lib.hid (show q - 1 ≤ K2 ∧ K2 ≤ q + 3 by have := HK.out; have := HQ2.out; omega)
          have HLT := Lib.hid (show K < K2 ∧ K2 ≤ q + 3 by have := HK.out; have := HQ2.out; omega)
          have NX := Lib.hid (show ¬ hit c.cycle t n (fwd c e, tim e.d) K → ∀ j, q - 1 ≤ j → j < K2 → ¬ hit c.cycle t n (fwd c e, tim e.d) j by
            intro hn2 j h1 h2
            by_cases hj : j = K
            · rw [hj]; exact hn2
            · exact HJ.out j h1 (by omega))
          have kg : IntKind.i64.wrap K2 = K2 := (wr_of rfl (by have := HK.out; have := QB.out; omega)).1
          clear hB hA hA2 hK2 hkm sb hcc htt hnn
          by_cases g1 : A1 < e5
          · by_cases g2 : t < A2
            · have HM2 := Lib.hid (FIN.out (fwd c e, tim e.d) (SUB.out _ (by rw [RT2.out]; exact List.mem_append_right _ (List.mem_singleton.2 rfl))) K (HH.out.2 ⟨g1, g2⟩))
              go_wp2_with (go_at_call 39; refine (KTm.out _).mono ?_; rintro r w9 ⟨rfl, hw⟩; obtain rfl := hw.symm)
              go_ret
              exact ⟨by rw [HM2.out]; rfl, HX.out.b⟩
            · have HJ2 := Lib.hid (NX.out (fun h => g2 (HH.out.1 h).2))
              go_wp2_with (go_at_call 39; refine (KTm.out _).mono ?_; rintro r w9 ⟨rfl, hw⟩; obtain rfl := hw.symm)
              go_roundw
              case rel => exact ⟨K2, rfl, HK2, HX, HJ2⟩
              case measure => have h1 := HLT.out; simp [intOf]; omega
          · have HJ2 := Lib.hid (NX.out (fun h => g1 (HH.out.1 h).1))
            go_wp2_with (go_at_call 39; refine (KTm.out _).mono ?_; rintro r w9 ⟨rfl, hw⟩; obtain rfl := hw.symm)
            go_roundw
            case rel => exact ⟨K2, rfl, HK2, HX, HJ2⟩
            case measure => have h1 := HLT.out; simp [intOf]; omega
        · have HJ3 := Lib.hid (show ∀ x ∈ rs c h true (c.entries.take (k + 1)), ∀ j, q - 1 ≤ j → j ≤ q + 2 → ¬ hit c.cycle t n x j by
            rw [RT2.out]
            intro x hx j h1 h2
            rcases List.mem_append.1 hx with hx | hx
            · exact HI.out x hx j h1 h2
            · rw [List.mem_singleton] at hx
              subst hx
              exact HJ.out j h1 (by have := HQ2.out; omega))
          have X9 := Lib.hid HX.out.drop
          go_wp2
          go_roundw
          case rel => exact ⟨k + 1, by omega, by go_num, X9, HJ3⟩
          case measure => simp [intOf]; omega
    · obtain rfl : k = ne := by omega
      have HF := Lib.hid (OWN.out (by have := HI.out; rwa [HM.out.nE, List.take_length] at this))
      go_wp2
      go_ret
      exact ⟨by rw [HF.out]; rfl, HS.out.b⟩
theorem reff_any (c : Cfg) (D E L : Option Addr) (nd cd ne ce nl cl : Nat) (h : Int) (down : Bool) (t n : Int) (w : World) (m : CM w c D E L nd cd ne ce nl cl) (hz : chk c = 0) (ht : 0 ≤ t ∧ t ≤ 1125904201809920) (hn : 1 ≤ n ∧ n ≤ c.cycle) : Calls Try.prog 38 #[.agg #[.int .i64 c.hosts, .int .i64 c.cycle, .int .i64 c.delay, .int .i64 c.window, .int .i64 c.precision, .slice D nd cd, .slice E ne ce, .slice L nl cl, .int .i64 c.queue], .int .i64 h, .bool down, .int .i64 t, .int .i64 n] w fun r w' => r = .returned (.bool (!mtb c.cycle t n (rs c h down c.entries))) ∧ Below w.heap.size w w' := by
  cases down
  · exact reff_false c D E L nd cd ne ce nl cl h t n w m hz ht hn
  · exact reff_true c D E L nd cd ne ce nl cl h t n w m hz ht hn
set_option maxHeartbeats 2000000 in
theorem refFree_any (c : Cfg) (D E L : Option Addr) (nd cd ne ce nl cl : Nat) (h : Int) (down : Bool) (t n : Int) (w : World) (m : CM w c D E L nd cd ne ce nl cl) : Calls Try.prog 20 #[.agg #[.int .i64 c.hosts, .int .i64 c.cycle, .int .i64 c.delay, .int .i64 c.window, .int .i64 c.precision, .slice D nd cd, .slice E ne ce, .slice L nl cl, .int .i64 c.queue], .int .i64 h, .bool down, .int .i64 t, .int .i64 n] w fun r w' => r = .returned (.bool (freeV c h down t n)) ∧ Below w.heap.size w w' := by
  have S0 := Lib.hid ((Stay.start w).alloc (Obj.cells #[.int .i64 c.hosts, .int .i64 c.cycle, .int .i64 c.delay, .int .i64 c.window, .int .i64 c.precision, .slice D nd cd, .slice E ne ce, .slice L nl cl, .int .i64 c.queue] 26))
  have HM := Lib.hid m
  have KA := Lib.hid (fun W (hW : CM W c D E L nd cd ne ce nl cl) => wire_any c D E L nd cd ne ce nl cl h t n W hW)
  obtain ⟨a0, a1, a2, a3, a4, a5, a6, a7, a8⟩ := cells9 (S0.out.at 0 rfl)
  unfold freeV
  cases ha : ask c h t n with
  | false =>
    rw [ha] at KA
    clear ha m
    go_enter Try.func20, Try.ntmps20
    go_wp2_with (go_at_call 37; refine (KA.out _ (HM.out.below S0.out.b)).mono ?_; rintro r w5 ⟨rfl, b5⟩; have S := Lib.hid (S0.out.next b5); clear b5 a0 a1 a2 a3 a4 a5 a6 a7 a8)
    go_ret
    exact ⟨rfl, S.out.b⟩
  | true =>
    rw [ha] at KA
    obtain ⟨⟨t01, hz⟩, hC, hn⟩ := wait_ok ha
    have KF := Lib.hid (fun W (hW : CM W c D E L nd cd ne ce nl cl) => reff_any c D E L nd cd ne ce nl cl h down t n W hW hz (by omega) hn)
    generalize mtb c.cycle t n (rs c h down c.entries) = B at *
    clear ha m hz hC hn t01
    go_enter Try.func20, Try.ntmps20
    go_wp2_with (first
      | (go_at_call 37; refine (KA.out _ (HM.out.below S0.out.b)).mono ?_; rintro r w5 ⟨rfl, b5⟩; have S := Lib.hid (S0.out.next b5); clear b5 a0 a1 a2 a3 a4 a5 a6 a7 a8; obtain ⟨a0, a1, a2, a3, a4, a5, a6, a7, a8⟩ := cells9 (S.out.at 0 rfl))
      | (go_at_call 38; refine (KF.out _ (HM.out.below S.out.b)).mono ?_; rintro r w6 ⟨rfl, b6⟩; have S6 := Lib.hid (S.out.next b6); clear b6))
    go_ret
    exact ⟨by rw [Bool.true_and]; rfl, S6.out.b⟩
end Go.Proofs.Ytdaoemjkefpmcaa.PlanW
