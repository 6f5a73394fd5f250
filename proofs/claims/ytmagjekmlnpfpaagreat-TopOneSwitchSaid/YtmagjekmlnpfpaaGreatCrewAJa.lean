/- Walks: only, Has, Within, Count, First; the document's own Has. -/
import Derived.Test.YtmagjekmlnpfpaaGreatCrewPJa
import Derived.Test.YtmagjekmlnpfpaaGreatProg
import Derived.Test.YtmagjekmlnpfpaaGreatRow1
import Derived.Deep.RegionHeld3
import Derived.Deep.RegionLaw
import Derived.Deep.DeepCutAuto
import Derived.Deep.CutBlock
import Derived.Laws.Shifts
import Derived.Lib.Hide
import Derived.IntWalk
import Derived.Laws.Unary
import Derived.Lib.Tables
import Derived.ProofKit
import Derived.Test.YtmagjekmlnpfpaaGreatConfA
import Derived.Test.YtmagjekmlnpfpaaGreatConfPJa
namespace Go.Proofs.YtmagjekmlnpfpaaGreat.CrewW
open Go.RowKit Shell
theorem shl_eq (k : Nat) (h : k < 6) : (2 : Int) ^ k % 4294967296 = ((only (k : Int) : Nat) : Int) := by
  unfold only
  rw [if_pos (by omega), Int.toNat_natCast, show ((2 : Int) ^ k) = ((2 ^ k : Nat) : Int) by simp]
  have := Nat.pow_lt_pow_right (a := 2) (m := k) (n := 6) (by decide) h
  generalize 2 ^ k = z at *
  omega
set_option maxHeartbeats 1000000 in
theorem only_any (h : Int) (w : World) : Calls Tryz.prog 141 #[.int .i64 h] w fun e w' => e = .returned (.int .u32 (only h : Nat)) ∧ w' = w := by
  by_cases h0 : h < 0
  · have e : only h = 0 := by unfold only; rw [if_neg (by omega)]
    rw [e]
    clear e
    go_enter Tryz.func141, Tryz.ntmps141
    go_wp2
    go_ret
    exact ⟨rfl, rfl⟩
  · by_cases h6 : 6 ≤ h
    · have e : only h = 0 := by unfold only; rw [if_neg (by omega)]
      rw [e]
      clear e
      go_enter Tryz.func141, Tryz.ntmps141
      go_wp2
      go_ret
      exact ⟨rfl, rfl⟩
    · obtain ⟨k, rfl⟩ := Int.eq_ofNat_of_zero_le (show 0 ≤ h by omega)
      have HR := Lib.hid (shl_eq k (by omega))
      generalize only (k : Int) = c at *
      go_enter Tryz.func141, Tryz.ntmps141
      go_wp2
      go_ret
      exact ⟨congrArg (fun z => Ending.returned (.int .u32 z)) HR.out, rfl⟩
set_option maxHeartbeats 1000000 in
theorem has_any (c : Nat) (h : Int) (w : World) (hc : c < 4294967296) : Calls Tryz.prog 86 #[.int .u32 (c : Int), .int .i64 h] w fun e w' => e = .returned (.bool (has c h)) ∧ w' = w := by
  have HB := Lib.hid (u32_and_nat c (only h) hc (by have := only_lt h; omega))
  have HH := Lib.hid (has_only c h)
  have HO := Lib.hid (only_any h w)
  generalize only h = o at *
  go_enter Tryz.func86, Tryz.ntmps86
  go_wp2_with fail
  refine HO.out.mono ?_
  rintro e w9 ⟨rfl, hw⟩
  obtain rfl := hw.symm
  go_wp2_with fail
  rw [HB.out]
  generalize has c h = b at *
  generalize c &&& o = x at *
  cases b
  · have hx : x = 0 := by
      rcases Nat.eq_zero_or_pos x with h | h
      · exact h
      · exact absurd (HH.out.1 (by omega)) (by decide)
    subst hx
    go_wp2
    go_ret
    exact ⟨rfl, rfl⟩
  · have hx : ((x : Int) != 0) = true := by have := HH.out.2 rfl; rw [bne_iff_ne]; omega
    go_wp2
    go_ret
    exact ⟨rfl, rfl⟩
/-- How many bits are set: the table's word at numbers below 64. -/
theorem pop_at : ∀ r : Nat, r < 64 → Go.Lib.pop8 (r : Int) = ((mem r).length : Int) := by decide +kernel
theorem pop_key : ∀ x : Array UInt8, x = Go.Lib.pop8tab.data → ByteArray.mk x = Go.Lib.pop8tab := fun x h => by rw [h]
theorem pop_0 : Go.Lib.pop8 0 = 0 := by decide +kernel
set_option maxHeartbeats 1000000 in
theorem ones_any (r : Nat) (w : World) (h : r < 64) : Calls Tryz.prog 176 #[.int .u32 (r : Int)] w fun e w' => e = .returned (.int .i64 ((mem r).length : Int)) ∧ Below w.heap.size w w' := by
  have H1 := Lib.hid (show (r : Int) / 16777216 = 0 by omega)
  have HP := Lib.hid (pop_at r h)
  have HL := Lib.hid (mem_len r)
  have H0 := pop_0
  have e0 : bits .and .u32 0 255 = 0 := by decide
  have e1 : bits .and .u32 (r : Int) 255 = (r : Int) := by
    have := u32_and_nat r 255 (by omega) (by decide)
    rw [show r &&& 255 = r % 256 from Nat.and_two_pow_sub_one_eq_mod r 8, Nat.mod_eq_of_lt (by omega)] at this
    exact this
  have s1 : (r : Int) / 16777216 = 0 := by omega
  have s2 : (r : Int) / 65536 = 0 := by omega
  have s3 : (r : Int) / 256 = 0 := by omega
  have HI := fun W => Go.Lib.run_index_pop8tab (P := Tryz.prog) W 9 .u32 (r : Int) Tryz.underlying9 (by omega) (by omega)
  go_enter Tryz.func176, Tryz.ntmps176
  rw [pop_key]
  rotate_left
  · rfl
  go_wp2
  go_region
  rw [HP.out, show (((mem r).length : Nat) : Int) % 256 = ((mem r).length : Int) by have := HL.out; omega]
  go_wp2
  go_ret
  exact ⟨rfl, (Below.refl _ _).drew⟩
set_option maxHeartbeats 1000000 in
theorem count_any (c : Nat) (w : World) (h : c < 4294967296) : Calls Tryz.prog 146 #[.int .u32 (c : Int)] w fun e w' => e = .returned (.int .i64 ((mem c).length : Int)) ∧ Below w.heap.size w w' := by
  have HB := Lib.hid (u32_and_nat c 63 h (by decide))
  have HO := Lib.hid (ones_any (c % 64) w (Nat.mod_lt _ (by decide)))
  have e := and63 c
  rw [e] at HB
  rw [mem_mod] at HO
  clear e
  generalize c % 64 = r at *
  go_enter Tryz.func146, Tryz.ntmps146
  go_wp2_with (first | rw [show bits .and .u32 (c : Int) 63 = (r : Int) from HB.out])
  refine HO.out.mono ?_
  rintro e w9 ⟨rfl, hb⟩
  have B := Lib.hid hb
  clear hb
  go_wp2
  go_ret
  exact ⟨rfl, B.out⟩
theorem has_half (c k : Nat) (h : k < 6) : has c (k : Int) = (((c / 2 ^ k : Nat) : Int) % 2 == 1) := by
  rw [has_div c k h, Bool.eq_iff_iff, decide_eq_true_eq, beq_iff_eq]
  generalize c / 2 ^ k = z
  omega
theorem div_succ (c i : Nat) (h : c < 4294967296) : ((c / 2 ^ i : Nat) : Int) / 2 % 4294967296 = ((c / 2 ^ (i + 1) : Nat) : Int) := by
  have := Nat.div_le_self c (2 ^ i)
  rw [Nat.pow_succ, ← Nat.div_div_eq_div_mul]
  generalize c / 2 ^ i = z at *
  omega
set_option maxHeartbeats 1000000 in
theorem refHas_any (c : Nat) (h : Int) (w : World) (hc : c < 4294967296) : Calls Tryz.prog 44 #[.int .u32 (c : Int), .int .i64 h] w fun e w' => e = .returned (.bool (has c h)) ∧ w' = w := by
  by_cases h0 : h < 0
  · rw [has_big c h (by omega)]
    go_enter Tryz.func44, Tryz.ntmps44
    go_wp2
    go_ret
    exact ⟨rfl, rfl⟩
  · by_cases h6 : 5 < h
    · rw [has_big c h (by omega)]
      go_enter Tryz.func44, Tryz.ntmps44
      go_wp2
      go_ret
      exact ⟨rfl, rfl⟩
    · obtain ⟨k, rfl⟩ := Int.eq_ofNat_of_zero_le (show 0 ≤ h by omega)
      have HR := Lib.hid (has_half c k (by omega))
      generalize has c (k : Int) = b at *
      go_enter Tryz.func44, Tryz.ntmps44
      go_wp2
      go_loopw [0, 5] (fun cv iv wr => ∃ (i : Nat), i ≤ k ∧ iv = .int .i64 i ∧ cv = .int .u32 ((c / 2 ^ i : Nat) : Int) ∧ wr = w) (fun _ iv _ => k - (intOf iv).toNat)
      case atStart => exact ⟨0, Nat.zero_le _, rfl, by rw [Nat.pow_zero, Nat.div_one], rfl⟩
      case round =>
        obtain ⟨i, hi, rfl, rfl, rfl⟩ := hrel
        by_cases hlt : i < k
        · have HD := Lib.hid (div_succ c i hc)
          generalize c / 2 ^ i = z at *
          go_wp2
          go_roundw
          case rel => exact ⟨i + 1, by omega, by go_num, by rw [← HD.out], trivial⟩
          case measure => simp [intOf]; omega
        · obtain rfl : i = k := by omega
          generalize c / 2 ^ i = z at *
          go_wp2
          go_ret
          exact ⟨by rw [HR.out]; rfl, rfl⟩
end Go.Proofs.YtmagjekmlnpfpaaGreat.CrewW



/- Walks: rightWay, timed, placed, wireTime, Quiet. -/
namespace Go.Proofs.YtmagjekmlnpfpaaGreat.ConfW
open Go.RowKit Shell
theorem shr_zero (t k : Nat) (ht : t < 2 ^ k) : (t : Int) / 2 ^ k = 0 := by
  rw [show ((2 : Int) ^ k) = ((2 ^ k : Nat) : Int) by simp]
  generalize 2 ^ k = z at *
  exact Int.ediv_eq_zero_of_lt (by omega) (by omega)
theorem shr_pos (t k : Nat) (ht : ¬ t < 2 ^ k) : ((t : Int) / 2 ^ k == 0) = false := by
  rw [beq_eq_false_iff_ne, show ((2 : Int) ^ k) = ((2 ^ k : Nat) : Int) by simp]
  have hp : 0 < 2 ^ k := Nat.pow_pos (by decide)
  generalize 2 ^ k = z at *
  have := Nat.div_pos (a := t) (b := z) (by omega) hp
  rw [← Int.natCast_ediv]
  omega
set_option maxHeartbeats 1000000 in
theorem rightWay_any (h f : Int) (t : Nat) (s : Int) (w : World) (hh : 1 ≤ h ∧ h ≤ 6) (ht : t < 4294967296) :
    Calls Tryz.prog 121 #[.int .i64 h, .int .i64 f, .int .u32 (t : Int), .int .i64 s] w fun e w' => e = .returned (.bool (way h f t s)) ∧ w' = w := by
  obtain ⟨k, rfl⟩ := Int.eq_ofNat_of_zero_le (show 0 ≤ h by omega)
  have HS := Lib.hid (fun x => shr_zero t k x)
  have HP := Lib.hid (fun x => shr_pos t k x)
  have HK := Lib.hid hh
  have H1 := fun W => between_int f 0 ((k : Int) - 1) W
  have H2 := fun W => between_int s 64 1518 W
  have H3 := fun W => CrewW.has_any t f W ht
  have k0 : (0 : Int) ≤ (k : Int) := by omega
  have k3 : min k 32 = k := by omega
  have k1 : ¬ (k : Int) < 0 := by omega
  have k2 : IntKind.i64.wrap ((k : Int) - 1) = (k : Int) - 1 := by rw [IntKind.wrap_i64]; omega
  unfold way
  rw [Int.toNat_natCast]
  generalize btw f 0 ((k : Int) - 1) = b1 at *
  generalize btw s 64 1518 = b2 at *
  generalize CrewW.has t f = b3 at *
  clear hh
  go_enter Tryz.func121, Tryz.ntmps121
  go_wp2_with fail
  refine (H1 _).mono ?_
  rintro e w9 ⟨rfl, hw⟩
  obtain rfl := hw.symm
  cases b1
  · go_wp2
    go_ret
    exact ⟨rfl, rfl⟩
  · by_cases ht0 : t = 0
    · subst ht0
      go_wp2
      go_ret
      exact ⟨rfl, rfl⟩
    · have e1 : ((t : Int) != 0) = true := by rw [bne_iff_ne]; omega
      by_cases hs : t < 2 ^ k
      · have e2 := HS.out hs
        go_wp2_with fail
        refine (H3 _).mono ?_
        rintro e w9 ⟨rfl, hw⟩
        obtain rfl := hw.symm
        cases b3
        · go_wp2_with fail
          refine (H2 _).mono ?_
          rintro e w9 ⟨rfl, hw⟩
          obtain rfl := hw.symm
          go_wp2
          go_ret
          exact ⟨by simp [ht0, hs], rfl⟩
        · go_wp2
          go_ret
          exact ⟨by simp [ht0, hs], rfl⟩
      · have e2 := HP.out hs
        go_wp2
        go_ret
        exact ⟨by simp [ht0, hs], rfl⟩
set_option maxHeartbeats 1000000 in
theorem timed_any (c : Cfg) (D E L : Option Addr) (nd cd ne ce nl cl : Nat) (w : World) : Calls Tryz.prog 155 #[.agg #[.int .i64 c.hosts, .int .i64 c.cycle, .int .i64 c.delay, .int .i64 c.window, .int .i64 c.precision, .slice D nd cd, .slice E ne ce, .slice L nl cl, .int .i64 c.queue]] w fun e w' => e = .returned (.bool (spans c)) ∧ Below w.heap.size w w' := by
  have H1 := fun W => between_i64 c.cycle 1 1073741824 W
  have H2 := fun W => rightTimes_any c D E L nd cd ne ce nl cl W
  unfold spans
  generalize btw c.cycle 1 1073741824 = b1 at *
  generalize spansT c = b2 at *
  have B := Lib.hid (al (Below.refl w.heap.size w) (Obj.cells #[.int .i64 c.hosts, .int .i64 c.cycle, .int .i64 c.delay, .int .i64 c.window, .int .i64 c.precision, .slice D nd cd, .slice E ne ce, .slice L nl cl, .int .i64 c.queue] 26))
  go_enter Tryz.func155, Tryz.ntmps155
  go_wp2_with fail
  refine (H1 _).mono ?_
  rintro e w9 ⟨rfl, hw⟩
  obtain rfl := hw.symm
  cases b1
  · go_wp2
    go_ret
    exact ⟨rfl, B.out⟩
  · go_wp2_with fail
    refine (H2 _).mono ?_
    rintro e w9 ⟨rfl, hb⟩
    have B2 := Lib.hid (B.out.trans (hb.mono B.out.size))
    clear hb
    go_wp2
    go_ret
    exact ⟨rfl, B2.out⟩
set_option maxHeartbeats 1000000 in
theorem wireTime_any (e : R4) (w : World) : Calls Tryz.prog 157 #[.agg #[.int .i64 e.a, .int .u32 e.b, .int .i64 e.c, .int .i64 e.d]] w fun r w' => r = .returned (.int .i64 (tim e.d)) ∧ Below w.heap.size w w' := by
  have H1 := fun W => time_any e.d W
  have B := Lib.hid (al (Below.refl w.heap.size w) (Obj.cells #[.int .i64 e.a, .int .u32 e.b, .int .i64 e.c, .int .i64 e.d] 138))
  go_enter Tryz.func157, Tryz.ntmps157
  go_wp2_with fail
  refine (H1 _).mono ?_
  rintro r w9 ⟨rfl, hw⟩
  obtain rfl := hw.symm
  go_wp2
  go_ret
  exact ⟨rfl, B.out⟩
theorem box_cell {w : World} {g i : Nat} {xs : Array Value} {t : TypeId} {fr : Nat × Nat} (h : w.heap[g]? = some (.cells xs t fr)) {v : Value} (hv : xs[i]? = some v) : w.cell? ⟨g, i, none⟩ = some v := by
  unfold World.cell?
  simp only [h]
  exact hv
theorem row_lt {w : World} {g : Nat} {o : Obj} (h : w.heap[g]? = some o) : g < w.heap.size := by
  rcases Nat.lt_or_ge g w.heap.size with h4 | h4
  · exact h4
  · rw [Array.getElem?_eq_none h4] at h; cases h
theorem row_below {w w1 : World} (b : Below w.heap.size w w1) {g : Nat} {o : Obj} (h : w.heap[g]? = some o) : w1.heap[g]? = some o := (b.block g (row_lt h)).trans h
/-- Behind w0: a configuration and an entry of the call's own, in its first two blocks. -/
structure BX (w0 : World) (c : Cfg) (D E L : Option Addr) (nd cd ne ce nl cl : Nat) (e : R4) (w : World) : Prop where
  b : Below w0.heap.size w0 w
  x : w.heap[w0.heap.size]? = some (Obj.cells #[.int .i64 c.hosts, .int .i64 c.cycle, .int .i64 c.delay, .int .i64 c.window, .int .i64 c.precision, .slice D nd cd, .slice E ne ce, .slice L nl cl, .int .i64 c.queue] 26)
  y : w.heap[w0.heap.size + 1]? = some (Obj.cells #[.int .i64 e.a, .int .u32 e.b, .int .i64 e.c, .int .i64 e.d] 138)
section
variable {w0 w w1 : World} {c : Cfg} {D E L : Option Addr} {nd cd ne ce nl cl : Nat} {e : R4}
theorem BX.next (h : BX w0 c D E L nd cd ne ce nl cl e w) (b : Below w.heap.size w w1) : BX w0 c D E L nd cd ne ce nl cl e w1 := ⟨h.b.trans (b.mono h.b.size), row_below b h.x, row_below b h.y⟩
theorem BX.start : BX w0 c D E L nd cd ne ce nl cl e ((w0.alloc (Obj.cells #[.int .i64 c.hosts, .int .i64 c.cycle, .int .i64 c.delay, .int .i64 c.window, .int .i64 c.precision, .slice D nd cd, .slice E ne ce, .slice L nl cl, .int .i64 c.queue] 26)).alloc (Obj.cells #[.int .i64 e.a, .int .u32 e.b, .int .i64 e.c, .int .i64 e.d] 138)) :=
  ⟨al (al (Below.refl _ _) _) _, row_below (al (Below.refl _ _) _) (heap_alloc_new w0 _), by
    have h := heap_alloc_new (w0.alloc (Obj.cells #[.int .i64 c.hosts, .int .i64 c.cycle, .int .i64 c.delay, .int .i64 c.window, .int .i64 c.precision, .slice D nd cd, .slice E ne ce, .slice L nl cl, .int .i64 c.queue] 26)) (Obj.cells #[.int .i64 e.a, .int .u32 e.b, .int .i64 e.c, .int .i64 e.d] 138)
    rwa [show (w0.alloc (Obj.cells #[.int .i64 c.hosts, .int .i64 c.cycle, .int .i64 c.delay, .int .i64 c.window, .int .i64 c.precision, .slice D nd cd, .slice E ne ce, .slice L nl cl, .int .i64 c.queue] 26)).heap.size = w0.heap.size + 1 by simp] at h⟩
theorem BX.s (h : BX w0 c D E L nd cd ne ce nl cl e w) : Hid (BX w0 c D E L nd cd ne ce nl cl e w) ∧ w.cell? ⟨w0.heap.size, 0, none⟩ = some (.int .i64 c.hosts) ∧ w.cell? ⟨w0.heap.size, 1, none⟩ = some (.int .i64 c.cycle) ∧ w.cell? ⟨w0.heap.size, 2, none⟩ = some (.int .i64 c.delay) ∧ w.cell? ⟨w0.heap.size, 3, none⟩ = some (.int .i64 c.window) ∧ w.cell? ⟨w0.heap.size, 4, none⟩ = some (.int .i64 c.precision) ∧ w.cell? ⟨w0.heap.size, 5, none⟩ = some (.slice D nd cd) ∧ w.cell? ⟨w0.heap.size, 6, none⟩ = some (.slice E ne ce) ∧ w.cell? ⟨w0.heap.size, 7, none⟩ = some (.slice L nl cl) ∧ w.cell? ⟨w0.heap.size, 8, none⟩ = some (.int .i64 c.queue) ∧ w.cell? ⟨w0.heap.size + 1, 0, none⟩ = some (.int .i64 e.a) ∧ w.cell? ⟨w0.heap.size + 1, 1, none⟩ = some (.int .u32 e.b) ∧ w.cell? ⟨w0.heap.size + 1, 2, none⟩ = some (.int .i64 e.c) ∧ w.cell? ⟨w0.heap.size + 1, 3, none⟩ = some (.int .i64 e.d) :=
  ⟨Lib.hid h, box_cell h.x rfl, box_cell h.x rfl, box_cell h.x rfl, box_cell h.x rfl, box_cell h.x rfl, box_cell h.x rfl, box_cell h.x rfl, box_cell h.x rfl, box_cell h.x rfl, box_cell h.y rfl, box_cell h.y rfl, box_cell h.y rfl, box_cell h.y rfl⟩
end
set_option maxHeartbeats 1000000 in
theorem placed_any (c : Cfg) (D E L : Option Addr) (nd cd ne ce nl cl : Nat) (e : R4) (w : World) (he : e.b < 4294967296) : Calls Tryz.prog 156 #[.agg #[.int .i64 c.hosts, .int .i64 c.cycle, .int .i64 c.delay, .int .i64 c.window, .int .i64 c.precision, .slice D nd cd, .slice E ne ce, .slice L nl cl, .int .i64 c.queue], .agg #[.int .i64 e.a, .int .u32 e.b, .int .i64 e.c, .int .i64 e.d]] w fun r w' => r = .returned (.bool (placed c e)) ∧ Below w.heap.size w w' := by
  have H1 := fun W => timed_any c D E L nd cd ne ce nl cl W
  have H2 := fun W => rightWay_any 6 e.a e.b e.d W (by decide) he
  have H3 := fun W => between_i64 e.c (-1125899906842624) 1125899906842624 W
  unfold placed wayE
  generalize spans c = b1 at *
  generalize way 6 e.a e.b e.d = b2 at *
  generalize btw e.c (-1125899906842624) 1125899906842624 = b3 at *
  go_enter Tryz.func156, Tryz.ntmps156
  go_wp2_with fail
  refine (H1 _).mono ?_
  rintro r w1 ⟨rfl, hb⟩
  obtain ⟨X, a0, a1, a2, a3, a4, a5, a6, a7, a8, d0, d1, d2, d3⟩ := (BX.start.next hb).s
  clear hb
  cases b1
  · go_wp2
    go_ret
    exact ⟨rfl, X.out.b⟩
  · go_wp2_with fail
    refine (H2 _).mono ?_
    rintro r w9 ⟨rfl, hw⟩
    obtain rfl := hw.symm
    cases b2
    · go_wp2
      go_ret
      exact ⟨rfl, X.out.b⟩
    · go_wp2_with fail
      refine (H3 _).mono ?_
      rintro r w9 ⟨rfl, hw⟩
      obtain rfl := hw.symm
      go_wp2
      go_ret
      exact ⟨rfl, X.out.b⟩
end Go.Proofs.YtmagjekmlnpfpaaGreat.ConfW



/- Walks: Quiet, Forward, Early, Late, At. -/
namespace Go.Proofs.YtmagjekmlnpfpaaGreat.ConfW
open Go.RowKit Shell
section
variable {w0 w w1 : World} {c : Cfg} {D E L : Option Addr} {nd cd ne ce nl cl : Nat} {e : R4}
/-- Behind w0: a configuration of the call's own, in its first block. -/
structure CX (w0 : World) (c : Cfg) (D E L : Option Addr) (nd cd ne ce nl cl : Nat) (w : World) : Prop where
  b : Below w0.heap.size w0 w
  x : w.heap[w0.heap.size]? = some (Obj.cells #[.int .i64 c.hosts, .int .i64 c.cycle, .int .i64 c.delay, .int .i64 c.window, .int .i64 c.precision, .slice D nd cd, .slice E ne ce, .slice L nl cl, .int .i64 c.queue] 26)
theorem CX.next (h : CX w0 c D E L nd cd ne ce nl cl w) (b : Below w.heap.size w w1) : CX w0 c D E L nd cd ne ce nl cl w1 := ⟨h.b.trans (b.mono h.b.size), row_below b h.x⟩
theorem CX.start : CX w0 c D E L nd cd ne ce nl cl (w0.alloc (Obj.cells #[.int .i64 c.hosts, .int .i64 c.cycle, .int .i64 c.delay, .int .i64 c.window, .int .i64 c.precision, .slice D nd cd, .slice E ne ce, .slice L nl cl, .int .i64 c.queue] 26)) := ⟨al (Below.refl _ _) _, heap_alloc_new w0 _⟩
theorem CX.s (h : CX w0 c D E L nd cd ne ce nl cl w) : Hid (CX w0 c D E L nd cd ne ce nl cl w) ∧ w.cell? ⟨w0.heap.size, 0, none⟩ = some (.int .i64 c.hosts) ∧ w.cell? ⟨w0.heap.size, 1, none⟩ = some (.int .i64 c.cycle) ∧ w.cell? ⟨w0.heap.size, 2, none⟩ = some (.int .i64 c.delay) ∧ w.cell? ⟨w0.heap.size, 3, none⟩ = some (.int .i64 c.window) ∧ w.cell? ⟨w0.heap.size, 4, none⟩ = some (.int .i64 c.precision) ∧ w.cell? ⟨w0.heap.size, 5, none⟩ = some (.slice D nd cd) ∧ w.cell? ⟨w0.heap.size, 6, none⟩ = some (.slice E ne ce) ∧ w.cell? ⟨w0.heap.size, 7, none⟩ = some (.slice L nl cl) ∧ w.cell? ⟨w0.heap.size, 8, none⟩ = some (.int .i64 c.queue) :=
  ⟨Lib.hid h, box_cell h.x rfl, box_cell h.x rfl, box_cell h.x rfl, box_cell h.x rfl, box_cell h.x rfl, box_cell h.x rfl, box_cell h.x rfl, box_cell h.x rfl, box_cell h.x rfl⟩
theorem BX.drew (h : BX w0 c D E L nd cd ne ce nl cl e w) : BX w0 c D E L nd cd ne ce nl cl e w.drew := h.next (Below.refl _ _).drew
end
theorem i64_id {x : Int} (h1 : -9223372036854775808 ≤ x) (h2 : x ≤ 9223372036854775807) : IntKind.i64.wrap x = x := by rw [IntKind.wrap_i64]; omega
set_option maxHeartbeats 1000000 in
theorem quiet_any (c : Cfg) (D E L : Option Addr) (nd cd ne ce nl cl : Nat) (w : World) : Calls Tryz.prog 122 #[.agg #[.int .i64 c.hosts, .int .i64 c.cycle, .int .i64 c.delay, .int .i64 c.window, .int .i64 c.precision, .slice D nd cd, .slice E ne ce, .slice L nl cl, .int .i64 c.queue]] w fun r w' => r = .returned (.int .i64 (quiet c)) ∧ Below w.heap.size w w' := by
  have H1 := fun W => timed_any c D E L nd cd ne ce nl cl W
  cases hs : spans c
  · have e : quiet c = 0 := by unfold quiet; rw [hs]; rfl
    rw [e]
    rw [hs] at H1
    clear e hs
    go_enter Tryz.func122, Tryz.ntmps122
    go_wp2_with fail
    refine (H1 _).mono ?_
    rintro r w1 ⟨rfl, hb⟩
    obtain ⟨X, -⟩ := (CX.start.next hb).s
    clear hb
    go_wp2
    go_ret
    exact ⟨rfl, X.out.b⟩
  · have e : quiet c = 2 * c.delay + c.window + 4 * c.precision := by unfold quiet; rw [hs]; rfl
    rw [e]
    rw [hs] at H1
    obtain ⟨g1, g2, g3⟩ := spansT_iff.1 (spans_iff.1 hs).2
    have k1 : IntKind.i64.wrap (2 * c.delay) = 2 * c.delay := i64_id (by omega) (by omega)
    have k2 : IntKind.i64.wrap (2 * c.delay + c.window) = 2 * c.delay + c.window := i64_id (by omega) (by omega)
    have k3 : IntKind.i64.wrap (4 * c.precision) = 4 * c.precision := i64_id (by omega) (by omega)
    have k4 : IntKind.i64.wrap (2 * c.delay + c.window + 4 * c.precision) = 2 * c.delay + c.window + 4 * c.precision := i64_id (by omega) (by omega)
    clear e hs g1 g2 g3
    go_enter Tryz.func122, Tryz.ntmps122
    go_wp2_with fail
    refine (H1 _).mono ?_
    rintro r w1 ⟨rfl, hb⟩
    obtain ⟨X, a0, a1, a2, a3, a4, a5, a6, a7, a8⟩ := (CX.start.next hb).s
    clear hb
    go_wp2
    go_ret
    exact ⟨rfl, X.out.b⟩
set_option maxHeartbeats 1000000 in
theorem forward_any (c : Cfg) (D E L : Option Addr) (nd cd ne ce nl cl : Nat) (e : R4) (w : World) (he : e.b < 4294967296) : Calls Tryz.prog 129 #[.agg #[.int .i64 c.hosts, .int .i64 c.cycle, .int .i64 c.delay, .int .i64 c.window, .int .i64 c.precision, .slice D nd cd, .slice E ne ce, .slice L nl cl, .int .i64 c.queue], .agg #[.int .i64 e.a, .int .u32 e.b, .int .i64 e.c, .int .i64 e.d]] w fun r w' => r = .returned (.int .i64 (fwd c e)) ∧ Below w.heap.size w w' := by
  have H1 := fun W => placed_any c D E L nd cd ne ce nl cl e W he
  cases hs : placed c e
  · have q : fwd c e = 0 := by unfold fwd; rw [hs]; rfl
    rw [q]
    rw [hs] at H1
    clear q hs
    go_enter Tryz.func129, Tryz.ntmps129
    go_wp2_with fail
    refine (H1 _).mono ?_
    rintro r w1 ⟨rfl, hb⟩
    obtain ⟨X, -⟩ := (BX.start.next hb).s
    clear hb
    go_wp2
    go_ret
    exact ⟨rfl, X.out.b⟩
  · have q : fwd c e = e.c + tim e.d + c.delay + 2 * c.precision := by unfold fwd; rw [hs]; rfl
    rw [q]
    rw [hs] at H1
    obtain ⟨hs1, -, hp1, hp2⟩ := placed_iff.1 hs
    obtain ⟨g1, g2, g3⟩ := spansT_iff.1 (spans_iff.1 hs1).2
    have ht := tim_pos e.d
    have H2 := Lib.hid (show ∀ W, (Hid (BX w c D E L nd cd ne ce nl cl e W) ∧ W.cell? ⟨w.heap.size, 0, none⟩ = some (.int .i64 c.hosts) ∧ W.cell? ⟨w.heap.size, 1, none⟩ = some (.int .i64 c.cycle) ∧ W.cell? ⟨w.heap.size, 2, none⟩ = some (.int .i64 c.delay) ∧ W.cell? ⟨w.heap.size, 3, none⟩ = some (.int .i64 c.window) ∧ W.cell? ⟨w.heap.size, 4, none⟩ = some (.int .i64 c.precision) ∧ W.cell? ⟨w.heap.size, 5, none⟩ = some (.slice D nd cd) ∧ W.cell? ⟨w.heap.size, 6, none⟩ = some (.slice E ne ce) ∧ W.cell? ⟨w.heap.size, 7, none⟩ = some (.slice L nl cl) ∧ W.cell? ⟨w.heap.size, 8, none⟩ = some (.int .i64 c.queue) ∧ W.cell? ⟨w.heap.size + 1, 0, none⟩ = some (.int .i64 e.a) ∧ W.cell? ⟨w.heap.size + 1, 1, none⟩ = some (.int .u32 e.b) ∧ W.cell? ⟨w.heap.size + 1, 2, none⟩ = some (.int .i64 e.c) ∧ W.cell? ⟨w.heap.size + 1, 3, none⟩ = some (.int .i64 e.d)) → Calls Tryz.prog 157 #[.agg #[.int .i64 e.a, .int .u32 e.b, .int .i64 e.c, .int .i64 e.d]] W fun r W' => r = .returned (.int .i64 (tim e.d)) ∧ (Hid (BX w c D E L nd cd ne ce nl cl e W') ∧ W'.cell? ⟨w.heap.size, 0, none⟩ = some (.int .i64 c.hosts) ∧ W'.cell? ⟨w.heap.size, 1, none⟩ = some (.int .i64 c.cycle) ∧ W'.cell? ⟨w.heap.size, 2, none⟩ = some (.int .i64 c.delay) ∧ W'.cell? ⟨w.heap.size, 3, none⟩ = some (.int .i64 c.window) ∧ W'.cell? ⟨w.heap.size, 4, none⟩ = some (.int .i64 c.precision) ∧ W'.cell? ⟨w.heap.size, 5, none⟩ = some (.slice D nd cd) ∧ W'.cell? ⟨w.heap.size, 6, none⟩ = some (.slice E ne ce) ∧ W'.cell? ⟨w.heap.size, 7, none⟩ = some (.slice L nl cl) ∧ W'.cell? ⟨w.heap.size, 8, none⟩ = some (.int .i64 c.queue) ∧ W'.cell? ⟨w.heap.size + 1, 0, none⟩ = some (.int .i64 e.a) ∧ W'.cell? ⟨w.heap.size + 1, 1, none⟩ = some (.int .u32 e.b) ∧ W'.cell? ⟨w.heap.size + 1, 2, none⟩ = some (.int .i64 e.c) ∧ W'.cell? ⟨w.heap.size + 1, 3, none⟩ = some (.int .i64 e.d)) from fun W hS => (wireTime_any e W).mono fun r W' ⟨hr, hb⟩ => ⟨hr, (hS.1.out.next hb).s⟩)
    generalize tim e.d = t at *
    have k1 : IntKind.i64.wrap (e.c + t) = e.c + t := i64_id (by omega) (by omega)
    have k2 : IntKind.i64.wrap (e.c + t + c.delay) = e.c + t + c.delay := i64_id (by omega) (by omega)
    have k3 : IntKind.i64.wrap (2 * c.precision) = 2 * c.precision := i64_id (by omega) (by omega)
    have k4 : IntKind.i64.wrap (e.c + t + c.delay + 2 * c.precision) = e.c + t + c.delay + 2 * c.precision := i64_id (by omega) (by omega)
    clear q hs g1 g2 g3 hs1 hp1 hp2 ht
    go_enter Tryz.func129, Tryz.ntmps129
    go_wp2_with fail
    refine (H1 _).mono ?_
    rintro r w1 ⟨rfl, hb⟩
    have X := Lib.hid (BX.start.next hb)
    obtain ⟨-, a0, a1, a2, a3, a4, a5, a6, a7, a8, d0, d1, d2, d3⟩ := X.out.s
    clear hb
    go_wp2_with fail
    go_region_held3 (fun W : World => Hid (BX w c D E L nd cd ne ce nl cl e W) ∧ W.cell? ⟨w.heap.size, 0, none⟩ = some (.int .i64 c.hosts) ∧ W.cell? ⟨w.heap.size, 1, none⟩ = some (.int .i64 c.cycle) ∧ W.cell? ⟨w.heap.size, 2, none⟩ = some (.int .i64 c.delay) ∧ W.cell? ⟨w.heap.size, 3, none⟩ = some (.int .i64 c.window) ∧ W.cell? ⟨w.heap.size, 4, none⟩ = some (.int .i64 c.precision) ∧ W.cell? ⟨w.heap.size, 5, none⟩ = some (.slice D nd cd) ∧ W.cell? ⟨w.heap.size, 6, none⟩ = some (.slice E ne ce) ∧ W.cell? ⟨w.heap.size, 7, none⟩ = some (.slice L nl cl) ∧ W.cell? ⟨w.heap.size, 8, none⟩ = some (.int .i64 c.queue) ∧ W.cell? ⟨w.heap.size + 1, 0, none⟩ = some (.int .i64 e.a) ∧ W.cell? ⟨w.heap.size + 1, 1, none⟩ = some (.int .u32 e.b) ∧ W.cell? ⟨w.heap.size + 1, 2, none⟩ = some (.int .i64 e.c) ∧ W.cell? ⟨w.heap.size + 1, 3, none⟩ = some (.int .i64 e.d)) (first | exact X.out.drew.s | assumption) (first
      | (go_at_call 157; (with_reducible refine (H2.out _ (by assumption)).mono ?_); rintro r w9 ⟨rfl, hs9⟩))
    rename_i hS
    have Y := hS.1
    clear hS
    go_wp2
    go_ret
    exact ⟨rfl, Y.out.b⟩
set_option maxHeartbeats 1000000 in
theorem late_any (c : Cfg) (D E L : Option Addr) (nd cd ne ce nl cl : Nat) (e : R4) (w : World) (he : e.b < 4294967296) : Calls Tryz.prog 123 #[.agg #[.int .i64 c.hosts, .int .i64 c.cycle, .int .i64 c.delay, .int .i64 c.window, .int .i64 c.precision, .slice D nd cd, .slice E ne ce, .slice L nl cl, .int .i64 c.queue], .agg #[.int .i64 e.a, .int .u32 e.b, .int .i64 e.c, .int .i64 e.d]] w fun r w' => r = .returned (.int .i64 (lat c e)) ∧ Below w.heap.size w w' := by
  have H1 := fun W => placed_any c D E L nd cd ne ce nl cl e W he
  cases hs : placed c e
  · have q : lat c e = 0 := by unfold lat; rw [hs]; rfl
    rw [q]
    rw [hs] at H1
    clear q hs
    go_enter Tryz.func123, Tryz.ntmps123
    go_wp2_with fail
    refine (H1 _).mono ?_
    rintro r w1 ⟨rfl, hb⟩
    obtain ⟨X, -⟩ := (BX.start.next hb).s
    clear hb
    go_wp2
    go_ret
    exact ⟨rfl, X.out.b⟩
  · have q : lat c e = fwd c e + tim e.d + c.delay + c.precision := by unfold lat fwd; rw [hs]; rfl
    rw [q]
    rw [hs] at H1
    obtain ⟨hs1, -, hp1, hp2⟩ := placed_iff.1 hs
    obtain ⟨g1, g2, g3⟩ := spansT_iff.1 (spans_iff.1 hs1).2
    have ht := tim_pos e.d
    have hf : fwd c e = e.c + tim e.d + c.delay + 2 * c.precision := by unfold fwd; rw [hs]; rfl
    have H2 := Lib.hid (show ∀ W, (Hid (BX w c D E L nd cd ne ce nl cl e W) ∧ W.cell? ⟨w.heap.size, 0, none⟩ = some (.int .i64 c.hosts) ∧ W.cell? ⟨w.heap.size, 1, none⟩ = some (.int .i64 c.cycle) ∧ W.cell? ⟨w.heap.size, 2, none⟩ = some (.int .i64 c.delay) ∧ W.cell? ⟨w.heap.size, 3, none⟩ = some (.int .i64 c.window) ∧ W.cell? ⟨w.heap.size, 4, none⟩ = some (.int .i64 c.precision) ∧ W.cell? ⟨w.heap.size, 5, none⟩ = some (.slice D nd cd) ∧ W.cell? ⟨w.heap.size, 6, none⟩ = some (.slice E ne ce) ∧ W.cell? ⟨w.heap.size, 7, none⟩ = some (.slice L nl cl) ∧ W.cell? ⟨w.heap.size, 8, none⟩ = some (.int .i64 c.queue) ∧ W.cell? ⟨w.heap.size + 1, 0, none⟩ = some (.int .i64 e.a) ∧ W.cell? ⟨w.heap.size + 1, 1, none⟩ = some (.int .u32 e.b) ∧ W.cell? ⟨w.heap.size + 1, 2, none⟩ = some (.int .i64 e.c) ∧ W.cell? ⟨w.heap.size + 1, 3, none⟩ = some (.int .i64 e.d)) → Calls Tryz.prog 157 #[.agg #[.int .i64 e.a, .int .u32 e.b, .int .i64 e.c, .int .i64 e.d]] W fun r W' => r = .returned (.int .i64 (tim e.d)) ∧ (Hid (BX w c D E L nd cd ne ce nl cl e W') ∧ W'.cell? ⟨w.heap.size, 0, none⟩ = some (.int .i64 c.hosts) ∧ W'.cell? ⟨w.heap.size, 1, none⟩ = some (.int .i64 c.cycle) ∧ W'.cell? ⟨w.heap.size, 2, none⟩ = some (.int .i64 c.delay) ∧ W'.cell? ⟨w.heap.size, 3, none⟩ = some (.int .i64 c.window) ∧ W'.cell? ⟨w.heap.size, 4, none⟩ = some (.int .i64 c.precision) ∧ W'.cell? ⟨w.heap.size, 5, none⟩ = some (.slice D nd cd) ∧ W'.cell? ⟨w.heap.size, 6, none⟩ = some (.slice E ne ce) ∧ W'.cell? ⟨w.heap.size, 7, none⟩ = some (.slice L nl cl) ∧ W'.cell? ⟨w.heap.size, 8, none⟩ = some (.int .i64 c.queue) ∧ W'.cell? ⟨w.heap.size + 1, 0, none⟩ = some (.int .i64 e.a) ∧ W'.cell? ⟨w.heap.size + 1, 1, none⟩ = some (.int .u32 e.b) ∧ W'.cell? ⟨w.heap.size + 1, 2, none⟩ = some (.int .i64 e.c) ∧ W'.cell? ⟨w.heap.size + 1, 3, none⟩ = some (.int .i64 e.d)) from fun W hS => (wireTime_any e W).mono fun r W' ⟨hr, hb⟩ => ⟨hr, (hS.1.out.next hb).s⟩)
    have H3 := Lib.hid (show ∀ W, (Hid (BX w c D E L nd cd ne ce nl cl e W) ∧ W.cell? ⟨w.heap.size, 0, none⟩ = some (.int .i64 c.hosts) ∧ W.cell? ⟨w.heap.size, 1, none⟩ = some (.int .i64 c.cycle) ∧ W.cell? ⟨w.heap.size, 2, none⟩ = some (.int .i64 c.delay) ∧ W.cell? ⟨w.heap.size, 3, none⟩ = some (.int .i64 c.window) ∧ W.cell? ⟨w.heap.size, 4, none⟩ = some (.int .i64 c.precision) ∧ W.cell? ⟨w.heap.size, 5, none⟩ = some (.slice D nd cd) ∧ W.cell? ⟨w.heap.size, 6, none⟩ = some (.slice E ne ce) ∧ W.cell? ⟨w.heap.size, 7, none⟩ = some (.slice L nl cl) ∧ W.cell? ⟨w.heap.size, 8, none⟩ = some (.int .i64 c.queue) ∧ W.cell? ⟨w.heap.size + 1, 0, none⟩ = some (.int .i64 e.a) ∧ W.cell? ⟨w.heap.size + 1, 1, none⟩ = some (.int .u32 e.b) ∧ W.cell? ⟨w.heap.size + 1, 2, none⟩ = some (.int .i64 e.c) ∧ W.cell? ⟨w.heap.size + 1, 3, none⟩ = some (.int .i64 e.d)) → Calls Tryz.prog 129 #[.agg #[.int .i64 c.hosts, .int .i64 c.cycle, .int .i64 c.delay, .int .i64 c.window, .int .i64 c.precision, .slice D nd cd, .slice E ne ce, .slice L nl cl, .int .i64 c.queue], .agg #[.int .i64 e.a, .int .u32 e.b, .int .i64 e.c, .int .i64 e.d]] W fun r W' => r = .returned (.int .i64 (fwd c e)) ∧ (Hid (BX w c D E L nd cd ne ce nl cl e W') ∧ W'.cell? ⟨w.heap.size, 0, none⟩ = some (.int .i64 c.hosts) ∧ W'.cell? ⟨w.heap.size, 1, none⟩ = some (.int .i64 c.cycle) ∧ W'.cell? ⟨w.heap.size, 2, none⟩ = some (.int .i64 c.delay) ∧ W'.cell? ⟨w.heap.size, 3, none⟩ = some (.int .i64 c.window) ∧ W'.cell? ⟨w.heap.size, 4, none⟩ = some (.int .i64 c.precision) ∧ W'.cell? ⟨w.heap.size, 5, none⟩ = some (.slice D nd cd) ∧ W'.cell? ⟨w.heap.size, 6, none⟩ = some (.slice E ne ce) ∧ W'.cell? ⟨w.heap.size, 7, none⟩ = some (.slice L nl cl) ∧ W'.cell? ⟨w.heap.size, 8, none⟩ = some (.int .i64 c.queue) ∧ W'.cell? ⟨w.heap.size + 1, 0, none⟩ = some (.int .i64 e.a) ∧ W'.cell? ⟨w.heap.size + 1, 1, none⟩ = some (.int .u32 e.b) ∧ W'.cell? ⟨w.heap.size + 1, 2, none⟩ = some (.int .i64 e.c) ∧ W'.cell? ⟨w.heap.size + 1, 3, none⟩ = some (.int .i64 e.d)) from fun W hS => (forward_any c D E L nd cd ne ce nl cl e W he).mono fun r W' ⟨hr, hb⟩ => ⟨hr, (hS.1.out.next hb).s⟩)
    generalize tim e.d = t at *
    generalize fwd c e = f at *
    have k0 : IntKind.i64.wrap (f + t) = f + t := i64_id (by omega) (by omega)
    have k1 : IntKind.i64.wrap (f + t + c.delay) = f + t + c.delay := i64_id (by omega) (by omega)
    have k2 : IntKind.i64.wrap (f + t + c.delay + c.precision) = f + t + c.delay + c.precision := i64_id (by omega) (by omega)
    clear q hs g1 g2 g3 hs1 hp1 hp2 ht hf
    go_enter Tryz.func123, Tryz.ntmps123
    go_wp2_with fail
    refine (H1 _).mono ?_
    rintro r w1 ⟨rfl, hb⟩
    have X := Lib.hid (BX.start.next hb)
    obtain ⟨-, a0, a1, a2, a3, a4, a5, a6, a7, a8, d0, d1, d2, d3⟩ := X.out.s
    clear hb
    go_wp2_with fail
    go_region_held3 (fun W : World => Hid (BX w c D E L nd cd ne ce nl cl e W) ∧ W.cell? ⟨w.heap.size, 0, none⟩ = some (.int .i64 c.hosts) ∧ W.cell? ⟨w.heap.size, 1, none⟩ = some (.int .i64 c.cycle) ∧ W.cell? ⟨w.heap.size, 2, none⟩ = some (.int .i64 c.delay) ∧ W.cell? ⟨w.heap.size, 3, none⟩ = some (.int .i64 c.window) ∧ W.cell? ⟨w.heap.size, 4, none⟩ = some (.int .i64 c.precision) ∧ W.cell? ⟨w.heap.size, 5, none⟩ = some (.slice D nd cd) ∧ W.cell? ⟨w.heap.size, 6, none⟩ = some (.slice E ne ce) ∧ W.cell? ⟨w.heap.size, 7, none⟩ = some (.slice L nl cl) ∧ W.cell? ⟨w.heap.size, 8, none⟩ = some (.int .i64 c.queue) ∧ W.cell? ⟨w.heap.size + 1, 0, none⟩ = some (.int .i64 e.a) ∧ W.cell? ⟨w.heap.size + 1, 1, none⟩ = some (.int .u32 e.b) ∧ W.cell? ⟨w.heap.size + 1, 2, none⟩ = some (.int .i64 e.c) ∧ W.cell? ⟨w.heap.size + 1, 3, none⟩ = some (.int .i64 e.d)) (first | exact X.out.drew.s | assumption) (first
      | (go_at_call 157; (with_reducible refine (H2.out _ (by assumption)).mono ?_); rintro r w9 ⟨rfl, hs9⟩)
      | (go_at_call 129; (with_reducible refine (H3.out _ (by assumption)).mono ?_); rintro r w9 ⟨rfl, hs9⟩))
    rename_i hS
    have Y := hS.1
    clear hS
    go_wp2
    go_ret
    exact ⟨rfl, Y.out.b⟩
end Go.Proofs.YtmagjekmlnpfpaaGreat.ConfW



/- Walks of the document's own: short, Spans, Route, Quiet, Times, Plain, meet. -/
namespace Go.Proofs.YtmagjekmlnpfpaaGreat.ConfW
open Go.RowKit Shell
theorem short_any (n : Int) (w : World) : Calls Tryz.prog 102 #[.int .i64 n] w fun r w' => r = .returned (.bool (btw n 0 1048576)) ∧ w' = w := by
  by_cases h1 : 0 ≤ n
  · by_cases h2 : n ≤ 1048576
    · have e : btw n 0 1048576 = true := btw_iff.2 ⟨h1, h2⟩
      rw [e]
      clear e
      go_enter Tryz.func102, Tryz.ntmps102
      go_wp2
      go_ret
      exact ⟨rfl, rfl⟩
    · have e : btw n 0 1048576 = false := by rw [← Bool.not_eq_true, btw_iff]; omega
      rw [e]
      clear e
      go_enter Tryz.func102, Tryz.ntmps102
      go_wp2
      go_ret
      exact ⟨rfl, rfl⟩
  · have e : btw n 0 1048576 = false := by rw [← Bool.not_eq_true, btw_iff]; omega
    rw [e]
    clear e
    go_enter Tryz.func102, Tryz.ntmps102
    go_wp2
    go_ret
    exact ⟨rfl, rfl⟩
set_option maxHeartbeats 1000000 in
theorem refSpans_any (c : Cfg) (D E L : Option Addr) (nd cd ne ce nl cl : Nat) (w : World) : Calls Tryz.prog 50 #[.agg #[.int .i64 c.hosts, .int .i64 c.cycle, .int .i64 c.delay, .int .i64 c.window, .int .i64 c.precision, .slice D nd cd, .slice E ne ce, .slice L nl cl, .int .i64 c.queue]] w fun r w' => r = .returned (.bool (spans c)) ∧ Below w.heap.size w w' := by
  have H1 := fun W => short_any c.delay W
  have H2 := fun W => short_any c.window W
  have H3 := fun W => short_any c.precision W
  have B := Lib.hid (al (Below.refl w.heap.size w) (Obj.cells #[.int .i64 c.hosts, .int .i64 c.cycle, .int .i64 c.delay, .int .i64 c.window, .int .i64 c.precision, .slice D nd cd, .slice E ne ce, .slice L nl cl, .int .i64 c.queue] 26))
  by_cases k1 : 1 ≤ c.cycle
  · by_cases k2 : c.cycle ≤ 1073741824
    · have e : spans c = spansT c := by unfold spans; rw [btw_iff.2 ⟨k1, k2⟩]; rfl
      rw [e]
      clear e
      unfold spansT
      generalize btw c.delay 0 1048576 = b1 at *
      generalize btw c.window 0 1048576 = b2 at *
      generalize btw c.precision 0 1048576 = b3 at *
      go_enter Tryz.func50, Tryz.ntmps50
      go_wp2_with fail
      refine (H1 _).mono ?_
      rintro e w9 ⟨rfl, hw⟩
      obtain rfl := hw.symm
      cases b1
      · go_wp2
        go_ret
        exact ⟨rfl, B.out⟩
      · go_wp2_with fail
        refine (H2 _).mono ?_
        rintro e w9 ⟨rfl, hw⟩
        obtain rfl := hw.symm
        cases b2
        · go_wp2
          go_ret
          exact ⟨rfl, B.out⟩
        · go_wp2_with fail
          refine (H3 _).mono ?_
          rintro e w9 ⟨rfl, hw⟩
          obtain rfl := hw.symm
          go_wp2
          go_ret
          exact ⟨rfl, B.out⟩
    · have e : spans c = false := by rw [← Bool.not_eq_true, spans_iff]; omega
      rw [e]
      clear e
      go_enter Tryz.func50, Tryz.ntmps50
      go_wp2
      go_ret
      exact ⟨rfl, B.out⟩
  · have e : spans c = false := by rw [← Bool.not_eq_true, spans_iff]; omega
    rw [e]
    clear e
    go_enter Tryz.func50, Tryz.ntmps50
    go_wp2
    go_ret
    exact ⟨rfl, B.out⟩
theorem two_le {k : Nat} (h : k ≤ 6) : 2 ^ k ≤ 64 := Nat.le_trans (Nat.pow_le_pow_right (by decide) h) (by decide)
set_option maxHeartbeats 2000000 in
theorem route_any (h f : Int) (t : Nat) (s : Int) (w : World) (hh : 1 ≤ h ∧ h ≤ 6) (ht : t < 4294967296) :
    Calls Tryz.prog 53 #[.int .i64 h, .int .i64 f, .int .u32 (t : Int), .int .i64 s] w fun r w' => r = .returned (.bool (way h f t s)) ∧ w' = w := by
  obtain ⟨n, rfl⟩ := Int.eq_ofNat_of_zero_le (show 0 ≤ h by omega)
  have HK := Lib.hid hh
  have H3 := fun W => CrewW.refHas_any t f W ht
  by_cases c1 : f < 0
  · have e : way n f t s = false := by rw [← Bool.not_eq_true, way_iff]; omega
    rw [e]
    clear e hh
    go_enter Tryz.func53, Tryz.ntmps53
    go_wp2
    go_ret
    exact ⟨rfl, rfl⟩
  · by_cases c2 : (n : Int) ≤ f
    · have e : way n f t s = false := by rw [← Bool.not_eq_true, way_iff]; omega
      rw [e]
      clear e hh
      go_enter Tryz.func53, Tryz.ntmps53
      go_wp2
      go_ret
      exact ⟨rfl, rfl⟩
    · by_cases c3 : t = 0
      · have e : way n f t s = false := by rw [← Bool.not_eq_true, way_iff]; omega
        rw [e]
        clear e hh
        subst c3
        go_enter Tryz.func53, Tryz.ntmps53
        go_wp2
        go_ret
        exact ⟨rfl, rfl⟩
      · have e3 : ((t : Int) == 0) = false := by rw [beq_eq_false_iff_ne]; omega
        by_cases c4 : s < 64
        · have e : way n f t s = false := by rw [← Bool.not_eq_true, way_iff]; omega
          rw [e]
          clear e hh
          go_enter Tryz.func53, Tryz.ntmps53
          go_wp2
          go_ret
          exact ⟨rfl, rfl⟩
        · by_cases c5 : 1518 < s
          · have e : way n f t s = false := by rw [← Bool.not_eq_true, way_iff]; omega
            rw [e]
            clear e hh
            go_enter Tryz.func53, Tryz.ntmps53
            go_wp2
            go_ret
            exact ⟨rfl, rfl⟩
          · have e : way n f t s = (decide (t < 2 ^ n) && !CrewW.has t f) := by
              unfold way
              rw [btw_iff.2 ⟨by omega, by omega⟩, btw_iff.2 ⟨by omega, by omega⟩, Int.toNat_natCast]
              simp [c3]
            rw [e]
            clear e hh
            generalize CrewW.has t f = b at *
            generalize hq : (decide (t < 2 ^ n) && !b) = q
            have HQ := Lib.hid hq
            clear hq
            have HW := Lib.hid (show ∀ k, k < n → (2 : Nat) ^ (k + 1) = 2 ^ k * 2 ∧ 2 ^ k ≤ 64 from fun k hk => ⟨Nat.pow_succ 2 k, two_le (by have := HK.out; omega)⟩)
            go_enter Tryz.func53, Tryz.ntmps53
            go_wp2
            go_loopw [9, 10] (fun bv iv wr => ∃ (k : Nat), k ≤ n ∧ iv = .int .i64 k ∧ bv = .int .u32 ((2 ^ k : Nat) : Int) ∧ wr = w) (fun _ iv _ => n - (intOf iv).toNat)
            case atStart => exact ⟨0, Nat.zero_le _, rfl, rfl, rfl⟩
            case round =>
              obtain ⟨k, hk, rfl, rfl, rfl⟩ := hrel
              have hk6 := HK.out.2
              by_cases hlt : (k : Int) < (n : Int)
              · have HP := Lib.hid (HW.out k (by omega))
                generalize hz : (2 : Nat) ^ k = z at *
                have hz64 := HP.out.2
                go_wp2
                go_roundw
                case rel => exact ⟨k + 1, by omega, by go_num, by rw [HP.out.1]; go_num, trivial⟩
                case measure => simp [intOf]; omega
              · obtain rfl : k = n := by omega
                generalize hz : (2 : Nat) ^ k = z at *
                by_cases hl : (t : Int) < (z : Int)
                · have e5 : decide (t < z) = true := by rw [decide_eq_true_eq]; omega
                  have HQ2 := Lib.hid (show q = !b by rw [← HQ.out, e5]; rfl)
                  go_wp2_with fail
                  refine (H3 _).mono ?_
                  rintro r w9 ⟨rfl, hw⟩
                  obtain rfl := hw.symm
                  go_wp2
                  go_ret
                  exact ⟨by rw [HQ2.out]; rfl, rfl⟩
                · have e5 : decide (t < z) = false := by rw [decide_eq_false_iff_not]; omega
                  have HQ2 := Lib.hid (show q = false by rw [← HQ.out, e5]; rfl)
                  go_wp2
                  go_ret
                  exact ⟨by rw [HQ2.out]; rfl, rfl⟩
theorem meet_any (a x b y : Int) (w : World) (h1 : IntKind.i64.wrap (a + x) = a + x) (h2 : IntKind.i64.wrap (b + y) = b + y) :
    Calls Tryz.prog 106 #[.int .i64 a, .int .i64 x, .int .i64 b, .int .i64 y] w fun r w' => r = .returned (.bool (decide (b < a + x) && decide (a < b + y))) ∧ w' = w := by
  by_cases k1 : b < a + x
  · by_cases k2 : a < b + y
    · have e : (decide (b < a + x) && decide (a < b + y)) = true := by simp [k1, k2]
      rw [e]
      clear e
      have n1 : ¬ a + x ≤ b := by omega
      have n2 : ¬ b + y ≤ a := by omega
      go_enter Tryz.func106, Tryz.ntmps106
      go_wp2
      go_ret
      exact ⟨rfl, rfl⟩
    · have e : (decide (b < a + x) && decide (a < b + y)) = false := by simp [k1, k2]
      rw [e]
      clear e
      have n1 : ¬ a + x ≤ b := by omega
      have n2 : b + y ≤ a := by omega
      go_enter Tryz.func106, Tryz.ntmps106
      go_wp2
      go_ret
      exact ⟨rfl, rfl⟩
  · have e : (decide (b < a + x) && decide (a < b + y)) = false := by simp [k1]
    rw [e]
    clear e
    have n1 : a + x ≤ b := by omega
    go_enter Tryz.func106, Tryz.ntmps106
    go_wp2
    go_ret
    exact ⟨rfl, rfl⟩
set_option maxHeartbeats 1000000 in
theorem refQuiet_any (c : Cfg) (D E L : Option Addr) (nd cd ne ce nl cl : Nat) (w : World) : Calls Tryz.prog 103 #[.agg #[.int .i64 c.hosts, .int .i64 c.cycle, .int .i64 c.delay, .int .i64 c.window, .int .i64 c.precision, .slice D nd cd, .slice E ne ce, .slice L nl cl, .int .i64 c.queue]] w fun r w' => r = .returned (.int .i64 (quiet c)) ∧ Below w.heap.size w w' := by
  have H1 := fun W => refSpans_any c D E L nd cd ne ce nl cl W
  cases hs : spans c
  · have e : quiet c = 0 := by unfold quiet; rw [hs]; rfl
    rw [e]
    rw [hs] at H1
    clear e hs
    go_enter Tryz.func103, Tryz.ntmps103
    go_wp2_with fail
    refine (H1 _).mono ?_
    rintro r w1 ⟨rfl, hb⟩
    obtain ⟨X, -⟩ := (CX.start.next hb).s
    clear hb
    go_wp2
    go_ret
    exact ⟨rfl, X.out.b⟩
  · have e : quiet c = c.delay + c.delay + c.window + 4 * c.precision := by unfold quiet; rw [hs]; simp only [if_true]; omega
    rw [e]
    rw [hs] at H1
    obtain ⟨g1, g2, g3⟩ := spansT_iff.1 (spans_iff.1 hs).2
    have k1 : IntKind.i64.wrap (c.delay + c.delay) = c.delay + c.delay := i64_id (by omega) (by omega)
    have k2 : IntKind.i64.wrap (c.delay + c.delay + c.window) = c.delay + c.delay + c.window := i64_id (by omega) (by omega)
    have k3 : IntKind.i64.wrap (4 * c.precision) = 4 * c.precision := i64_id (by omega) (by omega)
    have k4 : IntKind.i64.wrap (c.delay + c.delay + c.window + 4 * c.precision) = c.delay + c.delay + c.window + 4 * c.precision := i64_id (by omega) (by omega)
    clear e hs g1 g2 g3
    go_enter Tryz.func103, Tryz.ntmps103
    go_wp2_with fail
    refine (H1 _).mono ?_
    rintro r w1 ⟨rfl, hb⟩
    obtain ⟨X, a0, a1, a2, a3, a4, a5, a6, a7, a8⟩ := (CX.start.next hb).s
    clear hb
    go_wp2
    go_ret
    exact ⟨rfl, X.out.b⟩
theorem third_new (w : World) (o1 o2 o3 : Obj) : (((w.alloc o1).alloc o2).alloc o3).heap[w.heap.size + 1 + 1]? = some o3 := by
  have h := heap_alloc_new ((w.alloc o1).alloc o2) o3
  rwa [show ((w.alloc o1).alloc o2).heap.size = w.heap.size + 1 + 1 by simp] at h
theorem results_five {fn : Func} {p : Tmp} (h : fn.results = #[.cell p 178]) (tmps : Array Value) (w : World) (g : Nat) (t : TypeId) (x1 x2 x3 x4 x5 : Value) (fr : Nat × Nat)
    (hp : tmps.getD p undef = .pointer (some ⟨g, 0, none⟩)) (hg : w.heap[g]? = some (.cells #[x1, x2, x3, x4, x5] t fr)) :
    (results fn tmps).run Tryz.prog w = .ok (.agg #[x1, x2, x3, x4, x5]) w := by
  have hp' : tmps[p]?.getD undef = .pointer (some ⟨g, 0, none⟩) := by simpa using hp
  simp [results, h, hp', asAddr, run_loadVar_row w g t 178 #[x1, x2, x3, x4, x5] fr _ hg Tryz.underlying178 rfl (by kernel_rfl)]
theorem ret_five {fn : Func} {R : Ending → World → Prop} {p : Tmp} (h : fn.results = #[.cell p 178]) {tmps : Array Value} {w : World} {g : Nat} {x1 x2 x3 x4 x5 : Value} {t : TypeId} {fr : Nat × Nat}
    (hp : tmps.getD p undef = .pointer (some ⟨g, 0, none⟩)) (hg : w.heap[g]? = some (.cells #[x1, x2, x3, x4, x5] t fr)) (hR : R (.returned (.agg #[x1, x2, x3, x4, x5])) w) :
    bodyPost Tryz.prog fn R .ret { tmps := tmps, defers := [] } w :=
  bodyPost_ret (results_five h tmps w g t x1 x2 x3 x4 x5 fr hp hg) rfl hR
/-- An entry's five times. -/
def tms (c : Cfg) (e : R4) : Value := .agg #[.int .i64 (e.c + tim e.d - c.precision), .int .i64 (e.c + tim e.d + c.delay + c.precision), .int .i64 (e.c + tim e.d + c.delay + c.precision + c.precision),
  .int .i64 (e.c + tim e.d + c.delay + c.precision + c.precision + tim e.d - c.precision), .int .i64 (e.c + tim e.d + c.delay + c.precision + c.precision + tim e.d + c.delay + c.precision)]
set_option maxHeartbeats 1000000 in
theorem times_any (c : Cfg) (D E L : Option Addr) (nd cd ne ce nl cl : Nat) (e : R4) (w : World) (hs : spans c = true) (hp : -1125899906842624 ≤ e.c ∧ e.c ≤ 1125899906842624) :
    Calls Tryz.prog 104 #[.agg #[.int .i64 c.hosts, .int .i64 c.cycle, .int .i64 c.delay, .int .i64 c.window, .int .i64 c.precision, .slice D nd cd, .slice E ne ce, .slice L nl cl, .int .i64 c.queue], .agg #[.int .i64 e.a, .int .u32 e.b, .int .i64 e.c, .int .i64 e.d]] w fun r w' => r = .returned (tms c e) ∧ Below w.heap.size w w' := by
  have H1 := fun W => refTime_any e.d W
  have ht := tim_pos e.d
  obtain ⟨g1, g2, g3⟩ := spansT_iff.1 (spans_iff.1 hs).2
  unfold tms
  generalize tim e.d = t at *
  have k1 : IntKind.i64.wrap (e.c + t) = e.c + t := i64_id (by omega) (by omega)
  have k2 : IntKind.i64.wrap (e.c + t + c.delay) = e.c + t + c.delay := i64_id (by omega) (by omega)
  have k3 : IntKind.i64.wrap (e.c + t + c.delay + c.precision) = e.c + t + c.delay + c.precision := i64_id (by omega) (by omega)
  have k4 : IntKind.i64.wrap (e.c + t + c.delay + c.precision + c.precision) = e.c + t + c.delay + c.precision + c.precision := i64_id (by omega) (by omega)
  have k5 : IntKind.i64.wrap (e.c + t - c.precision) = e.c + t - c.precision := i64_id (by omega) (by omega)
  have k6 : IntKind.i64.wrap (e.c + t + c.delay + c.precision + c.precision + t) = e.c + t + c.delay + c.precision + c.precision + t := i64_id (by omega) (by omega)
  have k7 : IntKind.i64.wrap (e.c + t + c.delay + c.precision + c.precision + t - c.precision) = e.c + t + c.delay + c.precision + c.precision + t - c.precision := i64_id (by omega) (by omega)
  have k8 : IntKind.i64.wrap (e.c + t + c.delay + c.precision + c.precision + t + c.delay) = e.c + t + c.delay + c.precision + c.precision + t + c.delay := i64_id (by omega) (by omega)
  have k9 : IntKind.i64.wrap (e.c + t + c.delay + c.precision + c.precision + t + c.delay + c.precision) = e.c + t + c.delay + c.precision + c.precision + t + c.delay + c.precision := i64_id (by omega) (by omega)
  clear hs hp ht g1 g2 g3
  go_enter Tryz.func104, Tryz.ntmps104
  go_wp2_with fail
  refine (H1 _).mono ?_
  rintro r w9 ⟨rfl, hw⟩
  obtain rfl := hw.symm
  go_wp2
  refine ret_five rfl rfl (third_new _ _ _ _) ⟨rfl, ?_⟩
  exact al (al (al (Below.refl _ _) _) _) _
end Go.Proofs.YtmagjekmlnpfpaaGreat.ConfW



/- A configuration in memory; walks: rightDelays, rightEntries, rightLinks, rightPhases. -/
namespace Go.Proofs.YtmagjekmlnpfpaaGreat.ConfW
open Go.RowKit Shell
/-- Entries, or links, in memory. -/
def ML (w : World) (A : Option Addr) (l : List R4) : Prop :=
  ∀ (k : Nat) (e : R4), l[k]? = some e → ∃ b off, A = some ⟨b, off, none⟩ ∧ (w.cell? ⟨b, off + k * 4, none⟩ = some (.int .i64 e.a) ∧ w.cell? ⟨b, off + k * 4 + 1, none⟩ = some (.int .u32 (e.b : Int)) ∧ w.cell? ⟨b, off + k * 4 + 2, none⟩ = some (.int .i64 e.c) ∧ w.cell? ⟨b, off + k * 4 + 3, none⟩ = some (.int .i64 e.d)) ∧ e.b < 4294967296
theorem ML.below {w w1 : World} {A : Option Addr} {l : List R4} (h : ML w A l) (b : Below w.heap.size w w1) : ML w1 A l := by
  intro k e hk
  obtain ⟨g, off, hA, ⟨h0, h1, h2, h3⟩, hb⟩ := h k e hk
  exact ⟨g, off, hA, ⟨(b.cell (Lib.lt_of_cell h0)).trans h0, (b.cell (Lib.lt_of_cell h1)).trans h1, (b.cell (Lib.lt_of_cell h2)).trans h2, (b.cell (Lib.lt_of_cell h3)).trans h3⟩, hb⟩
theorem ML.u32 {w : World} {A : Option Addr} {l : List R4} (h : ML w A l) : ∀ e ∈ l, e.b < 4294967296 := by
  intro e he
  obtain ⟨k, hk⟩ := List.getElem?_of_mem he
  obtain ⟨_, _, _, _, hb⟩ := h k e hk
  exact hb
/-- Rows of whole numbers in memory. -/
def DL (w : World) (D : Option Addr) (l : List (List Int)) : Prop :=
  ∀ (k : Nat) (r : List Int), l[k]? = some r → ∃ a A cp, D = some a ∧ w.cell? (a.add k) = some (.slice A r.length cp) ∧ CL w .i64 A r ∧ r.length ≤ maxLen ∧ r.length ≤ cp ∧ (A = none → cp = 0)
theorem DL.below {w w1 : World} {D : Option Addr} {l : List (List Int)} (h : DL w D l) (b : Below w.heap.size w w1) : DL w1 D l := by
  intro k r hk
  obtain ⟨a, A, cp, h1, h2, h3, h4⟩ := h k r hk
  exact ⟨a, A, cp, h1, (b.cell (Lib.lt_of_cell h2)).trans h2, h3.below b, h4⟩
/-- A configuration in memory. -/
structure CM (w : World) (c : Cfg) (D E L : Option Addr) (nd cd ne ce nl cl : Nat) : Prop where
  hd : DL w D c.delays
  he : ML w E c.entries
  hl : ML w L c.links
  nD : nd = c.delays.length
  nE : ne = c.entries.length
  nL : nl = c.links.length
  mD : nd ≤ maxLen
  mE : ne ≤ maxLen
  mL : nl ≤ maxLen
  cD : nd ≤ cd
  cE : ne ≤ ce
  cL : nl ≤ cl
  zD : D = none → cd = 0
  zE : E = none → ce = 0
  zL : L = none → cl = 0
theorem CM.below {w w1 : World} {c : Cfg} {D E L : Option Addr} {nd cd ne ce nl cl : Nat} (h : CM w c D E L nd cd ne ce nl cl) (b : Below w.heap.size w w1) : CM w1 c D E L nd cd ne ce nl cl :=
  { h with hd := h.hd.below b, he := h.he.below b, hl := h.hl.below b }
section
variable {w0 w w1 : World} {c : Cfg} {D E L : Option Addr} {nd cd ne ce nl cl : Nat} {e : R4}
theorem btw_false {n l h : Int} (g : ¬ (l ≤ n ∧ n ≤ h)) : btw n l h = false := by rw [← Bool.not_eq_true, btw_iff]; exact g
end
set_option maxHeartbeats 2000000 in
theorem rightDelays_any (c : Cfg) (D E L : Option Addr) (nd cd ne ce nl cl : Nat) (w : World) (h : CM w c D E L nd cd ne ce nl cl) : Calls Tryz.prog 72 #[.agg #[.int .i64 c.hosts, .int .i64 c.cycle, .int .i64 c.delay, .int .i64 c.window, .int .i64 c.precision, .slice D nd cd, .slice E ne ce, .slice L nl cl, .int .i64 c.queue]] w fun r w' => r = .returned (.bool (rowsOk c)) ∧ Below w.heap.size w w' := by
  have HD := Lib.hid h.hd
  have HN := Lib.hid h.nD
  have HM := Lib.hid h.mD
  have hm : nd ≤ 9223372036854775807 := h.mD
  clear h
  by_cases hne : (nd : Int) = c.hosts
  · have HR : rowsOk c = c.delays.all (rowOk c) := by unfold rowsOk; rw [← HN.out, decide_eq_true hne]; rfl
    generalize hq : rowsOk c = q at *
    have HQ := Lib.hid HR
    clear HR hq
    have hne2 : ((nd : Int) != c.hosts) = false := by rw [bne_eq_false_iff_eq]; exact hne
    have HNE := Lib.hid hne
    clear hne
    have BW := fun x W => between_i64 x 0 c.delay W
    go_enter Tryz.func72, Tryz.ntmps72
    go_wp2
    have X := Lib.hid (CX.start (w0 := w) (c := c) (D := D) (E := E) (L := L) (nd := nd) (cd := cd) (ne := ne) (ce := ce) (nl := nl) (cl := cl))
    have HD1 := Lib.hid (HD.out.below (al (Below.refl w.heap.size w) (Obj.cells #[.int .i64 c.hosts, .int .i64 c.cycle, .int .i64 c.delay, .int .i64 c.window, .int .i64 c.precision, .slice D nd cd, .slice E ne ce, .slice L nl cl, .int .i64 c.queue] 26)))
    obtain ⟨-, a0, a1, a2, a3, a4, a5, a6, a7, a8⟩ := X.out.s
    generalize hw1 : w.alloc (Obj.cells #[.int .i64 c.hosts, .int .i64 c.cycle, .int .i64 c.delay, .int .i64 c.window, .int .i64 c.precision, .slice D nd cd, .slice E ne ce, .slice L nl cl, .int .i64 c.queue] 26) = w1 at *
    go_loopw [16] (fun iv wr => ∃ (k : Nat), k ≤ nd ∧ iv = .int .i64 k ∧ wr = w1 ∧ Hid (∀ j r, j < k → c.delays[j]? = some r → rowOk c r = true)) (fun iv _ => nd - (intOf iv).toNat)
    case atStart => exact ⟨0, Nat.zero_le _, rfl, rfl, Lib.hid (fun j r hj => by omega)⟩
    case round =>
      obtain ⟨k, hk, rfl, hwr, HI⟩ := hrel
      obtain rfl := hwr
      by_cases hlt : (k : Int) < (nd : Int)
      · obtain ⟨r, hr⟩ : ∃ r, c.delays[k]? = some r := ⟨_, List.getElem?_eq_getElem (by rw [← HN.out]; omega)⟩
        obtain ⟨a, A, cp, rfl, hcell, hrow, hrm, hrc, hrz⟩ := HD1.out k r hr
        have HX := Lib.hid hr
        have HRW := Lib.hid hrow
        clear hr hrow hrc hrz
        generalize hrl : r.length = m at *
        by_cases h2 : m = 2
        · subst h2
          have HRL := Lib.hid hrl
          clear hrl
          go_wp2
          obtain ⟨w0, hw0⟩ : ∃ w0, w0 = wr := ⟨_, rfl⟩
          subst hw0
          go_loopw [25] (fun iv wr => ∃ (i : Nat), i ≤ 2 ∧ iv = .int .i64 i ∧ wr = w0 ∧ Hid (∀ j x, j < i → r[j]? = some x → btw x 0 c.delay = true)) (fun iv _ => 2 - (intOf iv).toNat)
          case atStart => exact ⟨0, Nat.zero_le _, rfl, rfl, Lib.hid (fun j x hj => by omega)⟩
          case round =>
            obtain ⟨i, hi, rfl, hwr, HJ⟩ := hrel
            obtain rfl := hwr
            by_cases hlt2 : (i : Int) < 2
            · obtain ⟨x, hx⟩ : ∃ x, r[i]? = some x := ⟨_, List.getElem?_eq_getElem (by rw [HRL.out]; omega)⟩
              obtain ⟨ad, rfl, hc2, -⟩ := HRW.out i x hx
              have HXX := Lib.hid hx
              clear hx
              have BX := BW x
              cases hb : btw x 0 c.delay
              · have HQ2 := Lib.hid (show q = false by
                  rw [HQ.out]
                  refine all_false HX.out ?_
                  unfold rowOk
                  rw [all_false HXX.out hb, Bool.and_false])
                rw [hb] at BX
                clear hb
                go_wp2_with fail
                refine (BX _).mono ?_
                rintro e w9 ⟨rfl, hw⟩
                obtain rfl := hw.symm
                go_wp2
                go_ret
                exact ⟨by rw [HQ2.out]; rfl, X.out.b⟩
              · have HJ2 := Lib.hid (show ∀ (j : Nat) (y : Int), j < i + 1 → r[j]? = some y → btw y 0 c.delay = true by
                  intro j y hj hy
                  by_cases hji : j = i
                  · subst hji
                    rw [HXX.out] at hy
                    cases hy
                    exact hb
                  · exact HJ.out j y (by omega) hy)
                rw [hb] at BX
                clear hb
                go_wp2_with fail
                refine (BX _).mono ?_
                rintro e w9 ⟨rfl, hw⟩
                obtain rfl := hw.symm
                go_wp2
                go_roundw
                case rel => exact ⟨i + 1, by omega, by go_num, trivial, HJ2⟩
                case measure => simp [intOf]; omega
            · have HI2 := Lib.hid (show ∀ (j : Nat) (y : List Int), j < k + 1 → c.delays[j]? = some y → rowOk c y = true by
                intro j y hj hy
                by_cases hji : j = k
                · subst hji
                  rw [HX.out] at hy
                  cases hy
                  unfold rowOk
                  rw [decide_eq_true HRL.out, Bool.true_and]
                  exact all_true (fun j x hx => HJ.out j x (by have := lt_of_get hx; rw [HRL.out] at this; omega) hx)
                · exact HI.out j y (by omega) hy)
              go_wp2
              exact ⟨⟨k + 1, by omega, by go_num, trivial, HI2⟩, by simp [intOf]; omega⟩
        · have hm2 : ((m : Int) != 2) = true := by rw [bne_iff_ne]; omega
          have HQ2 := Lib.hid (show q = false by
            rw [HQ.out]
            refine all_false HX.out ?_
            unfold rowOk
            rw [hrl, decide_eq_false h2, Bool.false_and])
          clear hrl h2
          go_wp2
          go_ret
          exact ⟨by rw [HQ2.out]; rfl, X.out.b⟩
      · have HQ2 := Lib.hid (show q = true by
          rw [HQ.out]
          exact all_true (fun j r hj => HI.out j r (by have := lt_of_get hj; rw [← HN.out] at this; omega) hj))
        go_wp2
        go_ret
        exact ⟨by rw [HQ2.out]; rfl, X.out.b⟩
  · have HR : rowsOk c = false := by unfold rowsOk; rw [← HN.out, decide_eq_false hne]; rfl
    rw [HR]
    have hne2 : ((nd : Int) != c.hosts) = true := by rw [bne_iff_ne]; exact hne
    have HNE := Lib.hid hne
    clear hne HR
    have X := Lib.hid (CX.start (w0 := w) (c := c) (D := D) (E := E) (L := L) (nd := nd) (cd := cd) (ne := ne) (ce := ce) (nl := nl) (cl := cl))
    go_enter Tryz.func72, Tryz.ntmps72
    go_wp2
    go_ret
    exact ⟨rfl, X.out.b⟩
theorem CX.mem {w0 w : World} {c : Cfg} {D E L : Option Addr} {nd cd ne ce nl cl : Nat} (h : CX w0 c D E L nd cd ne ce nl cl w) (m : CM w0 c D E L nd cd ne ce nl cl) : CM w c D E L nd cd ne ce nl cl := m.below h.b
set_option maxHeartbeats 2000000 in
theorem rightEntries_any (c : Cfg) (D E L : Option Addr) (nd cd ne ce nl cl : Nat) (w : World) (h : CM w c D E L nd cd ne ce nl cl) (hh : 1 ≤ c.hosts ∧ c.hosts ≤ 6) : Calls Tryz.prog 73 #[.agg #[.int .i64 c.hosts, .int .i64 c.cycle, .int .i64 c.delay, .int .i64 c.window, .int .i64 c.precision, .slice D nd cd, .slice E ne ce, .slice L nl cl, .int .i64 c.queue]] w fun r w' => r = .returned (.bool (entOk c)) ∧ Below w.heap.size w w' := by
  have HM := Lib.hid h
  have HH := Lib.hid hh
  have hm : ne ≤ 9223372036854775807 := h.mE
  clear h hh
  have X := Lib.hid (CX.start (w0 := w) (c := c) (D := D) (E := E) (L := L) (nd := nd) (cd := cd) (ne := ne) (ce := ce) (nl := nl) (cl := cl))
  by_cases hn : 16 < ne
  · have HR : entOk c = false := by unfold entOk; rw [← HM.out.nE, decide_eq_false (by omega)]; rfl
    rw [HR]
    clear HR
    have hn2 : (16 : Int) < (ne : Int) := by omega
    go_enter Tryz.func73, Tryz.ntmps73
    go_wp2
    go_ret
    exact ⟨rfl, X.out.b⟩
  · have HR : entOk c = c.entries.all (wayE c.hosts) := by unfold entOk; rw [← HM.out.nE, decide_eq_true (by omega)]; rfl
    generalize hq : entOk c = q at *
    have HQ := Lib.hid HR
    clear HR hq
    have hn2 : ¬ (16 : Int) < (ne : Int) := by omega
    clear hn
    go_enter Tryz.func73, Tryz.ntmps73
    go_wp2
    go_loopw [12] (fun iv wr => ∃ (k : Nat), k ≤ ne ∧ iv = .int .i64 k ∧ Hid (CX w c D E L nd cd ne ce nl cl wr) ∧ Hid (∀ j r, j < k → c.entries[j]? = some r → wayE c.hosts r = true)) (fun iv _ => ne - (intOf iv).toNat)
    case atStart => exact ⟨0, Nat.zero_le _, rfl, X, Lib.hid (fun j r hj => by omega)⟩
    case round =>
      clear X
      obtain ⟨k, hk, rfl, X, HI⟩ := hrel
      obtain ⟨-, a0, a1, a2, a3, a4, a5, a6, a7, a8⟩ := X.out.s
      by_cases hlt : (k : Int) < (ne : Int)
      · obtain ⟨x, hx⟩ : ∃ x, c.entries[k]? = some x := ⟨_, List.getElem?_eq_getElem (by rw [← HM.out.nE]; omega)⟩
        obtain ⟨b, off, rfl, ⟨x0, x1, x2, x3⟩, hxb⟩ := (X.out.mem HM.out).he k x hx
        have HX := Lib.hid hx
        clear hx
        have RW := fun W => rightWay_any c.hosts x.a x.b x.d W HH.out hxb
        have X1 := Lib.hid (X.out.next (al (Below.refl wr.heap.size wr) (Obj.cells #[.int .i64 x.a, .int .u32 x.b, .int .i64 x.c, .int .i64 x.d] 138)))
        obtain ⟨-, b0, b1, b2, b3, b4, b5, b6, b7, b8⟩ := X1.out.s
        have HJ2 := Lib.hid (show wayE c.hosts x = true → ∀ (j : Nat) (y : R4), j < k + 1 → c.entries[j]? = some y → wayE c.hosts y = true by
          intro hb j y hj hy
          by_cases hji : j = k
          · subst hji
            rw [HX.out] at hy
            cases hy
            exact hb
          · exact HI.out j y (by omega) hy)
        have HQ2 := Lib.hid (show wayE c.hosts x = false → q = false from fun hb => by
          rw [HQ.out]
          exact all_false HX.out hb)
        have hway : wayE c.hosts x = way c.hosts x.a x.b x.d := rfl
        cases hb : way c.hosts x.a x.b x.d
        · have HB := Lib.hid (show wayE c.hosts x = false by rw [hway, hb])
          clear hway
          rw [hb] at RW
          clear hb
          go_wp2_with fail
          refine (RW _).mono ?_
          rintro e w9 ⟨rfl, hw⟩
          obtain rfl := hw.symm
          go_wp2
          go_ret
          exact ⟨by rw [HQ2.out HB.out]; rfl, X1.out.b⟩
        · have HB := Lib.hid (show wayE c.hosts x = true by rw [hway, hb])
          clear hway
          rw [hb] at RW
          clear hb
          go_wp2_with fail
          refine (RW _).mono ?_
          rintro e w9 ⟨rfl, hw⟩
          obtain rfl := hw.symm
          go_wp2
          go_roundw
          case rel => exact ⟨k + 1, by omega, by go_num, X1, HJ2.out HB.out⟩
          case measure => simp [intOf]; omega
      · have HQ2 := Lib.hid (show q = true by
          rw [HQ.out]
          exact all_true (fun j r hj => HI.out j r (by have := lt_of_get hj; rw [← HM.out.nE] at this; omega) hj))
        go_wp2
        go_ret
        exact ⟨by rw [HQ2.out]; rfl, X.out.b⟩
set_option maxHeartbeats 2000000 in
theorem rightLinks_any (c : Cfg) (D E L : Option Addr) (nd cd ne ce nl cl : Nat) (w : World) (h : CM w c D E L nd cd ne ce nl cl) (hh : 1 ≤ c.hosts ∧ c.hosts ≤ 6) : Calls Tryz.prog 78 #[.agg #[.int .i64 c.hosts, .int .i64 c.cycle, .int .i64 c.delay, .int .i64 c.window, .int .i64 c.precision, .slice D nd cd, .slice E ne ce, .slice L nl cl, .int .i64 c.queue]] w fun r w' => r = .returned (.bool (linkOk c)) ∧ Below w.heap.size w w' := by
  have HM := Lib.hid h
  have HH := Lib.hid hh
  have hm : nl ≤ 9223372036854775807 := h.mL
  clear h hh
  have X := Lib.hid (CX.start (w0 := w) (c := c) (D := D) (E := E) (L := L) (nd := nd) (cd := cd) (ne := ne) (ce := ce) (nl := nl) (cl := cl))
  by_cases hn : 16 < nl
  · have HR : linkOk c = false := by unfold linkOk; rw [← HM.out.nL, decide_eq_false (by omega)]; rfl
    rw [HR]
    clear HR
    have hn2 : (16 : Int) < (nl : Int) := by omega
    go_enter Tryz.func78, Tryz.ntmps78
    go_wp2
    go_ret
    exact ⟨rfl, X.out.b⟩
  · have HR : linkOk c = c.links.all (lnk c) := by unfold linkOk; rw [← HM.out.nL, decide_eq_true (by omega)]; rfl
    generalize hq : linkOk c = q at *
    have HQ := Lib.hid HR
    clear HR hq
    have hn2 : ¬ (16 : Int) < (nl : Int) := by omega
    clear hn
    go_enter Tryz.func78, Tryz.ntmps78
    go_wp2
    go_loopw [12] (fun iv wr => ∃ (k : Nat), k ≤ nl ∧ iv = .int .i64 k ∧ Hid (CX w c D E L nd cd ne ce nl cl wr) ∧ Hid (∀ j r, j < k → c.links[j]? = some r → lnk c r = true)) (fun iv _ => nl - (intOf iv).toNat)
    case atStart => exact ⟨0, Nat.zero_le _, rfl, X, Lib.hid (fun j r hj => by omega)⟩
    case round =>
      clear X
      obtain ⟨k, hk, rfl, X, HI⟩ := hrel
      obtain ⟨-, a0, a1, a2, a3, a4, a5, a6, a7, a8⟩ := X.out.s
      by_cases hlt : (k : Int) < (nl : Int)
      · obtain ⟨x, hx⟩ : ∃ x, c.links[k]? = some x := ⟨_, List.getElem?_eq_getElem (by rw [← HM.out.nL]; omega)⟩
        obtain ⟨b, off, rfl, ⟨x0, x1, x2, x3⟩, hxb⟩ := (X.out.mem HM.out).hl k x hx
        have HX := Lib.hid hx
        clear hx
        have RW := fun W => rightWay_any c.hosts x.a x.b x.d W HH.out hxb
        have X1 := Lib.hid (X.out.next (al (Below.refl wr.heap.size wr) (Obj.cells #[.int .i64 x.a, .int .u32 x.b, .int .i64 x.c, .int .i64 x.d] 120)))
        obtain ⟨-, b0, b1, b2, b3, b4, b5, b6, b7, b8⟩ := X1.out.s
        have HJ2 := Lib.hid (show lnk c x = true → ∀ (j : Nat) (y : R4), j < k + 1 → c.links[j]? = some y → lnk c y = true by
          intro hb j y hj hy
          by_cases hji : j = k
          · subst hji
            rw [HX.out] at hy
            cases hy
            exact hb
          · exact HI.out j y (by omega) hy)
        have HQ2 := Lib.hid (show lnk c x = false → q = false from fun hb => by
          rw [HQ.out]
          exact all_false HX.out hb)
        have hway : wayE c.hosts x = way c.hosts x.a x.b x.d := rfl
        have BW := fun W => between_i64 x.c 1 1073741824 W
        cases hb : way c.hosts x.a x.b x.d
        · have HB := Lib.hid (show lnk c x = false by unfold lnk; rw [hway, hb]; rfl)
          clear hway BW
          rw [hb] at RW
          clear hb
          go_wp2_with fail
          refine (RW _).mono ?_
          rintro e w9 ⟨rfl, hw⟩
          obtain rfl := hw.symm
          go_wp2
          go_ret
          exact ⟨by rw [HQ2.out HB.out]; rfl, X1.out.b⟩
        · cases hb2 : btw x.c 1 1073741824
          · have HB := Lib.hid (show lnk c x = false by unfold lnk; rw [hway, hb, hb2]; rfl)
            clear hway
            rw [hb2] at BW
            clear hb2
            rw [hb] at RW
            clear hb
            go_wp2_with fail
            refine (RW _).mono ?_
            rintro e w9 ⟨rfl, hw⟩
            obtain rfl := hw.symm
            go_wp2_with fail
            refine (BW _).mono ?_
            rintro e w9 ⟨rfl, hw⟩
            obtain rfl := hw.symm
            go_wp2
            go_ret
            exact ⟨by rw [HQ2.out HB.out]; rfl, X1.out.b⟩
          · have HB := Lib.hid (show lnk c x = true by unfold lnk; rw [hway, hb, hb2]; rfl)
            clear hway
            rw [hb2] at BW
            clear hb2
            rw [hb] at RW
            clear hb
            go_wp2_with fail
            refine (RW _).mono ?_
            rintro e w9 ⟨rfl, hw⟩
            obtain rfl := hw.symm
            go_wp2_with fail
            refine (BW _).mono ?_
            rintro e w9 ⟨rfl, hw⟩
            obtain rfl := hw.symm
            go_wp2
            go_roundw
            case rel => exact ⟨k + 1, by omega, by go_num, X1, HJ2.out HB.out⟩
            case measure => simp [intOf]; omega
      · have HQ2 := Lib.hid (show q = true by
          rw [HQ.out]
          exact all_true (fun j r hj => HI.out j r (by have := lt_of_get hj; rw [← HM.out.nL] at this; omega) hj))
        go_wp2
        go_ret
        exact ⟨by rw [HQ2.out]; rfl, X.out.b⟩
end Go.Proofs.YtmagjekmlnpfpaaGreat.ConfW



/- Walks over rows: Of, in, Common, Same; the document's own Of. -/
namespace Go.Proofs.YtmagjekmlnpfpaaGreat.CrewW
open Go.RowKit Shell
/-- Crews as whole numbers. -/
def up (l : List Nat) : List Int := l.map fun c : Nat => (c : Int)
theorem of_take {l : List Int} {k : Nat} {x : Int} (h : l[k]? = some x) : of (l.take (k + 1)) = of (l.take k) ||| only x := by
  rw [List.take_add_one, h]
  exact of_snoc _ _
set_option maxHeartbeats 1000000 in
theorem of_any (A : Option Addr) (n c : Nat) (xs : List Int) (w : World) (h : CL w .i64 A xs) (hn : n = xs.length) (hl : n ≤ 9223372036854775807) :
    Calls Tryz.prog 180 #[.slice A n c] w fun e w' => e = .returned (.int .u32 (of xs : Nat)) ∧ w' = w := by
  have H := Lib.hid h
  have HL := Lib.hid hl
  have HN := Lib.hid hn
  clear h hl hn
  go_enter Tryz.func180, Tryz.ntmps180
  go_wp2
  go_loopw [3, 8] (fun cv iv wr => ∃ (k : Nat), k ≤ n ∧ iv = .int .i64 k ∧ cv = .int .u32 (of (xs.take k) : Nat) ∧ wr = w) (fun _ iv _ => n - (intOf iv).toNat)
  case atStart => exact ⟨0, Nat.zero_le _, rfl, rfl, rfl⟩
  case round =>
    obtain ⟨k, hk, rfl, rfl, rfl⟩ := hrel
    have hll := HL.out
    by_cases hlt : k < n
    · obtain ⟨x, hx⟩ : ∃ x, xs[k]? = some x := ⟨_, List.getElem?_eq_getElem (by rw [← HN.out]; exact hlt)⟩
      obtain ⟨ad, rfl, hcell, _⟩ := H.out k x hx
      have HT := Lib.hid (of_take hx)
      have l1 := of_lt (xs.take k)
      have HB := Lib.hid (u32_or_nat (of (xs.take k)) (only x) (by omega) (by have := only_lt x; omega))
      have HO := fun W => only_any x W
      clear hx l1
      generalize of (xs.take k) = a at *
      generalize only x = o at *
      go_wp2_with fail
      refine (HO _).mono ?_
      rintro e w9 ⟨rfl, hw⟩
      obtain rfl := hw.symm
      go_wp2
      rw [HB.out]
      go_roundw
      case rel => exact ⟨k + 1, by omega, by go_num, by rw [HT.out], trivial⟩
      case measure => simp [intOf]; omega
    · obtain rfl : k = n := by omega
      have e := HN.out
      rw [List.take_of_length_le (by omega)]
      clear e
      go_wp2
      go_ret
      exact ⟨rfl, rfl⟩
end Go.Proofs.YtmagjekmlnpfpaaGreat.CrewW



/- Walks that lay rows: Members; the document's own Members and Common; Same. -/
namespace Go.Proofs.YtmagjekmlnpfpaaGreat.CrewW
open Go.RowKit Shell
theorem int_one : One Tryz.prog 36 3 .i64 8 := ⟨Tryz.underlying36, info_parts (show (Tryz.prog.info? 3).map (fun i => (i.zero, i.size, i.bytes)) = some (some (.int .i64 0), 1, 8) by kernel_rfl)⟩
/-- A row of ints of our own. -/
def IR (w : World) (base : Nat) (v : Value) (xs : List Int) : Prop := OR w base 3 .i64 v xs
theorem i64_small {x : Int} (h0 : -1000 ≤ x) (h1 : x < 1000) : (Lit.int .i64 x).wf = true := by
  simp [Lit.wf]
  constructor
  · show -9223372036854775808 ≤ x; omega
  · show x ≤ 9223372036854775807; omega
theorem one_cl (w : World) (x : Int) (h0 : -1000 ≤ x) (h1 : x < 1000) (t : TypeId) : CL (w.alloc (.cells #[.int .i64 x] t)) .i64 (some ⟨w.heap.size, 0, none⟩) [x] := new_cl w .i64 [x] t (Wf.one (i64_small h0 h1))
set_option maxHeartbeats 2000000 in
theorem members_any (c : Nat) (w : World) (hc : c < 4294967296) : Calls Tryz.prog 199 #[.int .u32 (c : Int)] w fun e w' => ∃ v, e = .returned v ∧ IR w' w.heap.size v (mem c) ∧ Below w.heap.size w w' := by
  have HC := Lib.hid hc
  clear hc
  have HM := Lib.hid (show memTo c 6 = mem c from rfl)
  go_enter Tryz.func199, Tryz.ntmps199
  go_wp2
  go_loopw [3, 5] (fun lv iv wr => ∃ (k : Nat), k ≤ 6 ∧ iv = .int .i64 k ∧ Hid (IR wr w.heap.size lv (memTo c k)) ∧ Hid (Below w.heap.size w wr)) (fun _ iv _ => 6 - (intOf iv).toNat)
  case atStart => exact ⟨0, Nat.zero_le _, rfl, Lib.hid (OR.nil _ _ _ _), Lib.hid (Below.refl _ _)⟩
  case round =>
    obtain ⟨k, hk, rfl, HO, HB⟩ := hrel
    by_cases hlt : (k : Int) < 6
    · have HH := fun W => has_any c (k : Int) W HC.out
      rw [has_nat c k (by omega)] at HH
      have HS := Lib.hid (memTo_succ c k)
      have HL := Lib.hid (memTo_len c k)
      generalize memTo c k = L at *
      obtain ⟨A, d, rfl, -⟩ := HO.out.form
      cases hbit : c.testBit k <;> (rw [hbit] at HH HS; clear hbit)
      · go_wp2_with fail
        refine (HH _).mono ?_
        rintro e w9 ⟨rfl, hw⟩
        obtain rfl := hw.symm
        go_wp2
        go_roundw
        case rel => exact ⟨k + 1, by omega, by go_num, by rw [HS.out]; exact HO, HB⟩
        case measure => simp [intOf]; omega
      · go_wp2_with fail
        refine (HH _).mono ?_
        rintro e w9 ⟨rfl, hw⟩
        obtain rfl := hw.symm
        clear HH
        go_wp2_with (at_builtin; refine wpList_append_or int_one _ rfl _ _ rfl w.heap.size _ _ rfl (HO.out.alloc _) (some ⟨wr.heap.size, 0, none⟩) 1 1 [(k : Int)] rfl rfl ?c1 (fun h => by cases h) ?c2 (by decide) ?c3 ?_)
        case c1 => exact one_cl _ _ (by omega) (by omega) _
        case c2 => have := HL.out; omega
        case c3 => rw [World.size_alloc]; have := HB.out.size; omega
        intro v2 w2 o2 s2
        have HO2 := Lib.hid (show IR w2 w.heap.size v2 (memTo c (k + 1)) by rw [HS.out]; exact o2)
        have HB2 := Lib.hid (HB.out.trans (((Step.alloc _ _ _).trans s2).below HO.out HB.out.size))
        clear o2 s2
        go_wp2
        go_roundw
        case rel => exact ⟨k + 1, by omega, by go_num, HO2, HB2⟩
        case measure => simp [intOf]; omega
    · obtain rfl : k = 6 := by omega
      rw [HM.out] at HO
      go_wp2
      go_ret
      exact ⟨_, rfl, HO.out, HB.out⟩
end Go.Proofs.YtmagjekmlnpfpaaGreat.CrewW


