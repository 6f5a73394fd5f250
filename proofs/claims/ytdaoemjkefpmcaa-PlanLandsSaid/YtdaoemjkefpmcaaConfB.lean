/- Walks: rightWay, timed, placed, wireTime, Quiet. -/
import Derived.Test.YtdaoemjkefpmcaaConfA
import Derived.Test.YtdaoemjkefpmcaaCrewA
namespace Go.Proofs.Ytdaoemjkefpmcaa.ConfW
open Go.RowKit Shell
theorem shr_zero (t k : Nat) (ht : t < 2 ^ k) : (t : Int) / 2 ^ k = 0 := by
  rw [show ((2 : Int) ^ k) = ((2 ^ k : Nat) : Int) by simp]
  generalize 2 ^ k = z at *
  exact Int.ediv_eq_zero_of_lt (by omega) (by omega)
theorem shr_pos (t k : Nat) (ht : ¬ t < 2 ^ k) : ((t : Int) / 2 ^ k == 0) = false := by
  rw [beq_eq_false_iff_ne, show ((2 : Int) ^ k) = ((2 ^ k : Nat) : Int) by simp]
  have hp : 0 < 2 ^ k := Nat.pow_pos (by decide)
  generalize 2 ^ k = z at *
  have := Nat.div_pos (a := t) (b := z) (by omega) hp
  rw [← Int.natCast_ediv]
  omega
set_option maxHeartbeats 1000000 in
theorem rightWay_any (h f : Int) (t : Nat) (s : Int) (w : World) (hh : 1 ≤ h ∧ h ≤ 6) (ht : t < 4294967296) :
    Calls Try.prog 62 #[.int .i64 h, .int .i64 f, .int .u32 (t : Int), .int .i64 s] w fun e w' => e = .returned (.bool (way h f t s)) ∧ w' = w := by
  obtain ⟨k, rfl⟩ := Int.eq_ofNat_of_zero_le (show 0 ≤ h by omega)
  have HS := Lib.hid (fun x => shr_zero t k x)
  have HP := Lib.hid (fun x => shr_pos t k x)
  have HK := Lib.hid hh
  have H1 := fun W => between_int f 0 ((k : Int) - 1) W
  have H2 := fun W => between_int s 64 1518 W
  have H3 := fun W => CrewW.has_any t f W ht
  have k0 : (0 : Int) ≤ (k : Int) := by omega
  have k3 : min k 32 = k := by omega
  have k1 : ¬ (k : Int) < 0 := by omega
  have k2 : IntKind.i64.wrap ((k : Int) - 1) = (k : Int) - 1 := by rw [IntKind.wrap_i64]; omega
  unfold way
  rw [Int.toNat_natCast]
  generalize btw f 0 ((k : Int) - 1) = b1 at *
  generalize btw s 64 1518 = b2 at *
  generalize CrewW.has t f = b3 at *
  clear hh
  go_enter Try.func62, Try.ntmps62
  go_wp2_with fail
  refine (H1 _).mono ?_
  rintro e w9 ⟨rfl, hw⟩
  obtain rfl := hw.symm
  cases b1
  · go_wp2
    go_ret
    exact ⟨rfl, rfl⟩
  · by_cases ht0 : t = 0
    · subst ht0
      go_wp2
      go_ret
      exact ⟨rfl, rfl⟩
    · have e1 : ((t : Int) != 0) = true := by rw [bne_iff_ne]; omega
      by_cases hs : t < 2 ^ k
      · have e2 := HS.out hs
        go_wp2_with fail
        refine (H3 _).mono ?_
        rintro e w9 ⟨rfl, hw⟩
        obtain rfl := hw.symm
        cases b3
        · go_wp2_with fail
          refine (H2 _).mono ?_
          rintro e w9 ⟨rfl, hw⟩
          obtain rfl := hw.symm
          go_wp2
          go_ret
          exact ⟨by simp [ht0, hs], rfl⟩
        · go_wp2
          go_ret
          exact ⟨by simp [ht0, hs], rfl⟩
      · have e2 := HP.out hs
        go_wp2
        go_ret
        exact ⟨by simp [ht0, hs], rfl⟩
set_option maxHeartbeats 1000000 in
theorem timed_any (c : Cfg) (D E L : Option Addr) (nd cd ne ce nl cl : Nat) (w : World) : Calls Try.prog 69 #[.agg #[.int .i64 c.hosts, .int .i64 c.cycle, .int .i64 c.delay, .int .i64 c.window, .int .i64 c.precision, .slice D nd cd, .slice E ne ce, .slice L nl cl, .int .i64 c.queue]] w fun e w' => e = .returned (.bool (spans c)) ∧ Below w.heap.size w w' := by
  have H1 := fun W => between_i64 c.cycle 1 1073741824 W
  have H2 := fun W => rightTimes_any c D E L nd cd ne ce nl cl W
  unfold spans
  generalize btw c.cycle 1 1073741824 = b1 at *
  generalize spansT c = b2 at *
  have B := Lib.hid (al (Below.refl w.heap.size w) (Obj.cells #[.int .i64 c.hosts, .int .i64 c.cycle, .int .i64 c.delay, .int .i64 c.window, .int .i64 c.precision, .slice D nd cd, .slice E ne ce, .slice L nl cl, .int .i64 c.queue] 26))
  go_enter Try.func69, Try.ntmps69
  go_wp2_with fail
  refine (H1 _).mono ?_
  rintro e w9 ⟨rfl, hw⟩
  obtain rfl := hw.symm
  cases b1
  · go_wp2
    go_ret
    exact ⟨rfl, B.out⟩
  · go_wp2_with fail
    refine (H2 _).mono ?_
    rintro e w9 ⟨rfl, hb⟩
    have B2 := Lib.hid (B.out.trans (hb.mono B.out.size))
    clear hb
    go_wp2
    go_ret
    exact ⟨rfl, B2.out⟩
set_option maxHeartbeats 1000000 in
theorem wireTime_any (e : R4) (w : World) : Calls Try.prog 56 #[.agg #[.int .i64 e.a, .int .u32 e.b, .int .i64 e.c, .int .i64 e.d]] w fun r w' => r = .returned (.int .i64 (tim e.d)) ∧ Below w.heap.size w w' := by
  have H1 := fun W => time_any e.d W
  have B := Lib.hid (al (Below.refl w.heap.size w) (Obj.cells #[.int .i64 e.a, .int .u32 e.b, .int .i64 e.c, .int .i64 e.d] 40))
  go_enter Try.func56, Try.ntmps56
  go_wp2_with fail
  refine (H1 _).mono ?_
  rintro r w9 ⟨rfl, hw⟩
  obtain rfl := hw.symm
  go_wp2
  go_ret
  exact ⟨rfl, B.out⟩
theorem box_cell {w : World} {g i : Nat} {xs : Array Value} {t : TypeId} {fr : Nat × Nat} (h : w.heap[g]? = some (.cells xs t fr)) {v : Value} (hv : xs[i]? = some v) : w.cell? ⟨g, i, none⟩ = some v := by
  unfold World.cell?
  simp only [h]
  exact hv
theorem row_lt {w : World} {g : Nat} {o : Obj} (h : w.heap[g]? = some o) : g < w.heap.size := by
  rcases Nat.lt_or_ge g w.heap.size with h4 | h4
  · exact h4
  · rw [Array.getElem?_eq_none h4] at h; cases h
theorem row_below {w w1 : World} (b : Below w.heap.size w w1) {g : Nat} {o : Obj} (h : w.heap[g]? = some o) : w1.heap[g]? = some o := (b.block g (row_lt h)).trans h
/-- Behind w0: a configuration and an entry of the call's own, in its first two blocks. -/
structure BX (w0 : World) (c : Cfg) (D E L : Option Addr) (nd cd ne ce nl cl : Nat) (e : R4) (w : World) : Prop where
  b : Below w0.heap.size w0 w
  x : w.heap[w0.heap.size]? = some (Obj.cells #[.int .i64 c.hosts, .int .i64 c.cycle, .int .i64 c.delay, .int .i64 c.window, .int .i64 c.precision, .slice D nd cd, .slice E ne ce, .slice L nl cl, .int .i64 c.queue] 26)
  y : w.heap[w0.heap.size + 1]? = some (Obj.cells #[.int .i64 e.a, .int .u32 e.b, .int .i64 e.c, .int .i64 e.d] 40)
section
variable {w0 w w1 : World} {c : Cfg} {D E L : Option Addr} {nd cd ne ce nl cl : Nat} {e : R4}
theorem BX.next (h : BX w0 c D E L nd cd ne ce nl cl e w) (b : Below w.heap.size w w1) : BX w0 c D E L nd cd ne ce nl cl e w1 := ⟨h.b.trans (b.mono h.b.size), row_below b h.x, row_below b h.y⟩
theorem BX.start : BX w0 c D E L nd cd ne ce nl cl e ((w0.alloc (Obj.cells #[.int .i64 c.hosts, .int .i64 c.cycle, .int .i64 c.delay, .int .i64 c.window, .int .i64 c.precision, .slice D nd cd, .slice E ne ce, .slice L nl cl, .int .i64 c.queue] 26)).alloc (Obj.cells #[.int .i64 e.a, .int .u32 e.b, .int .i64 e.c, .int .i64 e.d] 40)) :=
  ⟨al (al (Below.refl _ _) _) _, row_below (al (Below.refl _ _) _) (heap_alloc_new w0 _), by
    have h := heap_alloc_new (w0.alloc (Obj.cells #[.int .i64 c.hosts, .int .i64 c.cycle, .int .i64 c.delay, .int .i64 c.window, .int .i64 c.precision, .slice D nd cd, .slice E ne ce, .slice L nl cl, .int .i64 c.queue] 26)) (Obj.cells #[.int .i64 e.a, .int .u32 e.b, .int .i64 e.c, .int .i64 e.d] 40)
    rwa [show (w0.alloc (Obj.cells #[.int .i64 c.hosts, .int .i64 c.cycle, .int .i64 c.delay, .int .i64 c.window, .int .i64 c.precision, .slice D nd cd, .slice E ne ce, .slice L nl cl, .int .i64 c.queue] 26)).heap.size = w0.heap.size + 1 by simp] at h⟩
theorem BX.s (h : BX w0 c D E L nd cd ne ce nl cl e w) : Hid (BX w0 c D E L nd cd ne ce nl cl e w) ∧ w.cell? ⟨w0.heap.size, 0, none⟩ = some (.int .i64 c.hosts) ∧ w.cell? ⟨w0.heap.size, 1, none⟩ = some (.int .i64 c.cycle) ∧ w.cell? ⟨w0.heap.size, 2, none⟩ = some (.int .i64 c.delay) ∧ w.cell? ⟨w0.heap.size, 3, none⟩ = some (.int .i64 c.window) ∧ w.cell? ⟨w0.heap.size, 4, none⟩ = some (.int .i64 c.precision) ∧ w.cell? ⟨w0.heap.size, 5, none⟩ = some (.slice D nd cd) ∧ w.cell? ⟨w0.heap.size, 6, none⟩ = some (.slice E ne ce) ∧ w.cell? ⟨w0.heap.size, 7, none⟩ = some (.slice L nl cl) ∧ w.cell? ⟨w0.heap.size, 8, none⟩ = some (.int .i64 c.queue) ∧ w.cell? ⟨w0.heap.size + 1, 0, none⟩ = some (.int .i64 e.a) ∧ w.cell? ⟨w0.heap.size + 1, 1, none⟩ = some (.int .u32 e.b) ∧ w.cell? ⟨w0.heap.size + 1, 2, none⟩ = some (.int .i64 e.c) ∧ w.cell? ⟨w0.heap.size + 1, 3, none⟩ = some (.int .i64 e.d) :=
  ⟨Lib.hid h, box_cell h.x rfl, box_cell h.x rfl, box_cell h.x rfl, box_cell h.x rfl, box_cell h.x rfl, box_cell h.x rfl, box_cell h.x rfl, box_cell h.x rfl, box_cell h.x rfl, box_cell h.y rfl, box_cell h.y rfl, box_cell h.y rfl, box_cell h.y rfl⟩
end
set_option maxHeartbeats 1000000 in
theorem placed_any (c : Cfg) (D E L : Option Addr) (nd cd ne ce nl cl : Nat) (e : R4) (w : World) (he : e.b < 4294967296) : Calls Try.prog 55 #[.agg #[.int .i64 c.hosts, .int .i64 c.cycle, .int .i64 c.delay, .int .i64 c.window, .int .i64 c.precision, .slice D nd cd, .slice E ne ce, .slice L nl cl, .int .i64 c.queue], .agg #[.int .i64 e.a, .int .u32 e.b, .int .i64 e.c, .int .i64 e.d]] w fun r w' => r = .returned (.bool (placed c e)) ∧ Below w.heap.size w w' := by
  have H1 := fun W => timed_any c D E L nd cd ne ce nl cl W
  have H2 := fun W => rightWay_any 6 e.a e.b e.d W (by decide) he
  have H3 := fun W => between_i64 e.c (-1125899906842624) 1125899906842624 W
  unfold placed wayE
  generalize spans c = b1 at *
  generalize way 6 e.a e.b e.d = b2 at *
  generalize btw e.c (-1125899906842624) 1125899906842624 = b3 at *
  go_enter Try.func55, Try.ntmps55
  go_wp2_with fail
  refine (H1 _).mono ?_
  rintro r w1 ⟨rfl, hb⟩
  obtain ⟨X, a0, a1, a2, a3, a4, a5, a6, a7, a8, d0, d1, d2, d3⟩ := (BX.start.next hb).s
  clear hb
  cases b1
  · go_wp2
    go_ret
    exact ⟨rfl, X.out.b⟩
  · go_wp2_with fail
    refine (H2 _).mono ?_
    rintro r w9 ⟨rfl, hw⟩
    obtain rfl := hw.symm
    cases b2
    · go_wp2
      go_ret
      exact ⟨rfl, X.out.b⟩
    · go_wp2_with fail
      refine (H3 _).mono ?_
      rintro r w9 ⟨rfl, hw⟩
      obtain rfl := hw.symm
      go_wp2
      go_ret
      exact ⟨rfl, X.out.b⟩
end Go.Proofs.Ytdaoemjkefpmcaa.ConfW

