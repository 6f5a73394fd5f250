/- Walks of the document's own: short, Spans, Route, Quiet, Times, Plain, meet. -/
import Derived.Test.YtdaoemjkefpmcaaConfC
namespace Go.Proofs.Ytdaoemjkefpmcaa.ConfW
open Go.RowKit Shell
theorem short_any (n : Int) (w : World) : Calls Try.prog 59 #[.int .i64 n] w fun r w' => r = .returned (.bool (btw n 0 1048576)) ∧ w' = w := by
  by_cases h1 : 0 ≤ n
  · by_cases h2 : n ≤ 1048576
    · have e : btw n 0 1048576 = true := btw_iff.2 ⟨h1, h2⟩
      rw [e]
      clear e
      go_enter Try.func59, Try.ntmps59
      go_wp2
      go_ret
      exact ⟨rfl, rfl⟩
    · have e : btw n 0 1048576 = false := by rw [← Bool.not_eq_true, btw_iff]; omega
      rw [e]
      clear e
      go_enter Try.func59, Try.ntmps59
      go_wp2
      go_ret
      exact ⟨rfl, rfl⟩
  · have e : btw n 0 1048576 = false := by rw [← Bool.not_eq_true, btw_iff]; omega
    rw [e]
    clear e
    go_enter Try.func59, Try.ntmps59
    go_wp2
    go_ret
    exact ⟨rfl, rfl⟩
set_option maxHeartbeats 1000000 in
theorem refSpans_any (c : Cfg) (D E L : Option Addr) (nd cd ne ce nl cl : Nat) (w : World) : Calls Try.prog 40 #[.agg #[.int .i64 c.hosts, .int .i64 c.cycle, .int .i64 c.delay, .int .i64 c.window, .int .i64 c.precision, .slice D nd cd, .slice E ne ce, .slice L nl cl, .int .i64 c.queue]] w fun r w' => r = .returned (.bool (spans c)) ∧ Below w.heap.size w w' := by
  have H1 := fun W => short_any c.delay W
  have H2 := fun W => short_any c.window W
  have H3 := fun W => short_any c.precision W
  have B := Lib.hid (al (Below.refl w.heap.size w) (Obj.cells #[.int .i64 c.hosts, .int .i64 c.cycle, .int .i64 c.delay, .int .i64 c.window, .int .i64 c.precision, .slice D nd cd, .slice E ne ce, .slice L nl cl, .int .i64 c.queue] 26))
  by_cases k1 : 1 ≤ c.cycle
  · by_cases k2 : c.cycle ≤ 1073741824
    · have e : spans c = spansT c := by unfold spans; rw [btw_iff.2 ⟨k1, k2⟩]; rfl
      rw [e]
      clear e
      unfold spansT
      generalize btw c.delay 0 1048576 = b1 at *
      generalize btw c.window 0 1048576 = b2 at *
      generalize btw c.precision 0 1048576 = b3 at *
      go_enter Try.func40, Try.ntmps40
      go_wp2_with fail
      refine (H1 _).mono ?_
      rintro e w9 ⟨rfl, hw⟩
      obtain rfl := hw.symm
      cases b1
      · go_wp2
        go_ret
        exact ⟨rfl, B.out⟩
      · go_wp2_with fail
        refine (H2 _).mono ?_
        rintro e w9 ⟨rfl, hw⟩
        obtain rfl := hw.symm
        cases b2
        · go_wp2
          go_ret
          exact ⟨rfl, B.out⟩
        · go_wp2_with fail
          refine (H3 _).mono ?_
          rintro e w9 ⟨rfl, hw⟩
          obtain rfl := hw.symm
          go_wp2
          go_ret
          exact ⟨rfl, B.out⟩
    · have e : spans c = false := by rw [← Bool.not_eq_true, spans_iff]; omega
      rw [e]
      clear e
      go_enter Try.func40, Try.ntmps40
      go_wp2
      go_ret
      exact ⟨rfl, B.out⟩
  · have e : spans c = false := by rw [← Bool.not_eq_true, spans_iff]; omega
    rw [e]
    clear e
    go_enter Try.func40, Try.ntmps40
    go_wp2
    go_ret
    exact ⟨rfl, B.out⟩
theorem two_le {k : Nat} (h : k ≤ 6) : 2 ^ k ≤ 64 := Nat.le_trans (Nat.pow_le_pow_right (by decide) h) (by decide)
set_option maxHeartbeats 2000000 in
theorem route_any (h f : Int) (t : Nat) (s : Int) (w : World) (hh : 1 ≤ h ∧ h ≤ 6) (ht : t < 4294967296) :
    Calls Try.prog 43 #[.int .i64 h, .int .i64 f, .int .u32 (t : Int), .int .i64 s] w fun r w' => r = .returned (.bool (way h f t s)) ∧ w' = w := by
  obtain ⟨n, rfl⟩ := Int.eq_ofNat_of_zero_le (show 0 ≤ h by omega)
  have HK := Lib.hid hh
  have H3 := fun W => CrewW.refHas_any t f W ht
  by_cases c1 : f < 0
  · have e : way n f t s = false := by rw [← Bool.not_eq_true, way_iff]; omega
    rw [e]
    clear e hh
    go_enter Try.func43, Try.ntmps43
    go_wp2
    go_ret
    exact ⟨rfl, rfl⟩
  · by_cases c2 : (n : Int) ≤ f
    · have e : way n f t s = false := by rw [← Bool.not_eq_true, way_iff]; omega
      rw [e]
      clear e hh
      go_enter Try.func43, Try.ntmps43
      go_wp2
      go_ret
      exact ⟨rfl, rfl⟩
    · by_cases c3 : t = 0
      · have e : way n f t s = false := by rw [← Bool.not_eq_true, way_iff]; omega
        rw [e]
        clear e hh
        subst c3
        go_enter Try.func43, Try.ntmps43
        go_wp2
        go_ret
        exact ⟨rfl, rfl⟩
      · have e3 : ((t : Int) == 0) = false := by rw [beq_eq_false_iff_ne]; omega
        by_cases c4 : s < 64
        · have e : way n f t s = false := by rw [← Bool.not_eq_true, way_iff]; omega
          rw [e]
          clear e hh
          go_enter Try.func43, Try.ntmps43
          go_wp2
          go_ret
          exact ⟨rfl, rfl⟩
        · by_cases c5 : 1518 < s
          · have e : way n f t s = false := by rw [← Bool.not_eq_true, way_iff]; omega
            rw [e]
            clear e hh
            go_enter Try.func43, Try.ntmps43
            go_wp2
            go_ret
            exact ⟨rfl, rfl⟩
          · have e : way n f t s = (decide (t < 2 ^ n) && !CrewW.has t f) := by
              unfold way
              rw [btw_iff.2 ⟨by omega, by omega⟩, btw_iff.2 ⟨by omega, by omega⟩, Int.toNat_natCast]
              simp [c3]
            rw [e]
            clear e hh
            generalize CrewW.has t f = b at *
            generalize hq : (decide (t < 2 ^ n) && !b) = q
            have HQ := Lib.hid hq
            clear hq
            have HW := Lib.hid (show ∀ k, k < n → (2 : Nat) ^ (k + 1) = 2 ^ k * 2 ∧ 2 ^ k ≤ 64 from fun k hk => ⟨Nat.pow_succ 2 k, two_le (by have := HK.out; omega)⟩)
            go_enter Try.func43, Try.ntmps43
            go_wp2
            go_loopw [9, 10] (fun bv iv wr => ∃ (k : Nat), k ≤ n ∧ iv = .int .i64 k ∧ bv = .int .u32 ((2 ^ k : Nat) : Int) ∧ wr = w) (fun _ iv _ => n - (intOf iv).toNat)
            case atStart => exact ⟨0, Nat.zero_le _, rfl, rfl, rfl⟩
            case round =>
              obtain ⟨k, hk, rfl, rfl, rfl⟩ := hrel
              have hk6 := HK.out.2
              by_cases hlt : (k : Int) < (n : Int)
              · have HP := Lib.hid (HW.out k (by omega))
                generalize hz : (2 : Nat) ^ k = z at *
                have hz64 := HP.out.2
                go_wp2
                go_roundw
                case rel => exact ⟨k + 1, by omega, by go_num, by rw [HP.out.1]; go_num, trivial⟩
                case measure => simp [intOf]; omega
              · obtain rfl : k = n := by omega
                generalize hz : (2 : Nat) ^ k = z at *
                by_cases hl : (t : Int) < (z : Int)
                · have e5 : decide (t < z) = true := by rw [decide_eq_true_eq]; omega
                  have HQ2 := Lib.hid (show q = !b by rw [← HQ.out, e5]; rfl)
                  go_wp2_with fail
                  refine (H3 _).mono ?_
                  rintro r w9 ⟨rfl, hw⟩
                  obtain rfl := hw.symm
                  go_wp2
                  go_ret
                  exact ⟨by rw [HQ2.out]; rfl, rfl⟩
                · have e5 : decide (t < z) = false := by rw [decide_eq_false_iff_not]; omega
                  have HQ2 := Lib.hid (show q = false by rw [← HQ.out, e5]; rfl)
                  go_wp2
                  go_ret
                  exact ⟨by rw [HQ2.out]; rfl, rfl⟩
theorem meet_any (a x b y : Int) (w : World) (h1 : IntKind.i64.wrap (a + x) = a + x) (h2 : IntKind.i64.wrap (b + y) = b + y) :
    Calls Try.prog 61 #[.int .i64 a, .int .i64 x, .int .i64 b, .int .i64 y] w fun r w' => r = .returned (.bool (decide (b < a + x) && decide (a < b + y))) ∧ w' = w := by
  by_cases k1 : b < a + x
  · by_cases k2 : a < b + y
    · have e : (decide (b < a + x) && decide (a < b + y)) = true := by simp [k1, k2]
      rw [e]
      clear e
      have n1 : ¬ a + x ≤ b := by omega
      have n2 : ¬ b + y ≤ a := by omega
      go_enter Try.func61, Try.ntmps61
      go_wp2
      go_ret
      exact ⟨rfl, rfl⟩
    · have e : (decide (b < a + x) && decide (a < b + y)) = false := by simp [k1, k2]
      rw [e]
      clear e
      have n1 : ¬ a + x ≤ b := by omega
      have n2 : b + y ≤ a := by omega
      go_enter Try.func61, Try.ntmps61
      go_wp2
      go_ret
      exact ⟨rfl, rfl⟩
  · have e : (decide (b < a + x) && decide (a < b + y)) = false := by simp [k1]
    rw [e]
    clear e
    have n1 : a + x ≤ b := by omega
    go_enter Try.func61, Try.ntmps61
    go_wp2
    go_ret
    exact ⟨rfl, rfl⟩
set_option maxHeartbeats 1000000 in
theorem refQuiet_any (c : Cfg) (D E L : Option Addr) (nd cd ne ce nl cl : Nat) (w : World) : Calls Try.prog 60 #[.agg #[.int .i64 c.hosts, .int .i64 c.cycle, .int .i64 c.delay, .int .i64 c.window, .int .i64 c.precision, .slice D nd cd, .slice E ne ce, .slice L nl cl, .int .i64 c.queue]] w fun r w' => r = .returned (.int .i64 (quiet c)) ∧ Below w.heap.size w w' := by
  have H1 := fun W => refSpans_any c D E L nd cd ne ce nl cl W
  cases hs : spans c
  · have e : quiet c = 0 := by unfold quiet; rw [hs]; rfl
    rw [e]
    rw [hs] at H1
    clear e hs
    go_enter Try.func60, Try.ntmps60
    go_wp2_with fail
    refine (H1 _).mono ?_
    rintro r w1 ⟨rfl, hb⟩
    obtain ⟨X, -⟩ := (CX.start.next hb).s
    clear hb
    go_wp2
    go_ret
    exact ⟨rfl, X.out.b⟩
  · have e : quiet c = c.delay + c.delay + c.window + 4 * c.precision := by unfold quiet; rw [hs]; simp only [if_true]; omega
    rw [e]
    rw [hs] at H1
    obtain ⟨g1, g2, g3⟩ := spansT_iff.1 (spans_iff.1 hs).2
    have k1 : IntKind.i64.wrap (c.delay + c.delay) = c.delay + c.delay := i64_id (by omega) (by omega)
    have k2 : IntKind.i64.wrap (c.delay + c.delay + c.window) = c.delay + c.delay + c.window := i64_id (by omega) (by omega)
    have k3 : IntKind.i64.wrap (4 * c.precision) = 4 * c.precision := i64_id (by omega) (by omega)
    have k4 : IntKind.i64.wrap (c.delay + c.delay + c.window + 4 * c.precision) = c.delay + c.delay + c.window + 4 * c.precision := i64_id (by omega) (by omega)
    clear e hs g1 g2 g3
    go_enter Try.func60, Try.ntmps60
    go_wp2_with fail
    refine (H1 _).mono ?_
    rintro r w1 ⟨rfl, hb⟩
    obtain ⟨X, a0, a1, a2, a3, a4, a5, a6, a7, a8⟩ := (CX.start.next hb).s
    clear hb
    go_wp2
    go_ret
    exact ⟨rfl, X.out.b⟩
theorem third_new (w : World) (o1 o2 o3 : Obj) : (((w.alloc o1).alloc o2).alloc o3).heap[w.heap.size + 1 + 1]? = some o3 := by
  have h := heap_alloc_new ((w.alloc o1).alloc o2) o3
  rwa [show ((w.alloc o1).alloc o2).heap.size = w.heap.size + 1 + 1 by simp] at h
theorem results_five {fn : Func} {p : Tmp} (h : fn.results = #[.cell p 47]) (tmps : Array Value) (w : World) (g : Nat) (t : TypeId) (x1 x2 x3 x4 x5 : Value) (fr : Nat × Nat)
    (hp : tmps.getD p undef = .pointer (some ⟨g, 0, none⟩)) (hg : w.heap[g]? = some (.cells #[x1, x2, x3, x4, x5] t fr)) :
    (results fn tmps).run Try.prog w = .ok (.agg #[x1, x2, x3, x4, x5]) w := by
  have hp' : tmps[p]?.getD undef = .pointer (some ⟨g, 0, none⟩) := by simpa using hp
  simp [results, h, hp', asAddr, run_loadVar_row w g t 47 #[x1, x2, x3, x4, x5] fr _ hg Try.underlying47 rfl (by kernel_rfl)]
theorem ret_five {fn : Func} {R : Ending → World → Prop} {p : Tmp} (h : fn.results = #[.cell p 47]) {tmps : Array Value} {w : World} {g : Nat} {x1 x2 x3 x4 x5 : Value} {t : TypeId} {fr : Nat × Nat}
    (hp : tmps.getD p undef = .pointer (some ⟨g, 0, none⟩)) (hg : w.heap[g]? = some (.cells #[x1, x2, x3, x4, x5] t fr)) (hR : R (.returned (.agg #[x1, x2, x3, x4, x5])) w) :
    bodyPost Try.prog fn R .ret { tmps := tmps, defers := [] } w :=
  bodyPost_ret (results_five h tmps w g t x1 x2 x3 x4 x5 fr hp hg) rfl hR
/-- An entry's five times. -/
def tms (c : Cfg) (e : R4) : Value := .agg #[.int .i64 (e.c + tim e.d - c.precision), .int .i64 (e.c + tim e.d + c.delay + c.precision), .int .i64 (e.c + tim e.d + c.delay + c.precision + c.precision),
  .int .i64 (e.c + tim e.d + c.delay + c.precision + c.precision + tim e.d - c.precision), .int .i64 (e.c + tim e.d + c.delay + c.precision + c.precision + tim e.d + c.delay + c.precision)]
set_option maxHeartbeats 1000000 in
theorem times_any (c : Cfg) (D E L : Option Addr) (nd cd ne ce nl cl : Nat) (e : R4) (w : World) (hs : spans c = true) (hp : -1125899906842624 ≤ e.c ∧ e.c ≤ 1125899906842624) :
    Calls Try.prog 25 #[.agg #[.int .i64 c.hosts, .int .i64 c.cycle, .int .i64 c.delay, .int .i64 c.window, .int .i64 c.precision, .slice D nd cd, .slice E ne ce, .slice L nl cl, .int .i64 c.queue], .agg #[.int .i64 e.a, .int .u32 e.b, .int .i64 e.c, .int .i64 e.d]] w fun r w' => r = .returned (tms c e) ∧ Below w.heap.size w w' := by
  have H1 := fun W => refTime_any e.d W
  have ht := tim_pos e.d
  obtain ⟨g1, g2, g3⟩ := spansT_iff.1 (spans_iff.1 hs).2
  unfold tms
  generalize tim e.d = t at *
  have k1 : IntKind.i64.wrap (e.c + t) = e.c + t := i64_id (by omega) (by omega)
  have k2 : IntKind.i64.wrap (e.c + t + c.delay) = e.c + t + c.delay := i64_id (by omega) (by omega)
  have k3 : IntKind.i64.wrap (e.c + t + c.delay + c.precision) = e.c + t + c.delay + c.precision := i64_id (by omega) (by omega)
  have k4 : IntKind.i64.wrap (e.c + t + c.delay + c.precision + c.precision) = e.c + t + c.delay + c.precision + c.precision := i64_id (by omega) (by omega)
  have k5 : IntKind.i64.wrap (e.c + t - c.precision) = e.c + t - c.precision := i64_id (by omega) (by omega)
  have k6 : IntKind.i64.wrap (e.c + t + c.delay + c.precision + c.precision + t) = e.c + t + c.delay + c.precision + c.precision + t := i64_id (by omega) (by omega)
  have k7 : IntKind.i64.wrap (e.c + t + c.delay + c.precision + c.precision + t - c.precision) = e.c + t + c.delay + c.precision + c.precision + t - c.precision := i64_id (by omega) (by omega)
  have k8 : IntKind.i64.wrap (e.c + t + c.delay + c.precision + c.precision + t + c.delay) = e.c + t + c.delay + c.precision + c.precision + t + c.delay := i64_id (by omega) (by omega)
  have k9 : IntKind.i64.wrap (e.c + t + c.delay + c.precision + c.precision + t + c.delay + c.precision) = e.c + t + c.delay + c.precision + c.precision + t + c.delay + c.precision := i64_id (by omega) (by omega)
  clear hs hp ht g1 g2 g3
  go_enter Try.func25, Try.ntmps25
  go_wp2_with fail
  refine (H1 _).mono ?_
  rintro r w9 ⟨rfl, hw⟩
  obtain rfl := hw.symm
  go_wp2
  refine ret_five rfl rfl (third_new _ _ _ _) ⟨rfl, ?_⟩
  exact al (al (al (Below.refl _ _) _) _) _
end Go.Proofs.Ytdaoemjkefpmcaa.ConfW

