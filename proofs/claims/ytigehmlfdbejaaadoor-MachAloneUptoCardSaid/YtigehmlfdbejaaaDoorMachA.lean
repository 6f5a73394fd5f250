/- Package mach's small functions: machines compared; isHost, syncedWith, missed, Stronger; the document's own Stronger. -/
import Derived.Test.YtigehmlfdbejaaaDoorMachP
import Derived.Test.YtigehmlfdbejaaaDoorCrewC
import Derived.Test.YtigehmlfdbejaaaDoorSmall
import Derived.Laws.StructEq
namespace Go.Proofs.YtigehmlfdbejaaaDoor.MachW
open Go.RowKit Shell
open CrewW (mem fst count_any first_any Tz refMembers_any mem_len only u32_bound)
/-- A machine as a value. -/
abbrev mv (a : Mc) : Value := .agg #[.int .i64 a.s, .int .u32 (a.c : Int), .int .i64 a.m, .int .i64 a.x]
/-- A machine in a box. -/
abbrev mb (a : Mc) : Obj := .cells #[.int .i64 a.s, .int .u32 (a.c : Int), .int .i64 a.m, .int .i64 a.x] 36 (0, 0)
abbrev ev (k : Int) (e : Nat) : Value := .agg #[.int .i64 k, .int .u32 (e : Int)]
theorem guardM : Tryd.prog.eqGuardType Tryd.prog.depth 36 = false := by kernel_rfl
theorem guardR : Tryd.prog.eqGuardType Tryd.prog.depth 30 = false := by kernel_rfl
set_option maxRecDepth 100000 in
theorem eql_mach (s c m x s' c' m' x' : Int) (w : World) : (binOp .eql 36 (.agg #[.int .i64 s, .int .u32 c, .int .i64 m, .int .i64 x]) (.agg #[.int .i64 s', .int .u32 c', .int .i64 m', .int .i64 x'])).run Tryd.prog w = .ok (.bool (decide (s = s' ∧ c = c' ∧ m = m' ∧ x = x'))) w := by
  have u3 := Tryd.underlying3
  have u4 := Tryd.underlying28
  have a3 := Tryd.isAgg3
  have z3 := Tryd.sizeOf3
  have a4 := Tryd.isAgg28
  have z4 := Tryd.sizeOf28
  have hS : Tryd.prog.underlying 36 = some (.struct (Tryd.prog.fieldsOf 36)) := by kernel_rfl
  have hp : Tryd.prog.stoodInHeld 36 = false := by kernel_rfl
  rw [run_eql_struct, show (10000 : Nat) = 9999 + 1 from rfl, run_equalIn_agg w 9999 36 _ _ hS hp]
  simp only [Program.fieldsOf, Tryd.underlying36]
  by_cases h1 : s = s'
  · by_cases h2 : c = c'
    · by_cases h3 : m = m'
      · by_cases h4 : x = x'
        · subst h1 h2 h3 h4; go_simp
        · subst h1 h2 h3; go_simp
      · subst h1 h2; go_simp
    · subst h1; go_simp
  · go_simp
set_option maxRecDepth 100000 in
theorem neq_mach (s c m x s' c' m' x' : Int) (w : World) : (binOp .neq 36 (.agg #[.int .i64 s, .int .u32 c, .int .i64 m, .int .i64 x]) (.agg #[.int .i64 s', .int .u32 c', .int .i64 m', .int .i64 x'])).run Tryd.prog w = .ok (.bool (!decide (s = s' ∧ c = c' ∧ m = m' ∧ x = x'))) w := by
  have u3 := Tryd.underlying3
  have u4 := Tryd.underlying28
  have a3 := Tryd.isAgg3
  have z3 := Tryd.sizeOf3
  have a4 := Tryd.isAgg28
  have z4 := Tryd.sizeOf28
  have hS : Tryd.prog.underlying 36 = some (.struct (Tryd.prog.fieldsOf 36)) := by kernel_rfl
  have hp : Tryd.prog.stoodInHeld 36 = false := by kernel_rfl
  rw [run_neq_struct, show (10000 : Nat) = 9999 + 1 from rfl, run_equalIn_agg w 9999 36 _ _ hS hp]
  simp only [Program.fieldsOf, Tryd.underlying36]
  by_cases h1 : s = s'
  · by_cases h2 : c = c'
    · by_cases h3 : m = m'
      · by_cases h4 : x = x'
        · subst h1 h2 h3 h4; go_simp
        · subst h1 h2 h3; go_simp
      · subst h1 h2; go_simp
    · subst h1; go_simp
  · go_simp
set_option maxRecDepth 100000 in
theorem neq_ref (s c m x s' c' m' x' : Int) (w : World) : (binOp .neq 30 (.agg #[.int .i64 s, .int .u32 c, .int .i64 m, .int .i64 x]) (.agg #[.int .i64 s', .int .u32 c', .int .i64 m', .int .i64 x'])).run Tryd.prog w = .ok (.bool (!decide (s = s' ∧ c = c' ∧ m = m' ∧ x = x'))) w := by
  have u3 := Tryd.underlying3
  have u4 := Tryd.underlying28
  have a3 := Tryd.isAgg3
  have z3 := Tryd.sizeOf3
  have a4 := Tryd.isAgg28
  have z4 := Tryd.sizeOf28
  have hS : Tryd.prog.underlying 30 = some (.struct (Tryd.prog.fieldsOf 30)) := by kernel_rfl
  have hp : Tryd.prog.stoodInHeld 30 = false := by kernel_rfl
  rw [run_neq_struct, show (10000 : Nat) = 9999 + 1 from rfl, run_equalIn_agg w 9999 30 _ _ hS hp]
  simp only [Program.fieldsOf, Tryd.underlying30]
  by_cases h1 : s = s'
  · by_cases h2 : c = c'
    · by_cases h3 : m = m'
      · by_cases h4 : x = x'
        · subst h1 h2 h3 h4; go_simp
        · subst h1 h2 h3; go_simp
      · subst h1 h2; go_simp
    · subst h1; go_simp
  · go_simp
set_option maxHeartbeats 1000000 in
theorem isHost_any (h : Int) (w : World) : Calls Tryd.prog 18 #[.int .i64 h] w fun e w' => e = .returned (.bool (hostB h)) ∧ w' = w := by
  unfold hostB
  by_cases h0 : 0 ≤ h
  · rw [decide_eq_true h0, Bool.true_and]
    go_enter Tryd.func18, Tryd.ntmps18
    go_wp2
    go_ret
    exact ⟨rfl, rfl⟩
  · rw [decide_eq_false h0, Bool.false_and]
    go_enter Tryd.func18, Tryd.ntmps18
    go_wp2
    go_ret
    exact ⟨rfl, rfl⟩
theorem results_mach {fn : Func} {p : Tmp} (h : fn.results = #[.cell p 36]) (tmps : Array Value) (w : World) (g : Nat) (t : TypeId) (x1 x2 x3 x4 : Value) (fr : Nat × Nat)
    (hp : tmps.getD p undef = .pointer (some ⟨g, 0, none⟩)) (hg : w.heap[g]? = some (.cells #[x1, x2, x3, x4] t fr)) :
    (results fn tmps).run Tryd.prog w = .ok (.agg #[x1, x2, x3, x4]) w := by
  have hp' : tmps[p]?.getD undef = .pointer (some ⟨g, 0, none⟩) := by simpa using hp
  simp [results, h, hp', asAddr, run_loadVar_row w g t 36 #[x1, x2, x3, x4] fr _ hg Tryd.underlying36 rfl (by kernel_rfl)]
theorem ret_mach {fn : Func} {R : Ending → World → Prop} {p : Tmp} (h : fn.results = #[.cell p 36]) {tmps : Array Value} {w : World} {g : Nat} {x1 x2 x3 x4 : Value} {t : TypeId} {fr : Nat × Nat}
    (hp : tmps.getD p undef = .pointer (some ⟨g, 0, none⟩)) (hg : w.heap[g]? = some (.cells #[x1, x2, x3, x4] t fr)) (hR : R (.returned (.agg #[x1, x2, x3, x4])) w) :
    bodyPost Tryd.prog fn R .ret { tmps := tmps, defers := [] } w :=
  bodyPost_ret (results_mach h tmps w g t x1 x2 x3 x4 fr hp hg) rfl hR
set_option maxHeartbeats 1000000 in
theorem synced_any (c : Nat) (w : World) (hc : c < 4294967296) : Calls Tryd.prog 21 #[.int .u32 (c : Int)] w fun e w' => e = .returned (mv ⟨3, c % 64, 0, 0⟩) ∧ Below w.heap.size w w' := by
  have HB := Lib.hid (u32_and_nat c 63 hc (by decide))
  rw [CrewW.and63 c] at HB
  go_enter Tryd.func21, Tryd.ntmps21
  go_wp2
  rw [show bits .and .u32 (c : Int) 63 = ((c % 64 : Nat) : Int) from HB.out]
  exact ret_mach rfl rfl (heap_at rfl _) ⟨rfl, al (Below.refl _ _) _⟩
set_option maxHeartbeats 1000000 in
theorem missed_any (a : Mc) (w : World) (hm : a.m = 0) : Calls Tryd.prog 23 #[mv a] w fun e w' => e = .returned (mv ⟨a.s, a.c, 1, a.x⟩) ∧ Below w.heap.size w w' := by
  obtain ⟨s, c, m, x⟩ := a
  obtain rfl : m = 0 := hm
  go_enter Tryd.func23, Tryd.ntmps23
  go_wp2
  exact ret_mach rfl rfl (heap_at (by simp) _) ⟨rfl, al (al (Below.refl _ _) _) _⟩
set_option maxHeartbeats 1000000 in
theorem stronger_any (a b : Nat) (w : World) (ha : a < 4294967296) (hb : b < 4294967296) (hT : Tz w) : Calls Tryd.prog 17 #[.int .u32 (a : Int), .int .u32 (b : Int)] w fun e w' => e = .returned (.bool (str a b)) ∧ Below w.heap.size w w' := by
  have HT := Lib.hid hT
  have A := Lib.hid (fun W => count_any a W ha)
  have B := Lib.hid (fun W => count_any b W hb)
  have FA := Lib.hid (fun W k => first_any a W ha k)
  have FB := Lib.hid (fun W k => first_any b W hb k)
  unfold str
  generalize (mem a).length = m at *
  generalize (mem b).length = n at *
  generalize fst a = p at *
  generalize fst b = q at *
  clear ha hb hT
  by_cases he : m = n
  · subst he
    rw [show decide (m < m) = false by simp, Bool.false_or, decide_eq_true rfl, Bool.true_and]
    go_enter Tryd.func17, Tryd.ntmps17
    go_wp2_with fail
    refine (A.out _).mono ?_
    rintro e w1 ⟨rfl, b1⟩
    have B1 := Lib.hid b1
    clear b1
    go_wp2_with fail
    refine (B.out _).mono ?_
    rintro e w2 ⟨rfl, b2⟩
    have B2 := Lib.hid (B1.out.trans (b2.mono B1.out.size))
    clear b2
    go_wp2_with fail
    refine (FA.out _ (HT.out.below B2.out)).mono ?_
    rintro e w9 ⟨rfl, hw⟩
    obtain rfl := hw.symm
    go_wp2_with fail
    refine (FB.out _ (HT.out.below B2.out)).mono ?_
    rintro e w9 ⟨rfl, hw⟩
    obtain rfl := hw.symm
    go_wp2
    go_ret
    exact ⟨rfl, B2.out⟩
  · have hne : ((m : Int) != (n : Int)) = true := by rw [bne_iff_ne]; omega
    have hd : decide ((n : Int) < (m : Int)) = decide (n < m) := by simp
    rw [show decide (m = n) = false by simp [he], Bool.false_and, Bool.or_false, ← hd]
    clear hd he
    go_enter Tryd.func17, Tryd.ntmps17
    go_wp2_with fail
    refine (A.out _).mono ?_
    rintro e w1 ⟨rfl, b1⟩
    have B1 := Lib.hid b1
    clear b1
    go_wp2_with fail
    refine (B.out _).mono ?_
    rintro e w2 ⟨rfl, b2⟩
    have B2 := Lib.hid (B1.out.trans (b2.mono B1.out.size))
    clear b2
    go_wp2
    go_ret
    exact ⟨by simp, B2.out⟩
theorem add_0 (a : Addr) : a.add 0 = a := by
  unfold Addr.add
  split <;> simp_all
set_option maxHeartbeats 1000000 in
theorem refStronger_any (a b : Nat) (w : World) (ha : a < 4294967296) (hb : b < 4294967296) : Calls Tryd.prog 15 #[.int .u32 (a : Int), .int .u32 (b : Int)] w fun e w' => e = .returned (.bool (str a b)) ∧ Below w.heap.size w w' := by
  have A := Lib.hid (fun W => refMembers_any a W ha)
  have B := Lib.hid (fun W => refMembers_any b W hb)
  have FA := fst_pos (c := a)
  have FB := fst_pos (c := b)
  have FA0 := fst_zero (c := a)
  have FB0 := fst_zero (c := b)
  unfold str
  generalize fst a = p at *
  generalize fst b = q at *
  generalize mem a = l at *
  generalize mem b = k at *
  obtain ⟨m, hm⟩ : ∃ m, m = l.length := ⟨_, rfl⟩
  obtain ⟨n, hn⟩ : ∃ n, n = k.length := ⟨_, rfl⟩
  rw [← hm] at FA FA0
  rw [← hn] at FB FB0
  rw [← hm, ← hn]
  have HM := Lib.hid hm
  have HN := Lib.hid hn
  clear ha hb hm hn
  by_cases he : m = n
  · subst he
    rw [show decide (m < m) = false by simp, Bool.false_or, decide_eq_true rfl, Bool.true_and]
    by_cases h0 : m = 0
    · subst h0
      rw [FA0 rfl, FB0 rfl, show decide ((-1 : Int) < -1) = false by decide]
      clear FA FB FA0 FB0
      go_enter Tryd.func15, Tryd.ntmps15
      go_wp2_with fail
      refine (A.out _).mono ?_
      rintro e w1 ⟨v1, rfl, o1, b1⟩
      obtain ⟨A1, d1, rfl, hcl, -⟩ := o1.form
      rw [← HM.out]
      have B1 := Lib.hid b1
      clear b1 o1 hcl
      go_wp2_with fail
      refine (B.out _).mono ?_
      rintro e w2 ⟨v2, rfl, o2, b2⟩
      obtain ⟨A2, d2, rfl, hcl, -⟩ := o2.form
      rw [← HN.out]
      have B2 := Lib.hid (B1.out.trans (b2.mono B1.out.size))
      clear b2 o2 hcl
      go_wp2
      go_region
      go_wp2
      go_ret
      exact ⟨rfl, B2.out.drew⟩
    · have FA2 := Lib.hid (FA (by omega))
      have FB2 := Lib.hid (FB (by omega))
      have h0' : (0 : Int) < (m : Int) := by omega
      have h0'' : 0 < m := by omega
      clear FA FB FA0 FB0
      go_enter Tryd.func15, Tryd.ntmps15
      go_wp2_with fail
      refine (A.out _).mono ?_
      rintro e w1 ⟨v1, rfl, o1, b1⟩
      obtain ⟨A1, d1, rfl, hcl, -⟩ := o1.form
      rw [← HM.out]
      have B1 := Lib.hid b1
      have C1 := Lib.hid hcl
      clear b1 o1 hcl
      go_wp2_with fail
      refine (B.out _).mono ?_
      rintro e w2 ⟨v2, rfl, o2, b2⟩
      obtain ⟨A2, d2, rfl, hcl, -⟩ := o2.form
      rw [← HN.out]
      have B2 := Lib.hid (B1.out.trans (b2.mono B1.out.size))
      have C2 := Lib.hid hcl
      have C3 := Lib.hid (C1.out.below b2)
      clear b2 o2 hcl
      obtain ⟨ad1, rfl, hc1, -⟩ := C3.out 0 p FA2.out
      obtain ⟨ad2, rfl, hc2, -⟩ := C2.out 0 q FB2.out
      rw [add_0] at hc1 hc2
      have k1 : w2.drew.cell? ad1 = some (.int .i64 p) := hc1
      have k2 : w2.drew.cell? ad2 = some (.int .i64 q) := hc2
      go_wp2
      go_region
      go_wp2
      go_ret
      exact ⟨rfl, B2.out.drew⟩
  · have hne : ((m : Int) != (n : Int)) = true := by rw [bne_iff_ne]; omega
    have hd : decide ((n : Int) < (m : Int)) = decide (n < m) := by simp
    rw [show decide (m = n) = false by simp [he], Bool.false_and, Bool.or_false, ← hd]
    clear hd he FA FB FA0 FB0
    go_enter Tryd.func15, Tryd.ntmps15
    go_wp2_with fail
    refine (A.out _).mono ?_
    rintro e w1 ⟨v1, rfl, o1, b1⟩
    obtain ⟨A1, d1, rfl, hcl, -⟩ := o1.form
    rw [← HM.out]
    have B1 := Lib.hid b1
    clear b1 o1 hcl
    go_wp2_with fail
    refine (B.out _).mono ?_
    rintro e w2 ⟨v2, rfl, o2, b2⟩
    obtain ⟨A2, d2, rfl, hcl, -⟩ := o2.form
    rw [← HN.out]
    have B2 := Lib.hid (B1.out.trans (b2.mono B1.out.size))
    clear b2 o2 hcl
    go_wp2
    go_ret
    exact ⟨by simp, B2.out⟩
end Go.Proofs.YtigehmlfdbejaaaDoor.MachW
