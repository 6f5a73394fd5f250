/- What PlanLands takes beside package plan: how far a frame is off. -/
import Derived.Test.YtdaoemjkefpmcaaPlanFixed
import Derived.Test.YtdaoemjkefpmcaaPlanF
import Derived.Shelf.Abstract
namespace Go.Proofs.Ytdaoemjkefpmcaa.PlanW
open Go.RowKit Shell
open ConfW (Cfg R4 CM chk tim)
/-- A number within 0 and most. -/
def wv (n most : Int) : Int := (n % 4294967296) % (most + 1)
theorem wv_in (n : Int) {most : Int} (h : 0 ≤ most) : 0 ≤ wv n most ∧ wv n most ≤ most := by
  unfold wv
  have h1 := Int.emod_nonneg (n % 4294967296) (show most + 1 ≠ 0 by omega)
  have h2 := Int.emod_lt_of_pos (n % 4294967296) (show 0 < most + 1 by omega)
  omega
theorem ent_within : ∀ (args : Array Value) (w : World), Sem.run Try.prog (callFunc 23 args) w = .ok (.enter 23 args) w := enters_of Try.func23 (by kernel_rfl) rfl
theorem ent_skew : ∀ (args : Array Value) (w : World), Sem.run Try.prog (callFunc 24 args) w = .ok (.enter 24 args) w := enters_of Try.func24 (by kernel_rfl) rfl
theorem within_any (n most : Int) (w : World) (h0 : 0 ≤ most) (h1 : most ≤ 4294967296) : Calls Try.prog 23 #[.int .i32 n, .int .i64 most] w fun r w' => r = .returned (.int .i64 (wv n most)) ∧ w = w' := by
  have hv := wv_in n h0
  have hdef : wv n most = (n % 4294967296) % (most + 1) := rfl
  generalize wv n most = v at *
  obtain ⟨u, hu⟩ : ∃ u, n % 4294967296 = u := ⟨_, rfl⟩
  obtain ⟨m1, hm1⟩ : ∃ m1, most + 1 = m1 := ⟨_, rfl⟩
  rw [hu, hm1] at hdef
  have hub : 0 ≤ u ∧ u < 4294967296 := by omega
  have t1 : Int.tmod u m1 = v := by rw [Int.tmod_eq_emod_of_nonneg hub.1]; exact hdef.symm
  have t2 : u % m1 = v := hdef.symm
  have k1 : IntKind.u32.wrap n = u := by rw [IntKind.wrap_u32]; exact hu
  have k2 : IntKind.u64.wrap u = u := by rw [IntKind.wrap_u64]; omega
  have k3 : IntKind.i64.wrap (most + 1) = m1 := by rw [IntKind.wrap_i64]; omega
  have k4 : wrap64 (most + 1) = m1 := by unfold wrap64; omega
  have k5 : IntKind.u64.wrap m1 = m1 := by rw [IntKind.wrap_u64]; omega
  have k6 : IntKind.u64.wrap v = v := by rw [IntKind.wrap_u64]; omega
  have k7 : IntKind.i64.wrap v = v := by rw [IntKind.wrap_i64]; omega
  have k8 : wrap64 v = v := by unfold wrap64; omega
  have nz : ¬ m1 = 0 := by omega
  clear hv hdef hu hm1 hub h0 h1
  go_enter Try.func23, Try.ntmps23
  go_wp2
  go_ret
  exact ⟨rfl, rfl⟩
end Go.Proofs.Ytdaoemjkefpmcaa.PlanW
