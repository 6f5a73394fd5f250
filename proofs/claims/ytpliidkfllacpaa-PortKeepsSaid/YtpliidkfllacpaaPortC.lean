/- slices.Delete of the head of a row of frames. -/
import Derived.Test.YtpliidkfllacpaaPortI
import Derived.Test.YtpliidkfllacpaaRowD
namespace Go.Proofs.Ytpliidkfllacpaa.PortW
open Go.RowKit Shell
theorem zeroD (w : World) : (zeroValue 30).run Try.prog w = .ok (dv zD) w := by kernel_rfl
theorem infoD : ∃ i, Try.prog.info? 30 = some i ∧ i.size = 5 := by
  obtain ⟨i0, z, h1, h2, h3, h4, h5⟩ := oneD.i
  exact ⟨i0, h1, h3⟩
set_option maxHeartbeats 4000000 in
theorem delete_any (g off cap : Nat) (L : List Da) (x : Da) (n : Nat) (w : World) (h : LA FD w g off cap (x :: L)) (hn : L.length = n) : Calls Try.prog 23 #[.slice (some ⟨g, off, none⟩) ((n + 1 : Nat)) cap, .int .i64 0, .int .i64 1] w fun r w' => r = .returned (.slice (some ⟨g, off, none⟩) n cap) ∧ LA FD w' g off cap L ∧ Kept g w w' := by
  have hc : n + 1 ≤ cap := by have := h.le; rw [List.length_cons, hn] at this; exact this
  have hm : cap ≤ 9223372036854775807 := by have := h.max; unfold maxLen at this; omega
  obtain ⟨i0, hi0, hz1⟩ := infoD
  obtain ⟨A, hA, hsrc⟩ : ∃ A : Addr, (if cap = 1 then (some ⟨g, off, none⟩ : Option Addr) else some ⟨g, off + 5, none⟩) = some A ∧ Hid (∀ t u, (FD.fl L)[t]? = some u → w.drew.cell? (A.add t) = some u) := by
    by_cases h1 : cap = 1
    · refine ⟨⟨g, off, none⟩, by simp [h1], fun t u hu => ?_⟩
      have h0 : L = [] := List.eq_nil_of_length_eq_zero (by omega)
      rw [h0] at hu
      simp [Flat.fl] at hu
    · refine ⟨⟨g, off + 5, none⟩, by simp [h1], fun t u hu => ?_⟩
      rw [Addr.add_lit]
      exact h.tail.holds t u hu
  have HS := Lib.hid (show (FD.fl L).length = n * 5 by rw [fl_len, hn]; rfl)
  have HO := Lib.hid (fl_one FD L)
  have HR := Lib.hid (show ∀ j, j < (FD.fl L).length → (w.drew.cell? ⟨g, off + 0 * 5 + j, none⟩).isSome = true ∧ w.drew.frozen? ⟨g, off + 0 * 5 + j, none⟩ = false by
    intro j hj
    rw [Nat.zero_mul, Nat.add_zero]
    rw [fl_len, hn] at hj
    have hf : FD.n = 5 := rfl
    exact h.there j (by rw [hf] at hj ⊢; omega))
  have KP : Hid (Kept g w (w.drew.setCells g off (FD.fl L))) := Lib.hid (kept_cells (Kept.of (Below.refl _ _).drew) _ _)
  have l1 : LA FD (w.drew.setCells g off (FD.fl L)) g off cap L := la_front (la_drew h)
  have hcl : ∀ ty, (Builtin.clear_ #[28] ty #[.slice (some ⟨g, off + n * 5, none⟩) 1 (cap - n)]).run Try.prog (w.drew.setCells g off (FD.fl L)) = .ok (.tuple #[]) ((w.drew.setCells g off (FD.fl L)).setCells g (off + n * 5) (FD.cs zD)) := fun ty =>
    run_clear_one _ _ 30 ty (dv zD) (FD.cs zD) Try.underlying28 zeroD rfl (FD.one zD) g (off + n * 5) (cap - n) (fun j hj => by
      have hj : j < 5 := hj
      have hf : FD.n = 5 := rfl
      rw [Nat.add_assoc]
      exact (l1.there (n * 5 + j) (by rw [hf]; omega)).1) (fun j hj => by
      have hj : j < 5 := hj
      have hf : FD.n = 5 := rfl
      rw [Nat.add_assoc]
      exact (l1.there (n * 5 + j) (by rw [hf]; omega)).2)
  have HE : Hid (LA FD ((w.drew.setCells g off (FD.fl L)).setCells g (off + n * 5) (FD.cs zD)) g off cap L) := Lib.hid (la_clear l1 hn (by have hf : FD.n = 5 := rfl; rw [hf]; omega) _ rfl)
  have HK : Hid (Kept g w ((w.drew.setCells g off (FD.fl L)).setCells g (off + n * 5) (FD.cs zD))) := Lib.hid (kept_cells KP.out _ _)
  have q1 : (1 : Int) ≤ (n : Int) + 1 := by omega
  clear h hn l1 KP
  go_enter Try.func23, Try.ntmps23
  go_wp2_with fail
  go_region_law (refine step_append_room rfl (.tmp 22) (.tmp 25) 28 rfl 30 i0 5 Try.underlying28 hi0 hz1 g off 0 cap (by simp [Act.eval, Act.put]) A n (cap - 1) (FD.fl L) (by simp [Act.eval, Act.put]) HS.out hsrc.out HO.out (by omega) HR.out ?_)
  go_wp2
  go_ret
  exact ⟨rfl, HE.out, HK.out⟩
end Go.Proofs.Ytpliidkfllacpaa.PortW
