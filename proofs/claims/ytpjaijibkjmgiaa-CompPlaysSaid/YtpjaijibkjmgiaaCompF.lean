/- Add, where it refuses. -/
import Derived.Test.YtpjaijibkjmgiaaCompB
import Derived.Deep.RegionLaw
import Derived.Deep.RegionHeld3
namespace Go.Proofs.Ytpjaijibkjmgiaa.CompW
open Go.RowKit Shell
open CrewW (only has of has_any of_any mem mem_len memTo_range members_any)
open FrameW (CV rightC)
theorem add_nil (t k f y c l : Int) (w : World) : Calls Try.prog 11 #[.pointer none, .int .i64 t, CV k f y c l] w fun e w' => e = .returned (.tuple #[.int .i64 0, .int .i64 1]) ∧ Below w.heap.size w w' := by
  go_enter Try.func11, Try.ntmps11
  go_wp2
  go_ret2
  exact ⟨rfl, al (Below.refl _ _) _⟩
set_option maxHeartbeats 1000000 in
theorem add_arg (a : Addr) (t k f y c l : Int) (hc : 0 ≤ c) (h : okL t = false ∨ okH k f y c l = false) (w : World) : Calls Try.prog 11 #[.pointer (some a), .int .i64 t, CV k f y c l] w fun e w' => e = .returned (.tuple #[.int .i64 0, .int .i64 1]) ∧ Below w.heap.size w w' := by
  have X0 := Lib.hid (heap_alloc_new w (cb k f y c l))
  cases ht : okL t with
  | false =>
    clear h
    go_enter Try.func11, Try.ntmps11
    go_wp2_with (go_at_call 20; refine (isLocal_any _ _).mono ?_; rintro e w' ⟨rfl, hw⟩; obtain rfl := hw.symm; rw [ht])
    go_ret2
    exact ⟨rfl, al (Below.refl _ _) _⟩
  | true =>
    have hh : okH k f y c l = false := by rcases h with h | h
                                          · rw [ht] at h; cases h
                                          · exact h
    have HH := Lib.hid (fun W => isHosts_any k f y c l hc W)
    rw [hh] at HH
    clear h
    obtain ⟨d0, d1, d2, d3, d4⟩ := FrameW.cells5 X0.out
    go_enter Try.func11, Try.ntmps11
    go_wp2_with (first | (go_at_call 20; refine (isLocal_any _ _).mono ?_; rintro e w' ⟨rfl, hw⟩; obtain rfl := hw.symm; rw [ht]) | (go_at_call 21; refine (HH.out _).mono ?_; rintro e w1 ⟨rfl, b1⟩; have B1 := Lib.hid b1; clear b1))
    go_ret2
    exact ⟨rfl, (al (Below.refl _ _) _).trans (B1.out.mono (by simp))⟩
/-- A call at an open collection. -/
theorem add_low {w : World} {g : Nat} {d b : Int} {s : Nat} {R C : Nat → Int} (h : w.heap[g]? = some (pbx d b s R C)) (hs : s ≠ 0) (hb0 : -1125899906842624 ≤ b ∧ b ≤ 1125899906842624) (hd0 : 0 ≤ d ∧ d ≤ 1048576) (t k f y c l : Int) (hc : 0 ≤ c) (ht : okL t = true) (hh : okH k f y c l = true) (hr : t < b) :
    Calls Try.prog 11 #[.pointer (some ⟨g, 0, none⟩), .int .i64 t, CV k f y c l] w fun e w' => e = .returned (.tuple #[.int .i64 0, .int .i64 4]) ∧ Below w.heap.size w w' := by
  have e0 : decide (s ≠ 0) = true := decide_eq_true hs
  have HH := Lib.hid (fun W => isHosts_any k f y c l hc W)
  rw [hh] at HH
  have O := Lib.hid (fun W (hb : Below w.heap.size w W) => open_any (row_below hb h))
  rw [e0] at O
  have E := Lib.hid (fun W (hb : Below w.heap.size w W) => end_any (row_below hb h) hb0 hd0)
  have X := Lib.hid (((Stay.start w).add h).alloc (cb k f y c l))
  obtain ⟨d0, d1, d2, d3, d4⟩ := FrameW.cells5 (X.out.at 0 rfl)
  have e1 : IntKind.i64.wrap (b + d) = b + d := by rw [IntKind.wrap_i64]; omega
  clear hs hh e0
  go_enter Try.func11, Try.ntmps11
  go_wp2_with (first
    | (go_at_call 20; refine (isLocal_any _ _).mono ?_; rintro e w' ⟨rfl, hw⟩; obtain rfl := hw.symm; rw [ht])
    | (go_at_call 21; refine (HH.out _).mono ?_; rintro e w1 ⟨rfl, b1⟩; have X1 := Lib.hid (X.out.next b1); obtain ⟨a0, a1, a2, a3, a4, a5, a6, a7, a8, a9, a10, a11, a12, a13, a14⟩ := cells15 (X1.out.at 1 rfl); clear b1)
    | (go_at_call 16; refine (O.out _ X1.out.b).mono ?_; rintro e w' ⟨rfl, hw⟩; obtain rfl := hw.symm))
  go_ret2
  exact ⟨rfl, X1.out.b⟩
theorem add_high {w : World} {g : Nat} {d b : Int} {s : Nat} {R C : Nat → Int} (h : w.heap[g]? = some (pbx d b s R C)) (hs : s ≠ 0) (hb0 : -1125899906842624 ≤ b ∧ b ≤ 1125899906842624) (hd0 : 0 ≤ d ∧ d ≤ 1048576) (t k f y c l : Int) (hc : 0 ≤ c) (ht : okL t = true) (hh : okH k f y c l = true) (hr : ¬ t < b) (hr2 : b + d < t) :
    Calls Try.prog 11 #[.pointer (some ⟨g, 0, none⟩), .int .i64 t, CV k f y c l] w fun e w' => e = .returned (.tuple #[.int .i64 0, .int .i64 4]) ∧ Below w.heap.size w w' := by
  have e0 : decide (s ≠ 0) = true := decide_eq_true hs
  have HH := Lib.hid (fun W => isHosts_any k f y c l hc W)
  rw [hh] at HH
  have O := Lib.hid (fun W (hb : Below w.heap.size w W) => open_any (row_below hb h))
  rw [e0] at O
  have E := Lib.hid (fun W (hb : Below w.heap.size w W) => end_any (row_below hb h) hb0 hd0)
  have X := Lib.hid (((Stay.start w).add h).alloc (cb k f y c l))
  obtain ⟨d0, d1, d2, d3, d4⟩ := FrameW.cells5 (X.out.at 0 rfl)
  have e1 : IntKind.i64.wrap (b + d) = b + d := by rw [IntKind.wrap_i64]; omega
  clear hs hh e0
  go_enter Try.func11, Try.ntmps11
  go_wp2_with (first
    | (go_at_call 20; refine (isLocal_any _ _).mono ?_; rintro e w' ⟨rfl, hw⟩; obtain rfl := hw.symm; rw [ht])
    | (go_at_call 21; refine (HH.out _).mono ?_; rintro e w1 ⟨rfl, b1⟩; have X1 := Lib.hid (X.out.next b1); obtain ⟨a0, a1, a2, a3, a4, a5, a6, a7, a8, a9, a10, a11, a12, a13, a14⟩ := cells15 (X1.out.at 1 rfl); clear b1)
    | (go_at_call 16; refine (O.out _ X1.out.b).mono ?_; rintro e w' ⟨rfl, hw⟩; obtain rfl := hw.symm)
    | (go_at_call 22; refine (E.out _ X1.out.b).mono ?_; rintro e w2 ⟨rfl, b2⟩; have X2 := Lib.hid (X1.out.next b2); clear b2))
  go_ret2
  exact ⟨rfl, X2.out.b⟩
theorem add_there {w : World} {g : Nat} {d b : Int} {s : Nat} {R C : Nat → Int} (h : w.heap[g]? = some (pbx d b s R C)) (hs : s ≠ 0) (hs2 : s < 64) (hb0 : -1125899906842624 ≤ b ∧ b ≤ 1125899906842624) (hd0 : 0 ≤ d ∧ d ≤ 1048576) (t k f y c l : Int) (hc : 0 ≤ c) (ht : okL t = true) (hh : okH k f y c l = true) (hr : ¬ t < b) (hr2 : ¬ b + d < t) (hf : has s f = true) :
    Calls Try.prog 11 #[.pointer (some ⟨g, 0, none⟩), .int .i64 t, CV k f y c l] w fun e w' => e = .returned (.tuple #[.int .i64 0, .int .i64 7]) ∧ Below w.heap.size w w' := by
  have F := Lib.hid (fun W => has_any s f W (by omega))
  rw [hf] at F
  have e0 : decide (s ≠ 0) = true := decide_eq_true hs
  have HH := Lib.hid (fun W => isHosts_any k f y c l hc W)
  rw [hh] at HH
  have O := Lib.hid (fun W (hb : Below w.heap.size w W) => open_any (row_below hb h))
  rw [e0] at O
  have E := Lib.hid (fun W (hb : Below w.heap.size w W) => end_any (row_below hb h) hb0 hd0)
  have X := Lib.hid (((Stay.start w).add h).alloc (cb k f y c l))
  obtain ⟨d0, d1, d2, d3, d4⟩ := FrameW.cells5 (X.out.at 0 rfl)
  have e1 : IntKind.i64.wrap (b + d) = b + d := by rw [IntKind.wrap_i64]; omega
  clear hs hh e0
  go_enter Try.func11, Try.ntmps11
  go_upto_region 7 with (first
    | (go_at_call 20; refine (isLocal_any _ _).mono ?_; rintro e w' ⟨rfl, hw⟩; obtain rfl := hw.symm; rw [ht])
    | (go_at_call 21; refine (HH.out _).mono ?_; rintro e w1 ⟨rfl, b1⟩; have X1 := Lib.hid (X.out.next b1); obtain ⟨a0, a1, a2, a3, a4, a5, a6, a7, a8, a9, a10, a11, a12, a13, a14⟩ := cells15 (X1.out.at 1 rfl); clear b1)
    | (go_at_call 16; refine (O.out _ X1.out.b).mono ?_; rintro e w' ⟨rfl, hw⟩; obtain rfl := hw.symm)
    | (go_at_call 22; refine (E.out _ X1.out.b).mono ?_; rintro e w2 ⟨rfl, b2⟩; have X2 := Lib.hid (X1.out.next b2); clear b2))
  clear a0 a1 a2 a3 a4 a5 a6 a7 a8 a9 a10 a11 a12 a13 a14 d0 d1 d2 d3 d4
  obtain ⟨a0, a1, a2, a3, a4, a5, a6, a7, a8, a9, a10, a11, a12, a13, a14⟩ := cells15 (X2.out.at 1 rfl)
  obtain ⟨d0, d1, d2, d3, d4⟩ := FrameW.cells5 (X2.out.at 0 rfl)
  apply wp_one
  case h =>
    refine wp_region_noPanic ?_
    go_region_law (first | (go_at_call 23; refine (F.out _).mono ?_; rintro e w' ⟨rfl, hw⟩; obtain rfl := hw.symm) | (go_simp; go_at_call 23; refine (F.out _).mono ?_; rintro e w' ⟨rfl, hw⟩; obtain rfl := hw.symm))
    all_goals exact NoPanic.normal ⟨rfl, rfl, rfl⟩
  case hm =>
    go_wp2
    go_ret2
    exact ⟨rfl, X2.out.drew.b⟩
end Go.Proofs.Ytpjaijibkjmgiaa.CompW
