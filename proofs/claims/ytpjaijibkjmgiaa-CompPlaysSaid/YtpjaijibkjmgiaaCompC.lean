/- What a collection is compressed to: its frames with a cycle, its cycle, its point. -/
import Derived.Test.YtpjaijibkjmgiaaCompA
import Derived.Test.YtpjaijibkjmgiaaCompM
namespace Go.Proofs.Ytpjaijibkjmgiaa.CompW
open Go.RowKit Shell
open CrewW (only has of has_any of_any mem mem_len memTo_range members_any)
open MeanW (halfAt tolK ansM ansM_some)
theorem count_take {l : List Int} {i : Nat} {x : Int} (h : l[i]? = some x) (y : Int) : (l.take (i + 1)).count y = (l.take i).count y + (if x = y then 1 else 0) := by
  rw [List.take_add_one, h, List.count_append]
  congr 1
  show List.count y [x] = _
  rw [List.count_singleton]
  by_cases e : x = y
  · rw [if_pos (by simpa using e), if_pos e]
  · rw [if_neg (by simpa using e), if_neg e]
theorem row_len (s : Nat) (R : Nat → Int) : (row s R).length = (mem s).length := List.length_map ..
theorem row_get {s i : Nat} {R : Nat → Int} {x : Int} (h : (mem s)[i]? = some x) : ∃ k : Nat, x = (k : Int) ∧ k < 6 ∧ (row s R)[i]? = some (R k) := by
  obtain ⟨k, rfl, hk, -⟩ := memTo_range (c := s) (n := 6) (List.mem_of_getElem? h)
  refine ⟨k, rfl, hk, ?_⟩
  unfold row
  rw [List.getElem?_map, h]
  rfl
theorem at_host {w : World} {g : Nat} {b : Int} {s : Nat} {R C : Nat → Int} (h : w.heap[g]? = some (gbx b s R C)) (k : Nat) (hk : k < 6) :
    w.cell? ⟨g, 2 + k, none⟩ = some (.int .i64 (R k)) ∧ w.cell? ⟨g, 8 + k, none⟩ = some (.int .i64 (C k)) := by
  obtain ⟨a0, a1, a2, a3, a4, a5, a6, a7, a8, a9, a10, a11, a12, a13⟩ := cells14 h
  match k, hk with
  | 0, _ => exact ⟨a2, a8⟩
  | 1, _ => exact ⟨a3, a9⟩
  | 2, _ => exact ⟨a4, a10⟩
  | 3, _ => exact ⟨a5, a11⟩
  | 4, _ => exact ⟨a6, a12⟩
  | 5, _ => exact ⟨a7, a13⟩
set_option maxHeartbeats 1000000 in
theorem having_any (b y : Int) (s : Nat) (R C : Nat → Int) (hs : s < 64) (w : World) :
    Calls Try.prog 35 #[GV b s R C, .int .i64 y] w fun e w' => e = .returned (.int .i64 ((row s C).count y : Nat)) ∧ Below w.heap.size w w' := by
  have HM := Lib.hid (fun W => members_any s W (by omega))
  have HG := Lib.hid (fun i x (h : (mem s)[i]? = some x) => row_get (R := C) h)
  have HL := Lib.hid (row_len s C)
  have h6 := mem_len s
  have X := (Stay.start w).alloc (gbx b s R C)
  have X := Lib.hid X
  go_enter Try.func35, Try.ntmps35
  go_upto_region 2 with (fail)
  generalize w.alloc (gbx b s R C) = W at *
  generalize w.heap.size = g0 at *
  obtain ⟨a0, a1, a2, a3, a4, a5, a6, a7, a8, a9, a10, a11, a12, a13⟩ := cells14 (X.out.at 0 rfl)
  go_wp2_with (go_at_call 33; refine (HM.out _).mono ?_; rintro e w1 ⟨v, rfl, o1, b1⟩; obtain ⟨A, d, rfl, hcl, -⟩ := o1.form; have X1 := Lib.hid (X.out.next b1); have H := Lib.hid hcl; clear o1 b1 hcl)
  clear a0 a1 a2 a3 a4 a5 a6 a7 a8 a9 a10 a11 a12 a13 HM X
  generalize hcs : row s C = cs at *
  have HCS := Lib.hid hcs
  clear hcs
  generalize mem s = ms at *
  obtain ⟨n, hn⟩ : ∃ n, ms.length = n := ⟨_, rfl⟩
  rw [hn] at HL h6 ⊢
  have HN := Lib.hid hn
  have H6 := Lib.hid h6
  clear hn h6
  go_loopw [5, 12] (fun cv iv wr => ∃ (i : Nat), i ≤ n ∧ iv = .int .i64 i ∧ cv = .int .i64 (((cs.take i).count y : Nat) : Int) ∧ wr = w1) (fun _ iv _ => n - (intOf iv).toNat)
  case atStart => exact ⟨0, Nat.zero_le _, rfl, rfl, rfl⟩
  case round =>
    obtain ⟨i, hi, rfl, rfl, rfl⟩ := hrel
    have n6 := H6.out
    have ib : (i : Int) ≤ 6 := by omega
    by_cases hlt : (i : Int) < (n : Int)
    · obtain ⟨x, hx⟩ : ∃ x, ms[i]? = some x := ⟨_, List.getElem?_eq_getElem (by have := HN.out; omega)⟩
      obtain ⟨ad, rfl, hcell, _⟩ := H.out i x hx
      obtain ⟨k, rfl, hk, hr⟩ := HG.out i x hx
      have HT := Lib.hid (count_take hr y)
      have hc := (at_host (X1.out.at 0 rfl) k hk).2
      have cl := Nat.le_trans (List.count_le_length (a := y) (l := cs.take i)) (by rw [List.length_take]; exact Nat.min_le_left _ _)
      have k1 : (k : Int) < 6 := by omega
      have ab : (((cs.take i).count y : Nat) : Int) ≤ 6 := by omega
      clear hx hr
      generalize (cs.take i).count y = a at *
      generalize C k = z at *
      by_cases hz : z = y
      · have e1 : (z == y) = true := by rw [beq_iff_eq]; exact hz
        have HT2 := Lib.hid (HT.out.trans (by rw [if_pos hz]))
        clear hz
        go_wp2
        go_roundw
        case rel => exact ⟨i + 1, by omega, by go_num, by rw [HT2.out]; go_num, trivial⟩
        case measure => simp only [intOf]; omega
      · have e1 : (z == y) = false := by rw [beq_eq_false_iff_ne]; exact hz
        have HT2 := Lib.hid (HT.out.trans (by rw [if_neg hz, Nat.add_zero]))
        clear hz
        go_wp2
        go_roundw
        case rel => exact ⟨i + 1, by omega, by go_num, by rw [HT2.out], trivial⟩
        case measure => simp only [intOf]; omega
    · obtain rfl : i = n := by omega
      have e := HL.out
      rw [List.take_of_length_le (by omega)]
      clear e
      go_wp2
      go_ret
      exact ⟨by rw [HCS.out]; rfl, X1.out.b⟩
end Go.Proofs.Ytpjaijibkjmgiaa.CompW
