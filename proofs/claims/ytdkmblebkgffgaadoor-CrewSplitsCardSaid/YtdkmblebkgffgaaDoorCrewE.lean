/- Parse, the document's own Parse; Same. -/
import Derived.Test.YtdkmblebkgffgaaDoorCrewD
namespace Go.Proofs.YtdkmblebkgffgaaDoor.CrewW
open Go.RowKit Shell
theorem prt_by (c : Nat) : By (prt c) := by
  unfold prt
  split
  · intro x hx
    rw [List.mem_singleton] at hx
    omega
  · exact txt_byte fun x hx => mem_digit hx
theorem ps_bs (c : Nat) : bs (ps c) = prt c := bs_str (prt_by c)
theorem ps_iff (c : Nat) (s : ByteArray) : ps c = s ↔ prt c = bs s := by
  constructor
  · intro h; rw [← h, ps_bs]
  · intro h; unfold ps; rw [h, str_bs]
theorem dg_take {l : List Int} {k : Nat} {x : Int} (h : l[k]? = some x) : dg (l.take (k + 1)) = dg (l.take k) ||| only (x - 48) := by
  rw [List.take_add_one, h]
  unfold dg
  rw [List.map_append]
  exact of_snoc _ _
/-- What Parse tells. -/
def pv (s : ByteArray) : Value := .tuple #[.int .u32 ((prs (bs s)).1 : Nat), .int .i64 (prs (bs s)).2]
theorem ps_size (c : Nat) : (ps c).size ≤ 12 := by
  unfold ps
  rw [str_size]
  unfold prt
  split
  · decide
  · have := txt_len (mem c)
    have := mem_len c
    omega
set_option maxHeartbeats 4000000 in
theorem parse_any (s : ByteArray) (w : World) (hs : s.size ≤ 9223372036854775807) : Calls Tryd.prog 22 #[.string s] w fun e w' => e = .returned (pv s) ∧ Below w.heap.size w w' := by
  obtain ⟨n, hn⟩ : ∃ n, n = s.size := ⟨_, rfl⟩
  have HN := Lib.hid hn
  have HS := Lib.hid (show n ≤ 9223372036854775807 by omega)
  have hsn : (s.size : Int) = (n : Int) := by rw [hn]
  have HPV := Lib.hid (show pv s = .tuple #[.int .u32 ((prs (bs s)).1 : Nat), .int .i64 (prs (bs s)).2] from rfl)
  have HBL := Lib.hid (show (bs s).length = n by rw [bs_len, hn])
  clear hn hs
  go_enter Tryd.func22, Tryd.ntmps22
  go_wp2
  go_loopw [4, 8] (fun cv iv wr => ∃ (k : Nat), k ≤ n ∧ iv = .int .i64 k ∧ cv = .int .u32 (dg ((bs s).take k) : Nat) ∧ wr = w) (fun _ iv _ => n - (intOf iv).toNat)
  case atStart => exact ⟨0, Nat.zero_le _, rfl, rfl, rfl⟩
  case round =>
    obtain ⟨k, hk, rfl, rfl, rfl⟩ := hrel
    have hll := HS.out
    by_cases hlt : k < n
    · obtain ⟨x, hx⟩ : ∃ x, (bs s)[k]? = some x := ⟨_, List.getElem?_eq_getElem (by rw [HBL.out]; exact hlt)⟩
      have HI := fun W => index_bs (P := Tryd.prog) (q := .i64) Tryd.underlying9 hx W
      have HT := Lib.hid (dg_take hx)
      have hb := bs_by s x (List.mem_of_getElem? hx)
      have x0 := hb.1
      have x1 := hb.2
      have HO := fun W => only_any (x - 48) W
      have l1 := dg_lt ((bs s).take k)
      have HB := Lib.hid (u32_or_nat (dg ((bs s).take k)) (only (x - 48)) (by omega) (by have := only_lt (x - 48); omega))
      clear hx hb l1
      generalize dg ((bs s).take k) = a at *
      generalize only (x - 48) = o at *
      go_wp2_with fail
      refine (HO _).mono ?_
      rintro e w9 ⟨rfl, hw⟩
      obtain rfl := hw.symm
      go_wp2
      rw [HB.out]
      go_roundw
      case rel => exact ⟨k + 1, by omega, by go_num, by rw [HT.out], trivial⟩
      case measure => simp [intOf]; omega
    · obtain rfl : k = n := by omega
      have e := HBL.out
      rw [List.take_of_length_le (by omega)]
      clear e
      have hp := prs_cases (bs s)
      have hd := dg_lt (bs s)
      generalize dg (bs s) = c at *
      have HP := Lib.hid (print_any c wr (by omega))
      rcases hp with ⟨h1, h2⟩ | ⟨h1, h2⟩
      · have he := (ps_iff c s).2 h2
        have HE := Lib.hid he
        rw [h1] at HPV
        rw [he] at HP
        have q1 := str_eq (rfl : s = s)
        clear h1 h2 he hd
        go_wp2_with fail
        refine HP.out.mono ?_
        rintro e w2 ⟨rfl, b2⟩
        have B2 := Lib.hid b2
        clear b2
        go_wp2
        go_ret2
        exact ⟨congrArg Ending.returned HPV.out.symm, B2.out⟩
      · have he : ¬ ps c = s := fun h => h2 ((ps_iff c s).1 h)
        have q1 := str_ne he
        rw [h1] at HPV
        clear h1 h2 he hd
        generalize ps c = z at *
        go_wp2_with fail
        refine HP.out.mono ?_
        rintro e w2 ⟨rfl, b2⟩
        have B2 := Lib.hid b2
        clear b2
        go_wp2
        go_ret2
        exact ⟨congrArg Ending.returned HPV.out.symm, B2.out⟩
set_option maxHeartbeats 4000000 in
theorem refParse_any (s : ByteArray) (w : World) : Calls Tryd.prog 24 #[.string s] w fun e w' => e = .returned (pv s) ∧ Below w.heap.size w w' := by
  have HPV := Lib.hid (show pv s = .tuple #[.int .u32 ((prs (bs s)).1 : Nat), .int .i64 (prs (bs s)).2] from rfl)
  go_enter Tryd.func24, Tryd.ntmps24
  go_wp2
  go_loopw [4] (fun cv wr => ∃ (k : Nat), k ≤ 64 ∧ cv = .int .u32 (k : Int) ∧ Hid (∀ c, c < k → prt c ≠ bs s) ∧ Hid (Below w.heap.size w wr)) (fun cv _ => 64 - (intOf cv).toNat)
  case atStart => exact ⟨0, Nat.zero_le _, rfl, Lib.hid (fun c hc => by omega), Lib.hid (Below.refl _ _)⟩
  case round =>
    obtain ⟨k, hk, rfl, HN, HB⟩ := hrel
    by_cases hlt : (k : Int) < 64
    · have HP := Lib.hid (refPrint_any k wr (by omega))
      by_cases he : ps k = s
      · have HE := Lib.hid (prs_of (c := k) (by omega) ((ps_iff k s).1 he))
        rw [HE.out] at HPV
        rw [he] at HP
        have q1 := str_eq (rfl : s = s)
        clear he
        go_wp2_with fail
        refine HP.out.mono ?_
        rintro e w2 ⟨rfl, b2⟩
        have B2 := Lib.hid (HB.out.trans (b2.mono HB.out.size))
        clear b2
        go_wp2
        go_ret2
        exact ⟨congrArg Ending.returned HPV.out.symm, B2.out⟩
      · have HN2 := Lib.hid (show ∀ c, c < k + 1 → prt c ≠ bs s by
          intro c hc
          by_cases h : c = k
          · subst h; exact fun h => he ((ps_iff c s).2 h)
          · exact HN.out c (by omega))
        have q1 := str_ne he
        clear he
        generalize ps k = z at *
        go_wp2_with fail
        refine HP.out.mono ?_
        rintro e w2 ⟨rfl, b2⟩
        have B2 := Lib.hid (HB.out.trans (b2.mono HB.out.size))
        clear b2
        go_wp2
        go_roundw
        case rel => exact ⟨k + 1, by omega, by go_num, HN2, B2⟩
        case measure => simp [intOf]; omega
    · obtain rfl : k = 64 := by omega
      rw [prs_no HN.out] at HPV
      go_wp2
      go_ret2
      exact ⟨congrArg Ending.returned HPV.out.symm, HB.out⟩
set_option maxHeartbeats 2000000 in
theorem same_any (A B : Option Addr) (n c d : Nat) (xs : List Int) (w : World) (h1 : CL w .i64 A xs) (h2 : CL w .i64 B xs) (hn : n = xs.length) (hl : n ≤ 17592186044416) :
    Calls Tryd.prog 11 #[.slice A n c, .slice B n d] w fun e w' => e = .returned (.bool true) ∧ Below w.heap.size w w' := by
  have H1 := Lib.hid h1
  have H2 := Lib.hid h2
  have HL := Lib.hid hl
  have HN := Lib.hid hn
  clear h1 h2 hl hn
  go_enter Tryd.func11, Tryd.ntmps11
  go_wp2_with fail
  go_loopw [5] (fun i wr => ∃ k m : Nat, k ≤ n ∧ i = .int .i64 k ∧ wr = w.drewN m) (fun i _ => n - (intOf i).toNat)
  case atStart => exact ⟨0, 0, Nat.zero_le _, rfl, rfl⟩
  case round =>
    obtain ⟨k, m, hk, rfl, rfl⟩ := hrel
    by_cases hlt : k < n
    · have hl3 := HL.out
      obtain ⟨x, hx⟩ : ∃ x, xs[k]? = some x := ⟨_, List.getElem?_eq_getElem (by rw [← HN.out]; exact hlt)⟩
      obtain ⟨a, rfl, ca, _⟩ := H1.out k x hx
      obtain ⟨b, rfl, cb, _⟩ := H2.out k x hx
      have da : (w.drewN m).cell? (a.add k) = some (.int .i64 x) := ca
      have db : (w.drewN m).cell? (b.add k) = some (.int .i64 x) := cb
      generalize hwr : w.drewN m = wr at *
      have HWR := Lib.hid hwr
      clear ca cb hx hwr
      go_wp2_with fail
      go_quiet (fail)
      go_wp2_with fail
      exact ⟨⟨k + 1, m + nq, by omega, by go_num, by rw [← HWR.out]; exact World.drewN_drewN _ _ _⟩, by simp [intOf]; omega⟩
    · obtain rfl : k = n := by omega
      go_wp2_with fail
      go_ret
      exact ⟨rfl, ⟨rfl, rfl, rfl, Nat.le_refl _, fun _ _ => rfl⟩⟩
end Go.Proofs.YtdkmblebkgffgaaDoor.CrewW
