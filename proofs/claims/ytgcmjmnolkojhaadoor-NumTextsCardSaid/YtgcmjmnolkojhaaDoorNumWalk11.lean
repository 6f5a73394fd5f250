/- Walks of the document's Print and Parse. -/
import Derived.Test.YtgcmjmnolkojhaaDoorNumWalk10
namespace Go.Proofs.YtgcmjmnolkojhaaDoor.NumW
open Go.RowKit NumP
theorem hex_at (m : Nat) (h : m < 16) (w : World) : (Instr.index 9 (.string ⟨#[48, 49, 50, 51, 52, 53, 54, 55, 56, 57, 97, 98, 99, 100, 101, 102]⟩) (.int .u64 m)).run Tryd.prog w = .ok (.int .u8 (dg m)) w := by
  rcases (show m = 0 ∨ m = 1 ∨ m = 2 ∨ m = 3 ∨ m = 4 ∨ m = 5 ∨ m = 6 ∨ m = 7 ∨ m = 8 ∨ m = 9 ∨ m = 10 ∨ m = 11 ∨ m = 12 ∨ m = 13 ∨ m = 14 ∨ m = 15 by omega) with rfl | rfl | rfl | rfl | rfl | rfl | rfl | rfl | rfl | rfl | rfl | rfl | rfl | rfl | rfl | rfl <;> kernel_rfl
theorem hexF_take (u k : Nat) (h : k < 16) : (hexF 16 u).take (k + 1) = (hexF 16 u).take k ++ [dg (u / 16 ^ (15 - k) % 16)] := by
  rcases (show k = 0 ∨ k = 1 ∨ k = 2 ∨ k = 3 ∨ k = 4 ∨ k = 5 ∨ k = 6 ∨ k = 7 ∨ k = 8 ∨ k = 9 ∨ k = 10 ∨ k = 11 ∨ k = 12 ∨ k = 13 ∨ k = 14 ∨ k = 15 by omega) with rfl | rfl | rfl | rfl | rfl | rfl | rfl | rfl | rfl | rfl | rfl | rfl | rfl | rfl | rfl | rfl <;> rfl
theorem shift_hex (u k : Nat) (h : k < 16) (z : Int) (hz : z = 60 - 4 * (k : Int)) : (u : Int) / 2 ^ z.toNat = ((u / 16 ^ (15 - k) : Nat) : Int) := by
  have e : z.toNat = 4 * (15 - k) := by omega
  have e2 : (16 : Nat) ^ (15 - k) = 2 ^ (4 * (15 - k)) := by rw [Nat.pow_mul]
  rw [e, e2, Int.natCast_ediv, Int.natCast_pow]
  rfl
set_option maxHeartbeats 1000000 in
set_option maxRecDepth 100000 in
theorem refPrint_any (x : Nat) (hx : x < 18446744073709551616) (w : World) : Calls Tryd.prog 34 #[.float .f64 x] w fun e w' => e = .returned (.string (text (oneN x))) ∧ Below w.heap.size w w' := by
  have hu := one_lt x hx
  obtain ⟨i0, hi, hz0, hz1, hz2⟩ := info_parts (show (Tryd.prog.info? 5).map (fun i => (i.zero, i.size, i.bytes)) = some (some (.int .u8 0), 1, 1) by kernel_rfl)
  have HX := Lib.hid hx
  have HI := Lib.hid hi
  have HZ0 := Lib.hid hz0
  have HZ1 := Lib.hid hz1
  have HZ2 := Lib.hid hz2
  clear hx hi hz0 hz1 hz2
  go_enter Tryd.func34, Tryd.ntmps34
  go_wp2_with (go_at_call 17; refine (refOne_any _ HX.out _).mono ?_; rintro e w' ⟨rfl, rfl⟩)
  go_loopw [5, 6] (fun v i wr => ∃ (k : Nat) (z : Int), k ≤ 16 ∧ i = .int .i64 z ∧ Hid (z = 60 - 4 * (k : Int)) ∧ wr.ownsRow w.heap.size 5 1 v k (((hexF 16 (oneN x)).map (Value.int .u8)).take k) ∧ Below w.heap.size w wr) (fun _ i _ => (intOf i + 4).toNat)
  case atStart => exact ⟨0, 60, by omega, rfl, Lib.hid rfl, ⟨rfl, Or.inl ⟨rfl, rfl⟩⟩, Below.refl _ _⟩
  case round =>
    obtain ⟨k, z, hk, rfl, Hz, hown, hb⟩ := hrel
    generalize hu1 : oneN x = u at *
    by_cases hlt : k < 16
    · have hsh := shift_hex u k hlt z Hz.out
      have z0 : 0 ≤ z := by have := Hz.out; omega
      have z1 : z ≤ 60 := by have := Hz.out; omega
      have hq : u / 16 ^ (15 - k) < 18446744073709551616 := Nat.lt_of_le_of_lt (Nat.div_le_self _ _) hu
      have HT := Lib.hid (hexF_take u k hlt)
      generalize u / 16 ^ (15 - k) = q at *
      have a1 := and15 q hq
      have hm : q % 16 < 16 := Nat.mod_lt _ (by decide)
      generalize q % 16 = m at *
      have ix := hex_at m hm
      have HB := Lib.hid hb
      have HO := Lib.hid hown
      clear hu hu1 hb hown
      have hk2 : k + 1 ≤ 16 := by omega
      clear hk hlt
      go_wp2_with (at_builtin; refine wpList_append_own _ rfl _ _ 65 rfl w.heap.size 5 i0 (.int .u8 0) 1 1 Tryd.underlying65 HI.out HZ0.out HZ1.out HZ2.out rfl (by decide) _ _ _ rfl (HO.out.alloc _) ⟨wr.heap.size, 0, none⟩ 1 1 [.int .u8 (dg m)] rfl rfl ?c1 ?c2 ?c3 ?c4 ?c5 ?_)
      case c1 => exact (cell_one_new _ _ _)
      case c2 => intro u hu; simp at hu; subst hu; rfl
      case c3 => unfold maxLen; omega
      case c4 => omega
      case c5 => rw [World.size_alloc]; have := HB.out.size; omega
      intro v' w2 hown2 hgrow _
      have HN : Hid (w2.ownsRow w.heap.size 5 1 v' (k + 1) (((hexF 16 u).map (Value.int .u8)).take (k + 1))) := Lib.hid (by rw [← List.map_take, HT.out, List.map_append, List.map_take]; exact hown2)
      have HW : Hid (Below w.heap.size w w2) := Lib.hid ((HB.out.alloc (by have := HB.out.size; omega) _).grown hgrow (by rw [World.size_alloc]; have := HB.out.size; omega) (fun g hg => (HO.out.lt g hg).1))
      clear hown2 hgrow
      go_wp2
      exact ⟨⟨k + 1, z - 4, hk2, rfl, Lib.hid (by have := Hz.out; omega), HN.out, HW.out⟩, by simp [intOf]; omega⟩
    · have hk16 : k = 16 := by omega
      subst hk16
      have hlen : ((hexF 16 u).map (Value.int .u8)).length = 16 := by rw [List.length_map, hexF_len]
      rw [List.take_of_length_le (by omega)] at hown
      obtain ⟨g, cap, rfl⟩ : ∃ g cap, u5 = .slice (some ⟨g, 0, none⟩) 16 cap := by
        rcases hown.2 with ⟨_, h0⟩ | ⟨g, cap, cur, hv, _⟩
        · exact absurd h0 (by decide)
        · exact ⟨g, cap, hv⟩
      have z1 : ¬ (0 ≤ z) := by have := Hz.out; omega
      have cv : (convert 65 9 (.slice (some ⟨g, 0, none⟩) 16 cap)).run Tryd.prog wr = .ok (.string (text u)) wr :=
        run_convert_bytes_arg _ _ _ Tryd.underlying65 Tryd.underlying5 _ _ _ _ _ (hexF_len 16 u) (fun j hj => by
          rw [Nat.zero_add, hown.cellAt j (by omega), List.getElem?_map, List.getElem?_eq_getElem (by rw [hexF_len]; exact hj), Option.map_some, List.getD_eq_getElem?_getD, List.getElem?_eq_getElem (by rw [hexF_len]; exact hj)]
          rfl) _ Tryd.underlying9
      have HB := Lib.hid hb
      have HU := Lib.hid hu1
      clear hown hb hu1 hu hk hlt hlen
      go_wp2
      go_ret
      exact ⟨ret_string (by rw [HU.out]), HB.out⟩
end Go.Proofs.YtgcmjmnolkojhaaDoor.NumW
