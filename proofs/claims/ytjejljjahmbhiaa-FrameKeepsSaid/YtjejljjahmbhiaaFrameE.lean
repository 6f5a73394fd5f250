/- seal; the document's own rows: number, lay. -/
import Derived.Test.YtjejljjahmbhiaaFrameD
import Derived.Deep.OwnRows
namespace Go.Proofs.Ytjejljjahmbhiaa.FrameW
open Go.RowKit
theorem seal_any (v : Value) (xs : List Int) (base : Nat) (w : World) (h : OB w base v xs) (hx : xs.length ≤ 70368744177664) (hb : base ≤ w.heap.size) :
    Calls Try.prog 29 #[v] w fun e w' => ∃ v', e = .returned v' ∧ OB w' base v' (sealed xs) ∧ Step w v w' v' := by
  obtain ⟨A, c, rfl, hbl, -⟩ := h.form
  have S := Lib.hid (sum_any A c xs w hbl (by omega))
  have P := Lib.hid (put_any (.slice A xs.length c) xs (crc xs) 4 base w h (Nat.lt_of_lt_of_le (crc_lt xs) (by decide)) (by decide) hx hb)
  have hc := crc_lt xs
  have eW : IntKind.u64.wrap ((crc xs : Nat) : Int) = ((crc xs : Nat) : Int) := by rw [IntKind.wrap_u64]; omega
  have HS := Lib.hid (show sealed xs = xs ++ be 4 (crc xs) from rfl)
  generalize crc xs = s at *
  clear h hbl hx hb hc
  go_enter Try.func29, Try.ntmps29
  go_wp2_with (first
    | (go_at_call 23; refine S.out.mono ?_; rintro e w' ⟨rfl, rfl⟩)
    | (go_at_call 28; refine P.out.mono ?_; rintro e w2 ⟨v2, rfl, o2, s2⟩; have O2 := Lib.hid o2; have S2 := Lib.hid s2; clear o2 s2))
  go_ret
  exact ⟨_, rfl, by rw [HS.out]; exact O2.out, S2.out⟩
theorem made_u8 (n : Nat) : madeCells #[.int .u8 0] n = (u8s (List.replicate n 0)).toArray := by
  apply Array.toList_inj.1
  rw [toList_madeCells_one]
  unfold u8s
  simp
theorem u8s_set (rs : List Int) (k : Nat) (v : Int) : (u8s rs).toArray.setIfInBounds k (.int .u8 v) = (u8s (rs.set k v)).toArray := by
  rw [List.setIfInBounds_toArray]
  unfold u8s
  rw [List.map_set]
theorem row_get {w : World} {g : Nat} {rs : List Int} {t : TypeId} (h : w.heap[g]? = some (.cells (u8s rs).toArray t (0, 0))) {k : Nat} {d : Int} (hk : rs[k]? = some d) : w.cell? ⟨g, k, none⟩ = some (.int .u8 d) := by
  rw [cell_of_row w g k _ _ _ h, List.getElem?_toArray]
  unfold u8s
  rw [List.getElem?_map, hk]
  rfl
theorem ob_row {w : World} {base g : Nat} {rs : List Int} (h : w.heap[g]? = some (.cells (u8s rs).toArray 5 (0, 0))) (hb : base ≤ g) (hy : By rs) (hl : rs.length ≤ 9223372036854775807) : OB w base (.slice (some ⟨g, 0, none⟩) rs.length rs.length) rs :=
  ⟨⟨by rw [u8s_len, Nat.mul_one], Or.inr ⟨g, rs.length, (u8s rs).toArray, rfl, hb, h, Nat.le_refl _, by simp only [maxLen]; omega, by simp [u8s_len], by
    rw [Nat.mul_one, List.take_of_length_le (by simp [u8s_len])]⟩⟩, hy⟩
theorem be_cons (k n : Nat) : be (k + 1) n = ((n / 256 ^ k % 256 : Nat) : Int) :: be k n := by
  unfold be
  rw [List.range_succ_eq_map, List.map_cons, List.map_map]
  congr 1
  refine List.map_congr_left fun i hi => ?_
  simp only [Function.comp]
  rw [show k + 1 - 1 - (i + 1) = k - 1 - i by omega]
theorem set_be (j k n : Nat) : (List.replicate (j + 1) (0 : Int) ++ be k n).set j ((n / 256 ^ k % 256 : Nat) : Int) = List.replicate j 0 ++ be (k + 1) n := by
  rw [be_cons, List.replicate_succ', List.append_assoc, List.set_append_right _ _ (by simp)]
  simp
theorem nought_by (k : Nat) : By (List.replicate k 0) := fun x hx => by
  obtain rfl := (List.mem_replicate.1 hx).2
  omega
set_option maxHeartbeats 2000000 in
theorem refNumber_any (n bytes : Nat) (w : World) (hn : n < 18446744073709551616) (hs : bytes ≤ 8) (h1 : 0 < bytes) :
    Calls Try.prog 34 #[.int .u64 n, .int .i64 bytes] w fun e w' => ∃ v', e = .returned v' ∧ OB w' w.heap.size v' (be bytes n) ∧ Below w.heap.size w w' := by
  have hmk : ∀ w : World, (Instr.makeSlice 26 (.int .i64 (bytes : Int)) (.int .i64 (bytes : Int))).run Try.prog w = .ok (.slice (some ⟨w.heap.size, 0, none⟩) bytes bytes) (w.alloc (.cells (madeCells #[.int .u8 0] bytes) 5)) := fun w =>
    run_make_row' 26 5 (.int .u8 0) 1 Try.underlying26 (by kernel_rfl) rfl .i64 .i64 bytes (by omega) (by omega) w
  rw [made_u8] at hmk
  obtain ⟨Z, hZ⟩ : ∃ Z, Z = (u8s (List.replicate bytes 0)).toArray := ⟨_, rfl⟩
  rw [← hZ] at hmk
  have HZ := Lib.hid hZ
  have HN := Lib.hid hn
  have HP := Lib.hid h1
  clear hZ hn h1
  go_enter Try.func34, Try.ntmps34
  go_wp2_with fail
  have c1 := heap_alloc_new w (Obj.cells Z 5)
  have hb1 := al (Below.refl w.heap.size w) (Obj.cells Z 5)
  obtain ⟨G, hG⟩ : ∃ G, G = w.heap.size := ⟨_, rfl⟩
  rw [← hG] at hb1 c1 ⊢
  generalize w.alloc (Obj.cells Z 5) = W1 at *
  have C1 := Lib.hid (show W1.heap[G]? = some (.cells (u8s (List.replicate bytes 0)).toArray 5 (0, 0)) by rw [c1, HZ.out])
  have HG := Lib.hid hG
  have HB1 := Lib.hid hb1
  clear hb1 c1 hG hmk HZ
  go_loopw [0, 6] (fun nv iv wr => ∃ (m : Nat), m ≤ bytes ∧ iv = .int .i64 ((m : Int) - 1) ∧ nv = .int .u64 ((n / 256 ^ (bytes - m) : Nat) : Int) ∧ Hid (Below G W1 wr) ∧ Hid (wr.heap[G]? = some (.cells (u8s (List.replicate m 0 ++ be (bytes - m) n)).toArray 5 (0, 0)))) (fun _ iv _ => (intOf iv + 1).toNat)
  case atStart => exact ⟨bytes, Nat.le_refl _, rfl, by rw [Nat.sub_self, Nat.pow_zero, Nat.div_one], Lib.hid (Below.refl _ _), by rw [Nat.sub_self]; rw [show be 0 n = [] from rfl, List.append_nil]; exact C1⟩
  case round =>
    obtain ⟨m, hm, rfl, rfl, HB, HC⟩ := hrel
    rcases m with _ | j
    · have hj : ¬ (0 : Int) ≤ -1 := by omega
      go_wp2
      go_ret
      have h2 := HC.out
      rw [Nat.sub_zero, List.replicate_zero, List.nil_append] at h2
      have h3 := ob_row h2 (base := w.heap.size) (by rw [HG.out]; exact Nat.le_refl _) (be_by _ _) (by rw [be_len]; omega)
      rw [be_len] at h3
      exact ⟨_, rfl, h3, by rw [← HG.out]; exact HB1.out.trans HB.out⟩
    · have ej : (((j + 1 : Nat) : Int)) - 1 = (j : Int) := by omega
      rw [ej]
      have ek : bytes - j = bytes - (j + 1) + 1 := by omega
      have HK := Lib.hid ek
      generalize bytes - (j + 1) = k at *
      have hset := set_be j k n
      have hq : n / 256 ^ (k + 1) = n / 256 ^ k / 256 := by rw [Nat.pow_succ, Nat.div_div_eq_div_mul]
      have hql : n / 256 ^ k < 18446744073709551616 := Nat.lt_of_le_of_lt (Nat.div_le_self _ _) HN.out
      have HQ := Lib.hid hq
      have hget : (List.replicate (j + 1) (0 : Int) ++ be k n)[j]? = some 0 := by rw [List.getElem?_append_left (by simp)]; simp
      have hcell := row_get HC.out hget
      have hfr := frozen_of_row wr G j _ _ HC.out
      generalize List.replicate (j + 1) (0 : Int) ++ be k n = rs at *
      have HR := Lib.hid (show rs.set j (((n / 256 ^ k) % 256 : Nat) : Int) = List.replicate j 0 ++ be (bytes - j) n by rw [ek]; exact hset)
      generalize n / 256 ^ k = q at *
      have e2 : IntKind.u8.wrap ((q : Int) % 256) = ((q % 256 : Nat) : Int) := by rw [IntKind.wrap_u8']; omega
      have j0 : (0 : Int) ≤ (j : Int) := by omega
      have j1 : (j : Int) < (bytes : Int) := by omega
      clear hset hq hget ek
      go_wp2_with fail
      refine ⟨⟨j, by omega, rfl, ?_, Lib.hid (HB.out.setCell (Nat.le_refl _) _), Lib.hid ?_⟩, by simp [intOf]⟩
      · rw [HK.out, HQ.out]; congr 1
      · rw [← HR.out, ← u8s_set, show ((q % 256 : Nat) : Int) = (q : Int) % 256 by omega]
        exact heap_setCell_same _ G j _ _ _ HC.out
/-- Bytes laid behind a row of our own. -/
theorem cell_lt {w : World} {a : Addr} {v : Value} (h : w.cell? a = some v) : a.block < w.heap.size := World.block_lt_of_cell? w a h
set_option maxHeartbeats 2000000 in
theorem lay_any (v : Value) (xs : List Int) (A : Option Addr) (c : Nat) (ys : List Int) (base : Nat) (w : World) (h : OB w base v xs) (hy : BL w A ys) (hf : Far v A) (hx : xs.length ≤ 35184372088832) (hl : ys.length ≤ 35184372088832) (hb : base ≤ w.heap.size) :
    Calls Try.prog 33 #[v, .slice A ys.length c] w fun e w' => ∃ v', e = .returned v' ∧ OB w' base v' (xs ++ ys) ∧ Step w v w' v' := by
  have H := Lib.hid h
  have HY := Lib.hid hy
  have HF := Lib.hid hf
  have HX := Lib.hid hx
  have HB := Lib.hid hb
  obtain ⟨A0, c0, rfl, -⟩ := h.form
  clear h hy hf hx hb
  go_enter Try.func33, Try.ntmps33
  go_wp2
  go_loopw [0, 5] (fun v1 iv wr => ∃ (k : Nat), k ≤ ys.length ∧ iv = .int .i64 k ∧ Hid (OB wr base v1 (xs ++ ys.take k)) ∧ Hid (Step w (.slice A0 xs.length c0) wr v1)) (fun _ iv _ => ys.length - (intOf iv).toNat)
  case atStart => exact ⟨0, Nat.zero_le _, rfl, by rw [List.take_zero, List.append_nil]; exact H, Lib.hid (Step.refl _ _)⟩
  case round =>
    obtain ⟨k, hk, rfl, HO, HS⟩ := hrel
    by_cases hlt : k < ys.length
    · obtain ⟨x, hx⟩ : ∃ x, ys[k]? = some x := ⟨_, List.getElem?_eq_getElem hlt⟩
      obtain ⟨ad, rfl, hc, q0, q1⟩ := (HY.out.step HS.out HF.out) k x hx
      have HT2 := Lib.hid (show xs ++ ys.take (k + 1) = (xs ++ ys.take k) ++ [x] by rw [List.take_add_one, hx, List.append_assoc]; rfl)
      have HLn := Lib.hid (show (xs ++ ys.take k).length ≤ xs.length + ys.length by rw [List.length_append, List.length_take]; omega)
      generalize xs ++ ys.take k = L at *
      obtain ⟨A1, c1, rfl, -⟩ := HO.out.form
      have HK := Lib.hid hlt
      have Q0 := Lib.hid q0
      have Q1 := Lib.hid q1
      clear hx q0 q1
      go_wp2_with (at_builtin; refine wpList_append_ob _ rfl _ _ rfl base _ _ rfl (HO.out.alloc _) ⟨wr.heap.size, 0, none⟩ 1 1 [x] rfl rfl ?c1 ?c2 ?c3 ?_)
      case c1 => exact one_bl _ _ Q0.out Q1.out _
      case c2 => have := HX.out; have := HLn.out; omega
      case c3 => rw [World.size_alloc]; have := HS.out.g.size; have := HB.out; omega
      intro v2 w2 o2 s2
      have HO2 := Lib.hid (show OB w2 base v2 (xs ++ ys.take (k + 1)) by rw [HT2.out]; exact o2)
      have HS2 := Lib.hid ((HS.out.trans (Step.alloc _ _ _)).trans s2)
      clear o2 s2
      go_wp2
      go_roundw
      case rel => exact ⟨k + 1, by have := HK.out; omega, by go_num, HO2, HS2⟩
      case measure => have := HK.out; simp [intOf]; omega
    · obtain rfl : k = ys.length := by omega
      have ho := HO.out
      rw [List.take_length] at ho
      have HO2 := Lib.hid ho
      clear ho
      go_wp2
      go_ret
      exact ⟨_, rfl, HO2.out, HS.out⟩
end Go.Proofs.Ytjejljjahmbhiaa.FrameW
