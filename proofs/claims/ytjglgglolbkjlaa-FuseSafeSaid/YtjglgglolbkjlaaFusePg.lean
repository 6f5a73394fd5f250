/- The landed Play is as asked. -/
import Derived.Test.YtjglgglolbkjlaaFusePl
import Derived.Deep.OwnRows
namespace Go.Proofs.Ytjglgglolbkjlaa.FuseW
open Go.RowKit Shell
/-- A row that is filled from its front: F's first i numbers, of n places. -/
def fill (F : Nat → Int) (n i : Nat) : List Int := (List.range n).map fun j => if j < i then F j else 0
theorem fill_len (F : Nat → Int) (n i : Nat) : (fill F n i).length = n := by simp [fill]
theorem fill_zero (F : Nat → Int) (n : Nat) : fill F n 0 = List.replicate n 0 := by
  unfold fill
  simp [List.map_const']
theorem fill_get (F : Nat → Int) {n i j : Nat} (hj : j < n) : (fill F n i)[j]? = some (if j < i then F j else 0) := by
  unfold fill
  rw [List.getElem?_map, List.getElem?_range hj]
  rfl
theorem fill_set (F : Nat → Int) (n i : Nat) : (fill F n i).set i (F i) = fill F n (i + 1) := by
  apply List.ext_getElem?
  intro j
  rw [List.getElem?_set]
  by_cases hj : j < n
  · rw [fill_len, fill_get F hj, fill_get F hj]
    by_cases hij : i = j
    · subst hij
      rw [if_pos rfl, if_pos hj, if_pos (Nat.lt_succ_self _)]
    · rw [if_neg hij]
      by_cases h : j < i
      · rw [if_pos h, if_pos (by omega)]
      · rw [if_neg h, if_neg (by omega)]
  · rw [List.getElem?_eq_none (l := fill F n i) (by rw [fill_len]; omega), List.getElem?_eq_none (l := fill F n (i + 1)) (by rw [fill_len]; omega)]
    split
    · rw [fill_len, if_neg (by omega)]
    · rfl
theorem fill_all {F : Nat → Int} {l : List Int} {n : Nat} (hl : l.length = n) (h : ∀ j x, l[j]? = some x → F j = x) : fill F n n = l := by
  apply List.ext_getElem?
  intro j
  by_cases hj : j < n
  · rw [fill_get F hj, if_pos hj]
    have hx : l[j]? = some l[j] := List.getElem?_eq_getElem (by omega)
    rw [hx, h j _ hx]
  · rw [List.getElem?_eq_none (by rw [fill_len]; omega), List.getElem?_eq_none (by omega)]
/-- What a script's i-th number tells, and what is caught behind it. -/
def ltF (m : Int) (xs : List Int) (j : Nat) : Int := lett m (ahead m 0 xs j) (xs.getD j 0)
def caF (m : Int) (xs : List Int) (j : Nat) : Int := ahead m 0 xs (j + 1)
theorem lt_all (m : Int) (xs : List Int) : fill (ltF m xs) xs.length xs.length = letts m 0 xs := by
  refine fill_all (letts_len m 0 xs) fun j x hx => ?_
  have hj : j < xs.length := by rw [← letts_len m 0 xs]; exact lt_of_get hx
  have h := (script_at m 0 xs j xs[j] (List.getElem?_eq_getElem hj)).1
  rw [hx, Option.some.injEq] at h
  unfold ltF
  rw [h, List.getD_eq_getElem?_getD, List.getElem?_eq_getElem hj]
  rfl
theorem ca_all (m : Int) (xs : List Int) : fill (caF m xs) xs.length xs.length = caus m 0 xs := by
  refine fill_all (caus_len m 0 xs) fun j x hx => ?_
  have hj : j < xs.length := by rw [← caus_len m 0 xs]; exact lt_of_get hx
  have h := (script_at m 0 xs j xs[j] (List.getElem?_eq_getElem hj)).2.1
  rw [hx, Option.some.injEq] at h
  exact h.symm
theorem lett_by (m c n : Int) : 0 ≤ lett m c n ∧ lett m c n < 256 := by unfold lett; (repeat' split) <;> omega
theorem letts_by (m : Int) : ∀ (c : Int) (l : List Int), By (letts m c l)
  | _, [] => fun x hx => by cases hx
  | c, n :: l => fun x hx => by
    rcases List.mem_cons.1 hx with rfl | hx
    · exact lett_by m c n
    · exact letts_by m _ l x hx
theorem i64_in {x : Int} (h0 : -4611686018427387904 ≤ x) (h1 : x < 4611686018427387904) : (Lit.int .i64 x).wf = true := by
  simp [Lit.wf]
  show -9223372036854775808 ≤ x ∧ x ≤ 9223372036854775807
  omega
theorem caus_wf {m : Int} (h0 : 0 ≤ m) (h1 : m ≤ 4096) : ∀ (c : Int) (l : List Int), 0 ≤ c ∧ c ≤ m + 1 → Wf .i64 (caus m c l)
  | _, [], _ => fun x hx => by cases hx
  | c, n :: l, hc => fun x hx => by
    have h2 := cau_in (n := n) h0 hc
    rcases List.mem_cons.1 hx with rfl | hx
    · exact i64_in (by omega) (by omega)
    · exact caus_wf h0 h1 _ l h2 x hx
abbrev brow (l : List Int) : Obj := .cells (nums .u8 l).toArray 5 (0, 0)
abbrev nrow (l : List Int) : Obj := .cells (nums .i64 l).toArray 3 (0, 0)
theorem row_get {w : World} {g : Nat} {q : IntKind} {e : TypeId} {l : List Int} (h : w.heap[g]? = some (.cells (nums q l).toArray e (0, 0))) {i : Nat} {a : Int} (hi : l[i]? = some a) : w.cell? ⟨g, i, none⟩ = some (.int q a) := by
  rw [cell_of_row w g _ _ _ _ h, List.getElem?_toArray]
  simp [nums, hi]
theorem row_set {w : World} {g : Nat} {q : IntKind} {e : TypeId} {l : List Int} (h : w.heap[g]? = some (.cells (nums q l).toArray e (0, 0))) (i : Nat) (a : Int) : (w.setCell ⟨g, i, none⟩ (.int q a)).heap[g]? = some (.cells (nums q (l.set i a)).toArray e (0, 0)) := by
  rw [heap_setCell_same _ g i _ _ (.int q a) h]
  simp [nums, List.map_set]
theorem made_q (q : IntKind) (n : Nat) : madeCells #[Value.int q 0] n = (nums q (List.replicate n 0)).toArray := by
  apply Array.ext_getElem?
  intro j
  unfold madeCells nums
  by_cases hj : j < n
  · simp [hj, Nat.mod_one]
  · simp [hj]
theorem make_byte (n : Nat) (hn : n ≤ 140737488351232) (W : World) : (Instr.makeSlice 45 (.int .i64 (n : Int)) (.int .i64 (n : Int))).run Try.prog W = .ok (.slice (some ⟨W.heap.size, 0, none⟩) n n) (W.alloc (brow (List.replicate n 0))) := by
  have hr := run_make_row' (P := Try.prog) 45 5 (.int .u8 0) 1 Try.underlying45 (by kernel_rfl) rfl .i64 .i64 n (by omega) (by omega) W
  unfold brow
  rw [← made_q]
  exact hr
theorem make_int (n : Nat) (hn : n * 8 ≤ 140737488351232) (W : World) : (Instr.makeSlice 22 (.int .i64 (n : Int)) (.int .i64 (n : Int))).run Try.prog W = .ok (.slice (some ⟨W.heap.size, 0, none⟩) n n) (W.alloc (nrow (List.replicate n 0))) := by
  have hr := run_make_row' (P := Try.prog) 22 3 (.int .i64 0) 8 Try.underlying22 (by kernel_rfl) rfl .i64 .i64 n (by omega) (by omega) W
  unfold nrow
  rw [← made_q]
  exact hr
/-- What Play holds behind a script's first i numbers. -/
def PQ (w0 : World) (g : Nat) (m : Int) (L K : Nat) (xs : List Int) (i : Nat) (w : World) : Prop :=
  ∃ X t, FS FV w0 X g m (ahead m 0 xs i) t [(L, brow (fill (ltF m xs) xs.length i)), (K, nrow (fill (caF m xs) xs.length i))] w
theorem pq_first {w0 w : World} {X : Nat → Prop} {g L K : Nat} {m c : Int} {t : ByteArray} {l l' a : List Int} {v : Int} (i : Nat) (h : FS FV w0 X g m c t [(L, brow l), (K, nrow a)] w) (hLK : L ≠ K) (hl : l.set i v = l') :
    FS FV w0 X g m c t [(L, brow l'), (K, nrow a)] (w.setCell ⟨L, i, none⟩ (.int .u8 v)) := by
  refine h.put landed (kept1 w L i _) ?_ (fun b hb => ?_)
  · rw [← hl]; exact row_set (h.at 0 rfl) i v
  · rw [List.mem_singleton] at hb
    subst hb
    exact fun e => hLK e.symm
theorem pq_second {w0 w : World} {X : Nat → Prop} {g L K : Nat} {m c : Int} {t : ByteArray} {l a a' : List Int} {v : Int} (i : Nat) (h : FS FV w0 X g m c t [(L, brow l), (K, nrow a)] w) (hLK : L ≠ K) (hl : a.set i v = a') :
    FS FV w0 X g m c t [(L, brow l), (K, nrow a')] (w.setCell ⟨K, i, none⟩ (.int .i64 v)) := by
  have h1 := h.sub (B' := [(K, nrow a), (L, brow l)]) (fun x hx => by
    simp only [List.mem_cons, List.not_mem_nil, or_false] at hx ⊢
    exact hx.symm)
  have h2 := h1.put landed (kept1 w K i (.int .i64 v)) (ob' := nrow a') (by rw [← hl]; exact row_set (h1.at 0 rfl) i v) (fun b hb => by
    rw [List.mem_singleton] at hb
    subst hb
    exact hLK)
  exact h2.sub (fun x hx => by
    simp only [List.mem_cons, List.not_mem_nil, or_false] at hx ⊢
    exact hx.symm)
set_option maxHeartbeats 4000000 in
theorem play_any (most : Int) (A : Option Addr) (xs : List Int) (n cp : Nat) (w : World) (hA : CL w .i64 A xs) (hl : xs.length = n) (hn : n * 8 ≤ 140737488351232) :
    Calls Try.prog 8 #[.int .i64 most, .slice A n cp] w fun v W' => ∃ (s : ByteArray) (vl : Value), v = .returned (.tuple #[.string s, vl]) ∧ bs s = letts (bear most) 0 xs ∧ OR W' w.heap.size 3 .i64 vl (caus (bear most) 0 xs) ∧ Below w.heap.size w W' := by
  have HM := Lib.hid (bear_in most)
  have HNew := Lib.hid (new_any most w)
  generalize bear most = m at *
  have HA := Lib.hid hA
  have HN := Lib.hid hn
  have HL := Lib.hid hl
  have k1 := make_byte n (by omega)
  have k2 := make_int n hn
  clear hA hn hl
  go_enter Try.func8, Try.ntmps8
  go_wp2_with fail
  refine HNew.out.mono ?_
  rintro v w1 ⟨g, X, rfl, F1, b1⟩
  have S1 : FS FV w X g m 0 ⟨#[]⟩ [] w1 := ⟨F1, b1, fun y hy => by cases hy⟩
  have S2 := (S1.box landed (brow (List.replicate n 0))).box landed (nrow (List.replicate n 0))
  rw [World.size_alloc] at S2
  obtain ⟨L, eL⟩ : ∃ L, L = w1.heap.size := ⟨_, rfl⟩
  obtain ⟨K, eK⟩ : ∃ K, K = w1.heap.size + 1 := ⟨_, rfl⟩
  have HLK := Lib.hid (show L ≠ K by omega)
  have S3 := S2.sub (B' := [(L, brow (fill (ltF m xs) xs.length 0)), (K, nrow (fill (caF m xs) xs.length 0))]) (fun x hx => by
    rw [fill_zero, fill_zero, HL.out, eL, eK] at hx
    simp only [List.mem_cons, List.not_mem_nil, or_false] at hx ⊢
    exact hx.symm)
  have S4 := Lib.hid (show PQ w g m L K xs 0 ((w1.alloc (brow (List.replicate n 0))).alloc (nrow (List.replicate n 0))) from ⟨X, ⟨#[]⟩, by cases xs <;> exact S3⟩)
  clear S1 S2 S3 F1 b1 HNew
  go_wp2
  rw [← eK, ← eL]
  generalize (w1.alloc (brow (List.replicate n 0))).alloc (nrow (List.replicate n 0)) = w2 at *
  clear k1 k2 eK eL
  have hwb := Lib.hid (fun (c x : Int) => lett_by m c x)
  go_loopw [21] (fun iv wr => ∃ (i : Nat), i ≤ n ∧ iv = .int .i64 i ∧ Hid (PQ w g m L K xs i wr)) (fun iv _ => n - (intOf iv).toNat)
  case atStart => exact ⟨0, Nat.zero_le _, rfl, S4⟩
  case round =>
    obtain ⟨i, hi, rfl, HR⟩ := hrel
    have hnn := HN.out
    by_cases hlt : i < n
    · have hlt' : (i : Int) < (n : Int) := by omega
      obtain ⟨X1, t1, Q1⟩ := HR.out
      have hix : i < xs.length := by rw [HL.out]; exact hlt
      obtain ⟨x, hx⟩ : ∃ x, xs[i]? = some x := ⟨_, List.getElem?_eq_getElem hix⟩
      obtain ⟨a, rfl, hc, _⟩ := (HA.out.below Q1.b) i x hx
      have ha := ahead_in HM.out.1 0 xs i (by have := HM.out.1; omega)
      have HS := Lib.hid (step_any x Q1.p HM.out.2 ha.1)
      have e1 : ltF m xs i = lett m (ahead m 0 xs i) x := by unfold ltF; rw [List.getD_eq_getElem?_getD, hx]; rfl
      have e2 : caF m xs i = cau m (ahead m 0 xs i) x := (script_at m 0 xs i x hx).2.2
      have E3 := Lib.hid (show ahead m 0 xs (i + 1) = cau m (ahead m 0 xs i) x from e2)
      have E1 := Lib.hid (show (fill (ltF m xs) xs.length i).set i (lett m (ahead m 0 xs i) x) = fill (ltF m xs) xs.length (i + 1) by rw [← e1]; exact fill_set _ _ _)
      have E2 := Lib.hid (show (fill (caF m xs) xs.length i).set i (cau m (ahead m 0 xs i) x) = fill (caF m xs) xs.length (i + 1) by rw [← e2]; exact fill_set _ _ _)
      obtain ⟨ob, hob⟩ : ∃ ob, (fill (ltF m xs) xs.length i)[i]? = some ob := ⟨_, fill_get _ hix⟩
      obtain ⟨oc, hoc⟩ : ∃ oc, (fill (caF m xs) xs.length i)[i]? = some oc := ⟨_, fill_get _ hix⟩
      have HOB := Lib.hid hob
      have HOC := Lib.hid hoc
      have HQ := Lib.hid Q1
      have HX := Lib.hid hix
      have hwf := u8_wf' (hwb.out (ahead m 0 xs i) x)
      generalize lett m (ahead m 0 xs i) x = lv at *
      generalize cau m (ahead m 0 xs i) x = cv at *
      clear ha e1 e2 hob hoc Q1 hx hix HR
      go_wp2_with fail
      refine HS.out.mono ?_
      rintro v w3 ⟨rfl, X2, t2, F2, T2⟩
      have Q2 := HQ.out.turn landed F2 T2
      have cb := row_get (Q2.at 0 rfl) HOB.out
      have fb := frozen_of_row w3 L i _ _ (Q2.at 0 rfl)
      have Q3 := Lib.hid (pq_first i Q2 HLK.out E1.out)
      clear Q2 F2 T2 HQ hc
      go_wp2_with fail
      generalize w3.setCell ⟨L, i, none⟩ (.int .u8 lv) = w4 at *
      clear cb fb
      refine (caught_m g m cv t2 w4 Q3.out.p.box).mono ?_
      rintro v w5 ⟨rfl, b5⟩
      have Q5 := Q3.out.next landed b5
      have cc := row_get (Q5.at 1 rfl) HOC.out
      have fc := frozen_of_row w5 K i _ _ (Q5.at 1 rfl)
      have Q6 := Lib.hid (pq_second i Q5 HLK.out E2.out)
      clear Q5 Q3 b5
      go_wp2
      go_roundw
      case rel => exact ⟨i + 1, by omega, by go_num, Lib.hid ⟨X2, t2, by rw [E3.out]; exact Q6.out⟩⟩
      case measure => simp [intOf]; omega
    · obtain rfl : i = n := by omega
      obtain ⟨X1, t1, Q1⟩ := HR.out
      rw [← HL.out, lt_all, ca_all, HL.out] at Q1
      have HQ := Lib.hid Q1
      have hb := letts_by m 0 xs
      have hcv : (convert 45 9 (.slice (some ⟨L, 0, none⟩) i i)).run Try.prog wr = .ok (.string (strOfNums (letts m 0 xs))) wr :=
        conv_cl Try.underlying45 Try.underlying5 Try.underlying9 (row_cl (Q1.at 0 rfl) hb.wf) (by rw [letts_len, HL.out])
      clear Q1 HR
      go_wp2
      go_ret2
      refine ⟨_, _, rfl, bs_str hb, ?_, HQ.out.b⟩
      have hr := OR.row (base := w.heap.size) (HQ.out.at 1 rfl) (HQ.out.bx _ (List.mem_cons_of_mem _ List.mem_cons_self)).2.2 (caus_wf HM.out.1 HM.out.2 0 xs (by have := HM.out.1; omega)) (by rw [caus_len, HL.out]; have := HN.out; unfold maxLen; omega)
      rw [caus_len, HL.out] at hr
      exact hr
theorem landedP : PlayS where
  play := play_any
end Go.Proofs.Ytjglgglolbkjlaa.FuseW
