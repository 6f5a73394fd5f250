/- seal; the document's own rows: number, lay. -/
import Derived.Test.YtnlimdlmhfnkiaaFrameD
import Derived.Deep.OwnRows
import Derived.Test.YtnlimdlmhfnkiaaFrameF
import Derived.Test.YtnlimdlmhfnkiaaFrameS
import Derived.Laws.MakeOwn
import Derived.Lib.AppendStr
import Derived.Lib.ConvBytes
namespace Go.Proofs.Ytnlimdlmhfnkiaa.FrameW
open Go.RowKit
theorem made_u8 (n : Nat) : madeCells #[.int .u8 0] n = (u8s (List.replicate n 0)).toArray := by
  apply Array.toList_inj.1
  rw [toList_madeCells_one]
  unfold u8s
  simp
theorem u8s_set (rs : List Int) (k : Nat) (v : Int) : (u8s rs).toArray.setIfInBounds k (.int .u8 v) = (u8s (rs.set k v)).toArray := by
  rw [List.setIfInBounds_toArray]
  unfold u8s
  rw [List.map_set]
theorem row_get {w : World} {g : Nat} {rs : List Int} {t : TypeId} (h : w.heap[g]? = some (.cells (u8s rs).toArray t (0, 0))) {k : Nat} {d : Int} (hk : rs[k]? = some d) : w.cell? ⟨g, k, none⟩ = some (.int .u8 d) := by
  rw [cell_of_row w g k _ _ _ h, List.getElem?_toArray]
  unfold u8s
  rw [List.getElem?_map, hk]
  rfl
theorem ob_row {w : World} {base g : Nat} {rs : List Int} (h : w.heap[g]? = some (.cells (u8s rs).toArray 5 (0, 0))) (hb : base ≤ g) (hy : By rs) (hl : rs.length ≤ 9223372036854775807) : OB w base (.slice (some ⟨g, 0, none⟩) rs.length rs.length) rs :=
  ⟨⟨by rw [u8s_len, Nat.mul_one], Or.inr ⟨g, rs.length, (u8s rs).toArray, rfl, hb, h, Nat.le_refl _, by simp only [maxLen]; omega, by simp [u8s_len], by
    rw [Nat.mul_one, List.take_of_length_le (by simp [u8s_len])]⟩⟩, hy⟩
theorem be_cons (k n : Nat) : be (k + 1) n = ((n / 256 ^ k % 256 : Nat) : Int) :: be k n := by
  unfold be
  rw [List.range_succ_eq_map, List.map_cons, List.map_map]
  congr 1
  refine List.map_congr_left fun i hi => ?_
  simp only [Function.comp]
  rw [show k + 1 - 1 - (i + 1) = k - 1 - i by omega]
theorem set_be (j k n : Nat) : (List.replicate (j + 1) (0 : Int) ++ be k n).set j ((n / 256 ^ k % 256 : Nat) : Int) = List.replicate j 0 ++ be (k + 1) n := by
  rw [be_cons, List.replicate_succ', List.append_assoc, List.set_append_right _ _ (by simp)]
  simp
set_option maxHeartbeats 2000000 in
theorem refNumber_any (n bytes : Nat) (w : World) (hn : n < 18446744073709551616) (hs : bytes ≤ 8) (h1 : 0 < bytes) :
    Calls Try.prog 35 #[.int .u64 n, .int .i64 bytes] w fun e w' => ∃ v', e = .returned v' ∧ OB w' w.heap.size v' (be bytes n) ∧ Below w.heap.size w w' := by
  have hmk : ∀ w : World, (Instr.makeSlice 35 (.int .i64 (bytes : Int)) (.int .i64 (bytes : Int))).run Try.prog w = .ok (.slice (some ⟨w.heap.size, 0, none⟩) bytes bytes) (w.alloc (.cells (madeCells #[.int .u8 0] bytes) 5)) := fun w =>
    run_make_row' 35 5 (.int .u8 0) 1 Try.underlying35 (by kernel_rfl) rfl .i64 .i64 bytes (by omega) (by omega) w
  rw [made_u8] at hmk
  obtain ⟨Z, hZ⟩ : ∃ Z, Z = (u8s (List.replicate bytes 0)).toArray := ⟨_, rfl⟩
  rw [← hZ] at hmk
  have HZ := Lib.hid hZ
  have HN := Lib.hid hn
  have HP := Lib.hid h1
  clear hZ hn h1
  go_enter Try.func35, Try.ntmps35
  go_wp2_with fail
  have c1 := heap_alloc_new w (Obj.cells Z 5)
  have hb1 := al (Below.refl w.heap.size w) (Obj.cells Z 5)
  obtain ⟨G, hG⟩ : ∃ G, G = w.heap.size := ⟨_, rfl⟩
  rw [← hG] at hb1 c1 ⊢
  generalize w.alloc (Obj.cells Z 5) = W1 at *
  have C1 := Lib.hid (show W1.heap[G]? = some (.cells (u8s (List.replicate bytes 0)).toArray 5 (0, 0)) by rw [c1, HZ.out])
  have HG := Lib.hid hG
  have HB1 := Lib.hid hb1
  clear hb1 c1 hG hmk HZ
  go_loopw [0, 6] (fun nv iv wr => ∃ (m : Nat), m ≤ bytes ∧ iv = .int .i64 ((m : Int) - 1) ∧ nv = .int .u64 ((n / 256 ^ (bytes - m) : Nat) : Int) ∧ Hid (Below G W1 wr) ∧ Hid (wr.heap[G]? = some (.cells (u8s (List.replicate m 0 ++ be (bytes - m) n)).toArray 5 (0, 0)))) (fun _ iv _ => (intOf iv + 1).toNat)
  case atStart => exact ⟨bytes, Nat.le_refl _, rfl, by rw [Nat.sub_self, Nat.pow_zero, Nat.div_one], Lib.hid (Below.refl _ _), by rw [Nat.sub_self]; rw [show be 0 n = [] from rfl, List.append_nil]; exact C1⟩
  case round =>
    obtain ⟨m, hm, rfl, rfl, HB, HC⟩ := hrel
    rcases m with _ | j
    · have hj : ¬ (0 : Int) ≤ -1 := by omega
      go_wp2
      go_ret
      have h2 := HC.out
      rw [Nat.sub_zero, List.replicate_zero, List.nil_append] at h2
      have h3 := ob_row h2 (base := w.heap.size) (by rw [HG.out]; exact Nat.le_refl _) (be_by _ _) (by rw [be_len]; omega)
      rw [be_len] at h3
      exact ⟨_, rfl, h3, by rw [← HG.out]; exact HB1.out.trans HB.out⟩
    · have ej : (((j + 1 : Nat) : Int)) - 1 = (j : Int) := by omega
      rw [ej]
      have ek : bytes - j = bytes - (j + 1) + 1 := by omega
      have HK := Lib.hid ek
      generalize bytes - (j + 1) = k at *
      have hset := set_be j k n
      have hq : n / 256 ^ (k + 1) = n / 256 ^ k / 256 := by rw [Nat.pow_succ, Nat.div_div_eq_div_mul]
      have hql : n / 256 ^ k < 18446744073709551616 := Nat.lt_of_le_of_lt (Nat.div_le_self _ _) HN.out
      have HQ := Lib.hid hq
      have hget : (List.replicate (j + 1) (0 : Int) ++ be k n)[j]? = some 0 := by rw [List.getElem?_append_left (by simp)]; simp
      have hcell := row_get HC.out hget
      have hfr := frozen_of_row wr G j _ _ HC.out
      generalize List.replicate (j + 1) (0 : Int) ++ be k n = rs at *
      have HR := Lib.hid (show rs.set j (((n / 256 ^ k) % 256 : Nat) : Int) = List.replicate j 0 ++ be (bytes - j) n by rw [ek]; exact hset)
      generalize n / 256 ^ k = q at *
      have e2 : IntKind.u8.wrap ((q : Int) % 256) = ((q % 256 : Nat) : Int) := by rw [IntKind.wrap_u8']; omega
      have j0 : (0 : Int) ≤ (j : Int) := by omega
      have j1 : (j : Int) < (bytes : Int) := by omega
      clear hset hq hget ek
      go_wp2_with fail
      refine ⟨⟨j, by omega, rfl, ?_, Lib.hid (HB.out.setCell (Nat.le_refl _) _), Lib.hid ?_⟩, by simp [intOf]⟩
      · rw [HK.out, HQ.out]; congr 1
      · rw [← HR.out, ← u8s_set, show ((q % 256 : Nat) : Int) = (q : Int) % 256 by omega]
        exact heap_setCell_same _ G j _ _ _ HC.out
set_option maxHeartbeats 2000000 in
theorem lay_any (v : Value) (xs : List Int) (A : Option Addr) (c : Nat) (ys : List Int) (base : Nat) (w : World) (h : OB w base v xs) (hy : BL w A ys) (hf : Far v A) (hx : xs.length ≤ 35184372088832) (hl : ys.length ≤ 35184372088832) (hb : base ≤ w.heap.size) :
    Calls Try.prog 34 #[v, .slice A ys.length c] w fun e w' => ∃ v', e = .returned v' ∧ OB w' base v' (xs ++ ys) ∧ Step w v w' v' := by
  have H := Lib.hid h
  have HY := Lib.hid hy
  have HF := Lib.hid hf
  have HX := Lib.hid hx
  have HB := Lib.hid hb
  obtain ⟨A0, c0, rfl, -⟩ := h.form
  clear h hy hf hx hb
  go_enter Try.func34, Try.ntmps34
  go_wp2
  go_loopw [0, 5] (fun v1 iv wr => ∃ (k : Nat), k ≤ ys.length ∧ iv = .int .i64 k ∧ Hid (OB wr base v1 (xs ++ ys.take k)) ∧ Hid (Step w (.slice A0 xs.length c0) wr v1)) (fun _ iv _ => ys.length - (intOf iv).toNat)
  case atStart => exact ⟨0, Nat.zero_le _, rfl, by rw [List.take_zero, List.append_nil]; exact H, Lib.hid (Step.refl _ _)⟩
  case round =>
    obtain ⟨k, hk, rfl, HO, HS⟩ := hrel
    by_cases hlt : k < ys.length
    · obtain ⟨x, hx⟩ : ∃ x, ys[k]? = some x := ⟨_, List.getElem?_eq_getElem hlt⟩
      obtain ⟨ad, rfl, hc, q0, q1⟩ := (HY.out.step HS.out HF.out) k x hx
      have HT2 := Lib.hid (show xs ++ ys.take (k + 1) = (xs ++ ys.take k) ++ [x] by rw [List.take_add_one, hx, List.append_assoc]; rfl)
      have HLn := Lib.hid (show (xs ++ ys.take k).length ≤ xs.length + ys.length by rw [List.length_append, List.length_take]; omega)
      generalize xs ++ ys.take k = L at *
      obtain ⟨A1, c1, rfl, -⟩ := HO.out.form
      have HK := Lib.hid hlt
      have Q0 := Lib.hid q0
      have Q1 := Lib.hid q1
      clear hx q0 q1
      go_wp2_with (at_builtin; refine wpList_append_ob _ rfl _ _ rfl base _ _ rfl (HO.out.alloc _) ⟨wr.heap.size, 0, none⟩ 1 1 [x] rfl rfl ?c1 ?c2 ?c3 ?_)
      case c1 => exact one_bl _ _ Q0.out Q1.out _
      case c2 => have := HX.out; have := HLn.out; omega
      case c3 => rw [World.size_alloc]; have := HS.out.g.size; have := HB.out; omega
      intro v2 w2 o2 s2
      have HO2 := Lib.hid (show OB w2 base v2 (xs ++ ys.take (k + 1)) by rw [HT2.out]; exact o2)
      have HS2 := Lib.hid ((HS.out.trans (Step.alloc _ _ _)).trans s2)
      clear o2 s2
      go_wp2
      go_roundw
      case rel => exact ⟨k + 1, by have := HK.out; omega, by go_num, HO2, HS2⟩
      case measure => have := HK.out; simp [intOf]; omega
    · obtain rfl : k = ys.length := by omega
      have ho := HO.out
      rw [List.take_length] at ho
      have HO2 := Lib.hid ho
      clear ho
      go_wp2
      go_ret
      exact ⟨_, rfl, HO2.out, HS.out⟩
end Go.Proofs.Ytnlimdlmhfnkiaa.FrameW


/- Control; the document's own. -/
namespace Go.Proofs.Ytnlimdlmhfnkiaa.FrameW
open Go.RowKit
theorem OB.mono {w : World} {base b' : Nat} {v : Value} {xs : List Int} (h : OB w base v xs) (hb : b' ≤ base) : OB w b' v xs :=
  ⟨⟨h.1.1, h.1.2.imp id (fun ⟨g, cap, cur, hv, hg, rest⟩ => ⟨g, cap, cur, hv, by omega, rest⟩)⟩, h.2⟩
/-- A row that grows beside a kept block. -/
structure Grow (w0 : World) (g : Nat) (box : Obj) (w : World) (v : Value) (xs : List Int) : Prop where
  o : OB w (g + 1) v xs
  b : Below w0.heap.size w0 w
  x : w.heap[g]? = some box
  s : w0.heap.size ≤ g
theorem Grow.room {w0 w : World} {g : Nat} {box : Obj} {v : Value} {xs : List Int} (h : Grow w0 g box w v xs) : g + 1 ≤ w.heap.size := row_lt h.x
theorem Grow.next {w0 w w' : World} {g : Nat} {box : Obj} {v : Value} {xs : List Int} (h : Grow w0 g box w v xs) (b : Below w.heap.size w w') : Grow w0 g box w' v xs :=
  ⟨h.o.below b, h.b.trans (b.mono h.b.size), row_below b h.x, h.s⟩
theorem Grow.step {w0 w w' : World} {g : Nat} {box : Obj} {v v' : Value} {xs ys : List Int} (h : Grow w0 g box w v xs) (o : OB w' (g + 1) v' ys) (b : Below (g + 1) w w') : Grow w0 g box w' v' ys :=
  ⟨o, h.b.trans (b.mono (by have := h.s; omega)), (b.block g (by omega)).trans h.x, h.s⟩
theorem Grow.form {w0 w : World} {g : Nat} {box : Obj} {v : Value} {xs : List Int} (h : Grow w0 g box w v xs) : ∃ A c, v = .slice A xs.length c := by
  obtain ⟨A, c, hv, -⟩ := h.o.form
  exact ⟨A, c, hv⟩
/-- Bytes laid behind a row that grows, out of a row that came behind it. -/
theorem lay_g {w0 w : World} {g : Nat} {box : Obj} {v : Value} {xs : List Int} (h : Grow w0 g box w v xs) (A : Option Addr) (c : Nat) (ys : List Int) (m : Nat) (hm : m = ys.length) (hy : BL w A ys) (hf : Far v A) (hx : xs.length ≤ 35184372088832) (hl : ys.length ≤ 35184372088832) :
    Calls Try.prog 34 #[v, .slice A m c] w fun e w' => ∃ v', e = .returned v' ∧ Grow w0 g box w' v' (xs ++ ys) := by
  subst hm
  refine (lay_any v xs A c ys (g + 1) w h.o hy hf hx hl h.room).mono ?_
  rintro e w' ⟨v', rfl, o, s⟩
  exact ⟨v', rfl, h.step o (s.below h.o h.room)⟩
theorem far_of {w : World} {base' : Nat} {u v : Value} {ys : List Int} {A : Option Addr} {n c : Nat} (hv : ∀ k, u.ownBlock = some k → k < base') (h : OB w base' v ys) (e : v = .slice A n c) : Far u A := by
  intro a ha hk
  subst e; subst ha
  have h1 := (h.lt a.block rfl).1
  have h2 := hv a.block hk.symm
  omega
theorem cells5 {w : World} {j : Nat} {x y z u v : Value} {t : TypeId} {fr : Nat × Nat} (h : w.heap[j]? = some (.cells #[x, y, z, u, v] t fr)) : w.cell? ⟨j, 0, none⟩ = some x ∧ w.cell? ⟨j, 1, none⟩ = some y ∧ w.cell? ⟨j, 2, none⟩ = some z ∧ w.cell? ⟨j, 3, none⟩ = some u ∧ w.cell? ⟨j, 4, none⟩ = some v :=
  ⟨cell_of_row w j 0 _ _ _ h, cell_of_row w j 1 _ _ _ h, cell_of_row w j 2 _ _ _ h, cell_of_row w j 3 _ _ _ h, cell_of_row w j 4 _ _ _ h⟩
theorem u64_same {x : Int} (h0 : 0 ≤ x) (h1 : x < 18446744073709551616) : IntKind.u64.wrap x = x := by rw [IntKind.wrap_u64]; omega
end Go.Proofs.Ytnlimdlmhfnkiaa.FrameW


/- The document's own control frame. -/
namespace Go.Proofs.Ytnlimdlmhfnkiaa.FrameW
open Go.RowKit
theorem heap_at {w : World} {g : Nat} (h : w.heap.size = g) (o : Obj) : (w.alloc o).heap[g]? = some o := by subst h; exact heap_alloc_new w o
theorem Grow.len {w0 w : World} {g : Nat} {box : Obj} {v : Value} {xs : List Int} (h : Grow w0 g box w v xs) : ∃ A m c, v = .slice A m c ∧ m = xs.length := by
  obtain ⟨A, c, hv, -⟩ := h.o.form
  exact ⟨A, _, c, hv, rfl⟩
theorem number_g {w0 w : World} {g : Nat} {box : Obj} {v : Value} {xs : List Int} (h : Grow w0 g box w v xs) (n bytes : Nat) {N S : Int} (hN : N = (n : Int)) (hS : S = (bytes : Int)) (hn : n < 18446744073709551616) (hs : bytes ≤ 8) (h0 : 0 < bytes) :
    Calls Try.prog 35 #[.int .u64 N, .int .i64 S] w fun e w' => ∃ A c, e = .returned (.slice A bytes c) ∧ Grow w0 g box w' v xs ∧ BL w' A (be bytes n) ∧ Far v A := by
  subst hN; subst hS
  refine (refNumber_any n bytes w hn hs h0).mono ?_
  rintro e w' ⟨v', rfl, o, b⟩
  obtain ⟨A, c, hv, hbl, -⟩ := o.form
  exact ⟨A, c, by rw [hv, be_len], h.next b, hbl, far_of (fun k hk => (h.o.lt k hk).2) o hv⟩
end Go.Proofs.Ytnlimdlmhfnkiaa.FrameW


/- Data. -/
namespace Go.Proofs.Ytnlimdlmhfnkiaa.FrameW
open Go.RowKit Go.Lib
abbrev dbox (c l n : Int) (p : ByteArray) (s : Int) : Obj := .cells #[.int .i64 c, .int .i64 l, .int .i64 n, .string p, .int .i64 s] 39
end Go.Proofs.Ytnlimdlmhfnkiaa.FrameW


/- ReadControl. -/
namespace Go.Proofs.Ytnlimdlmhfnkiaa.FrameW
open Go.RowKit
theorem set5 {W : World} {g : Nat} {t : TypeId} {a0 a1 a2 a3 a4 x0 x1 x2 x3 x4 : Value} (h : W.heap[g]? = some (.cells #[a0, a1, a2, a3, a4] t (0, 0))) :
    (((((W.setCell ⟨g, 0, none⟩ x0).setCell ⟨g, 1, none⟩ x1).setCell ⟨g, 2, none⟩ x2).setCell ⟨g, 3, none⟩ x3).setCell ⟨g, 4, none⟩ x4).heap[g]? = some (.cells #[x0, x1, x2, x3, x4] t (0, 0)) :=
  heap_setCell_same _ g 4 _ _ _ (heap_setCell_same _ g 3 _ _ _ (heap_setCell_same _ g 2 _ _ _ (heap_setCell_same _ g 1 _ _ _ (heap_setCell_same _ g 0 _ _ _ h))))
theorem keep5 {w W : World} {g : Nat} {x0 x1 x2 x3 x4 : Value} (h : Below w.heap.size w W) (hg : w.heap.size ≤ g) :
    Below w.heap.size w (((((W.setCell ⟨g, 0, none⟩ x0).setCell ⟨g, 1, none⟩ x1).setCell ⟨g, 2, none⟩ x2).setCell ⟨g, 3, none⟩ x3).setCell ⟨g, 4, none⟩ x4) :=
  ((((h.setCell hg _).setCell hg _).setCell hg _).setCell hg _).setCell hg _
/-- A stretch of code that has but one way out. -/
theorem wp_cut {P : Program} {c : Code} {Q : Exit → Act → World → Prop} {a : Act} {w : World} (A2 : Act) (W2 : World) (h : c.wp P (fun e a' w' => e = Exit.normal ∧ a' = A2 ∧ w' = W2) a w) (hm : Q .normal A2 W2) : c.wp P Q a w :=
  Code.wp_mono (fun _ _ _ ⟨h1, h2, h3⟩ => by subst h1; subst h2; subst h3; exact hm) h
theorem wrap_right {x : Int} (h1 : 0 ≤ x) (h2 : x ≤ 1125899906842624) : IntKind.i64.wrap x = x := by rw [IntKind.wrap_i64]; omega
/-- number at bytes p to q of a slice. -/
theorem number_at {w : World} {a : Addr} {xs : List Int} (h : BL w (some a) xs) (p q c m : Nat) (b : Addr) (hb : b = a.add p) (hm : m = q - p) (h1 : p ≤ q) (h2 : q ≤ xs.length) (h8 : m ≤ 8) :
    Calls Try.prog 69 #[.slice (some b) m c] w fun e w' => e = .returned (.int .u64 (val (sl xs p q))) ∧ w' = w := by
  subst hb
  have := number_any (some (a.add p)) c (sl xs p q) w (h.sl p q) (by rw [sl_len h1 h2]; omega)
  rwa [sl_len h1 h2, ← hm] at this
theorem val_small2 {l : List Int} (h : By l) (p q : Nat) (h1 : p ≤ q) (h2 : q ≤ l.length) : val (sl l p q) < 256 ^ (q - p) := by
  have := val_lt (sl_by h p q)
  rwa [sl_len h1 h2] at this
end Go.Proofs.Ytnlimdlmhfnkiaa.FrameW


/- ReadData. -/
namespace Go.Proofs.Ytnlimdlmhfnkiaa.FrameW
open Go.RowKit
set_option maxRecDepth 100000 in
theorem conv_str {w : World} {A : Option Addr} {xs : List Int} {n c : Nat} (h : BL w A xs) (hn : n = xs.length) :
    (convert 35 9 (.slice A n c)).run Try.prog w = .ok (.string (strOfNums xs)) w := by
  subst hn
  cases A with
  | none =>
    have hx : xs = [] := by
      rcases xs with _ | ⟨x, xs⟩
      · rfl
      · obtain ⟨a, ha, -⟩ := h 0 x rfl
        cases ha
    subst hx
    show (convert 35 9 (.slice none 0 c)).run Try.prog w = _
    rw [run_convert_bytes_nil w 35 5 Try.underlying35 Try.underlying5 0 c 9 Try.underlying9]
    rfl
  | some a =>
    have hl : (loadCells a xs.length).run Try.prog w = .ok (xs.map (Value.int .u8)).toArray w := by
      have := run_loadCells_list (P := Try.prog) w a (xs.map (Value.int .u8)) (fun j v hj => by
        rw [List.getElem?_map] at hj
        cases hx : xs[j]? with
        | none => rw [hx] at hj; cases hj
        | some x =>
          rw [hx] at hj
          obtain ⟨b, hb, hc, -⟩ := h j x hx
          cases hb
          cases hj
          exact hc)
      simpa using this
    rw [run_convert_bytes_string w 35 9 5 (some a) xs.length c Try.underlying35 Try.underlying5 Try.underlying9, run_bytesToString w a xs.length c xs hl, foldl_push_bytes]
    simp [strOfNums, ByteArray.empty, ByteArray.emptyWithCapacity]
    rfl
set_option maxRecDepth 100000 in
theorem results_dat {fn : Func} {p u : Tmp} (h : fn.results = #[.cell p 39, .tmp u]) (tmps : Array Value) (w : World) (g : Nat) (t : TypeId) (x1 x2 x3 x4 x5 : Value) (fr : Nat × Nat)
    (hp : tmps.getD p undef = .pointer (some ⟨g, 0, none⟩)) (hg : w.heap[g]? = some (.cells #[x1, x2, x3, x4, x5] t fr)) :
    (results fn tmps).run Try.prog w = .ok (.tuple #[.agg #[x1, x2, x3, x4, x5], tmps.getD u undef]) w := by
  have hp' : tmps[p]?.getD undef = .pointer (some ⟨g, 0, none⟩) := by simpa using hp
  simp [results, h, hp', asAddr, run_loadVar_row w g t 39 #[x1, x2, x3, x4, x5] fr _ hg Try.underlying39 rfl (by kernel_rfl)]
set_option maxRecDepth 100000 in
theorem ret_dat {fn : Func} {R : Ending → World → Prop} {p u : Tmp} (h : fn.results = #[.cell p 39, .tmp u]) {tmps : Array Value} {w : World} {g : Nat} {x1 x2 x3 x4 x5 : Value} {t : TypeId} {fr : Nat × Nat}
    (hp : tmps.getD p undef = .pointer (some ⟨g, 0, none⟩)) (hg : w.heap[g]? = some (.cells #[x1, x2, x3, x4, x5] t fr)) (hR : R (.returned (.tuple #[.agg #[x1, x2, x3, x4, x5], tmps.getD u undef])) w) :
    bodyPost Try.prog fn R .ret { tmps := tmps, defers := [] } w :=
  bodyPost_ret (results_dat h tmps w g t x1 x2 x3 x4 x5 fr hp hg) rfl hR
set_option maxRecDepth 100000 in
theorem add_ten (a : Addr) (Z : Nat) : (⟨a.block, a.off + 10 + Z, none⟩ : Addr) = a.add (10 + Z) := by
  unfold Addr.add
  rw [if_neg (by omega), Nat.add_assoc]
/-- What ReadData tells. -/
def rdE (l : List Int) : Int := if okD l then 0 else if chk l 2 64 1518 = 0 then 2 else chk l 2 64 1518
def DZ : Value := DV 0 0 0 ⟨#[]⟩ 0
def rdV (l : List Int) : Value := if okD l then DV (cOf l) (lOf l) (nOf l) (strOfNums (pOf l)) l.length else DZ
set_option maxRecDepth 100000 in
theorem rd_no {l : List Int} (h : chk l 2 64 1518 ≠ 0) : rdE l = chk l 2 64 1518 ∧ rdV l = DZ := by
  unfold rdE rdV
  rw [if_neg (fun h2 => h h2.1), if_neg h, if_neg (fun h2 => h h2.1)]
  exact ⟨rfl, rfl⟩
set_option maxRecDepth 100000 in
theorem rd_bad {l : List Int} (h : chk l 2 64 1518 = 0) (h2 : ¬ okD l) : rdE l = 2 ∧ rdV l = DZ := by
  unfold rdE rdV
  rw [if_neg h2, if_pos h, if_neg h2]
  exact ⟨rfl, rfl⟩
set_option maxRecDepth 100000 in
theorem rd_ok {l : List Int} (h2 : okD l) : rdE l = 0 ∧ rdV l = DV (cOf l) (lOf l) (nOf l) (strOfNums (pOf l)) l.length := by
  unfold rdE rdV
  rw [if_pos h2, if_pos h2]
  exact ⟨rfl, rfl⟩
set_option maxRecDepth 100000 in
set_option maxHeartbeats 4000000 in
theorem readData_any (A : Option Addr) (c : Nat) (xs : List Int) (w : World) (h : BL w A xs) (hl : xs.length ≤ 9223372036854775807) (hc : xs.length ≤ c) :
    Calls Try.prog 54 #[.slice A xs.length c] w fun e w' => e = .returned (.tuple #[rdV xs, .int .i64 (rdE xs)]) ∧ Below w.heap.size w w' := by
  have C := fun W (hW : Below w.heap.size w W) => check_any A c xs 2 64 1518 W (h.below hW) hl hc (by decide)
  by_cases hk : chk xs 2 64 1518 = 0
  · rw [hk] at C
    obtain ⟨g1, g2, -, -⟩ := chk_ok.1 hk
    have hA : ∃ a, A = some a := h.some (by omega)
    obtain ⟨a, rfl⟩ := hA
    have HX := Lib.hid h
    have hy := h.by
    obtain ⟨M, hM⟩ : ∃ M, xs.length = M + 14 := ⟨xs.length - 14, by omega⟩
    have v1 := val_small2 hy 2 3 (by decide) (by omega)
    have v2 := val_small2 hy 3 4 (by decide) (by omega)
    have v3 := val_small2 hy 4 8 (by decide) (by omega)
    have v4 := val_small2 hy 8 10 (by decide) (by omega)
    have e1 : IntKind.i64.wrap (cOf xs) = cOf xs := wrap_right (by unfold cOf; omega) (by unfold cOf; omega)
    have e2 : IntKind.i64.wrap (lOf xs) = lOf xs := wrap_right (by unfold lOf; omega) (by unfold lOf; omega)
    have e3 : IntKind.i64.wrap (nOf xs) = nOf xs := wrap_right (by unfold nOf; omega) (by unfold nOf; omega)
    have e4 : IntKind.i64.wrap (zOf xs : Int) = (zOf xs : Int) := wrap_right (by unfold zOf; omega) (by unfold zOf; omega)
    have zb : zOf xs < 65536 := by unfold zOf; omega
    have N1 := fun W (hW : BL W (some a) xs) (d : Nat) (b : Addr) (hb : b = a.add 2) => number_at hW 2 3 d 1 b hb rfl (by decide) (by omega) (by decide)
    have N2 := fun W (hW : BL W (some a) xs) (d : Nat) (b : Addr) (hb : b = a.add 3) => number_at hW 3 4 d 1 b hb rfl (by decide) (by omega) (by decide)
    have N3 := fun W (hW : BL W (some a) xs) (d : Nat) (b : Addr) (hb : b = a.add 4) => number_at hW 4 8 d 4 b hb rfl (by decide) (by omega) (by decide)
    have N4 := fun W (hW : BL W (some a) xs) (d : Nat) (b : Addr) (hb : b = a.add 8) => number_at hW 8 10 d 2 b hb rfl (by decide) (by omega) (by decide)
    rw [show (val (sl xs 2 3) : Int) = cOf xs from rfl] at N1
    rw [show (val (sl xs 3 4) : Int) = lOf xs from rfl] at N2
    rw [show (val (sl xs 4 8) : Int) = nOf xs from rfl] at N3
    rw [show (val (sl xs 8 10) : Int) = (zOf xs : Int) from rfl] at N4
    have HBAD := Lib.hid (show ¬ okD xs → rdE xs = 2 ∧ rdV xs = DZ from fun r => rd_bad hk r)
    have hfit : fitD xs ↔ zOf xs ≤ M := by unfold fitD; rw [hM]; omega
    have HC := Lib.hid C
    have H1 := Lib.hid N1
    have H2 := Lib.hid N2
    have H3 := Lib.hid N3
    have H4 := Lib.hid N4
    have cI : ((M : Int) + 14) ≤ (c : Int) := by omega
    have m0 : (M : Int) ≤ 1504 := by omega
    have m1 : 50 ≤ (M : Int) := by omega
    have n2 : ¬ c = 2 := by omega
    have n3 : ¬ c = 3 := by omega
    have n4 : ¬ c = 4 := by omega
    have n8 : ¬ c = 8 := by omega
    have n10 : ¬ c = 10 := by omega
    have i3 : (3 : Int) ≤ (c : Int) := by omega
    have i4 : (4 : Int) ≤ (c : Int) := by omega
    have i8 : (8 : Int) ≤ (c : Int) := by omega
    have i10 : (10 : Int) ≤ (c : Int) := by omega
    have i10M : ((M : Int) + 10) ≤ (c : Int) := by omega
    by_cases hz : zOf xs ≤ M
    · have RD := fun (p : ByteArray) W (hp : p.size ≤ 9223372036854775807) => rightData_any (cOf xs) (lOf xs) (nOf xs) p ((M : Int) + 14) W hp
      have BK := fun W (hW : BL W (some a) xs) (d : Nat) (b : Addr) (hb : b = a.add (10 + zOf xs)) => blank_any (some b) d (sl xs (10 + zOf xs) (M + 10)) W (by rw [hb]; exact hW.sl _ _) (by rw [sl_len (by omega) (by omega)]; omega)
      rw [sl_len (by omega) (by omega), show M + 10 - (10 + zOf xs) = M - zOf xs by omega] at BK
      have hpl : (pOf xs).length = zOf xs := pOf_len (by omega) (hfit.2 hz)
      have CV1 := fun W (hW : BL W (some a) xs) (d : Nat) (b : Addr) (hb : b = a.add 10) => conv_str (w := W) (A := some b) (xs := pOf xs) (n := zOf xs) (c := d) (by rw [hb]; exact hW.sl 10 (10 + zOf xs)) hpl.symm
      have hps : (strOfNums (pOf xs)).size = zOf xs := by rw [strOfNums_size, hpl]
      have hbsp : bs (strOfNums (pOf xs)) = pOf xs := bs_str (hy.drop 10 |>.take _)
      have HOK := Lib.hid (show blank (sl xs (10 + zOf xs) (M + 10)) → rightD (cOf xs) (lOf xs) (nOf xs) (bs (strOfNums (pOf xs))) ((M : Int) + 14) → rdE xs = 0 ∧ rdV xs = DV (cOf xs) (lOf xs) (nOf xs) (strOfNums (pOf xs)) ((M : Int) + 14) from fun b r => by
        rw [hbsp] at r
        have e : ((xs.length : Nat) : Int) = (M : Int) + 14 := by rw [hM]; rfl
        have := rd_ok (l := xs) ⟨hk, hfit.2 hz, by rw [hM]; exact b, by rw [e]; exact r⟩
        rwa [e] at this)
      have HBAD2 := Lib.hid (show ¬ (blank (sl xs (10 + zOf xs) (M + 10)) ∧ rightD (cOf xs) (lOf xs) (nOf xs) (bs (strOfNums (pOf xs))) ((M : Int) + 14)) → rdE xs = 2 ∧ rdV xs = DZ from fun r => HBAD.out (fun o => r ⟨by have := o.2.2.1; rw [hM] at this; exact this, by
        rw [hbsp]
        have e : ((xs.length : Nat) : Int) = (M : Int) + 14 := by rw [hM]; rfl
        have := o.2.2.2
        rwa [e] at this⟩))
      have HR := Lib.hid (fun W => RD (strOfNums (pOf xs)) W (by omega))
      clear RD hfit HBAD hpl hbsp hy v1 v2 v3 v4 g1 g2 hk h
      rw [hM] at HC ⊢
      generalize rdE xs = E at *
      generalize rdV xs = V at *
      generalize sl xs (10 + zOf xs) (M + 10) = B at *
      generalize cOf xs = k at *
      generalize lOf xs = f at *
      generalize nOf xs = cy at *
      generalize strOfNums (pOf xs) = ps at *
      generalize zOf xs = Z at *
      have z0 : (0 : Int) ≤ (Z : Int) := by omega
      have z1 : (Z : Int) ≤ (M : Int) := by omega
      have z2 : (Z : Int) ≤ ((c - 10 : Nat) : Int) := by omega
      have z3 : ¬ c - 10 = Z := by omega
      have z4 : ¬ (M : Int) < (Z : Int) := by omega
      have H6 := Lib.hid BK
      have H7 := Lib.hid CV1
      clear C N1 N2 N3 N4 BK CV1 hl hc
      go_enter Try.func54, Try.ntmps54
      go_wp2_with fail
      refine (HC.out _ (al (Below.refl _ _) _)).mono ?_
      rintro e w1 ⟨rfl, b1⟩
      have X1 := Lib.hid (show w1.heap[w.heap.size]? = some (dbox 0 0 0 ⟨#[]⟩ 0) from row_below b1 (heap_alloc_new w _))
      have B1 := Lib.hid ((al (Below.refl w.heap.size w) (dbox 0 0 0 ⟨#[]⟩ 0)).trans (b1.mono (by simp)))
      have Y1 := HX.out.below B1.out
      clear b1
      by_cases hb : blank B
      · have HBT := Lib.hid (decide_eq_true hb)
        have HBP := Lib.hid hb
        clear hb
        go_wp2_with (first
          | (go_at_call 69; refine (H4.out _ Y1 _ _ rfl).mono ?_; rintro e w9 ⟨rfl, hw⟩; obtain rfl := hw.symm)
          | (go_at_call 70; refine (H6.out _ Y1 _ _ (add_ten a Z)).mono ?_; rintro e w9 ⟨rfl, hw⟩; obtain rfl := hw.symm; rw [HBT.out]))
        have hv1 : (convert 35 9 (.slice (some ⟨a.block, a.off + 10, none⟩) Z (c - 10))).run Try.prog w1.drew = .ok (.string ps) w1.drew := H7.out w1.drew (show BL w1.drew (some a) xs from Y1) _ _ rfl
        have hv2 : (convert 35 9 (.slice (some ⟨a.block, a.off + 10, none⟩) Z (c - 10))).run Try.prog (w1.alloc (dbox 0 0 0 ⟨#[]⟩ 0)).drew = .ok (.string ps) (w1.alloc (dbox 0 0 0 ⟨#[]⟩ 0)).drew := H7.out _ (Y1.below (al (Below.refl _ _) _).drew) _ _ rfl
        have hv3 : (convert 35 9 (.slice (some ⟨a.block, a.off + 10, none⟩) Z (c - 10))).run Try.prog (w1.alloc (dbox k f cy ps ((M : Int) + 14))).drew = .ok (.string ps) (w1.alloc (dbox k f cy ps ((M : Int) + 14))).drew := H7.out _ (Y1.below (al (Below.refl _ _) _).drew) _ _ rfl
        apply wp_cut
        case h =>
         go_region_held3 (fun w' => (convert 35 9 (.slice (some ⟨a.block, a.off + 10, none⟩) Z (c - 10))).run Try.prog w' = .ok (.string ps) w') (first | exact hv1 | exact hv2 | exact hv3) (first
           | (go_at_call 69; (with_reducible refine (H1.out _ ?_ _ _ ?_).mono ?_); (first | exact Y1 | exact Y1.below (al (Below.refl _ _) _).drew | exact Y1.below (al (Below.refl _ _) _)); rfl; rintro e w9 ⟨rfl, hw⟩; cases hw)
           | (go_at_call 69; (with_reducible refine (H2.out _ ?_ _ _ ?_).mono ?_); (first | exact Y1 | exact Y1.below (al (Below.refl _ _) _).drew | exact Y1.below (al (Below.refl _ _) _)); rfl; rintro e w9 ⟨rfl, hw⟩; cases hw)
           | (go_at_call 69; (with_reducible refine (H3.out _ ?_ _ _ ?_).mono ?_); (first | exact Y1 | exact Y1.below (al (Below.refl _ _) _).drew | exact Y1.below (al (Below.refl _ _) _)); rfl; rintro e w9 ⟨rfl, hw⟩; cases hw))
         all_goals exact ⟨rfl, rfl, rfl⟩
        case hm =>
          have Z2 := heap_alloc_new w1 (dbox k f cy ps ((M : Int) + 14))
          have B2 := (al (Below.refl w1.heap.size w1) (dbox k f cy ps ((M : Int) + 14))).drew
          clear hv1 hv2 hv3
          go_wp2_with fail
          refine (HR.out _).mono ?_
          rintro e w3 ⟨rfl, b3⟩
          have B3 := B2.trans (b3.mono B2.size)
          have Z3 := Lib.hid (show w3.heap[w1.heap.size]? = some (dbox k f cy ps ((M : Int) + 14)) from row_below b3 Z2)
          have X3 := Lib.hid (row_below B3 X1.out)
          have W3 := Lib.hid (B1.out.trans (B3.mono B1.out.size))
          obtain ⟨d0, d1, d2, d3, d4⟩ := cells5 Z3.out
          obtain ⟨c0, c1, c2, c3, c4⟩ := cells5 X3.out
          have f0 := frozen_of_row w3 w.heap.size 0 _ _ X3.out
          have f1 := frozen_of_row w3 w.heap.size 1 _ _ X3.out
          have f2 := frozen_of_row w3 w.heap.size 2 _ _ X3.out
          have f3 := frozen_of_row w3 w.heap.size 3 _ _ X3.out
          have f4 := frozen_of_row w3 w.heap.size 4 _ _ X3.out
          clear b3 B3 B2 Z2
          by_cases hr : rightD k f cy (bs ps) ((M : Int) + 14)
          · rw [decide_eq_true hr]
            obtain ⟨hE, hV⟩ := HOK.out HBP.out hr
            have HE := Lib.hid hE
            have HV := Lib.hid hV
            clear hE hV hr
            go_wp2
            exact ret_dat rfl rfl (set5 X3.out) ⟨by rw [HE.out, HV.out]; rfl, keep5 W3.out (Nat.le_refl _)⟩
          · rw [decide_eq_false hr]
            obtain ⟨hE, hV⟩ := HBAD2.out (fun h => hr h.2)
            have HE := Lib.hid hE
            have HV := Lib.hid hV
            clear hE hV hr
            go_wp2
            exact ret_dat rfl rfl (set5 X3.out) ⟨by rw [HE.out, HV.out]; rfl, keep5 W3.out (Nat.le_refl _)⟩
      · obtain ⟨hE, hV⟩ := HBAD2.out (fun h => hb h.1)
        have HE := Lib.hid hE
        have HV := Lib.hid hV
        have HBT := Lib.hid (decide_eq_false hb)
        obtain ⟨c0, c1, c2, c3, c4⟩ := cells5 X1.out
        have f0 := frozen_of_row w1 w.heap.size 0 _ _ X1.out
        have f1 := frozen_of_row w1 w.heap.size 1 _ _ X1.out
        have f2 := frozen_of_row w1 w.heap.size 2 _ _ X1.out
        have f3 := frozen_of_row w1 w.heap.size 3 _ _ X1.out
        have f4 := frozen_of_row w1 w.heap.size 4 _ _ X1.out
        clear hE hV hb
        go_wp2_with (first
          | (go_at_call 69; refine (H4.out _ Y1 _ _ rfl).mono ?_; rintro e w9 ⟨rfl, hw⟩; obtain rfl := hw.symm)
          | (go_at_call 70; refine (H6.out _ Y1 _ _ (add_ten a Z)).mono ?_; rintro e w9 ⟨rfl, hw⟩; obtain rfl := hw.symm; rw [HBT.out]))
        exact ret_dat rfl rfl (set5 X1.out) ⟨by rw [HE.out, HV.out]; rfl, keep5 B1.out (Nat.le_refl _)⟩
    · obtain ⟨hE, hV⟩ := HBAD.out (fun h => hz (hfit.1 h.2.1))
      have HE := Lib.hid hE
      have HV := Lib.hid hV
      clear hE hV hfit HBAD hy v1 v2 v3 v4 g1 g2 hk h
      rw [hM] at HC ⊢
      generalize rdE xs = E at *
      generalize rdV xs = V at *
      generalize zOf xs = Z at *
      have z4 : (M : Int) < (Z : Int) := by omega
      clear C N1 N2 N3 N4 hl hc hz
      go_enter Try.func54, Try.ntmps54
      go_wp2_with fail
      refine (HC.out _ (al (Below.refl _ _) _)).mono ?_
      rintro e w1 ⟨rfl, b1⟩
      have X1 := Lib.hid (show w1.heap[w.heap.size]? = some (dbox 0 0 0 ⟨#[]⟩ 0) from row_below b1 (heap_alloc_new w _))
      have B1 := Lib.hid ((al (Below.refl w.heap.size w) (dbox 0 0 0 ⟨#[]⟩ 0)).trans (b1.mono (by simp)))
      have Y1 := HX.out.below B1.out
      obtain ⟨c0, c1, c2, c3, c4⟩ := cells5 X1.out
      have f0 := frozen_of_row w1 w.heap.size 0 _ _ X1.out
      have f1 := frozen_of_row w1 w.heap.size 1 _ _ X1.out
      have f2 := frozen_of_row w1 w.heap.size 2 _ _ X1.out
      have f3 := frozen_of_row w1 w.heap.size 3 _ _ X1.out
      have f4 := frozen_of_row w1 w.heap.size 4 _ _ X1.out
      clear b1
      go_wp2_with (go_at_call 69; refine (H4.out _ Y1 _ _ rfl).mono ?_; rintro e w9 ⟨rfl, hw⟩; obtain rfl := hw.symm)
      exact ret_dat rfl rfl (set5 X1.out) ⟨by rw [HE.out, HV.out]; rfl, keep5 B1.out (Nat.le_refl _)⟩
  · obtain ⟨hE, hV⟩ := rd_no hk
    rw [hE, hV]
    have hkb : (chk xs 2 64 1518 != 0) = true := by simp [hk]
    generalize chk xs 2 64 1518 = E at *
    have HC := Lib.hid C
    clear C h hE hV hl hc hk
    go_enter Try.func54, Try.ntmps54
    go_wp2_with fail
    refine (HC.out _ (al (Below.refl _ _) _)).mono ?_
    rintro e w1 ⟨rfl, b1⟩
    have X1 := Lib.hid (show w1.heap[w.heap.size]? = some (dbox 0 0 0 ⟨#[]⟩ 0) from row_below b1 (heap_alloc_new w _))
    have B1 := Lib.hid ((al (Below.refl w.heap.size w) (dbox 0 0 0 ⟨#[]⟩ 0)).trans (b1.mono (by simp)))
    obtain ⟨c0, c1, c2, c3, c4⟩ := cells5 X1.out
    have f0 := frozen_of_row w1 w.heap.size 0 _ _ X1.out
    have f1 := frozen_of_row w1 w.heap.size 1 _ _ X1.out
    have f2 := frozen_of_row w1 w.heap.size 2 _ _ X1.out
    have f3 := frozen_of_row w1 w.heap.size 3 _ _ X1.out
    have f4 := frozen_of_row w1 w.heap.size 4 _ _ X1.out
    clear b1
    go_wp2
    exact ret_dat rfl rfl (set5 X1.out) ⟨rfl, keep5 B1.out (Nat.le_refl _)⟩
end Go.Proofs.Ytnlimdlmhfnkiaa.FrameW


/- Time; the chapter's examples. -/
namespace Go.Proofs.Ytnlimdlmhfnkiaa.FrameW
open Go.RowKit
def tim (n : Int) : Int := if n < 64 then 512 else if n > 1518 then 12144 else n * 8
theorem time_any (n : Int) (w : World) : Calls Try.prog 86 #[.int .i64 n] w fun e w' => e = .returned (.int .i64 (tim n)) ∧ w' = w := by
  unfold tim
  by_cases h1 : n < 64
  · rw [if_pos h1]
    go_enter Try.func86, Try.ntmps86
    go_wp2
    go_ret
    exact ⟨rfl, rfl⟩
  · rw [if_neg h1]
    by_cases h2 : n > 1518
    · rw [if_pos h2]
      go_enter Try.func86, Try.ntmps86
      go_wp2
      go_ret
      exact ⟨rfl, rfl⟩
    · rw [if_neg h2]
      have e : 8 * n = n * 8 := Int.mul_comm _ _
      go_enter Try.func86, Try.ntmps86
      go_wp2
      go_ret
      exact ⟨by rw [← e]; rfl, rfl⟩
theorem refTime_any (n : Int) (w : World) : Calls Try.prog 33 #[.int .i64 n] w fun e w' => e = .returned (.int .i64 (tim n)) ∧ w' = w := by
  unfold tim
  by_cases h1 : n < 64
  · rw [if_pos h1]
    go_enter Try.func33, Try.ntmps33
    go_wp2
    go_ret
    exact ⟨rfl, rfl⟩
  · rw [if_neg h1]
    by_cases h2 : n > 1518
    · rw [if_pos h2]
      go_enter Try.func33, Try.ntmps33
      go_wp2
      go_ret
      exact ⟨rfl, rfl⟩
    · rw [if_neg h2]
      go_enter Try.func33, Try.ntmps33
      go_wp2
      go_ret
      exact ⟨rfl, rfl⟩
end Go.Proofs.Ytnlimdlmhfnkiaa.FrameW


/- The chapter's examples. -/
namespace Go.Proofs.Ytnlimdlmhfnkiaa.FrameW
open Go.RowKit
theorem rd_dat {c l n : Int} {p : ByteArray} {s : Int} (h : rightD c l n (bs p) s) : rdE (dat c l n (bs p) s) = 0 ∧ rdV (dat c l n (bs p) s) = DV c l n p s := by
  obtain ⟨o, e1, e2, e3, e4, e5⟩ := dat_read (bs_by p) h
  obtain ⟨r1, r2⟩ := rd_ok o
  exact ⟨r1, by rw [r2, e1, e2, e3, e4, e5, str_bs]⟩
theorem OB.form2 {w : World} {base : Nat} {v : Value} {xs : List Int} (h : OB w base v xs) : ∃ A m c, v = .slice A m c ∧ m = xs.length ∧ BL w A xs ∧ m ≤ c := by
  obtain ⟨A, c, hv, hb, hc, -⟩ := h.form
  exact ⟨A, _, c, hv, rfl, hb, hc⟩
def nine : List Int := [49, 50, 51, 52, 53, 54, 55, 56, 57]
end Go.Proofs.Ytnlimdlmhfnkiaa.FrameW


/- The document's own data frame. -/
namespace Go.Proofs.Ytnlimdlmhfnkiaa.FrameW
open Go.RowKit
def vlen : Value → Nat
  | .slice _ n _ => n
  | _ => 0
theorem data_by {c l n : Int} {p : List Int} {s : Int} (h : rightD c l n p s) : By [8, 0, c, l] := by
  obtain ⟨h1, h2, h3, -⟩ := h
  intro x hx
  simp at hx
  omega
theorem bytes_bl (w : World) (s : ByteArray) (cap : Nat) (fr : Nat × Nat) : BL (w.alloc (.cells (bytesRow s cap) 5 fr)).drew (some ⟨w.heap.size, 0, none⟩) (bs s) := by
  intro k x hx
  have hx2 := hx
  unfold bs at hx
  rw [List.getElem?_map] at hx
  have hk : k < s.data.size := by
    rcases Nat.lt_or_ge k s.data.size with h | h
    · exact h
    · rw [List.getElem?_eq_none (by simpa using h)] at hx; cases hx
  refine ⟨_, rfl, ?_, (bs_by s).get hx2⟩
  rw [show (⟨w.heap.size, 0, none⟩ : Addr).add k = ⟨w.heap.size, k, none⟩ by unfold Addr.add; split <;> simp_all]
  show (w.alloc (.cells (bytesRow s cap) 5 fr)).cell? ⟨w.heap.size, k, none⟩ = _
  rw [World.cell?_alloc_mark, bytesRow_at s cap k hk]
  rw [List.getElem?_eq_getElem (by simpa using hk)] at hx
  simp only [Option.map_some, Option.some.injEq] at hx
  rw [← hx]
  simp
set_option maxHeartbeats 4000000 in
theorem refData_ok (c l n : Int) (p : ByteArray) (s : Int) (w : World) (h : rightD c l n (bs p) s) :
    Calls Try.prog 17 #[DV c l n p s] w fun e w' => ∃ v, e = .returned v ∧ OB w' w.heap.size v (dat c l n (bs p) s) ∧ Below w.heap.size w w' := by
  have HY := Lib.hid (data_by h)
  obtain ⟨h1, h2, h3, h4, h5, h6, h7, h8⟩ := id h
  rw [bs_len] at h8
  obtain ⟨N, rfl⟩ : ∃ N : Nat, s = (N : Int) := ⟨s.toNat, by omega⟩
  have eC : c % 256 = c := by omega
  have eL : l % 256 = l := by omega
  have eN := u64_same (x := n) (by omega) (by omega)
  have eP := u64_same (x := (p.size : Int)) (by omega) (by omega)
  have hcv : ∀ w : World, (convert 9 35 (.string p)).run Try.prog w = _ := fun w => run_bytes_of_string w 9 35 5 p Try.underlying9 Try.underlying35 Try.underlying5
  have HT := Lib.hid (show n = (n.toNat : Int) by omega)
  have HB := Lib.hid (show n.toNat < 18446744073709551616 ∧ p.size < 18446744073709551616 by omega)
  have HN := Lib.hid (show 64 ≤ N ∧ N ≤ 1518 ∧ p.size + 14 ≤ N by omega)
  have HC := Lib.hid (show dat c l n (bs p) N = sealed (datB c l n (bs p) N) from rfl)
  have HD := Lib.hid (show datB c l n (bs p) N = [8, 0, c, l] ++ be 4 n.toNat ++ be 2 p.size ++ bs p ++ List.replicate (N - 14 - p.size) 0 by
    have a1 : be 1 c.toNat = [c] := by simp [be]; omega
    have a2 : be 1 l.toNat = [l] := by simp [be]; omega
    unfold datB
    rw [a1, a2, bs_len, Int.toNat_natCast]; rfl)
  have HLEN := Lib.hid (show (datB c l n (bs p) N).length = N - 4 by rw [datB_len h, Int.toNat_natCast])
  clear h1 h2 h3 h4 h5 h6 h7 h8 h
  go_enter Try.func17, Try.ntmps17
  go_wp2_with fail
  have G1 := Lib.hid (show Grow w w.heap.size (dbox c l n p N) ((w.alloc (dbox c l n p N)).alloc (Obj.cells #[.int .u8 8, .int .u8 0, .int .u8 c, .int .u8 l] 5)) (.slice (some ⟨w.heap.size + 1, 0, none⟩) 4 4) [8, 0, c, l] from
    ⟨ob_row (rs := [8, 0, c, l]) (heap_at (by simp) _) (Nat.le_refl _) HY.out (by simp), al (al (Below.refl _ _) _) _, heap_alloc2_old w _ _, Nat.le_refl _⟩)
  generalize (w.alloc (dbox c l n p N)).alloc (Obj.cells #[.int .u8 8, .int .u8 0, .int .u8 c, .int .u8 l] 5) = W1 at *
  refine (number_g G1.out (n.toNat) 4 HT.out (by omega) HB.out.1 (by decide) (by decide)).mono ?_
  rintro e w2 ⟨A2, d2, rfl, g2, b2, f2⟩
  have N2 := Lib.hid g2
  have N2b := Lib.hid b2
  have N2f := Lib.hid f2
  clear g2 b2 f2 G1
  go_wp2_with fail
  refine (lay_g N2.out A2 d2 (be 4 (n.toNat)) 4 (be_len _ _).symm N2b.out N2f.out (by simp) (by rw [be_len]; decide)).mono ?_
  rintro e x2 ⟨v2, rfl, g2⟩
  have G2 := Lib.hid g2
  obtain ⟨B2, m2, k2, rfl, hm2⟩ := G2.out.len
  have M2 := Lib.hid hm2
  obtain ⟨c0, c1, c2, c3, c4⟩ := cells5 G2.out.x
  clear g2 hm2 N2 N2b N2f
  go_wp2_with fail
  clear c0 c1 c2 c3 c4
  refine (number_g G2.out (p.size) 2 rfl (by omega) HB.out.2 (by decide) (by decide)).mono ?_
  rintro e w3 ⟨A3, d3, rfl, g3, b3, f3⟩
  have N3 := Lib.hid g3
  have N3b := Lib.hid b3
  have N3f := Lib.hid f3
  clear g3 b3 f3 G2
  go_wp2_with fail
  refine (lay_g N3.out A3 d3 (be 2 (p.size)) 2 (be_len _ _).symm N3b.out N3f.out (by simp [be_len]) (by rw [be_len]; decide)).mono ?_
  rintro e x3 ⟨v3, rfl, g3⟩
  have G3 := Lib.hid g3
  obtain ⟨B3, m3, k3, rfl, hm3⟩ := G3.out.len
  have M3 := Lib.hid hm3
  obtain ⟨c0, c1, c2, c3, c4⟩ := cells5 G3.out.x
  clear g3 hm3 N3 N3b N3f
  go_wp2_with fail
  clear c0 c1 c2 c3 c4
  obtain ⟨W4, hW4⟩ : ∃ W4, W4 = (x3.alloc (Obj.cells (bytesRow p (grownCap x3 p.size 0 5)) 5 ((bytesRow p (grownCap x3 p.size 0 5)).size, (bytesRow p (grownCap x3 p.size 0 5)).size + 1))).drew := ⟨_, rfl⟩
  have BP : BL W4 (some ⟨x3.heap.size, 0, none⟩) (bs p) := by rw [hW4]; exact bytes_bl _ _ _ _
  have N4 := Lib.hid (show Grow w w.heap.size (dbox c l n p N) W4 _ _ from G3.out.next (by rw [hW4]; exact (al (Below.refl _ _) _).drew))
  have F4 : Far (.slice B3 m3 k3) (some ⟨x3.heap.size, 0, none⟩) := by
    intro a ha hk
    cases ha
    have := (G3.out.o.lt _ hk.symm).2
    simp at this
  rw [← hW4]
  have N4b := Lib.hid BP
  have N4f := Lib.hid F4
  clear hW4 BP F4 hcv
  refine (lay_g N4.out _ _ (bs p) p.size (bs_len p).symm N4b.out N4f.out (by simp [be_len]) (by rw [bs_len]; have := HN.out; omega)).mono ?_
  rintro e x4 ⟨v4, rfl, g4⟩
  have G4 := Lib.hid g4
  obtain ⟨B4, m4, k4, rfl, hm4⟩ := G4.out.len
  have hm5 : m4 = 10 + p.size := by rw [hm4]; simp [be_len, bs_len]; omega
  clear g4 hm4 N4 N4b N4f G3
  have HX := Lib.hid (show ([8, 0, c, l] ++ be 4 n.toNat ++ be 2 p.size ++ bs p).length = 10 + p.size by simp [be_len, bs_len]; omega)
  generalize [8, 0, c, l] ++ be 4 n.toNat ++ be 2 p.size ++ bs p = xs at *
  subst hm5
  go_wp2
  go_loopw [3] (fun v1 wr => ∃ (j : Nat) (B : Option Addr) (k : Nat), j ≤ N - 14 - p.size ∧ v1 = .slice B (10 + p.size + j) k ∧ Hid (Grow w w.heap.size (dbox c l n p N) wr (.slice B (10 + p.size + j) k) (xs ++ List.replicate j 0))) (fun v1 _ => N - vlen v1)
  case atStart => exact ⟨0, _, _, Nat.zero_le _, rfl, by rw [List.replicate_zero, List.append_nil]; exact G4⟩
  case round =>
    obtain ⟨j, B, k, hj, rfl, HG⟩ := hrel
    obtain ⟨M, hM⟩ : ∃ M, M = 10 + p.size + j := ⟨_, rfl⟩
    rw [← hM] at HG ⊢
    obtain ⟨c0, c1, c2, c3, c4⟩ := cells5 HG.out.x
    have HM := Lib.hid hM
    have n0 : (64 : Int) ≤ (N : Int) := by have := HN.out; omega
    have n1 : (N : Int) ≤ 1518 := by have := HN.out; omega
    by_cases hlt : (M : Int) < (N : Int) - 4
    · have HJ := Lib.hid (show j < N - 14 - p.size by omega)
      have HMN := Lib.hid (show M < N by omega)
      clear hM hj
      go_wp2_with (at_builtin; refine wpList_append_ob _ rfl _ _ rfl (w.heap.size + 1) _ _ rfl (HG.out.o.alloc _) ⟨wr.heap.size, 0, none⟩ 1 1 [0] rfl rfl ?c1 ?c2 ?c3 ?_)
      case c1 => exact one_bl _ _ (by decide) (by decide) _
      case c2 => have := HN.out; have := HJ.out; rw [List.length_append, List.length_replicate, HX.out]; omega
      case c3 => rw [World.size_alloc]; have := HG.out.room; omega
      intro v2 w2 o2 s2
      have HG2 := HG.out.step (show OB w2 (w.heap.size + 1) v2 (xs ++ List.replicate (j + 1) 0) by rw [List.replicate_succ']; exact o2) (((Step.alloc wr (.slice B M k) _).trans s2).below HG.out.o HG.out.room)
      obtain ⟨B5, m5, k5, rfl, hm5⟩ := HG2.len
      have hm6 : m5 = 10 + p.size + (j + 1) := by rw [hm5, List.length_append, List.length_replicate, HX.out]
      have HM6 := Lib.hid hm6
      have HG3 := Lib.hid HG2
      clear o2 s2 HG2 hm5 hm6 c0 c1 c2 c3 c4
      go_wp2
      go_roundw
      case rel => exact ⟨j + 1, B5, k5, by have := HJ.out; omega, by rw [HM6.out], by rw [← HM6.out]; exact HG3⟩
      case measure => have := HM6.out; have := HMN.out; have := HM.out; simp only [vlen]; omega
    · obtain rfl : j = N - 14 - p.size := by have := HN.out; omega
      have G5 := Lib.hid HG.out
      rw [← HD.out] at G5
      clear hj HG G4 hM
      go_wp2_with fail
      clear c0 c1 c2 c3 c4
      obtain ⟨L, hL⟩ : ∃ L, L = datB c l n (bs p) N := ⟨_, rfl⟩
      rw [← hL] at G5 HC HLEN
      have ML : M = L.length := by rw [HLEN.out, HM.out]; have := HN.out; omega
      obtain ⟨B9, c9, hv, hbl, -⟩ := G5.out.o.form
      injection hv with hv1 hv2 hv3
      subst hv1; subst hv3
      have S := fun k0 => refSum_any _ k0 L wr hbl (by rw [HLEN.out]; have := HN.out; omega)
      rw [← ML] at S
      with_reducible refine (S _).mono ?_
      rintro e w6 ⟨rfl, rfl⟩
      have hcr := crc_lt L
      have eS := u64_same (x := ((crc L : Nat) : Int)) (by omega) (by omega)
      have HS := Lib.hid (show sealed L = L ++ be 4 (crc L) from rfl)
      have HCL := Lib.hid hcr
      clear hv2 hbl hL hcr S ML HD hlt HX
      generalize crc L = s at *
      go_wp2_with fail
      refine (number_g G5.out s 4 rfl (by omega) (by have := HCL.out; omega) (by decide) (by decide)).mono ?_
      rintro e w6 ⟨A6, d6, rfl, g6, b6, f6⟩
      have N6 := Lib.hid g6
      have N6b := Lib.hid b6
      have N6f := Lib.hid f6
      clear g6 b6 f6 G5
      go_wp2_with fail
      refine (lay_g N6.out A6 d6 (be 4 s) 4 (be_len _ _).symm N6b.out N6f.out (by rw [HLEN.out]; have := HN.out; omega) (by rw [be_len]; decide)).mono ?_
      rintro e x6 ⟨v6, rfl, g6⟩
      have G6 := Lib.hid g6
      clear g6 N6 N6b N6f
      go_wp2_with fail
      go_ret
      exact ⟨_, rfl, by rw [HC.out, HS.out]; exact G6.out.o.mono (by omega), G6.out.b⟩
end Go.Proofs.Ytnlimdlmhfnkiaa.FrameW


/- The document's own sum, same; its ReadControl. -/
namespace Go.Proofs.Ytnlimdlmhfnkiaa.FrameW
open Go.RowKit
theorem str_ne {a b : ByteArray} (h : a ≠ b) : (a.toList == b.toList) = false := by
  rw [beq_eq_false_iff_ne, ByteArray.toList_eq, ByteArray.toList_eq]
  exact fun z => h (ByteArray.ext (Array.toList_inj.1 z))
theorem str_eq {a b : ByteArray} (h : a = b) : (a.toList == b.toList) = true := by subst h; exact beq_self_eq_true _
theorem same_any (A B : Option Addr) (c d n m : Nat) (xs ys : List Int) (w : World) (ha : BL w A xs) (hb : BL w B ys) (hn : n = xs.length) (hm : m = ys.length) :
    Calls Try.prog 32 #[.slice A n c, .slice B m d] w fun e w' => e = .returned (.bool (decide (xs = ys))) ∧ w' = w := by
  have h1 := conv_str (c := c) ha hn
  have h2 := conv_str (c := d) hb hm
  have e : ((strOfNums xs).toList == (strOfNums ys).toList) = decide (xs = ys) := by
    by_cases h : xs = ys
    · rw [decide_eq_true h]; exact str_eq (by rw [h])
    · rw [decide_eq_false h]; exact str_ne (fun h2 => h (str_inj ha.by hb.by h2))
  have HE := Lib.hid e
  clear e ha hb hn hm
  generalize strOfNums xs = s at *
  generalize strOfNums ys = t at *
  go_enter Try.func32, Try.ntmps32
  go_wp2
  go_ret
  exact ⟨by rw [← HE.out]; rfl, rfl⟩
/-- Does it end with its sum? -/
def okS (l : List Int) : Bool := decide (val (sl l (l.length - 4) l.length) = crc (sl l 0 (l.length - 4)))
theorem value_at {w : World} {a : Addr} {xs : List Int} (h : BL w (some a) xs) (p q c m : Nat) (b : Addr) (hb : b = a.add p) (hm : m = q - p) (h1 : p ≤ q) (h2 : q ≤ xs.length) (h8 : m ≤ 8) :
    Calls Try.prog 30 #[.slice (some b) m c] w fun e w' => e = .returned (.int .u64 (val (sl xs p q))) ∧ w' = w := by
  subst hb
  have := value_any (some (a.add p)) c (sl xs p q) w (h.sl p q) (by rw [sl_len h1 h2]; omega)
  rwa [sl_len h1 h2, ← hm] at this
set_option maxHeartbeats 2000000 in
theorem refsum_any (A : Option Addr) (c n : Nat) (xs : List Int) (w : World) (h : BL w A xs) (hn : n = xs.length) (hl : xs.length ≤ 9223372036854775807) (hc : xs.length ≤ c) (h4 : 4 ≤ xs.length) :
    Calls Try.prog 29 #[.slice A n c] w fun e w' => e = .returned (.bool (okS xs)) ∧ Below w.heap.size w w' := by
  obtain ⟨a, rfl⟩ := h.some (by omega)
  have S := fun W (hW : Below w.heap.size w W) => refSum_any (some a) c (sl xs 0 (xs.length - 4)) W ((h.below hW).sl0 _) (by rw [sl_len (by omega) (by omega)]; omega)
  have N := fun W (hW : Below w.heap.size w W) => value_any (some (a.add (xs.length - 4))) (c - (xs.length - 4)) (sl xs (xs.length - 4) xs.length) W ((h.below hW).sl _ _) (by rw [sl_len (by omega) (by omega)]; omega)
  rw [sl_len (by omega) (by omega), Nat.sub_zero] at S
  rw [sl_len (by omega) (by omega)] at N
  rw [show xs.length - (xs.length - 4) = 4 by omega] at N
  have HF := Lib.hid (show okS xs = decide (val (sl xs (xs.length - 4) xs.length) = crc (sl xs 0 (xs.length - 4))) from rfl)
  have hb := crc_lt (sl xs 0 (xs.length - 4))
  generalize okS xs = v at *
  generalize val (sl xs (xs.length - 4) xs.length) = n at *
  generalize crc (sl xs 0 (xs.length - 4)) = s at *
  clear h
  subst hn
  generalize xs.length = L at *
  obtain ⟨M, rfl⟩ : ∃ M, L = M + 4 := ⟨L - 4, by omega⟩
  rw [Nat.add_sub_cancel] at S N
  have eW : IntKind.u64.wrap (s : Int) = s := by rw [IntKind.wrap_u64]; omega
  have HS := Lib.hid S
  have HN := Lib.hid N
  clear S N hb h4
  have m0 : (0 : Int) ≤ (M : Int) := by omega
  have m1 : (M : Int) ≤ (c : Int) := by omega
  have m2 : ¬ c = M := by omega
  have e4 : M + 4 - M = 4 := by omega
  have eI3 : IntKind.i64.wrap (M : Int) = (M : Int) := by rw [IntKind.wrap_i64]; omega
  have m3 : (M : Int) ≤ ((M + 4 : Nat) : Int) := by omega
  have m4 : (M : Int) ≤ (M : Int) + 4 := by omega
  have eI : IntKind.i64.wrap (((M + 4 : Nat) : Int) - 4) = (M : Int) := by rw [IntKind.wrap_i64]; omega
  have eI2 : IntKind.i64.wrap ((M : Int) + 4 - 4) = (M : Int) := by rw [IntKind.wrap_i64]; omega
  go_enter Try.func29, Try.ntmps29
  go_wp2_with fail
  apply wp_cut
  case h =>
    go_region_held3 (fun _ => True) (trivial) (first
      | (go_at_call 30; (with_reducible refine (HN.out _ (Below.refl _ _).drew).mono ?_); rintro e w1 ⟨rfl, hw⟩; cases hw)
      | (go_at_call 36; (with_reducible refine (HS.out _ (Below.refl _ _).drew).mono ?_); rintro e w2 ⟨rfl, hw2⟩; cases hw2))
    all_goals exact ⟨rfl, rfl, rfl⟩
  case hm =>
    go_wp2
    go_ret
    refine ⟨?_, (Below.refl _ _).drew⟩
    rw [HF.out]
    show Ending.returned (.bool ((n : Int) == (s : Int))) = _
    congr 2
    by_cases h : n = s
    · subst h; simp
    · rw [decide_eq_false h]; simp; omega
end Go.Proofs.Ytnlimdlmhfnkiaa.FrameW

