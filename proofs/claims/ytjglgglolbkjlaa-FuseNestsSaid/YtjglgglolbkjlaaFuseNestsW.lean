/- The law FuseNests, of any fuse that is as asked: work that does more work behind the same fuse. -/
import Derived.Test.YtjglgglolbkjlaaFuseI
import Derived.Test.YtjglgglolbkjlaaBools
import Derived.Shelf.Abstract
namespace Go.Proofs.Ytjglgglolbkjlaa.FuseW.FuseNests
open Go.RowKit FuseW Shell
abbrev nb (n : Int) : Obj := .cells #[.int .i64 n] 3 (0, 0)
abbrev gb (g : Nat) : Obj := .cells #[.pointer (some ⟨g, 0, none⟩)] 30 (0, 0)
abbrev fv (p7 p8 p9 : Nat) : Value := .func (.func 12) #[] #[.pointer (some ⟨p7, 0, none⟩), .pointer (some ⟨p8, 0, none⟩), .pointer (some ⟨p9, 0, none⟩)]
abbrev fb (p7 p8 p9 : Nat) : Obj := .cells #[fv p7 p8 p9] 32 (0, 0)
abbrev oth : ByteArray := ⟨#[111, 116, 104, 101, 114]⟩
theorem ent1 : Ent 12 := enters_of Try.func12 (by kernel_rfl) rfl
theorem ent2 : Ent 14 := enters_of Try.func14 (by kernel_rfl) rfl
theorem ent3 : Ent 17 := enters_of Try.func17 (by kernel_rfl) rfl
/-- What has turned: the fuse's blocks, the box p, and what is new. -/
structure Fr (X X' : Nat → Prop) (p : Nat) (w w' : World) : Prop where
  size : w.heap.size ≤ w'.heap.size
  keep : ∀ j, j < w.heap.size → ¬ X j → (j ≠ p → w'.heap[j]? = w.heap[j]?) ∧ ¬ X' j
theorem Fr.trans {X X1 X2 : Nat → Prop} {p : Nat} {w w1 w2 : World} (h : Fr X X1 p w w1) (k : Fr X1 X2 p w1 w2) : Fr X X2 p w w2 :=
  ⟨Nat.le_trans h.size k.size, fun j hj hx => ⟨fun hn => ((k.keep j (Nat.lt_of_lt_of_le hj h.size) (h.keep j hj hx).2).1 hn).trans ((h.keep j hj hx).1 hn), (k.keep j (Nat.lt_of_lt_of_le hj h.size) (h.keep j hj hx).2).2⟩⟩
theorem Fr.turn {X X1 : Nat → Prop} {p : Nat} {w w1 : World} (u : Turn X X1 w w1) : Fr X X1 p w w1 :=
  ⟨u.size, fun j hj hx => ⟨fun _ => u.block j hj hx, fun h => by
    rcases u.foot j h with h1 | h1
    · exact hx h1
    · omega⟩⟩
theorem Fr.below {X : Nat → Prop} {p : Nat} {w w1 : World} (b : Below w.heap.size w w1) : Fr X X p w w1 := Fr.turn (Turn.of b)
theorem Fr.kept {X : Nat → Prop} {p : Nat} {w w1 : World} (k : Kept p w w1) : Fr X X p w w1 := ⟨k.size, fun j hj hx => ⟨fun hn => k.block j hn hj, hx⟩⟩
section
variable {FI : FIT} {T : TT} {w0 W W1 : World} {X X' : Nat → Prop} {g p7 p8 p9 : Nat} {m c : Int} {t : ByteArray}
abbrev BX (g p7 p8 p9 : Nat) (d : Int) : List (Nat × Obj) := [(p8, nb d), (p7, gb g), (p9, fb p7 p8 p9)]
/-- What down does. -/
def Down (FI : FIT) (w0 : World) (g p7 p8 p9 : Nat) (m : Int) (k : Nat) : Prop := ∀ (X : Nat → Prop) (c d : Int) (t : ByteArray) (W : World), FS FI w0 X g m c t (BX g p7 p8 p9 d) W → 0 ≤ c → c ≤ m → m ≤ 4096 → 0 ≤ d → d + k ≤ 4096 →
  Calls Try.prog 12 #[.int .i64 (k : Int), .pointer (some ⟨p7, 0, none⟩), .pointer (some ⟨p8, 0, none⟩), .pointer (some ⟨p9, 0, none⟩)] W fun e W' => e = .returned (.tuple #[]) ∧ ∃ X' t', FS FI w0 X' g m (c + k) t' (BX g p7 p8 p9 (d + k)) W' ∧ Fr X X' p8 W W'
theorem down_0 (S : Spec FI T) : Down FI w0 g p7 p8 p9 m 0 := by
  intro X c d t W h _ _ _ _ _
  have B1 := Lib.hid (al (Below.refl W.heap.size W) (nb 0))
  have H1 := Lib.hid (h.next S B1.out)
  have c0 := cell_of_row _ W.heap.size 0 _ _ _ (heap_alloc_new W (nb 0))
  rw [show ((0 : Nat) : Int) = 0 from rfl, Int.add_zero, Int.add_zero]
  clear h
  go_enter Try.func12, Try.ntmps12
  go_wp2
  first
    | go_end0
    | refine bodyPost_ret (results_none rfl _ _ _) rfl ?_
  exact ⟨rfl, X, t, H1.out, Fr.below B1.out⟩
set_option maxHeartbeats 4000000 in
/-- What the work does, where down does as it should with one less. -/
theorem work_any (S : Spec FI T) (k : Nat) (hk : k ≤ 64) (IH : Down FI w0 g p7 p8 p9 m k) (pn : Nat) (d : Int) (h : FS FI w0 X g m c t ((pn, nb ((k + 1 : Nat) : Int)) :: BX g p7 p8 p9 d) W) (hn : pn ≠ p8) (h78 : p7 ≠ p8) (h98 : p9 ≠ p8) (h0 : 0 ≤ c) (hc : c ≤ m) (hm : m ≤ 4096) (hd : 0 ≤ d ∧ d + 1 + k ≤ 4096) :
    Calls Try.prog 14 #[.pointer (some ⟨p8, 0, none⟩), .pointer (some ⟨p9, 0, none⟩), .pointer (some ⟨pn, 0, none⟩)] W fun e W' => (∀ X9, En T X9 W' e (some oth)) ∧ ∃ X' t', FS FI w0 X' g m (c + k) t' ((pn, nb ((k + 1 : Nat) : Int)) :: BX g p7 p8 p9 (d + 1 + k)) W' ∧ Fr X X' p8 W W' := by
  have ENT := ent1
  unfold Ent at ENT
  have HI := Lib.hid S.int
  have HIH := Lib.hid IH
  have hp8 := h.at 1 rfl
  have c8 := cell_of_row W p8 0 _ _ _ hp8
  have f8 := frozen_of_row W p8 0 _ _ hp8
  obtain ⟨d1, hd1⟩ : ∃ d1, d + 1 = d1 := ⟨_, rfl⟩
  have u1 : IntKind.i64.wrap (d + 1) = d1 := by rw [IntKind.wrap_i64]; omega
  have u2 : wrap64 (d + 1) = d1 := by unfold wrap64; omega
  obtain ⟨k1, hk1⟩ : ∃ k1 : Int, ((k + 1 : Nat) : Int) = k1 := ⟨_, rfl⟩
  have u3 : IntKind.i64.wrap (k1 - 1) = (k : Int) := by rw [IntKind.wrap_i64]; omega
  have u4 : wrap64 (k1 - 1) = (k : Int) := by unfold wrap64; omega
  rw [hk1] at h
  have K1 := Lib.hid (kept1 W p8 0 (.int .i64 d1))
  have N1 : (W.setCell ⟨p8, 0, none⟩ (.int .i64 d1)).heap[p8]? = some (nb d1) := heap_setCell_same W p8 0 _ _ _ hp8
  have hh : FS FI w0 X g m c t ((p8, nb d) :: [(pn, nb k1), (p7, gb g), (p9, fb p7 p8 p9)]) W := h.sub (fun x hx => by
    simp only [List.mem_cons, List.not_mem_nil, or_false] at hx ⊢
    rcases hx with rfl | rfl | rfl | rfl <;> simp)
  have H1 := Lib.hid (hh.put S K1.out N1 (fun b hb => by
    simp only [List.mem_cons, List.not_mem_nil, or_false] at hb
    rcases hb with rfl | rfl | rfl <;> assumption))
  have HB := Lib.hid (show 0 ≤ c ∧ c ≤ m ∧ m ≤ 4096 ∧ 0 ≤ d1 ∧ d1 + k ≤ 4096 by omega)
  have HN := Lib.hid hn
  rw [hk1, hd1]
  clear h hh IH S h0 hc hm hd hd1 hk1 h78 h98 hn
  go_enter Try.func14, Try.ntmps14
  have c9 := cell_of_row _ p9 0 _ _ _ (H1.out.at 3 rfl)
  have cn := cell_of_row _ pn 0 _ _ _ (H1.out.at 1 rfl)
  go_wp2_with fail
  generalize W.setCell ⟨p8, 0, none⟩ (.int .i64 d1) = w1 at *
  refine (HIH.out X c d1 t w1 (H1.out.sub (fun x hx => by
    simp only [List.mem_cons, List.not_mem_nil, or_false] at hx ⊢
    rcases hx with rfl | rfl | rfl <;> simp)) HB.out.1 HB.out.2.1 HB.out.2.2.1 HB.out.2.2.2.1 HB.out.2.2.2.2).mono ?_
  rintro e w2 ⟨rfl, X2, t2, q2, fr2⟩
  obtain ⟨g1, g2, g3⟩ := H1.out.bx (pn, nb k1) (by simp)
  have pn2 : w2.heap[pn]? = some (nb k1) := ((fr2.keep pn (lt_of_heap g1) g2).1 HN.out).trans g1
  have H2 := Lib.hid (show FS FI w0 X2 g m (c + k) t2 ((pn, nb k1) :: BX g p7 p8 p9 (d1 + k)) w2 from ⟨q2.p, q2.b, fun b hb => by
    rcases List.mem_cons.1 hb with rfl | hb
    · exact ⟨pn2, (fr2.keep pn (lt_of_heap g1) g2).2, g3⟩
    · exact q2.bx b hb⟩)
  have F2 := Lib.hid ((Fr.kept (X := X) K1.out).trans fr2)
  have cn2 := cell_of_row _ pn 0 _ _ _ (H2.out.at 0 rfl)
  clear q2 fr2 g1 g2 g3 pn2 c9 cn c8 f8 H1
  go_wp2
  exact ⟨rfl, fun _ => .bad (HI.out _ _ _), X2, t2, H2.out, F2.out⟩
/-- What Do leaves behind a work that goes down. -/
theorem do_down (S : Spec FI T) (k : Nat) (hk : k ≤ 64) (IH : Down FI w0 g p7 p8 p9 m k) (pn : Nat) (d : Int) (h : FS FI w0 X g m c t ((pn, nb ((k + 1 : Nat) : Int)) :: BX g p7 p8 p9 d) W) (hn : pn ≠ p8) (h78 : p7 ≠ p8) (h98 : p9 ≠ p8) (h0 : 0 ≤ c) (hc : c ≤ m) (hm : m ≤ 4096) (hd : 0 ≤ d ∧ d + 1 + k ≤ 4096) :
    Calls Try.prog 13 #[.pointer (some ⟨g, 0, none⟩), .func (.func 14) #[] #[.pointer (some ⟨p8, 0, none⟩), .pointer (some ⟨p9, 0, none⟩), .pointer (some ⟨pn, 0, none⟩)]] W fun v W' => v = .returned (.bool false) ∧ ∃ X' t', FS FI w0 X' g m (c + (k + 1 : Nat)) t' (BX g p7 p8 p9 (d + (k + 1 : Nat))) W' ∧ Fr X X' p8 W W' := by
  have hp := lt_of_heap (h.at 1 rfl)
  refine (S.run 14 _ (fun o X2 c2 t2 W2 => o = some oth ∧ c2 = c + k ∧ FS FI w0 X2 g m (c + k) t2 (BX g p7 p8 p9 (d + 1 + k)) W2 ∧ Fr X X2 p8 W W2) h.p hc ent2 (fun W1 X1 q1 u1 => ?_)).mono ?_
  · refine (work_any S k hk IH pn d (h.turn S q1 u1) hn h78 h98 h0 hc hm hd).mono ?_
    rintro e W2 ⟨he, X2, t2, q2, fr⟩
    exact ⟨some oth, X2, c + k, t2, he X2, q2.p, ⟨by omega, by omega⟩, fun j hj hj2 hx => ⟨(fr.keep j hj2 hx).1 (by omega), (fr.keep j hj2 hx).2⟩, fr.size, rfl, rfl, q2.sub (fun x hx => List.mem_cons_of_mem _ hx), (Fr.turn u1).trans fr⟩
  · rintro v W' ⟨o, X2, c2, t2, W2, X3, ⟨rfl, rfl, h2, fr⟩, rfl, q3, u3⟩
    refine ⟨rfl, X3, oth, ?_, fr.trans (Fr.turn u3)⟩
    have h3 := h2.turn S q3 u3
    rw [show dc (c + k) (some oth) = c + (k + 1 : Nat) by show c + (k : Int) + 1 = c + ((k + 1 : Nat) : Int); omega] at h3
    rw [show d + ((k + 1 : Nat) : Int) = d + 1 + k by omega]
    exact h3
theorem down_step (S : Spec FI T) (k : Nat) (hk : k ≤ 64) (h78 : p7 ≠ p8) (h98 : p9 ≠ p8) (IH : Down FI w0 g p7 p8 p9 m k) : Down FI w0 g p7 p8 p9 m (k + 1) := by
  intro X c d t W h h0 hc hm hd hd2
  have hmf : ∀ (fn : Fn) (first cap : Array Value) (w : World), (Instr.makeFunc fn first cap).run Try.prog w = .ok (.func fn first cap) w := fun _ _ _ _ => rfl
  have B1 := Lib.hid (al (Below.refl W.heap.size W) (nb ((k + 1 : Nat) : Int)))
  have h1 := h.box S (nb ((k + 1 : Nat) : Int))
  have hp := lt_of_heap (h.at 0 rfl)
  have HD := Lib.hid (do_down S k hk IH W.heap.size d h1 (by omega) h78 h98 h0 hc hm ⟨hd, by omega⟩)
  have c0 := cell_of_row _ W.heap.size 0 _ _ _ (h1.at 0 rfl)
  have c7 := cell_of_row _ p7 0 _ _ _ (h1.at 2 rfl)
  obtain ⟨k1, hk1⟩ : ∃ k1 : Int, ((k + 1 : Nat) : Int) = k1 := ⟨_, rfl⟩
  have q1 : (k1 == 0) = false := by rw [beq_eq_false_iff_ne]; omega
  rw [hk1] at HD B1 c0 c7 ⊢
  clear h h1 IH S hk1 hp
  go_enter Try.func12, Try.ntmps12
  go_wp2_with fail
  refine HD.out.mono ?_
  rintro v w2 ⟨rfl, X2, t2, q2, fr⟩
  have Q2 := Lib.hid q2
  have F2 := Lib.hid ((Fr.below (X := X) (p := p8) B1.out).trans fr)
  clear q2 fr HD B1 c0 c7
  go_wp2
  first
    | go_end0
    | refine bodyPost_ret (results_none rfl _ _ _) rfl ?_
  exact ⟨rfl, X2, t2, Q2.out, F2.out⟩
theorem down_all (S : Spec FI T) (h78 : p7 ≠ p8) (h98 : p9 ≠ p8) : ∀ k : Nat, k ≤ 64 → Down FI w0 g p7 p8 p9 m k
  | 0, _ => down_0 S
  | k + 1, h => down_step S k (by omega) h78 h98 (down_all S h78 h98 k (by omega))
theorem did_any (S : Spec FI T) (p8 : Nat) (d : Int) (W : World) (h : W.heap[p8]? = some (nb d)) (hd : 0 ≤ d ∧ d ≤ 4096) : Calls Try.prog 17 #[.pointer (some ⟨p8, 0, none⟩)] W fun e W' => (∀ X9, En T X9 W' e none) ∧ W'.heap[p8]? = some (nb (d + 1)) ∧ Kept p8 W W' := by
  have _ := S
  have c8 := cell_of_row W p8 0 _ _ _ h
  have f8 := frozen_of_row W p8 0 _ _ h
  obtain ⟨d1, hd1⟩ : ∃ d1, d + 1 = d1 := ⟨_, rfl⟩
  have u1 : IntKind.i64.wrap (d + 1) = d1 := by rw [IntKind.wrap_i64]; omega
  have u2 : wrap64 (d + 1) = d1 := by unfold wrap64; omega
  have K1 := Lib.hid (kept1 W p8 0 (.int .i64 d1))
  have N1 := Lib.hid (show (W.setCell ⟨p8, 0, none⟩ (.int .i64 d1)).heap[p8]? = some (nb d1) from heap_setCell_same W p8 0 _ _ _ h)
  rw [hd1]
  clear h hd hd1
  go_enter Try.func17, Try.ntmps17
  go_wp2
  go_end0
  exact ⟨fun _ => .ok, N1.out, K1.out⟩
theorem do_did (S : Spec FI T) (d : Int) (h : FS FI w0 X g m c t [(p8, nb d), (p7, gb g)] W) (h78 : p7 ≠ p8) (h0 : 0 ≤ c) (hc : c ≤ m) (hm : m ≤ 4096) (hd : 0 ≤ d ∧ d ≤ 4096) :
    Calls Try.prog 13 #[.pointer (some ⟨g, 0, none⟩), .func (.func 17) #[] #[.pointer (some ⟨p8, 0, none⟩)]] W fun v W' => v = .returned (.bool true) ∧ ∃ X' t', FS FI w0 X' g m c t' [(p8, nb (d + 1)), (p7, gb g)] W' := by
  have hp := lt_of_heap (h.at 0 rfl)
  refine (S.run 17 _ (fun o X2 c2 t2 W2 => o = none ∧ c2 = c ∧ FS FI w0 X2 g m c t2 [(p8, nb (d + 1)), (p7, gb g)] W2) h.p hc ent3 (fun W1 X1 q1 u1 => ?_)).mono ?_
  · have h1 := h.turn S q1 u1
    refine (did_any S p8 d W1 (h1.at 0 rfl) hd).mono ?_
    rintro e W2 ⟨he, hb, kp⟩
    have h2 := h1.put S kp hb (fun b hb => by rw [List.mem_singleton.1 hb]; exact h78)
    exact ⟨none, X1, c, t, he X1, h2.p, ⟨h0, by omega⟩, fun j hj hj2 hx => ⟨kp.block j (by omega) hj2, hx⟩, kp.size, rfl, rfl, h2⟩
  · rintro v W' ⟨o, X2, c2, t2, W2, X3, ⟨rfl, rfl, h2⟩, rfl, q3, u3⟩
    exact ⟨rfl, X3, t2, h2.turn S q3 u3⟩
theorem boxes2 {d : Int} (h : FS FI w0 X g m c t [(p8, nb d), (p7, gb g)] W) : W.cell? ⟨p8, 0, none⟩ = some (.int .i64 d) ∧ W.cell? ⟨p7, 0, none⟩ = some (.pointer (some ⟨g, 0, none⟩)) :=
  ⟨cell_of_row W p8 0 _ _ _ (h.at 0 rfl), cell_of_row W p7 0 _ _ _ (h.at 1 rfl)⟩
set_option maxHeartbeats 16000000 in
set_option maxRecDepth 100000 in
theorem walkS (S : Spec FI T) (KF : ∀ w : World, Calls Try.prog 7 #[] w fun r w' => r = .returned (.bool true) ∧ Below w.heap.size w w') (a b : Nat) (w : World) (_ha : a < 256) (_hb : b < 256) : Calls Try.prog 4 #[.int .u8 (a : Int), .int .u8 (b : Int)] w fun r w' => r = .returned (.bool true) ∧ Below w.heap.size w w' := by
  have SH := Lib.hid S
  have HK := Lib.hid KF
  have ENT := ent1
  unfold Ent at ENT
  have hmf : ∀ (fn : Fn) (first cap : Array Value) (w : World), (Instr.makeFunc fn first cap).run Try.prog w = .ok (.func fn first cap) w := fun _ _ _ _ => rfl
  obtain ⟨m, hm⟩ : ∃ m, a % 8 = m := ⟨_, rfl⟩
  obtain ⟨d, hd⟩ : ∃ d, b % 12 = d := ⟨_, rfl⟩
  have mb : m < 8 := by omega
  have db : d < 12 := by omega
  have e2 : (a : Int) % 8 = (m : Int) := by omega
  have e3 : (b : Int) % 12 = (d : Int) := by omega
  have e1 : Int.tmod (a : Int) 8 = (m : Int) := by rw [Int.tmod_eq_emod_of_nonneg (Int.natCast_nonneg a)]; exact e2
  have e4 : Int.tmod (b : Int) 12 = (d : Int) := by rw [Int.tmod_eq_emod_of_nonneg (Int.natCast_nonneg b)]; exact e3
  have e5 : IntKind.u8.wrap (m : Int) = (m : Int) := by rw [IntKind.wrap_u8]; omega
  have e6 : IntKind.u8.wrap (d : Int) = (d : Int) := by rw [IntKind.wrap_u8]; omega
  have e7 : IntKind.i64.wrap (m : Int) = (m : Int) := by rw [IntKind.wrap_i64]; omega
  have e8 : IntKind.i64.wrap (d : Int) = (d : Int) := by rw [IntKind.wrap_i64]; omega
  have HM := Lib.hid (show m < 8 ∧ d < 12 from ⟨mb, db⟩)
  have HBE := Lib.hid (show bear (m : Int) = (m : Int) by unfold bear; rw [if_neg (by omega), if_neg (by omega)])
  clear S KF hm hd mb db _ha _hb
  go_enter Try.func4, Try.ntmps4
  go_wp2_with fail
  refine (HK.out _).mono ?_
  rintro v w1 ⟨rfl, b1⟩
  have B1 := Lib.hid b1
  clear b1
  go_wp2_with fail
  refine (SH.out.new (m : Int) _).mono ?_
  rintro v w2 ⟨g, X0, rfl, p1, b2⟩
  rw [HBE.out] at p1
  have P1 := Lib.hid (show FS FI w X0 g (m : Int) 0 ⟨#[]⟩ [] w2 from ⟨SH.out.lower p1 B1.out.size, B1.out.trans (b2.mono B1.out.size), fun b hb => by cases hb⟩)
  clear p1 b2 B1
  have sx : ∀ (W : World) (a : Addr) (md : Mode), Sem.run Try.prog (store a (fv w2.heap.size (w2.heap.size + 1) (w2.heap.size + 1 + 1)) md) W = stored Try.prog W a (fv w2.heap.size (w2.heap.size + 1) (w2.heap.size + 1 + 1)) md := fun W a md => run_store _ W a _ md rfl
  go_wp2_with fail
  have P4 := Lib.hid (show FS FI w X0 g (m : Int) 0 ⟨#[]⟩ (BX g w2.heap.size (w2.heap.size + 1) (w2.heap.size + 1 + 1) 0) (((w2.alloc (gb g)).alloc (nb 0)).alloc (fb w2.heap.size (w2.heap.size + 1) (w2.heap.size + 1 + 1))) by
    have h3 := ((P1.out.box SH.out (gb g)).box SH.out (nb 0)).box SH.out (fb w2.heap.size (w2.heap.size + 1) (w2.heap.size + 1 + 1))
    simp only [World.size_alloc] at h3
    refine h3.sub (fun x hx => ?_)
    simp only [List.mem_cons, List.not_mem_nil, or_false] at hx ⊢
    rcases hx with rfl | rfl | rfl <;> simp)
  have PN := Lib.hid (show w2.heap.size ≠ w2.heap.size + 1 by omega)
  have PN2 := Lib.hid (show w2.heap.size + 1 + 1 ≠ w2.heap.size + 1 by omega)
  clear P1 sx
  generalize ((w2.alloc _).alloc _).alloc _ = wb at *
  generalize w2.heap.size + 1 + 1 = p9 at *
  generalize w2.heap.size + 1 = p8 at *
  generalize w2.heap.size = p7 at *
  refine (down_all SH.out PN.out PN2.out d (by have := HM.out; omega) X0 0 0 ⟨#[]⟩ _ P4.out (by omega) (by omega) (by have := HM.out; omega) (by omega) (by have := HM.out; omega)).mono ?_
  rintro e w3 ⟨rfl, X3, t3, q3, -⟩
  rw [Int.zero_add] at q3
  have S3 := Lib.hid (show FS FI w X3 g (m : Int) (d : Int) t3 [(p8, nb (d : Int)), (p7, gb g)] w3 from q3.sub (fun x hx => by
    simp only [List.mem_cons, List.not_mem_nil, or_false] at hx ⊢
    rcases hx with rfl | rfl <;> simp))
  clear q3 P4
  by_cases hdm : (d : Int) ≤ (m : Int)
  · have HDM := Lib.hid hdm
    have KB := Lib.hid (fun Z X t (hz : FI w.heap.size X g (m : Int) (d : Int) t Z) => SH.out.blown hz)
    rw [decide_eq_false (show ¬ (m : Int) < (d : Int) by omega)] at KB
    have r1 : ¬ (m : Int) < (d : Int) := by omega
    have r2 : (d : Int) ≤ (m : Int) := by omega
    obtain ⟨x8, x7⟩ := boxes2 S3.out
    go_wp2_with fail
    refine (SH.out.caught S3.out.p).mono ?_
    rintro v w4 ⟨rfl, X4, q4, z4⟩
    have S4 := Lib.hid (S3.out.turn SH.out q4 z4)
    clear q4 z4 S3 x8 x7
    obtain ⟨x8, x7⟩ := boxes2 S4.out
    go_wp2_with fail
    refine (KB.out _ _ _ S4.out.p).mono ?_
    rintro v w5 ⟨rfl, X5, q5, z5⟩
    have S5 := Lib.hid (S4.out.turn SH.out q5 z5)
    clear q5 z5 S4 x8 x7
    obtain ⟨x8, x7⟩ := boxes2 S5.out
    go_wp2_with fail
    refine (do_did SH.out (d : Int) S5.out PN.out (by omega) (by omega) (by have := HM.out; omega) (by have := HM.out; omega)).mono ?_
    rintro v w6 ⟨rfl, X6, t6, q6⟩
    obtain ⟨d1, hd1⟩ : ∃ d1 : Int, (d : Int) + 1 = d1 := ⟨_, rfl⟩
    rw [hd1] at q6
    obtain ⟨v1, v2⟩ := wr_of (x := (d : Int) + 1) (z := d1) hd1 (by have := HM.out; omega)
    clear hd1
    obtain ⟨y8, y7⟩ := boxes2 q6
    have S6 := Lib.hid q6
    clear q6 S5 x8 x7
    go_wp2
    go_ret
    exact ⟨rfl, S6.out.b⟩
  · have HDM := Lib.hid hdm
    have KB := Lib.hid (fun Z X t (hz : FI w.heap.size X g (m : Int) (d : Int) t Z) => SH.out.blown hz)
    rw [decide_eq_true (show (m : Int) < (d : Int) by omega)] at KB
    have r1 : (m : Int) < (d : Int) := by omega
    have r2 : ¬ (d : Int) ≤ (m : Int) := by omega
    obtain ⟨x8, x7⟩ := boxes2 S3.out
    go_wp2_with fail
    refine (SH.out.caught S3.out.p).mono ?_
    rintro v w4 ⟨rfl, X4, q4, z4⟩
    have S4 := Lib.hid (S3.out.turn SH.out q4 z4)
    clear q4 z4 S3 x8 x7
    obtain ⟨x8, x7⟩ := boxes2 S4.out
    go_wp2_with fail
    refine (KB.out _ _ _ S4.out.p).mono ?_
    rintro v w5 ⟨rfl, X5, q5, z5⟩
    have S5 := Lib.hid (S4.out.turn SH.out q5 z5)
    clear q5 z5 S4 x8 x7
    obtain ⟨x8, x7⟩ := boxes2 S5.out
    go_wp2_with fail
    refine (SH.out.refused 17 _ S5.out.p (by omega)).mono ?_
    rintro v w6 ⟨rfl, X6, u6, z6⟩
    have q6 := S5.out.turn SH.out u6 z6
    obtain ⟨y8, y7⟩ := boxes2 q6
    have S6 := Lib.hid q6
    clear q6 S5 x8 x7
    go_wp2
    go_ret
    exact ⟨rfl, S6.out.b⟩
end
end Go.Proofs.Ytjglgglolbkjlaa.FuseW.FuseNests
