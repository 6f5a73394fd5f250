/- The law FuseBears, of any fuse that is as asked. -/
import Derived.Test.YtjglgglolbkjlaaFuseI
import Derived.Test.YtjglgglolbkjlaaBools
import Derived.Shelf.Abstract
namespace Go.Proofs.Ytjglgglolbkjlaa.FuseW.FuseBears
open Go.RowKit FuseW Shell
abbrev bbx (b : Bool) : Obj := .cells #[.bool b] 4 (0, 0)
theorem ent1 : Ent 26 := enters_of Try.func26 (by kernel_rfl) rfl
/-- What the work ends with. -/
def wo (gd : Bool) : Option ByteArray := if gd then none else some ⟨#[120]⟩
section
variable {FI : FIT} {T : TT}
theorem work_any (S : Spec FI T) (pr pg : Nat) (gd : Bool) (W : World) (h1 : W.heap[pr]? = some (bbx false)) (h2 : W.heap[pg]? = some (bbx gd)) (hn : pr ≠ pg) : Calls Try.prog 26 #[.pointer (some ⟨pr, 0, none⟩), .pointer (some ⟨pg, 0, none⟩)] W fun e W2 => (∀ X, En T X W2 e (wo gd)) ∧ W2.heap[pr]? = some (bbx true) ∧ Kept pr W W2 := by
  have c0 := cell_of_row W pr 0 _ _ _ h1
  have f0 := frozen_of_row W pr 0 _ _ h1
  have P1 := Lib.hid (show (W.setCell ⟨pr, 0, none⟩ (.bool true)).heap[pr]? = some (bbx true) from heap_setCell_same W pr 0 _ _ _ h1)
  have K1 := Lib.hid (kept1 W pr 0 (.bool true))
  have c1 := cell_of_row _ pg 0 _ _ _ ((K1.out.block pg (fun e => hn e.symm) (lt_of_heap h2)).trans h2)
  have ST := Lib.hid S.str
  clear S h1 h2
  cases gd with
  | true =>
    go_enter Try.func26, Try.ntmps26
    go_wp2
    go_end0
    exact ⟨fun _ => .ok, P1.out, K1.out⟩
  | false =>
    go_enter Try.func26, Try.ntmps26
    go_wp2
    exact ⟨rfl, fun _ => .bad (ST.out _ _ _), P1.out, K1.out⟩
/-- What Do leaves, where the fuse is whole. -/
theorem do_work (S : Spec FI T) {w0 W : World} {X : Nat → Prop} {g pr pg : Nat} {m c : Int} {t : ByteArray} {gd : Bool} (h : FS FI w0 X g m c t [(pr, bbx false), (pg, bbx gd)] W) (hn : pr ≠ pg) (hc : c ≤ m ∧ 0 ≤ c ∧ m ≤ 4096) :
    Calls Try.prog 13 #[.pointer (some ⟨g, 0, none⟩), .func (.func 26) #[] #[.pointer (some ⟨pr, 0, none⟩), .pointer (some ⟨pg, 0, none⟩)]] W fun v W' => v = .returned (.bool (dn (wo gd))) ∧ ∃ X3, FS FI w0 X3 g m (dc c (wo gd)) (dt t (wo gd)) [(pr, bbx true), (pg, bbx gd)] W' := by
  have hp := lt_of_heap (h.at 0 rfl)
  refine (S.run 26 _ (fun o X2 c2 t2 W2 => o = wo gd ∧ c2 = c ∧ t2 = t ∧ FS FI w0 X2 g m c t [(pr, bbx true), (pg, bbx gd)] W2) h.p hc.1 ent1 (fun W1 X1 q1 u1 => ?_)).mono ?_
  · have h1 := h.turn S q1 u1
    refine (work_any S pr pg gd W1 (h1.at 0 rfl) (h1.at 1 rfl) hn).mono ?_
    rintro e W2 ⟨he, hb, kp⟩
    have h2 := h1.put S kp hb (fun b hb => by rw [List.mem_singleton.1 hb]; exact fun e => hn e.symm)
    exact ⟨_, X1, c, t, he X1, h2.p, ⟨hc.2.1, by omega⟩, fun j hj hj2 hx => ⟨kp.block j (by omega) hj2, hx⟩, kp.size, rfl, rfl, rfl, h2⟩
  · rintro v W' ⟨o, X2, c2, t2, W2, X3, ⟨rfl, rfl, rfl, h2⟩, rfl, q3, u3⟩
    exact ⟨rfl, X3, h2.turn S q3 u3⟩
theorem do_good (S : Spec FI T) {w0 W : World} {X : Nat → Prop} {g pr pg : Nat} {m c : Int} {t : ByteArray} (h : FS FI w0 X g m c t [(pr, bbx false), (pg, bbx true)] W) (hn : pr ≠ pg) (hc : c ≤ m ∧ 0 ≤ c ∧ m ≤ 4096) :
    Calls Try.prog 13 #[.pointer (some ⟨g, 0, none⟩), .func (.func 26) #[] #[.pointer (some ⟨pr, 0, none⟩), .pointer (some ⟨pg, 0, none⟩)]] W fun v W' => v = .returned (.bool true) ∧ ∃ X3, FS FI w0 X3 g m c t [(pr, bbx true), (pg, bbx true)] W' := do_work S h hn hc
theorem do_bad (S : Spec FI T) {w0 W : World} {X : Nat → Prop} {g pr pg : Nat} {m c : Int} {t : ByteArray} (h : FS FI w0 X g m c t [(pr, bbx false), (pg, bbx false)] W) (hn : pr ≠ pg) (hc : c ≤ m ∧ 0 ≤ c ∧ m ≤ 4096) :
    Calls Try.prog 13 #[.pointer (some ⟨g, 0, none⟩), .func (.func 26) #[] #[.pointer (some ⟨pr, 0, none⟩), .pointer (some ⟨pg, 0, none⟩)]] W fun v W' => v = .returned (.bool false) ∧ ∃ X3, FS FI w0 X3 g m (c + 1) ⟨#[120]⟩ [(pr, bbx true), (pg, bbx false)] W' := do_work S h hn hc
theorem boxes2 {w0 W : World} {X : Nat → Prop} {g pr pg : Nat} {m c : Int} {t : ByteArray} {a b : Bool} (h : FS FI w0 X g m c t [(pr, bbx a), (pg, bbx b)] W) : W.cell? ⟨pr, 0, none⟩ = some (.bool a) ∧ W.cell? ⟨pg, 0, none⟩ = some (.bool b) :=
  ⟨cell_of_row W pr 0 _ _ _ (h.at 0 rfl), cell_of_row W pg 0 _ _ _ (h.at 1 rfl)⟩
set_option maxHeartbeats 16000000 in
set_option maxRecDepth 100000 in
theorem walkS (S : Spec FI T) (KF : ∀ w : World, Calls Try.prog 7 #[] w fun r w' => r = .returned (.bool true) ∧ Below w.heap.size w w') (q : Nat) (A : Option Addr) (bs : List Bool) (n cp : Nat) (w : World) (hq : q < 256) (h : BB w A bs) (hl : bs.length = n) (hm : n ≤ 9223372036854775807) : Calls Try.prog 6 #[.int .u8 (q : Int), .slice A n cp] w fun r w' => r = .returned (.bool true) ∧ Below w.heap.size w w' := by
  have SH := Lib.hid S
  have HA := Lib.hid h
  have HL := Lib.hid hl
  have HQ := Lib.hid hq
  have HK := Lib.hid KF
  have e1 : IntKind.i64.wrap (q : Int) = (q : Int) := by rw [IntKind.wrap_i64]; omega
  have hmf : ∀ (fn : Fn) (first cap : Array Value) (w : World), (Instr.makeFunc fn first cap).run Try.prog w = .ok (.func fn first cap) w := fun _ _ _ _ => rfl
  have HBE := Lib.hid (show bear (q : Int) = (q : Int) by unfold bear; rw [if_neg (by omega), if_neg (by omega)])
  clear S h hl hq KF
  go_enter Try.func6, Try.ntmps6
  go_wp2_with fail
  refine (HK.out _).mono ?_
  rintro v w1 ⟨rfl, b1⟩
  have B1 := Lib.hid b1
  clear b1
  go_wp2_with fail
  refine (SH.out.new (q : Int) _).mono ?_
  rintro v w2 ⟨g, X0, rfl, p1, b2⟩
  rw [HBE.out] at p1
  have P1 := Lib.hid (show FS FI w X0 g (q : Int) 0 ⟨#[]⟩ [] w2 from ⟨SH.out.lower p1 B1.out.size, B1.out.trans (b2.mono B1.out.size), fun b hb => by cases hb⟩)
  clear p1 b2 B1
  go_wp2
  go_loopw [6, 19] (fun cv iv wr => ∃ (k : Nat) (cN : Int) (X : Nat → Prop) (t : ByteArray), k ≤ n ∧ iv = .int .i64 k ∧ cv = .int .i64 cN ∧ (0 ≤ cN ∧ cN ≤ (q : Int) + 1) ∧ Hid (FS FI w X g (q : Int) cN t [] wr)) (fun _ iv _ => n - (intOf iv).toNat)
  case atStart => exact ⟨0, 0, X0, ⟨#[]⟩, Nat.zero_le _, rfl, rfl, by omega, P1⟩
  case round =>
    clear P1
    obtain ⟨k, cN, X, t, hk, rfl, rfl, hcn, HS⟩ := hrel
    have HCN := Lib.hid hcn
    clear hcn
    by_cases hlt : (k : Int) < (n : Int)
    case neg =>
      go_wp2
      go_ret
      exact ⟨rfl, HS.out.b⟩
    obtain ⟨gd, hb⟩ : ∃ b, bs[k]? = some b := ⟨_, List.getElem?_eq_getElem (by rw [HL.out]; omega)⟩
    obtain ⟨a, rfl, hc⟩ := (HA.out.below HS.out.b) k gd hb
    have HLT := Lib.hid hlt
    obtain ⟨kk, hkk⟩ : ∃ kk, k + 1 = kk := ⟨_, rfl⟩
    have HKK := Lib.hid hkk
    have u1 : IntKind.i64.wrap ((k : Int) + 1) = (kk : Int) := by rw [IntKind.wrap_i64]; omega
    have u2 : wrap64 ((k : Int) + 1) = (kk : Int) := by unfold wrap64; omega
    have S1 := Lib.hid (HS.out.box SH.out (bbx gd))
    have S2 := Lib.hid (show FS FI w X g (q : Int) cN t [(wr.heap.size + 1, bbx false), (wr.heap.size, bbx gd)] ((wr.alloc (bbx gd)).alloc (bbx false)) by have := S1.out.box SH.out (bbx false); rwa [World.size_alloc] at this)
    have PN := Lib.hid (show wr.heap.size + 1 ≠ wr.heap.size by omega)
    clear hb hkk S1 HS
    by_cases hrun : cN ≤ (q : Int)
    · have HRN := Lib.hid hrun
      have q1 : ¬ (q : Int) < cN := by omega
      have hrun : cN ≤ (q : Int) ∧ 0 ≤ cN ∧ (q : Int) ≤ 4096 := by have := HCN.out; have := HQ.out; omega
      go_wp2_with fail
      clear hc
      generalize (wr.alloc _).alloc _ = wb at *
      generalize wr.heap.size = pg at *
      generalize pg + 1 = pr at *
      cases gd with
      | true =>
        have HRUN := Lib.hid (do_good SH.out S2.out PN.out hrun)
        clear hrun
        go_wp2_with fail
        refine HRUN.out.mono ?_
        rintro v w3 ⟨rfl, X3, q3⟩
        have S3 : Hid (FS FI w X3 g (q : Int) cN t [(pr, bbx true), (pg, bbx true)] w3) := Lib.hid q3
        clear q3 S2 HRUN
        obtain ⟨d0, d1⟩ := boxes2 S3.out
        go_wp2_with fail
        refine (SH.out.caught S3.out.p).mono ?_
        rintro v r1 ⟨rfl, Y1, y1, z1⟩
        have U1 := Lib.hid (S3.out.turn SH.out y1 z1)
        clear y1 z1 S3 d0 d1
        go_wp2_with fail
        refine (SH.out.blown U1.out.p).mono ?_
        rintro v r2 ⟨rfl, Y2, y2, z2⟩
        have U2 := Lib.hid ((U1.out.turn SH.out y2 z2).sub (B' := []) (fun b hb => by cases hb))
        clear y2 z2 U1
        go_wp2
        go_roundw
        case rel => exact ⟨kk, cN, Y2, t, by have := HKK.out; have := HLT.out; omega, by go_num, rfl, by have := HCN.out; omega, U2⟩
        case measure => have h1 := HKK.out; have h2 := HLT.out; simp [intOf]; omega
      | false =>
        have HRUN := Lib.hid (do_bad SH.out S2.out PN.out hrun)
        clear hrun
        go_wp2_with fail
        refine HRUN.out.mono ?_
        rintro v w3 ⟨rfl, X3, q3⟩
        have S3 : Hid (FS FI w X3 g (q : Int) (cN + 1) ⟨#[120]⟩ [(pr, bbx true), (pg, bbx false)] w3) := Lib.hid q3
        clear q3 S2 HRUN
        obtain ⟨c2, hc2⟩ : ∃ c2, cN + 1 = c2 := ⟨_, rfl⟩
        rw [hc2] at S3
        obtain ⟨v1, v2⟩ := wr_of (x := cN + 1) (z := c2) hc2 (by have := HCN.out; have := HQ.out; omega)
        have HC2 := Lib.hid hc2
        clear hc2
        obtain ⟨d0, d1⟩ := boxes2 S3.out
        go_wp2_with fail
        refine (SH.out.caught S3.out.p).mono ?_
        rintro v r1 ⟨rfl, Y1, y1, z1⟩
        have U1 := Lib.hid (S3.out.turn SH.out y1 z1)
        clear y1 z1 S3 d0 d1
        go_wp2_with fail
        refine (SH.out.blown U1.out.p).mono ?_
        rintro v r2 ⟨rfl, Y2, y2, z2⟩
        have U2 := Lib.hid ((U1.out.turn SH.out y2 z2).sub (B' := []) (fun b hb => by cases hb))
        clear y2 z2 U1
        go_wp2
        go_roundw
        case rel => exact ⟨kk, c2, Y2, ⟨#[120]⟩, by have := HKK.out; have := HLT.out; omega, by go_num, rfl, by have := HCN.out; have := HC2.out; have := HRN.out; omega, U2⟩
        case measure => have h1 := HKK.out; have h2 := HLT.out; simp [intOf]; omega
    · have q1 : (q : Int) < cN := by omega
      go_wp2_with fail
      clear hc
      generalize (wr.alloc _).alloc _ = wb at *
      generalize wr.heap.size = pg at *
      generalize pg + 1 = pr at *
      refine (SH.out.refused 26 _ S2.out.p q1).mono ?_
      rintro v w3 ⟨rfl, X3, q3, z3⟩
      have S3 := Lib.hid (S2.out.turn SH.out q3 z3)
      clear q3 z3 S2
      cases gd with
      | true =>
        obtain ⟨d0, d1⟩ := boxes2 S3.out
        go_wp2_with fail
        refine (SH.out.caught S3.out.p).mono ?_
        rintro v r1 ⟨rfl, Y1, y1, z1⟩
        have U1 := Lib.hid (S3.out.turn SH.out y1 z1)
        clear y1 z1 S3 d0 d1
        go_wp2_with fail
        refine (SH.out.blown U1.out.p).mono ?_
        rintro v r2 ⟨rfl, Y2, y2, z2⟩
        have U2 := Lib.hid ((U1.out.turn SH.out y2 z2).sub (B' := []) (fun b hb => by cases hb))
        clear y2 z2 U1
        go_wp2
        go_roundw
        case rel => exact ⟨kk, cN, Y2, t, by have := HKK.out; have := HLT.out; omega, by go_num, rfl, by have := HCN.out; omega, U2⟩
        case measure => have h1 := HKK.out; have h2 := HLT.out; simp [intOf]; omega
      | false =>
        obtain ⟨d0, d1⟩ := boxes2 S3.out
        go_wp2_with fail
        refine (SH.out.caught S3.out.p).mono ?_
        rintro v r1 ⟨rfl, Y1, y1, z1⟩
        have U1 := Lib.hid (S3.out.turn SH.out y1 z1)
        clear y1 z1 S3 d0 d1
        go_wp2_with fail
        refine (SH.out.blown U1.out.p).mono ?_
        rintro v r2 ⟨rfl, Y2, y2, z2⟩
        have U2 := Lib.hid ((U1.out.turn SH.out y2 z2).sub (B' := []) (fun b hb => by cases hb))
        clear y2 z2 U1
        go_wp2
        go_roundw
        case rel => exact ⟨kk, cN, Y2, t, by have := HKK.out; have := HLT.out; omega, by go_num, rfl, by have := HCN.out; omega, U2⟩
        case measure => have h1 := HKK.out; have h2 := HLT.out; simp [intOf]; omega
end
end Go.Proofs.Ytjglgglolbkjlaa.FuseW.FuseBears
