/- The chapter's examples of a relay. -/
import Derived.Test.YtecgpibidcifpaaRelayKJa
import Derived.Test.YtecgpibidcifpaaFrameEJa
import Derived.Test.YtecgpibidcifpaaConfFam
namespace Go.Proofs.Ytecgpibidcifpaa.RelayW
open Go.RowKit Shell
open ConfW (Cfg R4 CM ML chk famC)
open BucketW (Bk pas tk b0 fit)
open FrameW (BL OB rdE rdV dat rightD)
theorem rb_none (base : Nat) (c : Cfg) (w : World) : RB base (fun _ => False) c [] [] (.slice none 0 0) w :=
  ⟨OG.nil _ _ _, rfl, fun i k s e _ _ h => by simp at h, fun i j e f b h => by simp at h, fun i e b h => by simp at h, fun i e b h => by simp at h, fun b h => by exact absurd h (by simp [Value.ownBlock]), fun _ h => False.elim h⟩
/-- A relay alone, beside boxes. -/
abbrev RA (RI : RIT) (w0 : World) (X : Nat → Prop) (g : Nat) (c : Cfg) (bs : List Bk) (ds : List Int) (N : Nat) (B : List (Nat × Obj)) (W : World) : Prop := RQ RI w0 X g c bs ds N (fun _ => False) [] [] (.slice none 0 0) B W
theorem ra_new {RI : RIT} {w0 w W : World} {X : Nat → Prop} {g N : Nat} {c : Cfg} {bs : List Bk} {ds : List Int} {B : List (Nat × Obj)} (S : Spec RI) (h : RI w.heap.size X g c bs ds N W) (b : Below w.heap.size w W) (T : Stay w0 B w) (hB : ∀ x ∈ B, w0.heap.size ≤ x.1) : RA RI w0 X g c bs ds N B W :=
  ⟨S.lower h T.b.size, rb_none _ _ _, T.b.trans (b.mono T.b.size), fun x hx => ⟨row_below b (T.h x hx), ⟨fun hX => by have := (S.foot h _ hX).1; have := lt_of_heap (T.h x hx); omega, fun h => h⟩, hB x hx⟩, fun _ _ h => h⟩
def c0 : Cfg := ⟨0, 0, 0, 0, 0, [], [], [], 0⟩
theorem cm0 (w : World) : CM w c0 none none none 0 0 0 0 0 0 :=
  ⟨fun k r h => by simp [c0] at h, fun k e h => by simp [c0] at h, fun k e h => by simp [c0] at h, rfl, rfl, rfl, by decide, by decide, by decide, by decide, by decide, by decide, fun _ => rfl, fun _ => rfl, fun _ => rfl⟩
theorem dt_dat {c l n : Int} {p : ByteArray} {s : Int} (h : rightD c l n (FrameW.bs p) s) : rdE (dat c l n (FrameW.bs p) s) = 0 ∧ dt (dat c l n (FrameW.bs p) s) = ⟨c, l, n, p, s⟩ := by
  obtain ⟨h1, h2⟩ := FrameW.rd_dat h
  refine ⟨h1, ?_⟩
  rw [rdV_dt] at h2
  generalize dt (dat c l n (FrameW.bs p) s) = d at *
  obtain ⟨a, b, x, y, z⟩ := d
  injection h2 with h3
  injection h3 with h4
  simp only [List.cons.injEq, Value.int.injEq, Value.string.injEq, true_and, and_true] at h4
  obtain ⟨rfl, rfl, rfl, rfl, rfl⟩ := h4
  rfl
abbrev dF1 : Dt := ⟨1, 0, 0, ⟨#[]⟩, 64⟩
abbrev dF3 : Dt := ⟨3, 2, 0, ⟨#[]⟩, 64⟩
theorem fx1 (bs : List Bk) : jv (famC 4 3) bs 5 2011000 0 0 dF1 = ⟨0, 14, 2013512⟩ := by
  have h : vT (famC 4 3) 2011000 0 dF1 = ⟨0, 14, 2013512⟩ := by kernel_rfl
  exact h
theorem fx2 (bs : List Bk) : jv (famC 4 3) bs 5 2011000 1 0 dF1 = ⟨1, 0, 0⟩ := by
  have h : vT (famC 4 3) 2011000 1 dF1 = ⟨1, 0, 0⟩ := by kernel_rfl
  exact h
theorem fx3 (bs : List Bk) : jv (famC 4 3) bs 5 2014000 0 0 dF1 = ⟨2, 0, 0⟩ := by
  have h : vT (famC 4 3) 2014000 0 dF1 = ⟨2, 0, 0⟩ := by kernel_rfl
  exact h
theorem fx4 (bs : List Bk) : jv (famC 4 3) bs 5 0 0 0 dF3 = ⟨0, 4, 0⟩ := by
  have h : vE (famC 4 3) 0 dF3 = ⟨0, 4, 0⟩ := by kernel_rfl
  exact h
theorem chk_f : chk (famC 4 3) = 0 := by decide +kernel
theorem chk_0 : chk c0 ≠ 0 := by decide +kernel
abbrev vb9 : Obj := .cells #[.int .i64 0, .int .i64 3, .int .i64 2, .int .i64 0, .string ⟨#[]⟩, .int .i64 64, .int .u32 4, .int .i64 0] 44 (0, 0)
section
variable {RI : RIT}
set_option maxHeartbeats 8000000 in
set_option maxRecDepth 100000 in
theorem fixed_any (S : Spec RI) (w : World) : Calls Try.prog 8 #[] w fun r w' => r = .returned (.bool true) ∧ Below w.heap.size w w' := by
  have SH := Lib.hid S
  clear S
  go_enter Try.func8, Try.ntmps8
  go_wp2_with fail
  refine (ConfW.refFamily_any 4 3 w).mono ?_
  rintro r w1 ⟨D, E, nd, cd, ne, ce, rfl, M1, b1⟩
  have HM := Lib.hid M1
  have B1 := Lib.hid b1
  clear M1 b1
  go_wp2_with fail
  refine (SH.out.new (famC 4 3) D E none nd cd ne ce 0 0 w1 HM.out chk_f).mono ?_
  rintro r w2 ⟨g, X, rfl, F2, b2⟩
  have Q2 := Lib.hid (ra_new SH.out F2 b2 (Stay.mk B1.out (fun x hx => by cases hx)) (fun x hx => by cases hx) : RA RI w X g (famC 4 3) (bs0 (famC 4 3)) ds0 0 [] w2)
  generalize bs0 (famC 4 3) = bq at *
  clear F2 b2 B1 HM
  go_wp2_with fail
  refine (SH.out.bad c0 none none none 0 0 0 0 0 0 w2 (cm0 w2) chk_0).mono ?_
  rintro r w3 ⟨rfl, b3⟩
  have Q3 := Lib.hid (Q2.out.next SH.out b3)
  clear b3 Q2
  have R1 : rightD 1 0 0 (FrameW.bs ⟨#[]⟩) 64 := by unfold rightD; simp [FrameW.bs]
  have R3 : rightD 3 2 0 (FrameW.bs ⟨#[]⟩) 64 := by unfold rightD; simp [FrameW.bs]
  have HD1 := Lib.hid (FrameW.refData_ok 1 0 0 ⟨#[]⟩ 64 w3 R1)
  have HD3 := Lib.hid (fun W => FrameW.refData_ok 3 2 0 ⟨#[]⟩ 64 W R3)
  obtain ⟨ea, da⟩ := dt_dat R1
  obtain ⟨eb, db⟩ := dt_dat R3
  have la : (dat 1 0 0 (FrameW.bs ⟨#[]⟩) 64).length ≤ 9223372036854775807 := by rw [FrameW.dat_len R1]; decide
  have lp1 : 0 < (dat 1 0 0 (FrameW.bs ⟨#[]⟩) 64).length := by rw [FrameW.dat_len R1]; decide
  have lp3 : 0 < (dat 3 2 0 (FrameW.bs ⟨#[]⟩) 64).length := by rw [FrameW.dat_len R3]; decide
  have lb : (dat 3 2 0 (FrameW.bs ⟨#[]⟩) 64).length ≤ 9223372036854775807 := by rw [FrameW.dat_len R3]; decide
  generalize dat 1 0 0 (FrameW.bs ⟨#[]⟩) 64 = l1 at *
  generalize dat 3 2 0 (FrameW.bs ⟨#[]⟩) 64 = l3 at *
  have K1 := Lib.hid (fun (A : Option Addr) (c1 : Nat) (X : Nat → Prop) (W : World) (ds : List Int) (N : Nat) (F : RI w.heap.size X g (famC 4 3) bq ds N W) (hN : N ≤ 10) (hB : BL W A l1) (hc : l1.length ≤ c1) => by
    have K := SH.out.judge 5 2011000 0 A l1 c1 F (by omega) hB la hc
    rw [show jd (famC 4 3) bq 5 2011000 0 l1 = ⟨0, 14, 2013512⟩ by unfold jd; rw [ea, da]; exact fx1 bq, show jb (famC 4 3) bq 5 0 l1 = bq by unfold jb jbv askv; rw [ea, da]; rfl, da] at K
    exact K)
  have K2 := Lib.hid (fun (A : Option Addr) (c1 : Nat) (X : Nat → Prop) (W : World) (ds : List Int) (N : Nat) (F : RI w.heap.size X g (famC 4 3) bq ds N W) (hN : N ≤ 10) (hB : BL W A l1) (hc : l1.length ≤ c1) => by
    have K := SH.out.judge 5 2011000 1 A l1 c1 F (by omega) hB la hc
    rw [show jd (famC 4 3) bq 5 2011000 1 l1 = ⟨1, 0, 0⟩ by unfold jd; rw [ea, da]; exact fx2 bq, show jb (famC 4 3) bq 5 1 l1 = bq by unfold jb jbv askv; rw [ea, da]; rfl, da] at K
    exact K)
  have K3 := Lib.hid (fun (A : Option Addr) (c1 : Nat) (X : Nat → Prop) (W : World) (ds : List Int) (N : Nat) (F : RI w.heap.size X g (famC 4 3) bq ds N W) (hN : N ≤ 10) (hB : BL W A l1) (hc : l1.length ≤ c1) => by
    have K := SH.out.judge 5 2014000 0 A l1 c1 F (by omega) hB la hc
    rw [show jd (famC 4 3) bq 5 2014000 0 l1 = ⟨2, 0, 0⟩ by unfold jd; rw [ea, da]; exact fx3 bq, show jb (famC 4 3) bq 5 0 l1 = bq by unfold jb jbv askv; rw [ea, da]; rfl, da] at K
    exact K)
  have K4 := Lib.hid (fun (A : Option Addr) (c1 : Nat) (X : Nat → Prop) (W : World) (ds : List Int) (N : Nat) (F : RI w.heap.size X g (famC 4 3) bq ds N W) (hN : N ≤ 10) (hB : BL W A l3) (hc : l3.length ≤ c1) => by
    have K := SH.out.judge 5 0 0 A l3 c1 F (by omega) hB lb hc
    rw [show jd (famC 4 3) bq 5 0 0 l3 = ⟨0, 4, 0⟩ by unfold jd; rw [eb, db]; exact fx4 bq, show jb (famC 4 3) bq 5 0 l3 = bq by unfold jb jbv askv; rw [eb, db]; rfl, db] at K
    exact K)
  clear R1 R3 ea da eb db la lb
  go_wp2_with fail
  refine HD1.out.mono ?_
  rintro r w4 ⟨v4, rfl, o4, b4⟩
  obtain ⟨k1, c1, oj1, rfl, hb1, hc1, hg1, ho1⟩ := ob_row o4 lp1
  have Q4 := Lib.hid ((Q3.out.next SH.out b4).add ho1 (fun hX => by have := (SH.out.foot Q3.out.p _ hX).2; omega) (fun h => h) (Nat.le_trans Q3.out.b.size hg1))
  have HB1 := Lib.hid (fun (W : World) (b : W.heap[k1]? = some oj1) => bl_box hb1 ho1 b)
  have HC1 := Lib.hid hc1
  clear o4 b4 hb1 hc1 HD1 Q3 hg1 ho1
  go_wp2_with fail
  refine (K1.out (some ⟨k1, 0, none⟩) c1 _ _ _ _ Q4.out.p (by decide) (HB1.out _ (Q4.out.at 0 rfl)) HC1.out).mono ?_
  rintro r w5 ⟨X5, rfl, F, T⟩
  have Q5 := Lib.hid (Q4.out.turnP SH.out F T)
  clear F T
  go_wp2_with fail
  refine (K2.out (some ⟨k1, 0, none⟩) c1 _ _ _ _ Q5.out.p (by decide) (HB1.out _ (Q5.out.at 0 rfl)) HC1.out).mono ?_
  rintro r w6 ⟨X6, rfl, F, T⟩
  have Q6 := Lib.hid (Q5.out.turnP SH.out F T)
  clear F T
  go_wp2_with fail
  refine (K3.out (some ⟨k1, 0, none⟩) c1 _ _ _ _ Q6.out.p (by decide) (HB1.out _ (Q6.out.at 0 rfl)) HC1.out).mono ?_
  rintro r w7 ⟨X7, rfl, F, T⟩
  have Q7 := Lib.hid (Q6.out.turnP SH.out F T)
  clear F T
  go_wp2_with fail
  have Q8 := Lib.hid (((Q7.out.box SH.out (vby ⟨0, 14, 2013512⟩ dF1)).box SH.out (vby ⟨1, 0, 0⟩ dF1)).box SH.out (vby ⟨2, 0, 0⟩ dF1))
  simp only [World.size_alloc] at Q8
  clear K1 K2 K3 Q4 Q5 Q6 Q7 HC1 HB1
  refine (HD3.out _).mono ?_
  rintro r w9 ⟨v9, rfl, o9, b9⟩
  obtain ⟨k3, c3, oj3, rfl, hb3, hc3, hg3, ho3⟩ := ob_row o9 lp3
  have Qc := Lib.hid ((Q8.out.next SH.out b9).add ho3 (fun hX => Nat.lt_irrefl _ (Nat.lt_of_lt_of_le (SH.out.foot Q8.out.p _ hX).2 hg3)) (fun h => h) (Nat.le_trans Q8.out.b.size hg3))
  clear o9 b9 HD3 Q8 hg3
  go_wp2_with fail
  refine (K4.out (some ⟨k3, 0, none⟩) c3 _ _ _ _ Qc.out.p (by decide) (hb3) hc3).mono ?_
  rintro r wa ⟨Xa, rfl, F, T⟩
  have Qd := Lib.hid ((Qc.out.turnP SH.out F T).box SH.out vb9)
  clear F T Qc hb3 hc3 ho3 K4
  obtain ⟨y0, y1, y2, y3, y4, y5, y6, y7⟩ := cells8 (Qd.out.at 0 rfl)
  obtain ⟨p0, p1, p2, p3, p4, p5, p6, p7⟩ := cells8 (Qd.out.at 4 rfl)
  obtain ⟨q0, q1, q2, q3, q4, q5, q6, q7⟩ := cells8 (Qd.out.at 3 rfl)
  obtain ⟨z0, z1, z2, z3, z4, z5, z6, z7⟩ := cells8 (Qd.out.at 2 rfl)
  go_wp2_with fail
  refine (SH.out.dropped 1 Qd.out.p).mono ?_
  rintro r wb ⟨hr, Xb, F, T⟩
  obtain rfl : r = .returned (.int .i64 1) := hr
  have Qe := Lib.hid (Qd.out.turnP SH.out F T)
  clear F T
  go_wp2_with fail
  refine (SH.out.dropped 2 Qe.out.p).mono ?_
  rintro r wc ⟨hr, Xc, F, T⟩
  obtain rfl : r = .returned (.int .i64 1) := hr
  have Qf := Lib.hid (Qe.out.turnP SH.out F T)
  clear F T
  go_wp2_with fail
  refine (SH.out.dropped 0 Qf.out.p).mono ?_
  rintro r wd ⟨hr, Xd, F, T⟩
  obtain rfl : r = .returned (.int .i64 0) := hr
  have Bd := Lib.hid (Qf.out.turnP SH.out F T).b
  clear F T
  go_wp2
  go_ret
  exact ⟨rfl, Bd.out⟩
end
end Go.Proofs.Ytecgpibidcifpaa.RelayW
