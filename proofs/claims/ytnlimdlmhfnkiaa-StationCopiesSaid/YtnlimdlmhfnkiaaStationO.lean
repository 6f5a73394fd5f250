/- The landed station in memory: plain. -/
import Derived.Test.YtnlimdlmhfnkiaaStationPJa
namespace Go.Proofs.Ytnlimdlmhfnkiaa.StationW
open Go.RowKit Shell
open ConfW (Cfg R4 CM ML chk)
open FrameW (BL rdE rdV)
open PlanW (landV)
/-- The station's box. -/
abbrev sbx (c : Cfg) (D E L : Option Addr) (nd cd ne ce nl cl : Nat) (h : Int) (me ml : Nat) (a b : Int) : Obj := .cells #[.int .i64 c.hosts, .int .i64 c.cycle, .int .i64 c.delay, .int .i64 c.window, .int .i64 c.precision, .slice D nd cd, .slice E ne ce, .slice L nl cl, .int .i64 c.queue, .int .i64 h, .map (some me), .map (some ml), .int .i64 a, .int .i64 b] 71 (0, 0)
/-- The last one, if there is one. -/
def op1 (x : Int) : Option Int := if x < 0 then none else some x
def fE (T : List Tn) (l : Nat) : Option Int := op1 (lastOf (isE l) (·.k) T)
def fL (T : List Tn) (l : Nat) : Option Int := op1 (lastOf (isL l) (·.d.n) T)
/-- It stands in the way of x. -/
def stops (f : Nat → Option Int) (k : Nat) (x : Int) : Bool := (f k).isSome && decide (x ≤ (f k).getD 0)
theorem stops_op {f : Nat → Option Int} {k : Nat} {x y : Int} (h : f k = op1 y) (hx : 0 ≤ x) : stops f k x = decide (x ≤ y) := by
  unfold stops
  rw [h]
  unfold op1
  by_cases hy : y < 0
  · rw [if_pos hy]
    symm
    simp
    omega
  · rw [if_neg hy]
    simp
theorem stops_e {T : List Tn} {d : Dt} {k : Int} {l : Nat} (R : Rise T) (h1 : d.c = 1) (hl : d.l = (l : Int)) (hk : 0 ≤ k) : stops (fE T) l k = tw T d k := by
  rw [tw_e R h1 hl hk]
  exact stops_op rfl hk
theorem stops_l {T : List Tn} {d : Dt} {k : Int} {l : Nat} (R : Rise T) (h1 : d.c = 2) (hl : d.l = (l : Int)) (hn : 0 ≤ d.n) : stops (fL T) l d.n = tw T d k := by
  rw [tw_l R h1 hl hn]
  exact stops_op rfl hn
theorem op1_pos {x : Int} (h : 0 ≤ x) : op1 x = some x := if_neg (by omega)
theorem fE_nil : fE [] = fun _ => none := rfl
theorem fL_nil : fL [] = fun _ => none := rfl
theorem fE_yes {T : List Tn} {d : Dt} {k : Int} {l : Nat} (h1 : d.c = 1) (hl : d.l = (l : Int)) (hk : 0 ≤ k) : fE (T ++ [⟨d, k⟩]) = MP.upd (fE T) l k ∧ fL (T ++ [⟨d, k⟩]) = fL T := by
  refine ⟨funext fun j => ?_, funext fun j => ?_⟩
  · unfold MP.upd
    by_cases e : j = l
    · subst e
      rw [if_pos rfl]
      unfold fE
      rw [lastOf_yes (isE_iff.2 ⟨h1, hl⟩)]
      exact op1_pos hk
    · rw [if_neg e]
      unfold fE
      rw [lastOf_no]
      unfold isE
      simp [h1, hl]
      omega
  · unfold fL
    rw [lastOf_no]
    simp [isL, h1]
theorem fL_yes {T : List Tn} {d : Dt} {k : Int} {l : Nat} (h1 : d.c = 2) (hl : d.l = (l : Int)) (hn : 0 ≤ d.n) : fL (T ++ [⟨d, k⟩]) = MP.upd (fL T) l d.n ∧ fE (T ++ [⟨d, k⟩]) = fE T := by
  refine ⟨funext fun j => ?_, funext fun j => ?_⟩
  · unfold MP.upd
    by_cases e : j = l
    · subst e
      rw [if_pos rfl]
      unfold fL
      rw [lastOf_yes (isL_iff.2 ⟨h1, hl⟩)]
      exact op1_pos hn
    · rw [if_neg e]
      unfold fL
      rw [lastOf_no]
      unfold isL
      simp [h1, hl]
      omega
  · unfold fE
    rw [lastOf_no]
    simp [isE, h1]
theorem f_effort {T : List Tn} {d : Dt} {k : Int} (h1 : d.c = 3) : fE (T ++ [⟨d, k⟩]) = fE T ∧ fL (T ++ [⟨d, k⟩]) = fL T := by
  refine ⟨funext fun j => ?_, funext fun j => ?_⟩
  · unfold fE
    rw [lastOf_no]
    simp [isE, h1]
  · unfold fL
    rw [lastOf_no]
    simp [isL, h1]
theorem land_le {c : Cfg} {k t q : Int} (h : landV c k t = (q, true)) : 0 ≤ q ∧ q ≤ 1125899906842624 := by
  refine ⟨land_in h, ?_⟩
  unfold PlanW.landV at h
  split at h
  · rename_i hg
    rw [Bool.and_eq_true] at hg
    obtain ⟨g1, -⟩ := PlanW.got_iff.1 hg.1
    obtain ⟨⟨t0, t1⟩, hz⟩ := PlanW.god_iff.1 g1
    have e : t / c.cycle = q := congrArg Prod.fst h
    rw [← e]
    exact Int.le_trans (Int.ediv_le_self _ t0) t1
  · exact absurd (show false = true from congrArg Prod.snd h) (by decide)
/-- The landed station in memory. -/
structure TM (lo : Nat) (X : Nat → Prop) (g : Nat) (c : Cfg) (h : Int) (T : List Tn) (a b : Int) (N : Nat) (D E L : Option Addr) (nd cd ne ce nl cl : Nat) (me ml : Nat) (Y : Nat → Prop) (W : World) : Prop where
  z : chk c = 0
  hh : 0 ≤ h ∧ h < c.hosts
  ri : Rise T
  box : W.heap[g]? = some (sbx c D E L nd cd ne ce nl cl h me ml a b)
  kp : ∀ W1 : World, W.heap.size ≤ W1.heap.size → (∀ j, Y j → W1.heap[j]? = W.heap[j]?) → CM W1 c D E L nd cd ne ce nl cl
  pe : MP W me N (fE T)
  pl : MP W ml N (fL T)
  ne : me ≠ ml ∧ me ≠ g ∧ ml ≠ g
  yn : ¬ Y g ∧ ¬ Y me ∧ ¬ Y ml
  xy : ∀ j, Y j → X j
  xg : X g ∧ X me ∧ X ml
  bx : ∀ j, X j → lo ≤ j ∧ j < W.heap.size
section
variable {lo lo' g N M : Nat} {X : Nat → Prop} {c : Cfg} {h : Int} {T T' : List Tn} {a b a' b' : Int} {D E L : Option Addr} {nd cd ne ce nl cl me ml : Nat} {Y : Nat → Prop} {W W1 : World}
theorem TM.frame (q : TM lo X g c h T a b N D E L nd cd ne ce nl cl me ml Y W) (hs : W.heap.size ≤ W1.heap.size) (hx : ∀ j, X j → W1.heap[j]? = W.heap[j]?) : TM lo X g c h T a b N D E L nd cd ne ce nl cl me ml Y W1 :=
  ⟨q.z, q.hh, q.ri, (hx g q.xg.1).trans q.box, fun W2 hs2 hy => q.kp W2 (Nat.le_trans hs hs2) (fun j hj => (hy j hj).trans (hx j (q.xy j hj))), q.pe.block (hx me q.xg.2.1), q.pl.block (hx ml q.xg.2.2), q.ne, q.yn, q.xy, q.xg, fun j hj => ⟨(q.bx j hj).1, Nat.lt_of_lt_of_le (q.bx j hj).2 hs⟩⟩
theorem TM.next (q : TM lo X g c h T a b N D E L nd cd ne ce nl cl me ml Y W) (k : Below W.heap.size W W1) : TM lo X g c h T a b N D E L nd cd ne ce nl cl me ml Y W1 := q.frame k.size (fun j hj => k.block j (q.bx j hj).2)
theorem TM.cm (q : TM lo X g c h T a b N D E L nd cd ne ce nl cl me ml Y W) : CM W c D E L nd cd ne ce nl cl := q.kp W (Nat.le_refl _) (fun _ _ => rfl)
theorem TM.up (q : TM lo X g c h T a b N D E L nd cd ne ce nl cl me ml Y W) (hn : N ≤ M) : TM lo X g c h T a b M D E L nd cd ne ce nl cl me ml Y W := { q with pe := q.pe.mono hn, pl := q.pl.mono hn }
theorem TM.same (q : TM lo X g c h T a b N D E L nd cd ne ce nl cl me ml Y W) (k : Below W.heap.size W W1) (hn : N ≤ M) : TM lo X g c h T a b M D E L nd cd ne ce nl cl me ml Y W1 ∧ Turn X X W W1 := ⟨(q.next k).up hn, Turn.of k⟩
/-- The counts. -/
theorem TM.count (q : TM lo X g c h T a b N D E L nd cd ne ce nl cl me ml Y W) (k : Kept g W W1) (hn : W1.heap[g]? = some (sbx c D E L nd cd ne ce nl cl h me ml a' b')) : TM lo X g c h T a' b' N D E L nd cd ne ce nl cl me ml Y W1 ∧ Turn X X W W1 :=
  ⟨⟨q.z, q.hh, q.ri, hn, fun W2 hs2 hy => q.kp W2 (Nat.le_trans k.size hs2) (fun j hj => (hy j hj).trans (k.block j (fun e => q.yn.1 (e ▸ hj)) (q.bx j (q.xy j hj)).2)), q.pe.block (k.block me q.ne.2.1 q.pe.lt), q.pl.block (k.block ml q.ne.2.2 q.pl.lt), q.ne, q.yn, q.xy, q.xg, fun j hj => ⟨(q.bx j hj).1, Nat.lt_of_lt_of_le (q.bx j hj).2 k.size⟩⟩,
   ⟨k.os, k.tape, k.output, k.size, fun j hj hx => k.block j (fun e => hx (e ▸ q.xg.1)) hj, fun _ hj => Or.inl hj⟩⟩
/-- What was taken by entries. -/
theorem TM.setE (q : TM lo X g c h T a b N D E L nd cd ne ce nl cl me ml Y W) (k : Kept me W W1) (r : Rise T') (pe : MP W1 me M (fE T')) (hn : N ≤ M) (hl : fL T' = fL T) : TM lo X g c h T' a b M D E L nd cd ne ce nl cl me ml Y W1 ∧ Turn X X W W1 :=
  ⟨⟨q.z, q.hh, r, (k.block g (fun e => q.ne.2.1 e.symm) (q.bx g q.xg.1).2).trans q.box, fun W2 hs2 hy => q.kp W2 (Nat.le_trans k.size hs2) (fun j hj => (hy j hj).trans (k.block j (fun e => q.yn.2.1 (e ▸ hj)) (q.bx j (q.xy j hj)).2)), pe, by rw [hl]; exact (q.pl.mono hn).block (k.block ml (fun e => q.ne.1 e.symm) q.pl.lt), q.ne, q.yn, q.xy, q.xg, fun j hj => ⟨(q.bx j hj).1, Nat.lt_of_lt_of_le (q.bx j hj).2 k.size⟩⟩,
   ⟨k.os, k.tape, k.output, k.size, fun j hj hx => k.block j (fun e => hx (e ▸ q.xg.2.1)) hj, fun _ hj => Or.inl hj⟩⟩
/-- What was taken by links. -/
theorem TM.setL (q : TM lo X g c h T a b N D E L nd cd ne ce nl cl me ml Y W) (k : Kept ml W W1) (r : Rise T') (pl : MP W1 ml M (fL T')) (hn : N ≤ M) (hl : fE T' = fE T) : TM lo X g c h T' a b M D E L nd cd ne ce nl cl me ml Y W1 ∧ Turn X X W W1 :=
  ⟨⟨q.z, q.hh, r, (k.block g (fun e => q.ne.2.2 e.symm) (q.bx g q.xg.1).2).trans q.box, fun W2 hs2 hy => q.kp W2 (Nat.le_trans k.size hs2) (fun j hj => (hy j hj).trans (k.block j (fun e => q.yn.2.2 (e ▸ hj)) (q.bx j (q.xy j hj)).2)), by rw [hl]; exact (q.pe.mono hn).block (k.block me q.ne.1 q.pe.lt), pl, q.ne, q.yn, q.xy, q.xg, fun j hj => ⟨(q.bx j hj).1, Nat.lt_of_lt_of_le (q.bx j hj).2 k.size⟩⟩,
   ⟨k.os, k.tape, k.output, k.size, fun j hj hx => k.block j (fun e => hx (e ▸ q.xg.2.2)) hj, fun _ hj => Or.inl hj⟩⟩
/-- All is forgotten. -/
theorem TM.lost (q : TM lo X g c h T a b N D E L nd cd ne ce nl cl me ml Y W) {W2 : World} (k : Kept me W W1) (pe : MP W1 me 0 (fun _ => none)) (k2 : Kept ml W1 W2) (pl : MP W2 ml 0 (fun _ => none)) : TM lo X g c h [] a b N D E L nd cd ne ce nl cl me ml Y W2 ∧ Turn X X W W2 := by
  have hlt : ∀ j, X j → j < W1.heap.size := fun j hj => Nat.lt_of_lt_of_le (q.bx j hj).2 k.size
  have hk : ∀ j, j < W.heap.size → j ≠ me → j ≠ ml → W2.heap[j]? = W.heap[j]? := fun j hj h1 h2 => (k2.block j h2 (Nat.lt_of_lt_of_le hj k.size)).trans (k.block j h1 hj)
  exact ⟨⟨q.z, q.hh, rise_nil, (hk g (q.bx g q.xg.1).2 (fun e => q.ne.2.1 e.symm) (fun e => q.ne.2.2 e.symm)).trans q.box, fun W3 hs3 hy => q.kp W3 (Nat.le_trans (Nat.le_trans k.size k2.size) hs3) (fun j hj => (hy j hj).trans (hk j (q.bx j (q.xy j hj)).2 (fun e => q.yn.2.1 (e ▸ hj)) (fun e => q.yn.2.2 (e ▸ hj)))), (pe.block (k2.block me q.ne.1 (hlt me q.xg.2.1))).mono (Nat.zero_le _), pl.mono (Nat.zero_le _), q.ne, q.yn, q.xy, q.xg, fun j hj => ⟨(q.bx j hj).1, Nat.lt_of_lt_of_le (hlt j hj) k2.size⟩⟩,
   ⟨k2.os.trans k.os, k2.tape.trans k.tape, k2.output.trans k.output, Nat.le_trans k.size k2.size, fun j hj hx => hk j hj (fun e => hx (e ▸ q.xg.2.1)) (fun e => hx (e ▸ q.xg.2.2)), fun _ hj => Or.inl hj⟩⟩
end
/-- The landed station is what a law asks of one. -/
def SI0 (lo : Nat) (X : Nat → Prop) (g : Nat) (c : Cfg) (h : Int) (T : List Tn) (a b : Int) (N : Nat) (W : World) : Prop :=
  ∃ D E L nd cd ne ce nl cl me ml Y, TM lo X g c h T a b N D E L nd cd ne ce nl cl me ml Y W ∧ (0 ≤ a ∧ a ≤ N) ∧ 0 ≤ b ∧ b ≤ N
end Go.Proofs.Ytnlimdlmhfnkiaa.StationW
