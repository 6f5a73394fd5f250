/- Two stations side by side, and boxes; the chapter's examples. -/
import Derived.Test.YtnlimdlmhfnkiaaStationPJa
import Derived.Test.YtnlimdlmhfnkiaaFrameEJa
import Derived.Test.YtnlimdlmhfnkiaaConfFam
namespace Go.Proofs.Ytnlimdlmhfnkiaa.StationW
open Go.RowKit Shell
open ConfW (Cfg R4 CM ML chk famC)
open FrameW (BL OB rdE rdV dat rightD bs)
section
variable {SI : SIT}
structure S2 (SI : SIT) (w0 : World) (X : Nat → Prop) (g : Nat) (c : Cfg) (h : Int) (T : List Tn) (a b : Int) (N : Nat) (Y : Nat → Prop) (k : Nat) (h' : Int) (T' : List Tn) (a' b' : Int) (N' : Nat) (B : List (Nat × Obj)) (W : World) : Prop where
  p : SI w0.heap.size X g c h T a b N W
  r : SI w0.heap.size Y k c h' T' a' b' N' W
  b : Below w0.heap.size w0 W
  bx : ∀ y ∈ B, W.heap[y.1]? = some y.2 ∧ (¬ X y.1 ∧ ¬ Y y.1) ∧ w0.heap.size ≤ y.1
  dj : ∀ j, X j → ¬ Y j
variable {w0 W W1 : World} {X X' Y Y' : Nat → Prop} {g k N N' M M' j : Nat} {c : Cfg} {h h' : Int} {T T1 U U1 : List Tn} {a b a' b' a1 b1 : Int} {B B' : List (Nat × Obj)} {ob ob' : Obj}
theorem S2.next (S : Spec SI) (q : S2 SI w0 X g c h T a b N Y k h' U a' b' M B W) (z : Below W.heap.size W W1) : S2 SI w0 X g c h T a b N Y k h' U a' b' M B W1 :=
  ⟨S.frame q.p z.size (fun j hj => z.block j (S.foot q.p j hj).2), S.frame q.r z.size (fun j hj => z.block j (S.foot q.r j hj).2), q.b.trans (z.mono q.b.size), fun y hy => ⟨row_below z (q.bx y hy).1, (q.bx y hy).2⟩, q.dj⟩
theorem S2.turnP (S : Spec SI) (q : S2 SI w0 X g c h T a b N Y k h' U a' b' M B W) (r : SI w0.heap.size X' g c h T1 a1 b1 N' W1) (u : Turn X X' W W1) : S2 SI w0 X' g c h T1 a1 b1 N' Y k h' U a' b' M B W1 :=
  ⟨r, S.frame q.r u.size (fun j hj => u.block j (S.foot q.r j hj).2 (fun hx => q.dj j hx hj)), q.b.trans (u.below (fun j hj => (S.foot q.p j hj).1) q.b.size), fun y hy => ⟨(u.bx (q.bx y hy).1 (q.bx y hy).2.1.1).1, ⟨(u.bx (q.bx y hy).1 (q.bx y hy).2.1.1).2, (q.bx y hy).2.1.2⟩, (q.bx y hy).2.2⟩, fun j hj hr => by
    rcases u.foot j hj with h1 | h1
    · exact q.dj j h1 hr
    · have := (S.foot q.r j hr).2; omega⟩
theorem S2.turnR (S : Spec SI) (q : S2 SI w0 X g c h T a b N Y k h' U a' b' M B W) (r : SI w0.heap.size Y' k c h' U1 a1 b1 N' W1) (u : Turn Y Y' W W1) : S2 SI w0 X g c h T a b N Y' k h' U1 a1 b1 N' B W1 :=
  ⟨S.frame q.p u.size (fun j hj => u.block j (S.foot q.p j hj).2 (fun hr => q.dj j hj hr)), r, q.b.trans (u.below (fun j hj => (S.foot q.r j hj).1) q.b.size), fun y hy => ⟨(u.bx (q.bx y hy).1 (q.bx y hy).2.1.2).1, ⟨(q.bx y hy).2.1.1, (u.bx (q.bx y hy).1 (q.bx y hy).2.1.2).2⟩, (q.bx y hy).2.2⟩, fun j hj hr => by
    rcases u.foot j hr with h1 | h1
    · exact q.dj j hj h1
    · have := (S.foot q.p j hj).2; omega⟩
theorem S2.box (S : Spec SI) (q : S2 SI w0 X g c h T a b N Y k h' U a' b' M B W) (ob : Obj) : S2 SI w0 X g c h T a b N Y k h' U a' b' M ((W.heap.size, ob) :: B) (W.alloc ob) := by
  have q1 := q.next S (al (Below.refl W.heap.size W) ob)
  refine ⟨q1.p, q1.r, q1.b, fun y hy => ?_, q1.dj⟩
  rcases List.mem_cons.1 hy with rfl | hy
  · exact ⟨heap_alloc_new _ _, ⟨fun hX => absurd (S.foot q.p _ hX).2 (Nat.lt_irrefl _), fun hX => absurd (S.foot q.r _ hX).2 (Nat.lt_irrefl _)⟩, q.b.size⟩
  · exact q1.bx y hy
theorem S2.at (q : S2 SI w0 X g c h T a b N Y k h' U a' b' M B W) (i : Nat) (hi : B[i]? = some (j, ob)) : W.heap[j]? = some ob := (q.bx (j, ob) (List.mem_of_getElem? hi)).1
theorem S2.sub (q : S2 SI w0 X g c h T a b N Y k h' U a' b' M B W) (hB : ∀ x ∈ B', x ∈ B) : S2 SI w0 X g c h T a b N Y k h' U a' b' M B' W := ⟨q.p, q.r, q.b, fun y hy => q.bx y (hB y hy), q.dj⟩
theorem S2.add (q : S2 SI w0 X g c h T a b N Y k h' U a' b' M B W) (hx : W.heap[j]? = some ob) (hX : ¬ X j) (hY : ¬ Y j) (hj : w0.heap.size ≤ j) : S2 SI w0 X g c h T a b N Y k h' U a' b' M ((j, ob) :: B) W :=
  ⟨q.p, q.r, q.b, fun y hy => (by
    rcases List.mem_cons.1 hy with rfl | hy
    · exact ⟨hx, ⟨hX, hY⟩, hj⟩
    · exact q.bx y hy), q.dj⟩
/-- A second station is made beside the first. -/
theorem SQ.two (S : Spec SI) (q : SQ SI w0 X g c h T a b N B W) (r : SI W.heap.size Y k c h' U a' b' M W1) (z : Below W.heap.size W W1) : S2 SI w0 X g c h T a b N Y k h' U a' b' M B W1 := by
  have q1 := q.next S z
  refine ⟨q1.p, S.lower r q.b.size, q1.b, fun y hy => ⟨(q1.bx y hy).1, ⟨(q1.bx y hy).2.1, fun hY => by have := (S.foot r _ hY).1; have := lt_of_heap (q.bx y hy).1; omega⟩, (q1.bx y hy).2.2⟩, fun j hj hY => by have := (S.foot r _ hY).1; have := (S.foot q.p _ hj).2; omega⟩
end
theorem SQ.add {SI : SIT} {w0 W : World} {X : Nat → Prop} {g N j : Nat} {c : Cfg} {h a b : Int} {T : List Tn} {B : List (Nat × Obj)} {ob : Obj} (q : SQ SI w0 X g c h T a b N B W) (hx : W.heap[j]? = some ob) (hX : ¬ X j) (hj : w0.heap.size ≤ j) : SQ SI w0 X g c h T a b N ((j, ob) :: B) W :=
  ⟨q.p, q.b, fun y hy => (by
    rcases List.mem_cons.1 hy with rfl | hy
    · exact ⟨hx, hX, hj⟩
    · exact q.bx y hy)⟩
/-- A row of bytes of one's own, and where it lies. -/
theorem ob_row {w : World} {base : Nat} {v : Value} {xs : List Int} (h : FrameW.OB w base v xs) (hl : 0 < xs.length) : ∃ g cp o, v = .slice (some ⟨g, 0, none⟩) xs.length cp ∧ BL w (some ⟨g, 0, none⟩) xs ∧ xs.length ≤ cp ∧ base ≤ g ∧ w.heap[g]? = some o := by
  obtain ⟨A, c, hv, hb, hc, -⟩ := h.form
  rcases h.1.2 with ⟨_, h0⟩ | ⟨g, cap, cur, hv2, hge, hg, -⟩
  · omega
  · have e := hv.symm.trans hv2
    injection e with e1 e2 e3
    subst e1
    exact ⟨g, c, _, hv, hb, hc, hge, hg⟩
theorem bl_box {w w1 : World} {g : Nat} {xs : List Int} {o : Obj} (h : BL w (some ⟨g, 0, none⟩) xs) (h0 : w.heap[g]? = some o) (h1 : w1.heap[g]? = some o) : BL w1 (some ⟨g, 0, none⟩) xs := by
  intro k x hk
  obtain ⟨a, ha, hc, hx⟩ := h k x hk
  cases ha
  refine ⟨_, rfl, ?_, hx⟩
  rw [World.cell?_of_block (show w1.heap[((⟨g, 0, none⟩ : Addr).add k).block]? = w.heap[((⟨g, 0, none⟩ : Addr).add k).block]? from ?_)]
  · exact hc
  · have e : ((⟨g, 0, none⟩ : Addr).add k).block = g := by unfold Addr.add; split <;> rfl
    rw [e, h1, h0]
theorem dt_dat {c l n : Int} {p : ByteArray} {s : Int} (h : rightD c l n (bs p) s) : rdE (dat c l n (bs p) s) = 0 ∧ dt (dat c l n (bs p) s) = ⟨c, l, n, p, s⟩ := by
  obtain ⟨h1, h2⟩ := FrameW.rd_dat h
  refine ⟨h1, ?_⟩
  rw [rdV_dt] at h2
  generalize dt (dat c l n (bs p) s) = d at *
  obtain ⟨a, b, x, y, z⟩ := d
  injection h2 with h3
  injection h3 with h4
  simp only [List.cons.injEq, Value.int.injEq, Value.string.injEq, true_and, and_true] at h4
  obtain ⟨rfl, rfl, rfl, rfl, rfl⟩ := h4
  rfl
set_option maxRecDepth 100000 in
theorem field_why (x0 x1 x2 x3 x4 x5 x6 : Value) (w : World) : (Instr.field 41 (.agg #[x0, x1, x2, x3, x4, x5, x6]) 0).run Try.prog w = .ok x0 w := by
  rfl
abbrev dF : Dt := ⟨1, 0, 0, ⟨#[]⟩, 64⟩
abbrev fc : Cfg := famC 4 3
theorem fx1 : gj fc 1 [] 2014000 0 dF = ⟨0, 1⟩ := by kernel_rfl
theorem fx2 : gj fc 1 [⟨dF, 1⟩] 2014100 0 dF = ⟨3, 1⟩ := by kernel_rfl
theorem fx3 : gj fc 1 [⟨dF, 1⟩] 2017000 0 dF = ⟨2, 0⟩ := by kernel_rfl
theorem fx4 : gj fc 1 [⟨dF, 1⟩] 4014000 0 dF = ⟨0, 2⟩ := by kernel_rfl
theorem fx5 : gj fc 0 [] 2014000 0 dF = ⟨1, 0⟩ := by kernel_rfl
theorem chk_f : chk fc = 0 := by decide +kernel
theorem may1 : may fc 1 := ⟨chk_f, by decide, by decide +kernel⟩
theorem may0 : may fc 0 := ⟨chk_f, by decide, by decide +kernel⟩
theorem may4 : ¬ may fc 4 := fun h => absurd h.2.2 (by decide +kernel)
end Go.Proofs.Ytnlimdlmhfnkiaa.StationW
