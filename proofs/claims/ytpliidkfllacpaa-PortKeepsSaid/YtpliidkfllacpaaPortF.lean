/- The landed port: what turns when a row grows or its head is moved out; fits. -/
import Derived.Test.YtpliidkfllacpaaPortE
import Derived.Test.YtpliidkfllacpaaFrameI
namespace Go.Proofs.Ytpliidkfllacpaa.PortW
open Go.RowKit Shell
theorem Turn.trans {X X1 X2 : Nat → Prop} {W W1 W2 : World} (h : Turn X X1 W W1) (k : Turn X1 X2 W1 W2) : Turn X X2 W W2 :=
  ⟨k.os.trans h.os, k.tape.trans h.tape, k.output.trans h.output, Nat.le_trans h.size k.size, fun j hj hx => (k.block j (Nat.lt_of_lt_of_le hj h.size) (fun h1 => by
    rcases h.foot j h1 with h2 | h2
    · exact hx h2
    · omega)).trans (h.block j hj hx), fun j hj => by
    rcases k.foot j hj with h1 | h1
    · exact h.foot j h1
    · exact Or.inr (Nat.le_trans h.size h1)⟩
theorem Turn.after {X X' : Nat → Prop} {W W1 W2 : World} (b : Below W.heap.size W W1) (k : Turn X X' W1 W2) : Turn X X' W W2 := (Turn.of b).trans k
section
variable {lo g m l : Nat} {r e : List Da} {vr ve v3 : Value} {W W1 W3 : World} {x : Da}
/-- The rated row has grown, and its box says so. -/
theorem PM.grow_r (h : PM lo g m r e l vr ve W) (b : Below W.heap.size W W1) (o : LS FD W3 lo v3 (r ++ [x])) (s : Step W1 vr W3 v3) (hl : r.length + e.length < m) : PM lo g m (r ++ [x]) e l v3 ve (W3.setCell ⟨g, 2, none⟩ v3) ∧ Turn (XP g vr ve) (XP g v3 ve) W (W3.setCell ⟨g, 2, none⟩ v3) := by
  have hg := lt_of_heap h.b
  have hn3 : v3.ownBlock ≠ some g := by
    rcases s.m with h1 | ⟨k, h1, h2⟩
    · rw [h1]; exact h.nr
    · rw [h1]; intro e; cases e; have := b.size; omega
  have b3 : W3.heap[g]? = some (pbx m l vr ve) := (s.g.block g (Nat.lt_of_lt_of_le hg b.size) (fun e => h.nr e.symm)).trans ((b.block g hg).trans h.b)
  have kp := kept1 W3 g 2 v3
  have hs : W.heap.size ≤ W3.heap.size := Nat.le_trans b.size s.g.size
  refine ⟨⟨heap_setCell_same W3 g 2 _ _ _ b3, h.lw, o.kept kp hn3, ?_, hn3, h.ne, ?_, by rw [List.length_append]; simp; omega, h.m64⟩, ⟨?_, ?_, ?_, ?_, ?_, ?_⟩⟩
  · refine (h.ef.of_block (fun j hj => ?_) hs).kept kp h.ne
    have hj2 := (h.ef.lt j hj).2
    exact (s.g.block j (Nat.lt_of_lt_of_le hj2 b.size) (fun e => h.d j e.symm hj)).trans (b.block j hj2)
  · intro j hj hj2
    rcases s.m with h1 | ⟨k, h1, h2⟩
    · exact h.d j (h1 ▸ hj) hj2
    · rw [h1] at hj; cases hj; have := (h.ef.lt _ hj2).2; have := b.size; omega
  · exact kp.os.trans (s.g.os.trans b.os)
  · exact kp.tape.trans (s.g.tape.trans b.tape)
  · exact kp.output.trans (s.g.output.trans b.output)
  · exact Nat.le_trans hs kp.size
  · intro j hj hx
    exact (kp.block j (fun e => hx (Or.inl e)) (Nat.lt_of_lt_of_le hj hs)).trans ((s.g.block j (Nat.lt_of_lt_of_le hj b.size) (fun e => hx (Or.inr (Or.inl e.symm)))).trans (b.block j hj))
  · rintro j (rfl | hj | hj)
    · exact Or.inl (Or.inl rfl)
    · rcases s.m with h1 | ⟨k, h1, h2⟩
      · exact Or.inl (Or.inr (Or.inl (h1 ▸ hj)))
      · rw [h1] at hj; cases hj; exact Or.inr (Nat.le_trans b.size h2)
    · exact Or.inl (Or.inr (Or.inr hj))
/-- The other row has grown, and its box says so. -/
theorem PM.grow_e (h : PM lo g m r e l vr ve W) (b : Below W.heap.size W W1) (o : LS FD W3 lo v3 (e ++ [x])) (s : Step W1 ve W3 v3) (hl : r.length + e.length < m) : PM lo g m r (e ++ [x]) l vr v3 (W3.setCell ⟨g, 3, none⟩ v3) ∧ Turn (XP g vr ve) (XP g vr v3) W (W3.setCell ⟨g, 3, none⟩ v3) := by
  have hg := lt_of_heap h.b
  have hn3 : v3.ownBlock ≠ some g := by
    rcases s.m with h1 | ⟨k, h1, h2⟩
    · rw [h1]; exact h.ne
    · rw [h1]; intro e; cases e; have := b.size; omega
  have b3 : W3.heap[g]? = some (pbx m l vr ve) := (s.g.block g (Nat.lt_of_lt_of_le hg b.size) (fun e => h.ne e.symm)).trans ((b.block g hg).trans h.b)
  have kp := kept1 W3 g 3 v3
  have hs : W.heap.size ≤ W3.heap.size := Nat.le_trans b.size s.g.size
  refine ⟨⟨heap_setCell_same W3 g 3 _ _ _ b3, h.lw, ?_, o.kept kp hn3, h.nr, hn3, ?_, by rw [List.length_append]; simp; omega, h.m64⟩, ⟨?_, ?_, ?_, ?_, ?_, ?_⟩⟩
  · refine (h.ra.of_block (fun j hj => ?_) hs).kept kp h.nr
    have hj2 := (h.ra.lt j hj).2
    exact (s.g.block j (Nat.lt_of_lt_of_le hj2 b.size) (fun e => h.d j hj e.symm)).trans (b.block j hj2)
  · intro j hj hj2
    rcases s.m with h1 | ⟨k, h1, h2⟩
    · exact h.d j hj (h1 ▸ hj2)
    · rw [h1] at hj2; cases hj2; have := (h.ra.lt _ hj).2; have := b.size; omega
  · exact kp.os.trans (s.g.os.trans b.os)
  · exact kp.tape.trans (s.g.tape.trans b.tape)
  · exact kp.output.trans (s.g.output.trans b.output)
  · exact Nat.le_trans hs kp.size
  · intro j hj hx
    exact (kp.block j (fun e => hx (Or.inl e)) (Nat.lt_of_lt_of_le hj hs)).trans ((s.g.block j (Nat.lt_of_lt_of_le hj b.size) (fun e => hx (Or.inr (Or.inr e.symm)))).trans (b.block j hj))
  · rintro j (rfl | hj | hj)
    · exact Or.inl (Or.inl rfl)
    · exact Or.inl (Or.inr (Or.inl hj))
    · rcases s.m with h1 | ⟨k, h1, h2⟩
      · exact Or.inl (Or.inr (Or.inr (h1 ▸ hj)))
      · rw [h1] at hj; cases hj; exact Or.inr (Nat.le_trans b.size h2)
/-- The head of the rated row moved out. -/
theorem PM.cut_r {b0 off n cap : Nat} (h : PM lo g m (x :: r) e l (.slice (some ⟨b0, off, none⟩) (n + 1) cap) ve W) (hn : r.length = n) (b : Below W.heap.size W W1) (o : LA FD W3 b0 off cap r) (k : Kept b0 W1 W3) : PM lo g m r e l (.slice (some ⟨b0, off, none⟩) n cap) ve (W3.setCell ⟨g, 2, none⟩ (.slice (some ⟨b0, off, none⟩) n cap)) ∧ Turn (XP g (.slice (some ⟨b0, off, none⟩) (n + 1) cap) ve) (XP g (.slice (some ⟨b0, off, none⟩) n cap) ve) W (W3.setCell ⟨g, 2, none⟩ (.slice (some ⟨b0, off, none⟩) n cap)) := by
  have hg := lt_of_heap h.b
  have hbg : b0 ≠ g := fun e => h.nr (by rw [e]; rfl)
  have b3 : W3.heap[g]? = some (pbx m l (.slice (some ⟨b0, off, none⟩) (n + 1) cap) ve) := (k.block g (fun e => hbg e.symm) (Nat.lt_of_lt_of_le hg b.size)).trans ((b.block g hg).trans h.b)
  have kp := kept1 W3 g 2 (.slice (some ⟨b0, off, none⟩) n cap)
  have hs : W.heap.size ≤ W3.heap.size := Nat.le_trans b.size k.size
  have o2 : LS FD W3 lo (.slice (some ⟨b0, off, none⟩) n cap) r := Or.inr ⟨b0, off, cap, by rw [hn], (h.ra.lt b0 rfl).1, o⟩
  refine ⟨⟨heap_setCell_same W3 g 2 _ _ _ b3, h.lw, o2.kept kp (fun e => h.nr e), ?_, fun e => h.nr e, h.ne, fun j hj => h.d j hj, by have := h.len; rw [List.length_cons] at this; omega, h.m64⟩, ⟨?_, ?_, ?_, ?_, ?_, ?_⟩⟩
  · refine (h.ef.of_block (fun j hj => ?_) hs).kept kp h.ne
    have hj2 := (h.ef.lt j hj).2
    exact (k.block j (fun e => h.d j (by rw [e]; rfl) hj) (Nat.lt_of_lt_of_le hj2 b.size)).trans (b.block j hj2)
  · exact kp.os.trans (k.os.trans b.os)
  · exact kp.tape.trans (k.tape.trans b.tape)
  · exact kp.output.trans (k.output.trans b.output)
  · exact Nat.le_trans hs kp.size
  · intro j hj hx
    exact (kp.block j (fun e => hx (Or.inl e)) (Nat.lt_of_lt_of_le hj hs)).trans ((k.block j (fun e => hx (Or.inr (Or.inl (by rw [e]; rfl)))) (Nat.lt_of_lt_of_le hj b.size)).trans (b.block j hj))
  · exact fun j hj => Or.inl hj
/-- The head of the other row moved out. -/
theorem PM.cut_e {b0 off n cap : Nat} (h : PM lo g m r (x :: e) l vr (.slice (some ⟨b0, off, none⟩) (n + 1) cap) W) (hn : e.length = n) (b : Below W.heap.size W W1) (o : LA FD W3 b0 off cap e) (k : Kept b0 W1 W3) : PM lo g m r e l vr (.slice (some ⟨b0, off, none⟩) n cap) (W3.setCell ⟨g, 3, none⟩ (.slice (some ⟨b0, off, none⟩) n cap)) ∧ Turn (XP g vr (.slice (some ⟨b0, off, none⟩) (n + 1) cap)) (XP g vr (.slice (some ⟨b0, off, none⟩) n cap)) W (W3.setCell ⟨g, 3, none⟩ (.slice (some ⟨b0, off, none⟩) n cap)) := by
  have hg := lt_of_heap h.b
  have hbg : b0 ≠ g := fun e => h.ne (by rw [e]; rfl)
  have b3 : W3.heap[g]? = some (pbx m l vr (.slice (some ⟨b0, off, none⟩) (n + 1) cap)) := (k.block g (fun e => hbg e.symm) (Nat.lt_of_lt_of_le hg b.size)).trans ((b.block g hg).trans h.b)
  have kp := kept1 W3 g 3 (.slice (some ⟨b0, off, none⟩) n cap)
  have hs : W.heap.size ≤ W3.heap.size := Nat.le_trans b.size k.size
  have o2 : LS FD W3 lo (.slice (some ⟨b0, off, none⟩) n cap) e := Or.inr ⟨b0, off, cap, by rw [hn], (h.ef.lt b0 rfl).1, o⟩
  refine ⟨⟨heap_setCell_same W3 g 3 _ _ _ b3, h.lw, ?_, o2.kept kp (fun e => h.ne e), h.nr, fun e => h.ne e, fun j hj => h.d j hj, by have := h.len; rw [List.length_cons] at this; omega, h.m64⟩, ⟨?_, ?_, ?_, ?_, ?_, ?_⟩⟩
  · refine (h.ra.of_block (fun j hj => ?_) hs).kept kp h.nr
    have hj2 := (h.ra.lt j hj).2
    exact (k.block j (fun e => h.d j hj (by rw [e]; rfl)) (Nat.lt_of_lt_of_le hj2 b.size)).trans (b.block j hj2)
  · exact kp.os.trans (k.os.trans b.os)
  · exact kp.tape.trans (k.tape.trans b.tape)
  · exact kp.output.trans (k.output.trans b.output)
  · exact Nat.le_trans hs kp.size
  · intro j hj hx
    exact (kp.block j (fun e => hx (Or.inl e)) (Nat.lt_of_lt_of_le hj hs)).trans ((k.block j (fun e => hx (Or.inr (Or.inr (by rw [e]; rfl)))) (Nat.lt_of_lt_of_le hj b.size)).trans (b.block j hj))
  · exact fun j hj => Or.inl hj
/-- One more was refused. -/
theorem PM.more (h : PM lo g m r e l vr ve W) (b : Below W.heap.size W W1) : PM lo g m r e (l + 1) vr ve (W1.setCell ⟨g, 1, none⟩ (.int .i64 ((l + 1 : Nat) : Int))) ∧ Turn (XP g vr ve) (XP g vr ve) W (W1.setCell ⟨g, 1, none⟩ (.int .i64 ((l + 1 : Nat) : Int))) := by
  have h1 := h.below b
  have kp := kept1 W1 g 1 (.int .i64 ((l + 1 : Nat) : Int))
  refine ⟨⟨heap_setCell_same W1 g 1 _ _ _ h1.b, h.lw, h1.ra.kept kp h.nr, h1.ef.kept kp h.ne, h.nr, h.ne, h.d, h.len, h.m64⟩, ⟨kp.os.trans b.os, kp.tape.trans b.tape, kp.output.trans b.output, Nat.le_trans b.size kp.size, fun j hj hx => (kp.block j (fun e => hx (Or.inl e)) (Nat.lt_of_lt_of_le hj b.size)).trans (b.block j hj), fun j hj => Or.inl hj⟩⟩
end
theorem fits_no (x : Da) (W : World) (hp : x.p.size ≤ maxLen) (h : ¬ okP x) : Calls Try.prog 20 #[dv x] W fun v W' => v = .returned (.bool false) ∧ Below W.heap.size W W' := by
  have X0 := Lib.hid (heap_alloc_new W (dbx x))
  have B0 := Lib.hid (al (Below.refl W.heap.size W) (dbx x))
  obtain ⟨c0, c1, c2, c3, c4⟩ := cells5 X0.out
  by_cases h1 : x.c = 1
  · obtain ⟨c, l, n, p, s⟩ := x
    simp only at h1
    subst h1
    clear h
    go_enter Try.func20, Try.ntmps20
    go_wp2
    go_ret
    exact ⟨rfl, B0.out⟩
  · have q1 : (x.c == 1) = false := by rw [beq_eq_false_iff_ne]; exact h1
    have KD := Lib.hid (fun W => FrameW.data_bad x.c x.l x.n x.p x.s W (fun hr => h ⟨hr, h1⟩) (by unfold maxLen at hp; omega))
    clear h h1
    go_enter Try.func20, Try.ntmps20
    go_wp2_with fail
    refine (KD.out _).mono ?_
    rintro v w1 ⟨rfl, b1⟩
    have B1 := Lib.hid (B0.out.trans (b1.mono B0.out.size))
    clear b1
    go_wp2
    go_ret
    exact ⟨rfl, B1.out⟩
theorem fits_yes (x : Da) (W : World) (h : okP x) : Calls Try.prog 20 #[dv x] W fun v W' => v = .returned (.bool true) ∧ Below W.heap.size W W' := by
  have X0 := Lib.hid (heap_alloc_new W (dbx x))
  have B0 := Lib.hid (al (Below.refl W.heap.size W) (dbx x))
  obtain ⟨c0, c1, c2, c3, c4⟩ := cells5 X0.out
  have q1 : (x.c == 1) = false := by rw [beq_eq_false_iff_ne]; exact h.2
  have KD := Lib.hid (fun W => FrameW.data_ok x.c x.l x.n x.p x.s W h.1)
  clear h
  go_enter Try.func20, Try.ntmps20
  go_wp2_with fail
  refine (KD.out _).mono ?_
  rintro v w1 ⟨v9, rfl, -, b1⟩
  have B1 := Lib.hid (B0.out.trans (b1.mono B0.out.size))
  clear b1
  go_wp2
  go_ret
  exact ⟨rfl, B1.out⟩
end Go.Proofs.Ytpliidkfllacpaa.PortW
