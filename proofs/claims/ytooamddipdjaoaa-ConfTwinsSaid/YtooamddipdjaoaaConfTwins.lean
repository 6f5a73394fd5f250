/- tocsinlaw08.ConfTwins. -/
import Derived.Test.YtooamddipdjaoaaConfZ
import Derived.Deep.AppendLies
namespace Go.Proofs.Ytooamddipdjaoaa.ConfW.ConfTwins
open Go.ChangeShapes Go.WideShapes Go.ChangeAt Go.RowKit Shell
theorem _root_.Go.Proofs.Ytooamddipdjaoaa.ConfW.Dup.add {w w' : World} {lo gd n2 : Nat} {c : Cfg} {vs : List Value} {vE vL v2 : Value} {x : R4} (h : Dup w lo c gd vs vE vL) (gr : w.grownBy w' vE.ownBlock) (o : w'.ownsRow (gd + 1) 32 4 v2 n2 (ents (c.entries ++ [x]))) (hn2 : n2 = (c.entries ++ [x]).length) :
    Dup w' lo { c with entries := c.entries ++ [x] } gd vs v2 vL := by
  have far : ∀ {e : TypeId} {v : Value} {size n : Nat} {xs : List Value}, w.ownsRow (gd + 1) e size v n xs → ¬ 32 = e → v.ownBlock = none ∨ v.ownBlock ≠ vE.ownBlock := by
    intro e v size n xs ho he
    cases hE : vE.ownBlock with
    | none =>
      cases hv : v.ownBlock with
      | none => exact Or.inl rfl
      | some b => exact Or.inr (by simp)
    | some b =>
      rcases h.ent.2 with ⟨q1, _⟩ | ⟨g', cap, cur, q1, q2, q3, _⟩
      · rw [q1] at hE; cases hE
      · rw [q1] at hE
        cases hE
        exact Or.inr (own_block ho q3 he)
  refine ⟨h.hg, ?_, h.len, ?_, h.far, by rw [← hn2]; exact o, h.lnk.kept gr (far h.lnk (by decide))⟩
  · rw [gr.block _ (row_lt h.hd) (fun e => by have := (h.ent.lt _ e.symm).1; omega)]
    exact h.hd
  · intro j r hj
    obtain ⟨v, hv, ho⟩ := h.row j r hj
    exact ⟨v, hv, ho.kept gr (far ho (by decide))⟩
theorem _root_.Go.Proofs.Ytooamddipdjaoaa.ConfW.Dup.box {w : World} {lo gd g i : Nat} {c : Cfg} {vs : List Value} {vE vL u : Value} {cs : Array Value} {fr : Nat × Nat} (h : Dup w lo c gd vs vE vL) (hb : w.heap[g]? = some (.cells cs 26 fr)) : Dup (w.setCell ⟨g, i, none⟩ u) lo c gd vs vE vL := by
  refine ⟨h.hg, ?_, h.len, ?_, h.far, own_other h.ent (own_block h.ent hb (by decide)), own_other h.lnk (own_block h.lnk hb (by decide))⟩
  · rw [heap_setCell_other _ _ _ _ (by
      show gd ≠ g
      intro e
      rw [← e, h.hd] at hb
      cases hb)]
    exact h.hd
  · intro j r hj
    obtain ⟨v, hv, ho⟩ := h.row j r hj
    exact ⟨v, hv, own_other ho (own_block ho hb (by decide))⟩
theorem chk_twin {c : Cfg} {i : Nat} {x : R4} (h : chk c = 0) (hx : c.entries[i]? = some x) (hl : c.entries.length < 16) : chk { c with entries := c.entries ++ [x] } = 7 := by
  obtain ⟨b1, b2, b3, b4, b5, b6, _⟩ := chk_ok h
  have eq0 : chk { c with entries := c.entries ++ [x] } = if btw c.hosts 1 6 then if btw c.cycle 1 1073741824 then if spansT c then if rowsOk c then if entOk { c with entries := c.entries ++ [x] } then if phOk { c with entries := c.entries ++ [x] } then
    if prs snd (c.entries ++ [x]) then 7 else if prs (rcv { c with entries := c.entries ++ [x] }) (c.entries ++ [x]) then 8 else if linkOk c then if btw c.queue 1 64 then 0 else 10 else 9
    else 6 else 5 else 4 else 3 else 2 else 1 := rfl
  have hm := List.mem_of_getElem? hx
  have h5 : entOk { c with entries := c.entries ++ [x] } = true := by
    rw [entOk_iff]
    refine ⟨by show (c.entries ++ [x]).length ≤ 16; rw [List.length_append]; simp; omega, fun y he => ?_⟩
    have he2 : y ∈ c.entries ++ [x] := he
    rcases List.mem_append.1 he2 with h1 | h1
    · exact (entOk_iff.1 b5).2 y h1
    · rw [List.mem_singleton] at h1
      rw [h1]
      exact (entOk_iff.1 b5).2 x hm
  have h6 : phOk { c with entries := c.entries ++ [x] } = true := by
    show (c.entries ++ [x]).all (ph c) = true
    rw [List.all_append, Bool.and_eq_true]
    exact ⟨b6, by rw [List.all_cons, List.all_nil, Bool.and_true]; exact List.all_eq_true.1 b6 x hm⟩
  have h7 : prs snd (c.entries ++ [x]) = true := by
    have hi := lt_of_get hx
    refine prs_true (i := i) (j := c.entries.length) hi (a := x) (b := x) ?_ ?_ ?_
    · rw [List.getElem?_append_left hi]; exact hx
    · rw [List.getElem?_append_right (Nat.le_refl _)]; simp
    · unfold snd
      have := tim_pos x.d
      simp
      omega
  rw [eq0, b1, b2, b3, b4, h5, h6, h7]
  rfl
/-- The law's boxes: the configuration, the copy. -/
structure ZX (w0 : World) (c : Cfg) (D E L : Option Addr) (nd cd ne ce nl cl : Nat) (g4 : Nat) (vD vE vL : Value) (w : World) : Prop where
  b : CX w0 c D E L nd cd ne ce nl cl w
  y : w.heap[g4]? = some (Obj.cells #[.int .i64 c.hosts, .int .i64 c.cycle, .int .i64 c.delay, .int .i64 c.window, .int .i64 c.precision, vD, vE, vL, .int .i64 c.queue] 26)
theorem ZX.next {w0 w w1 : World} {c : Cfg} {D E L : Option Addr} {nd cd ne ce nl cl g4 : Nat} {vD vE vL : Value} (h : ZX w0 c D E L nd cd ne ce nl cl g4 vD vE vL w) (b : Below w.heap.size w w1) : ZX w0 c D E L nd cd ne ce nl cl g4 vD vE vL w1 := ⟨h.b.next b, row_below b h.y⟩
set_option maxHeartbeats 8000000 in
set_option maxRecDepth 100000 in
theorem walk2 (c : Cfg) (D E L : Option Addr) (nd cd ne ce nl cl : Nat) (q : Nat) (w : World) (h : CM w c D E L nd cd ne ce nl cl) (ha : q < 256) : Calls Try.prog 9 #[.agg #[.int .i64 c.hosts, .int .i64 c.cycle, .int .i64 c.delay, .int .i64 c.window, .int .i64 c.precision, .slice D nd cd, .slice E ne ce, .slice L nl cl, .int .i64 c.queue], .int .u8 (q : Int)] w fun r w' => r = .returned (.bool true) ∧ Below w.heap.size w w' := by
  have HM := Lib.hid h
  have X := Lib.hid (CX.start (w0 := w) (c := c) (D := D) (E := E) (L := L) (nd := nd) (cd := cd) (ne := ne) (ce := ce) (nl := nl) (cl := cl))
  have HC := Lib.hid (fun W (hW : CX w c D E L nd cd ne ce nl cl W) => check_any c D E L nd cd ne ce nl cl W (hW.mem HM.out))
  by_cases hz : chk c = 0
  case neg =>
    have hz2 : (chk c != 0) = true := by rw [bne_iff_ne]; exact hz
    generalize chk c = k at *
    clear hz h
    go_enter Try.func9, Try.ntmps9
    go_wp2_with fail
    refine (fixed_any _).mono ?_
    rintro r w1 ⟨rfl, hb⟩
    have X1 := Lib.hid (X.out.next hb)
    clear hb
    obtain ⟨-, a0, a1, a2, a3, a4, a5, a6, a7, a8⟩ := X1.out.s
    go_wp2_with fail
    refine (HC.out _ X1.out).mono ?_
    rintro r w2 ⟨rfl, hb⟩
    have X2 := Lib.hid (X1.out.next hb)
    clear hb
    go_wp2
    go_ret
    exact ⟨rfl, X2.out.b⟩
  by_cases he : ne = 0 ∨ ne = 16
  case pos =>
    rw [hz] at HC
    have he2 : ((ne : Int) == 0) = true ∨ (((ne : Int) == 0) = false ∧ ((ne : Int) == 16) = true) := by
      rcases he with h1 | h1
      · exact Or.inl (by rw [beq_iff_eq]; omega)
      · exact Or.inr ⟨by rw [beq_eq_false_iff_ne]; omega, by rw [beq_iff_eq]; omega⟩
    clear he h hz
    rcases he2 with n0 | ⟨n0, n1⟩
    all_goals
      go_enter Try.func9, Try.ntmps9
      go_wp2_with fail
      refine (fixed_any _).mono ?_
      rintro r w1 ⟨rfl, hb⟩
      have X1 := Lib.hid (X.out.next hb)
      clear hb
      obtain ⟨-, a0, a1, a2, a3, a4, a5, a6, a7, a8⟩ := X1.out.s
      go_wp2_with fail
      refine (HC.out _ X1.out).mono ?_
      rintro r w2 ⟨rfl, hb⟩
      have X2 := Lib.hid (X1.out.next hb)
      clear hb a0 a1 a2 a3 a4 a5 a6 a7 a8
      obtain ⟨-, a0, a1, a2, a3, a4, a5, a6, a7, a8⟩ := X2.out.s
      go_wp2
      go_ret
      exact ⟨rfl, X2.out.b⟩
  obtain ⟨f1, f2, f3, f4, f5⟩ := few c D E L nd cd ne ce nl cl h hz
  have HZ := Lib.hid hz
  have CP := Lib.hid (fun W (hW : CX w c D E L nd cd ne ce nl cl W) => copy_any c D E L nd cd ne ce nl cl W (hW.mem HM.out) (by omega) (fun r hr => by rw [f5 r hr]; decide) (by omega) (by omega))
  rw [hz] at HC
  have n0 : ((ne : Int) == 0) = false := by rw [beq_eq_false_iff_ne]; omega
  have n1 : ((ne : Int) == 16) = false := by rw [beq_eq_false_iff_ne]; omega
  have HNE := Lib.hid (show 1 ≤ ne ∧ ne ≤ 15 by omega)
  have hm1 : Int.tmod (q : Int) (ne : Int) = ((q % ne : Nat) : Int) := rfl
  have hm3 : (q : Int) % (ne : Int) = ((q % ne : Nat) : Int) := by omega
  have nH : ¬ (ne : Int) = 0 := by omega
  have nN : ¬ ne = 0 := by omega
  have hw1 : IntKind.i64.wrap (q : Int) = (q : Int) := i64_id (by omega) (by omega)
  have LK := Lib.hid (show q % ne < ne from Nat.mod_lt _ (by omega))
  clear hz h f1 f2 f3 f4 f5 he
  go_enter Try.func9, Try.ntmps9
  go_wp2_with fail
  refine (fixed_any _).mono ?_
  rintro r w1 ⟨rfl, hb1⟩
  have X1 := Lib.hid (X.out.next hb1)
  clear hb1 X
  obtain ⟨-, a0, a1, a2, a3, a4, a5, a6, a7, a8⟩ := X1.out.s
  go_wp2_with fail
  refine (HC.out _ X1.out).mono ?_
  rintro r w2 ⟨rfl, hb2⟩
  have X2 := Lib.hid (X1.out.next hb2)
  clear hb2 a0 a1 a2 a3 a4 a5 a6 a7 a8 X1
  obtain ⟨-, a0, a1, a2, a3, a4, a5, a6, a7, a8⟩ := X2.out.s
  go_wp2_with fail
  refine (CP.out _ X2.out).mono ?_
  rintro r w3 ⟨gd, vs, vE, vL, rfl, hb3, hd⟩
  have X3 := Lib.hid (X2.out.next hb3)
  have HD := Lib.hid hd
  obtain ⟨AE, cE, rfl, -⟩ := own_form hd.ent
  obtain ⟨AL, cL, rfl, -⟩ := own_form hd.lnk
  have HS2 := Lib.hid X2.out.b.size
  clear hb3 a0 a1 a2 a3 a4 a5 a6 a7 a8 X2 hd CP
  generalize hLE : c.entries.length = le at *
  generalize hLL : c.links.length = ll at *
  have HLE := Lib.hid hLE
  have HLL := Lib.hid hLL
  have hle9 : le ≤ 15 := by rw [← hLE, ← HM.out.nE]; exact HNE.out.2
  clear hLE hLL
  have W4 := Lib.hid (X3.out.next (al (Below.refl w3.heap.size w3) (Obj.cells #[.int .i64 c.hosts, .int .i64 c.cycle, .int .i64 c.delay, .int .i64 c.window, .int .i64 c.precision, .slice (some ⟨gd, 0, none⟩) nd nd, .slice AE le cE, .slice AL ll cL, .int .i64 c.queue] 26)))
  have Y4 := Lib.hid (heap_alloc_new w3 (Obj.cells #[.int .i64 c.hosts, .int .i64 c.cycle, .int .i64 c.delay, .int .i64 c.window, .int .i64 c.precision, .slice (some ⟨gd, 0, none⟩) nd nd, .slice AE le cE, .slice AL ll cL, .int .i64 c.queue] 26))
  obtain ⟨g4, hg4⟩ : ∃ g4, g4 = w3.heap.size := ⟨_, rfl⟩
  have HG4 := Lib.hid hg4
  clear hg4
  go_wp2_with fail
  rw [← HG4.out]
  rw [← HG4.out] at Y4
  obtain ⟨wz, hwz⟩ : ∃ wz, wz = (w3.alloc (Obj.cells #[.int .i64 c.hosts, .int .i64 c.cycle, .int .i64 c.delay, .int .i64 c.window, .int .i64 c.precision, .slice (some ⟨gd, 0, none⟩) nd nd, .slice AE le cE, .slice AL ll cL, .int .i64 c.queue] 26)).drew := ⟨_, rfl⟩
  have bz : Below w3.heap.size w3 wz := by rw [hwz]; exact (al (Below.refl _ _) _).drew
  have ZZ := Lib.hid (show ZX w c D E L nd cd ne ce nl cl g4 (.slice (some ⟨gd, 0, none⟩) nd nd) (.slice AE le cE) (.slice AL ll cL) wz from ⟨X3.out.next bz, by rw [hwz]; exact Y4.out⟩)
  have HDz := Lib.hid (HD.out.below bz)
  obtain ⟨x, hx⟩ : ∃ x, c.entries[q % ne]? = some x := ⟨_, List.getElem?_eq_getElem (by rw [← HM.out.nE]; exact LK.out)⟩
  obtain ⟨b, off, rfl, ⟨x0, x1, x2, x3⟩, hxb⟩ := (ZZ.out.b.mem HM.out).he (q % ne) x hx
  have HX := Lib.hid hx
  have c6 := box_cell (i := 6) ZZ.out.b.x rfl
  have d6 := box_cell (i := 6) ZZ.out.y rfl
  have lkI : ((q % ne : Nat) : Int) < (ne : Int) := by have := LK.out; omega
  have lk0 : (0 : Int) ≤ ((q % ne : Nat) : Int) := by omega
  generalize q % ne = k at *
  clear hx bz W4 Y4 HD
  refine wp_region_held_drew (S := fun W : World => Hid (CX w c D (some ⟨b, off, none⟩) L nd cd ne ce nl cl W) ∧ W.cell? ⟨w.heap.size, 6, none⟩ = some (.slice (some ⟨b, off, none⟩) ne ce) ∧ W.cell? ⟨b, off + k * 4, none⟩ = some (.int .i64 x.a) ∧ W.cell? ⟨b, off + k * 4 + 1, none⟩ = some (.int .u32 (x.b : Int)) ∧ W.cell? ⟨b, off + k * 4 + 2, none⟩ = some (.int .i64 x.c) ∧ W.cell? ⟨b, off + k * 4 + 3, none⟩ = some (.int .i64 x.d)) (by kernel_rfl) (by rw [← hwz]; exact ⟨Lib.hid ZZ.out.b, c6, x0, x1, x2, x3⟩) (fun hHeld => ?_)
  rw [← hwz] at hHeld ⊢
  clear hwz
  refine wpAnyH_take (i := 0) (oi := ⟨(some 25), _, _, _, _, _⟩) (v := ?_) rfl (by kernel_rfl) (by kernel_rfl) (by kernel_rfl) (fun _ _ _ h => h) (Or.inl ⟨by kernel_rfl, ?_⟩) (by assumption) ?_; rotate_left; (focus (intro w hSw; (try dsimp only at hSw); go_simp; (try with_reducible rfl)))
  simp only [Act.put, List.setIfInBounds_toArray, List.set_cons_zero, List.set_cons_succ]
  refine wpAnyH_take (i := 2) (oi := ⟨(some 27), _, _, _, _, _⟩) (v := ?_) rfl (by kernel_rfl) (by kernel_rfl) (by kernel_rfl) (fun _ _ _ h => h) (Or.inl ⟨by kernel_rfl, ?_⟩) (by assumption) ?_; rotate_left; (focus (intro w hSw; (try dsimp only at hSw); go_simp; (try with_reducible rfl)))
  simp only [Act.put, List.setIfInBounds_toArray, List.set_cons_zero, List.set_cons_succ]
  refine wpAnyH_take (i := 3) (oi := ⟨(some 28), _, _, _, _, _⟩) (v := ?_) rfl (by kernel_rfl) (by kernel_rfl) (by kernel_rfl) (fun _ _ _ h => h) (Or.inl ⟨by kernel_rfl, ?_⟩) (by assumption) ?_; rotate_left; (focus (intro w hSw; (try dsimp only at hSw); go_simp; (try with_reducible rfl)))
  simp only [Act.put, List.setIfInBounds_toArray, List.set_cons_zero, List.set_cons_succ]
  refine wpAnyH_take (i := 4) (oi := ⟨(some 29), _, _, _, _, _⟩) (v := ?_) rfl (by kernel_rfl) (by kernel_rfl) (by kernel_rfl) (fun _ _ _ h => h) (Or.inl ⟨by kernel_rfl, ?_⟩) (by assumption) ?_; rotate_left; (focus (intro w hSw; (try dsimp only at hSw); go_simp; (try with_reducible rfl)))
  simp only [Act.put, List.setIfInBounds_toArray, List.set_cons_zero, List.set_cons_succ]
  refine wpAnyH_take (i := 5) (oi := ⟨(some 30), _, _, _, _, _⟩) (v := ?_) rfl (by kernel_rfl) (by kernel_rfl) (by kernel_rfl) (fun _ _ _ h => h) (Or.inl ⟨by kernel_rfl, ?_⟩) (by assumption) ?_; rotate_left; (focus (intro w hSw; (try dsimp only at hSw); go_simp; (try with_reducible rfl)))
  simp only [Act.put, List.setIfInBounds_toArray, List.set_cons_zero, List.set_cons_succ]
  refine wpAnyH_take (i := 6) (oi := ⟨(some 31), _, _, _, _, _⟩) (v := ?_) rfl (by kernel_rfl) (by kernel_rfl) (by kernel_rfl) (fun _ _ _ h => h) (Or.inl ⟨by kernel_rfl, ?_⟩) (by assumption) ?_; rotate_left; (focus (intro w hSw; (try dsimp only at hSw); go_simp; (try with_reducible rfl)))
  simp only [Act.put, List.setIfInBounds_toArray, List.set_cons_zero, List.set_cons_succ]
  refine wpAnyH_take (i := 7) (oi := ⟨(some 32), _, _, _, _, _⟩) (v := ?_) rfl (by kernel_rfl) (by kernel_rfl) (by kernel_rfl) (fun _ _ _ h => h) (Or.inl ⟨by kernel_rfl, ?_⟩) (by assumption) ?_; rotate_left; (focus (intro w hSw; (try dsimp only at hSw); go_simp; (try with_reducible rfl)))
  simp only [Act.put, List.setIfInBounds_toArray, List.set_cons_zero, List.set_cons_succ]
  refine wpAnyH_take (i := 8) (oi := ⟨(some 33), _, _, _, _, _⟩) (v := ?_) rfl (by kernel_rfl) (by kernel_rfl) (by kernel_rfl) (fun _ _ _ h => h) (Or.inl ⟨by kernel_rfl, ?_⟩) (by assumption) ?_; rotate_left; (focus (intro w hSw; (try dsimp only at hSw); go_simp; (try with_reducible rfl)))
  simp only [Act.put, List.setIfInBounds_toArray, List.set_cons_zero, List.set_cons_succ]
  refine wpAnyH_take (i := 9) (oi := ⟨(some 34), _, _, _, _, _⟩) (v := ?_) rfl (by kernel_rfl) (by kernel_rfl) (by kernel_rfl) (fun _ _ _ h => h) (Or.inl ⟨by kernel_rfl, ?_⟩) (by assumption) ?_; rotate_left; (focus (intro w hSw; (try dsimp only at hSw); go_simp; (try with_reducible rfl)))
  simp only [Act.put, List.setIfInBounds_toArray, List.set_cons_zero, List.set_cons_succ]
  refine wpAnyH_take (i := 10) (oi := ⟨(some 35), _, _, _, _, _⟩) (v := ?_) rfl (by kernel_rfl) (by kernel_rfl) (by kernel_rfl) (fun _ _ _ h => h) (Or.inl ⟨by kernel_rfl, ?_⟩) (by assumption) ?_; rotate_left; (focus (intro w hSw; (try dsimp only at hSw); go_simp; (try with_reducible rfl)))
  simp only [Act.put, List.setIfInBounds_toArray, List.set_cons_zero, List.set_cons_succ]
  refine wpAnyH_take (i := 11) (oi := ⟨(some 36), _, _, _, _, _⟩) (v := ?_) rfl (by kernel_rfl) (by kernel_rfl) (by kernel_rfl) (fun _ _ _ h => h) (Or.inl ⟨by kernel_rfl, ?_⟩) (by assumption) ?_; rotate_left; (focus (intro w hSw; (try dsimp only at hSw); go_simp; (try with_reducible rfl)))
  simp only [Act.put, List.setIfInBounds_toArray, List.set_cons_zero, List.set_cons_succ]
  obtain ⟨i0, zz0, hi, hz0, hz1, hz2, hz3⟩ := parts_Entry
  have ba := al (Below.refl wz.heap.size wz) (Obj.cells #[.int .i64 x.a, .int .u32 (x.b : Int), .int .i64 x.c, .int .i64 x.d] 32)
  have ZA := Lib.hid (ZZ.out.next ba)
  have c6a := box_cell (i := 6) ZA.out.b.x rfl
  have d6a := box_cell (i := 6) ZA.out.y rfl
  have gb : ∀ j, j < wz.heap.size → (wz.alloc (Obj.cells #[.int .i64 x.a, .int .u32 (x.b : Int), .int .i64 x.c, .int .i64 x.d] 32)).heap[j]? = wz.heap[j]? := fun j hj => ba.block j hj
  have x0a := (ba.cell (Lib.lt_of_cell x0)).trans x0
  have x1a := (ba.cell (Lib.lt_of_cell x1)).trans x1
  have x2a := (ba.cell (Lib.lt_of_cell x2)).trans x2
  have x3a := (ba.cell (Lib.lt_of_cell x3)).trans x3
  have HDa := Lib.hid (HDz.out.below ba)
  have OWN := Lib.hid (show (wz.alloc (Obj.cells #[.int .i64 x.a, .int .u32 (x.b : Int), .int .i64 x.c, .int .i64 x.d] 32)).ownsRow (gd + 1) 32 4 (.slice AE le cE) le (ents c.entries) from by have := HDa.out.ent; rwa [HLE.out] at this)
  have NEWS := Lib.hid (show ∀ j u, (ents [x])[j]? = some u → (wz.alloc (Obj.cells #[.int .i64 x.a, .int .u32 (x.b : Int), .int .i64 x.c, .int .i64 x.d] 32)).cell? ((⟨wz.heap.size, 0, none⟩ : Addr).add j) = some u from fun j u hj => by
    have ha : (⟨wz.heap.size, 0, none⟩ : Addr).add j = ⟨wz.heap.size, j, none⟩ := by unfold Addr.add; split <;> simp_all
    rw [ha]
    refine box_cell (heap_alloc_new wz _) ?_
    rw [← hj, show (#[Value.int .i64 x.a, .int .u32 (x.b : Int), .int .i64 x.c, .int .i64 x.d] : Array Value) = (ents [x]).toArray from rfl, List.getElem?_toArray])
  have lgd := row_lt HDz.out.hd
  have BASE := Lib.hid (show gd + 1 ≤ (wz.alloc (Obj.cells #[.int .i64 x.a, .int .u32 (x.b : Int), .int .i64 x.c, .int .i64 x.d] 32)).heap.size from by simp; omega)
  have SZ := Lib.hid (show (wz.alloc (Obj.cells #[.int .i64 x.a, .int .u32 (x.b : Int), .int .i64 x.c, .int .i64 x.d] 32)).heap.size = wz.heap.size + 1 from by simp)
  have hwlo : w.heap.size ≤ gd := Nat.le_trans HS2.out HDz.out.hg
  have own4 : (Value.slice AE le cE).ownBlock ≠ some g4 := own_block OWN.out ZA.out.y (by decide)
  have own0 : ∀ z, (Value.slice AE le cE).ownBlock = some z → gd + 1 ≤ z := fun z hz => (OWN.out.lt z hz).1
  have HAP := Lib.hid (show ∀ w6, (wz.alloc (Obj.cells #[.int .i64 x.a, .int .u32 (x.b : Int), .int .i64 x.c, .int .i64 x.d] 32)).grownBy w6 (Value.slice AE le cE).ownBlock → (ZX w c D (some ⟨b, off, none⟩) L nd cd ne ce nl cl g4 (.slice (some ⟨gd, 0, none⟩) nd nd) (.slice AE le cE) (.slice AL ll cL) w6) ∧ (Hid (CX w c D (some ⟨b, off, none⟩) L nd cd ne ce nl cl w6) ∧ w6.cell? ⟨w.heap.size, 6, none⟩ = some (.slice (some ⟨b, off, none⟩) ne ce) ∧ w6.cell? ⟨b, off + k * 4, none⟩ = some (.int .i64 x.a) ∧ w6.cell? ⟨b, off + k * 4 + 1, none⟩ = some (.int .u32 (x.b : Int)) ∧ w6.cell? ⟨b, off + k * 4 + 2, none⟩ = some (.int .i64 x.c) ∧ w6.cell? ⟨b, off + k * 4 + 3, none⟩ = some (.int .i64 x.d)) from fun w6 gr => by
    have low : Below (gd + 1) (wz.alloc (Obj.cells #[.int .i64 x.a, .int .u32 (x.b : Int), .int .i64 x.c, .int .i64 x.d] 32)) w6 := ⟨gr.os, gr.tape, gr.output, gr.size, fun j hj => gr.block j (by have := BASE.out; omega) (fun e => by have := own0 j e.symm; omega)⟩
    have zz : ZX w c D (some ⟨b, off, none⟩) L nd cd ne ce nl cl g4 (.slice (some ⟨gd, 0, none⟩) nd nd) (.slice AE le cE) (.slice AL ll cL) w6 := ⟨⟨ZA.out.b.b.trans (low.mono (by omega)), by
        rw [low.block _ (by omega)]; exact ZA.out.b.x⟩, by
        rw [gr.block _ (row_lt ZA.out.y) (fun e => own4 e.symm)]; exact ZA.out.y⟩
    have mm := (zz.b.mem HM.out).he k x HX.out
    obtain ⟨b9, o9, hbo, ⟨q0, q1, q2, q3⟩, _⟩ := mm
    cases hbo
    exact ⟨zz, Lib.hid zz.b, box_cell zz.b.x rfl, q0, q1, q2, q3⟩)
  have lw4 : w.heap.size < g4 := by rw [HG4.out]; exact row_lt X3.out.x
  have HFIN := Lib.hid (show ∀ w6 gE cG, (wz.alloc (Obj.cells #[.int .i64 x.a, .int .u32 (x.b : Int), .int .i64 x.c, .int .i64 x.d] 32)).grownBy w6 (Value.slice AE le cE).ownBlock → w6.ownsRow (gd + 1) 32 4 (.slice (some ⟨gE, 0, none⟩) (le + 1) cG) (le + 1) (ents c.entries ++ ents [x]) →
      (Hid (CX w c D (some ⟨b, off, none⟩) L nd cd ne ce nl cl (w6.setCell ⟨g4, 6, none⟩ (.slice (some ⟨gE, 0, none⟩) (le + 1) cG))) ∧ (w6.setCell ⟨g4, 6, none⟩ (.slice (some ⟨gE, 0, none⟩) (le + 1) cG)).cell? ⟨w.heap.size, 6, none⟩ = some (.slice (some ⟨b, off, none⟩) ne ce) ∧ (w6.setCell ⟨g4, 6, none⟩ (.slice (some ⟨gE, 0, none⟩) (le + 1) cG)).cell? ⟨b, off + k * 4, none⟩ = some (.int .i64 x.a) ∧ (w6.setCell ⟨g4, 6, none⟩ (.slice (some ⟨gE, 0, none⟩) (le + 1) cG)).cell? ⟨b, off + k * 4 + 1, none⟩ = some (.int .u32 (x.b : Int)) ∧ (w6.setCell ⟨g4, 6, none⟩ (.slice (some ⟨gE, 0, none⟩) (le + 1) cG)).cell? ⟨b, off + k * 4 + 2, none⟩ = some (.int .i64 x.c) ∧ (w6.setCell ⟨g4, 6, none⟩ (.slice (some ⟨gE, 0, none⟩) (le + 1) cG)).cell? ⟨b, off + k * 4 + 3, none⟩ = some (.int .i64 x.d)) ∧ Below w.heap.size w (w6.setCell ⟨g4, 6, none⟩ (.slice (some ⟨gE, 0, none⟩) (le + 1) cG)) ∧ ((w6.setCell ⟨g4, 6, none⟩ (.slice (some ⟨gE, 0, none⟩) (le + 1) cG)).cell? ⟨g4, 0, none⟩ = some (.int .i64 c.hosts) ∧ (w6.setCell ⟨g4, 6, none⟩ (.slice (some ⟨gE, 0, none⟩) (le + 1) cG)).cell? ⟨g4, 1, none⟩ = some (.int .i64 c.cycle) ∧ (w6.setCell ⟨g4, 6, none⟩ (.slice (some ⟨gE, 0, none⟩) (le + 1) cG)).cell? ⟨g4, 2, none⟩ = some (.int .i64 c.delay) ∧ (w6.setCell ⟨g4, 6, none⟩ (.slice (some ⟨gE, 0, none⟩) (le + 1) cG)).cell? ⟨g4, 3, none⟩ = some (.int .i64 c.window) ∧ (w6.setCell ⟨g4, 6, none⟩ (.slice (some ⟨gE, 0, none⟩) (le + 1) cG)).cell? ⟨g4, 4, none⟩ = some (.int .i64 c.precision) ∧ (w6.setCell ⟨g4, 6, none⟩ (.slice (some ⟨gE, 0, none⟩) (le + 1) cG)).cell? ⟨g4, 5, none⟩ = some (.slice (some ⟨gd, 0, none⟩) nd nd) ∧ (w6.setCell ⟨g4, 6, none⟩ (.slice (some ⟨gE, 0, none⟩) (le + 1) cG)).cell? ⟨g4, 6, none⟩ = some (.slice (some ⟨gE, 0, none⟩) (le + 1) cG) ∧ (w6.setCell ⟨g4, 6, none⟩ (.slice (some ⟨gE, 0, none⟩) (le + 1) cG)).cell? ⟨g4, 7, none⟩ = some (.slice AL ll cL) ∧ (w6.setCell ⟨g4, 6, none⟩ (.slice (some ⟨gE, 0, none⟩) (le + 1) cG)).cell? ⟨g4, 8, none⟩ = some (.int .i64 c.queue)) ∧ Calls Try.prog 11 #[.agg #[.int .i64 c.hosts, .int .i64 c.cycle, .int .i64 c.delay, .int .i64 c.window, .int .i64 c.precision, .slice (some ⟨gd, 0, none⟩) nd nd, .slice (some ⟨gE, 0, none⟩) (le + 1) cG, .slice AL ll cL, .int .i64 c.queue]] (w6.setCell ⟨g4, 6, none⟩ (.slice (some ⟨gE, 0, none⟩) (le + 1) cG)) fun r w' => r = .returned (.int .i64 7) ∧ Below (w6.setCell ⟨g4, 6, none⟩ (.slice (some ⟨gE, 0, none⟩) (le + 1) cG)).heap.size (w6.setCell ⟨g4, 6, none⟩ (.slice (some ⟨gE, 0, none⟩) (le + 1) cG)) w' from fun w6 gE cG gr oE => by
    have zz := (HAP.out w6 gr).1
    have cx : CX w c D (some ⟨b, off, none⟩) L nd cd ne ce nl cl (w6.setCell ⟨g4, 6, none⟩ (.slice (some ⟨gE, 0, none⟩) (le + 1) cG)) := ⟨zz.b.b.setCell (by show w.heap.size ≤ g4; omega) _, by
      rw [heap_setCell_other _ _ _ _ (by show w.heap.size ≠ g4; omega)]; exact zz.b.x⟩
    obtain ⟨b9, o9, hbo, ⟨q0, q1, q2, q3⟩, _⟩ := (cx.mem HM.out).he k x HX.out
    cases hbo
    have dy := heap_setCell_same w6 g4 6 _ _ (.slice (some ⟨gE, 0, none⟩) (le + 1) cG) zz.y
    have du := ((HDa.out.add (c := c) (vE := .slice AE le cE) gr (by rw [ents_app]; exact oE) (by rw [List.length_append, HLE.out]; rfl)).box (i := 6) (u := .slice (some ⟨gE, 0, none⟩) (le + 1) cG) zz.y)
    obtain ⟨E2, L2, ce2, cl2, e2, l2, hmem⟩ := du.mem (show ∀ r ∈ c.delays, Wf .i64 r ∧ r.length ≤ maxLen from CM.wf _ _ _ _ _ _ _ _ _ _ HM.out) (by
        intro y hy
        have hy2 : y ∈ c.entries ++ [x] := hy
        rcases List.mem_append.1 hy2 with h1 | h1
        · exact HM.out.he.u32 y h1
        · rw [List.mem_singleton] at h1
          rw [h1]
          exact hxb) HM.out.hl.u32 (by show c.delays.length ≤ maxLen; rw [← HM.out.nD]; exact HM.out.mD)
    obtain ⟨rfl, rfl⟩ : some ⟨gE, 0, none⟩ = E2 ∧ cG = ce2 := by injection e2 with q1 _ q3; exact ⟨q1, q3⟩
    obtain ⟨rfl, rfl⟩ : AL = L2 ∧ cL = cl2 := by injection l2 with q1 _ q3; exact ⟨q1, q3⟩
    have CK := check_any _ _ _ _ _ _ _ _ _ _ _ hmem
    rw [chk_twin HZ.out HX.out (by rw [HLE.out]; omega)] at CK
    refine ⟨⟨Lib.hid cx, box_cell cx.x rfl, q0, q1, q2, q3⟩, cx.b, ⟨box_cell dy rfl, box_cell dy rfl, box_cell dy rfl, box_cell dy rfl, box_cell dy rfl, box_cell dy rfl, box_cell dy rfl, box_cell dy rfl, box_cell dy rfl⟩, ?_⟩
    have e5 : nd = c.delays.length := HM.out.nD
    have e6 : le + 1 = (c.entries ++ [x]).length := by rw [List.length_append, HLE.out]; rfl
    have e7 : ll = c.links.length := HLL.out.symm
    rw [e5, e6, e7]
    rw [← e6, ← e7] at CK
    rw [← e6, ← e7]
    exact CK)
  clear ba gb own4 own0 lgd hwlo lw4
  refine wpAnyH_ready (rs := [1, 12]) (by kernel_rfl) (by simp) ?_
  refine AllReadyH.cons (o := ⟨(some 26), _, _, _, _, _⟩) rfl (fun K hK => ?_) (AllReadyH.cons (o := ⟨(some 37), _, _, _, _, _⟩) rfl (fun K hK => ?_) AllReadyH.nil)
  · go_simp
    refine hK.out _ _ (⟨Lib.hid ZZ.out.b, c6, x0, x1, x2, x3⟩) (fun hHeld => ?_)
    clear hK K hHeld
    refine wpAnyH_ready (rs := [12]) (by kernel_rfl) (by simp) ?_
    refine AllReadyH.cons (o := ⟨(some 37), _, _, _, _, _⟩) rfl (fun K hK => ?_) AllReadyH.nil
    go_simp
    refine hK.out _ _ (⟨Lib.hid ZA.out.b, c6a, x0a, x1a, x2a, x3a⟩) (fun hHeld => ?_)
    clear hK K hHeld
    refine wpAnyH_ready (rs := [13]) (by kernel_rfl) (by simp) ?_
    refine AllReadyH.cons (o := ⟨(some 38), _, _, _, _, _⟩) rfl (fun K hK => ?_) AllReadyH.nil
    refine step_append_lies _ (by rfl) _ _ _ (by rfl) (gd + 1) 32 i0 _ 4 32 Try.underlying23 hi hz0 hz1 hz2 hz3 (by omega) (.slice AE le cE) le (ents c.entries) (by rfl) OWN.out ⟨wz.heap.size, 0, none⟩ 1 1 (ents [x]) (by rfl) (by rfl) NEWS.out ents_one (by omega) (by simp only [maxLen]; omega) (by omega) BASE.out (wz.heap.size + 1) SZ.out (fun gE cG w6 oE gr _ _ => ?_)
    have BA := HAP.out w6 gr
    refine hK.out _ _ (BA.2) (fun hHeld => ?_)
    clear hK K
    refine wpAnyH_take (i := 14) (oi := ⟨(some 39), _, _, _, _, _⟩) (v := ?_) rfl (by kernel_rfl) (by kernel_rfl) (by kernel_rfl) (fun _ _ _ h => h) (Or.inl ⟨by kernel_rfl, ?_⟩) (by assumption) ?_; rotate_left; (focus (intro w hSw; (try dsimp only at hSw); go_simp; (try with_reducible rfl)))
    simp only [Act.put, List.setIfInBounds_toArray, List.set_cons_zero, List.set_cons_succ]
    clear hHeld
    have ZB := BA.1
    have d6b := box_cell (i := 6) BA.1.y rfl
    have f6b := frozen_of_row w6 g4 6 _ _ BA.1.y
    have FIN := Lib.hid (HFIN.out w6 gE cG gr oE)
    clear BA oE gr
    refine wpAnyH_ready (rs := [15]) (by kernel_rfl) (by simp) ?_
    refine AllReadyH.cons (o := ⟨none, _, _, _, _, _⟩) rfl (fun K hK => ?_) AllReadyH.nil
    go_simp
    refine hK.out _ _ (FIN.out.1) (fun hHeld => ?_)
    clear hK K hHeld
    refine wpAnyH_done (by kernel_rfl) ?_ _
    obtain ⟨z0, z1, z2, z3, z4, z5, z6, z7, z8⟩ := FIN.out.2.2.1
    have CKF := Lib.hid FIN.out.2.2.2
    go_wp2_with fail
    refine CKF.out.mono ?_
    rintro r9 w9 ⟨rfl, hb9⟩
    have B9 := Lib.hid (FIN.out.2.1.trans (hb9.mono FIN.out.2.1.size))
    clear hb9
    go_wp2
    go_ret
    exact ⟨rfl, B9.out⟩
  · go_simp
    refine hK.out _ _ (⟨Lib.hid ZA.out.b, c6a, x0a, x1a, x2a, x3a⟩) (fun hHeld => ?_)
    clear hK K hHeld
    refine wpAnyH_ready (rs := [1]) (by kernel_rfl) (by simp) ?_
    refine AllReadyH.cons (o := ⟨(some 26), _, _, _, _, _⟩) rfl (fun K hK => ?_) AllReadyH.nil
    go_simp
    refine hK.out _ _ (⟨Lib.hid ZA.out.b, c6a, x0a, x1a, x2a, x3a⟩) (fun hHeld => ?_)
    clear hK K hHeld
    refine wpAnyH_ready (rs := [13]) (by kernel_rfl) (by simp) ?_
    refine AllReadyH.cons (o := ⟨(some 38), _, _, _, _, _⟩) rfl (fun K hK => ?_) AllReadyH.nil
    refine step_append_lies _ (by rfl) _ _ _ (by rfl) (gd + 1) 32 i0 _ 4 32 Try.underlying23 hi hz0 hz1 hz2 hz3 (by omega) (.slice AE le cE) le (ents c.entries) (by rfl) OWN.out ⟨wz.heap.size, 0, none⟩ 1 1 (ents [x]) (by rfl) (by rfl) NEWS.out ents_one (by omega) (by simp only [maxLen]; omega) (by omega) BASE.out (wz.heap.size + 1) SZ.out (fun gE cG w6 oE gr _ _ => ?_)
    have BA := HAP.out w6 gr
    refine hK.out _ _ (BA.2) (fun hHeld => ?_)
    clear hK K
    refine wpAnyH_take (i := 14) (oi := ⟨(some 39), _, _, _, _, _⟩) (v := ?_) rfl (by kernel_rfl) (by kernel_rfl) (by kernel_rfl) (fun _ _ _ h => h) (Or.inl ⟨by kernel_rfl, ?_⟩) (by assumption) ?_; rotate_left; (focus (intro w hSw; (try dsimp only at hSw); go_simp; (try with_reducible rfl)))
    simp only [Act.put, List.setIfInBounds_toArray, List.set_cons_zero, List.set_cons_succ]
    clear hHeld
    have ZB := BA.1
    have d6b := box_cell (i := 6) BA.1.y rfl
    have f6b := frozen_of_row w6 g4 6 _ _ BA.1.y
    have FIN := Lib.hid (HFIN.out w6 gE cG gr oE)
    clear BA oE gr
    refine wpAnyH_ready (rs := [15]) (by kernel_rfl) (by simp) ?_
    refine AllReadyH.cons (o := ⟨none, _, _, _, _, _⟩) rfl (fun K hK => ?_) AllReadyH.nil
    go_simp
    refine hK.out _ _ (FIN.out.1) (fun hHeld => ?_)
    clear hK K hHeld
    refine wpAnyH_done (by kernel_rfl) ?_ _
    obtain ⟨z0, z1, z2, z3, z4, z5, z6, z7, z8⟩ := FIN.out.2.2.1
    have CKF := Lib.hid FIN.out.2.2.2
    go_wp2_with fail
    refine CKF.out.mono ?_
    rintro r9 w9 ⟨rfl, hb9⟩
    have B9 := Lib.hid (FIN.out.2.1.trans (hb9.mono FIN.out.2.1.size))
    clear hb9
    go_wp2
    go_ret
    exact ⟨rfl, B9.out⟩
theorem walk (c : Cfg) (D E L : Option Addr) (nd cd ne ce nl cl : Nat) (y : Int) (w : World) (h : CM w c D E L nd cd ne ce nl cl) (hy : (Lit.int .u8 y).wf = true) : Calls Try.prog 9 #[.agg #[.int .i64 c.hosts, .int .i64 c.cycle, .int .i64 c.delay, .int .i64 c.window, .int .i64 c.precision, .slice D nd cd, .slice E ne ce, .slice L nl cl, .int .i64 c.queue], .int .u8 y] w fun r w' => r = .returned (.bool true) ∧ Below w.heap.size w w' := by
  have hb : 0 ≤ y ∧ y ≤ 255 := by
    simp [Lit.wf] at hy
    exact hy
  obtain ⟨p, rfl⟩ := Int.eq_ofNat_of_zero_le hb.1
  exact walk2 c D E L nd cd ne ce nl cl p w h (by omega)
set_option maxRecDepth 100000 in
/-- What the walk gives, for every argument and every world. -/
theorem contract (H : Type) (enc : TypeId × Value → H) (W : World) (base : Nat) (args : Array Value) (ds gs : List (DataW H)) (before : List MemPlace)
    (hval : ∀ (j : Nat) t v, Try.f9.params[j]? = some t → args[j]? = some v → Value.okWide Try.prog W .any base t v)
    (hW : DataW.Whole enc Try.prog Try.f9.params.toList Rows.confTwinsSpec.vars false W args.toList ds gs before) : 
    Calls Try.prog 9 args W fun e W' => ∃ v, e = .returned v ∧ Rows.confTwinsSpec.post enc Try.prog Try.f9 false true false false W args v W' := by
  have hW' := hW
  obtain ⟨p, q, hA0, hV, rfl, hfz, hnd⟩ := hW
  have hA : DataW.TrodAll enc Try.prog W 0 (fun _ => true) true Try.f9.params.toList args.toList ds p := hA0
  rw [Try.params9] at hA hval
  obtain ⟨v0, vs0, d0, ds0, p0, q0, hargs, rfl, rfl, h0, r0⟩ := trodAll_cons hA
  obtain ⟨v1, vs1, d1, ds1, p1, q1, rfl, rfl, rfl, h1, r1⟩ := trodAll_cons r0
  obtain ⟨rfl, rfl, rfl⟩ := trodAll_nil r1
  obtain rfl : args = #[v0, v1] := by cases args; simp_all
  obtain ⟨rfl, rfl⟩ := trodVars_none hV
  obtain ⟨c0, D0, E0, L0, nd0, cd0, ne0, ce0, nl0, cl0, rfl, m0, s0⟩ := open_cfg (hval 0 26 v0 rfl rfl) h0
  obtain ⟨which, rfl, rfl, rfl, w1⟩ := open_int Try.underlying5 (hval 1 5 v1 rfl rfl) h1
  refine (walk c0 D0 E0 L0 nd0 cd0 ne0 ce0 nl0 cl0 which W m0 w1).mono fun e W' ⟨he, hb⟩ => ?_
  exact ⟨_, he, Shell.post_law laidOut (by kernel_rfl) rfl Try.underlying4 rfl hW' rfl hb⟩
theorem reads (os : Os) {H : Type} (enc : TypeId × Value → H) : ∃ places, DataW.whole enc Try.prog ((World.holding Try.prog os ⟨#[], #[], []⟩).forCall (fun _ _ => 0) ⟨#[], #[.agg #[.int .i64 0, .int .i64 0, .int .i64 0, .int .i64 0, .int .i64 0, .slice none 0 0, .slice none 0 0, .slice none 0 0, .int .i64 0], .int .u8 0], []⟩).memory Try.f9.params.toList Rows.confTwinsSpec.vars false (#[Value.agg #[.int .i64 0, .int .i64 0, .int .i64 0, .int .i64 0, .int .i64 0, .slice none 0 0, .slice none 0 0, .slice none 0 0, .int .i64 0], Value.int .u8 0]).toList 8 = some ([.agg [.lit (.int .i64 0), .lit (.int .i64 0), .lit (.int .i64 0), .lit (.int .i64 0), .lit (.int .i64 0), .nil, .nil, .nil, .lit (.int .i64 0)], .lit (.int .u8 0)], [], places) :=
  ⟨[], by kernel_rfl⟩
set_option maxRecDepth 100000 in
theorem lifted (os : Os) (started : os.Started) (H : Type) (enc : TypeId × Value → H) (F : Stop.Interp) :
    ReturnsInHanded {} Try.checked os 9 .any ((OpenSpec.ofChange Rows.confTwinsSpec).preRow enc Try.prog Try.f9 Rows.confTwinsRow.domain false Rows.confTwinsRow.laid) (((OpenSpec.ofChange Rows.confTwinsSpec).at F).post enc Try.prog Try.f9 false true false false) := by
  obtain ⟨places, hx⟩ := reads os enc
  refine returnsInHanded_of_row (C := Try.checked) (s := OpenSpec.ofChange Rows.confTwinsSpec) own started (by kernel_rfl) Try.func9
    (witness_row_atRef (enc := enc) (C := Try.checked) false (World.holding Try.prog os ⟨#[], #[], []⟩) #[.agg #[.int .i64 0, .int .i64 0, .int .i64 0, .int .i64 0, .int .i64 0, .slice none 0 0, .slice none 0 0, .slice none 0 0, .int .i64 0], .int .u8 0] rfl (by kernel_rfl) (by kernel_rfl) (by kernel_rfl)
      (OpenSpec.preRow_of_cond 8 hx (by kernel_rfl) (fun k hk => by cases hk) (by kernel_rfl) (laid_met os _))) ?_
  intro W base args ds gs before hval hW _ _ _ hL _ _
  exact contract H enc W base args ds gs before hval hW
theorem said : Rows.ConfTwinsSaid :=
  OpenClaim.holds_of_cond 9 Try.f9 rfl rfl rfl rfl rfl rfl rfl ⟨rfl, rfl, rfl, rfl, rfl⟩ rfl rfl rfl rfl rfl (by kernel_rfl) Try.func9 (by kernel_rfl)
    (of_decide_eq_true (by kernel_rfl)) (by unfold Func.isWrapper; first | (rw [if_pos (by decide +kernel)]; kernel_rfl) | (rw [if_neg (by decide +kernel)]; exact ⟨rfl, rfl⟩))
    (fun os started H enc _ F => by rw [OpenClaim.pre_eq_preRow]; exact lifted os started H enc F)
end Go.Proofs.Ytooamddipdjaoaa.ConfW.ConfTwins
