/- The law BucketPlays: which frames pass, at any times, is as the document says, and when the next one would: for all gaps, jitters and times. No condition. -/
import Derived.Test.YtokddpialnkckaaBucketLay
import Derived.Test.YtokddpialnkckaaBucketC
namespace Go.Proofs.Ytokddpialnkckaa.BucketW.BucketPlays
open Go.ChangeShapes Go.WideShapes Go.ChangeAt Go.RowKit BucketW Shell
theorem stay_at {w0 w w1 : World} {L : List (Nat × Obj)} {base : Nat} (h : Stay w0 L w) (b : Below base w w1) (hb : w0.heap.size ≤ base) (hL : ∀ x ∈ L, x.1 < base) : Stay w0 L w1 :=
  ⟨h.b.trans (b.mono hb), fun x hx => (b.block x.1 (hL x hx)).trans (h.h x hx)⟩
/-- A bucket (what it is: s) and the document's own (what it is: u; its times: v) in memory. -/
structure PQ (w0 : World) (k q base : Nat) (g j : Int) (s u : Bk) (v : Value) (ys : List Int) (W : World) : Prop where
  pb : PB w0 [(q, rb g j v u.m)] k g j s W
  o : OR W base 2 .i64 v ys
  len : ys.length = u.n
  last : 0 < u.n → ys.getLast? = some u.l
  kb : k < base
  qb : q < base
  q0 : w0.heap.size ≤ q
  bs : base ≤ W.heap.size
section
variable {w0 W W1 : World} {k q base : Nat} {g j : Int} {s u : Bk} {v : Value} {ys : List Int}
theorem PQ.next (h : PQ w0 k q base g j s u v ys W) (b : Below W.heap.size W W1) : PQ w0 k q base g j s u v ys W1 := ⟨h.pb.next b, h.o.below b, h.len, h.last, h.kb, h.qb, h.q0, Nat.le_trans h.bs b.size⟩
theorem PQ.drew (h : PQ w0 k q base g j s u v ys W) : PQ w0 k q base g j s u v ys W.drew := h.next (Below.refl _ _).drew
theorem PQ.box (h : PQ w0 k q base g j s u v ys W) : W.heap[q]? = some (rb g j v u.m) := h.pb.st.at 1 rfl
theorem PQ.take (h : PQ w0 k q base g j s u v ys W) (t : Int) (hs : s.n + s.r < 4611686018427387904) :
    Calls Try.prog 15 #[.pointer (some ⟨k, 0, none⟩), .int .i64 t] W fun e w' => e = .returned (.bool (pas j s t)) ∧ PQ w0 k q base g j (tk g j s t) u v ys w' := by
  refine (h.pb.take t hs).mono ?_
  rintro e w' ⟨rfl, hb, kp⟩
  exact ⟨rfl, hb, or_kept h.o kp (fun e => by have := (h.o.lt _ e).1; have := h.kb; omega), h.len, h.last, h.kb, h.qb, h.q0, Nat.le_trans h.bs kp.size⟩
/-- Its times have grown. -/
theorem PQ.grown (h : PQ w0 k q base g j s u v ys W) {v' : Value} (S : Step W v W1 v') : PB w0 [(q, rb g j v u.m)] k g j s W1 :=
  ⟨stay_at h.pb.st (S.below h.o h.bs) (by have := h.q0; have := h.qb; omega) (fun x hx => by
    have := h.kb
    have := h.qb
    simp only [List.mem_cons, List.not_mem_nil, or_false] at hx
    rcases hx with rfl | rfl <;> assumption), h.pb.ge, h.pb.ne, h.pb.rg, h.pb.ft⟩
/-- What it is now is stored. -/
theorem store {v' : Value} {ys' : List Int} {u' : Bk} {m : Int} (h : PB w0 [(q, rb g j v m)] k g j s W) (O : OR W base 2 .i64 v' ys') (len : ys'.length = u'.n) (last : 0 < u'.n → ys'.getLast? = some u'.l) (kb : k < base) (qb : q < base) (q0 : w0.heap.size ≤ q) (bs : base ≤ W.heap.size) :
    PQ w0 k q base g j s u' v' ys' ((((W.setCell ⟨q, 0, none⟩ (.int .i64 g)).setCell ⟨q, 1, none⟩ (.int .i64 j)).setCell ⟨q, 2, none⟩ v').setCell ⟨q, 3, none⟩ (.int .i64 u'.m)) := by
  have kq : q ≠ k := h.ne _ List.mem_cons_self
  have kp := kept4 W q (.int .i64 g) (.int .i64 j) v' (.int .i64 u'.m)
  have T := (h.st.sub (M := [(q, rb g j v m), (k, bb g j s)]) (by simp)).turn kp (put4 (h.st.at 1 rfl) _ _ _ _) q0 (fun x hx => by
    rw [List.mem_singleton] at hx
    rw [hx]; exact fun e => kq e.symm)
  refine ⟨⟨T.sub (by simp), h.ge, fun x hx => by
    rw [List.mem_singleton] at hx
    rw [hx]; exact kq, h.rg, h.ft⟩, or_kept O kp (fun e => by have := (O.lt _ e).1; omega), len, last, kb, qb, q0, Nat.le_trans bs kp.size⟩
end
theorem i64s_in {xs : List Int} {w : World} {A : Option Addr} (h : CL w .i64 A xs) {i : Nat} {x : Int} (hx : xs[i]? = some x) : ∃ a, A = some a ∧ w.cell? (a.add i) = some (.int .i64 x) := by
  obtain ⟨a, h1, h2, -⟩ := h i x hx
  exact ⟨a, h1, h2⟩
set_option maxHeartbeats 16000000 in
set_option maxRecDepth 100000 in
theorem walk (g j : Int) (A : Option Addr) (xs : List Int) (c : Nat) (w : World) (hA : CL w .i64 A xs) (hl : xs.length * 8 ≤ 140737488351232) (_hc : xs.length ≤ c) :
    Calls Try.prog 3 #[.int .i64 g, .int .i64 j, .slice A xs.length c] w fun e w' => e = .returned (.bool true) ∧ Below w.heap.size w w' := by
  have HA := Lib.hid hA
  have HL := Lib.hid hl
  clear hA hl
  go_enter Try.func3, Try.ntmps3
  go_wp2_with fail
  refine (fixed_any _).mono ?_
  rintro e w1 ⟨rfl, b1⟩
  have S1 := Lib.hid ((Stay.start w).next b1)
  clear b1
  cases hr : rgt g j with
  | false =>
    go_wp2_with fail
    refine (new_bad g j hr _).mono ?_
    rintro e w' ⟨rfl, rfl⟩
    go_wp2_with fail
    refine (refRight_any g j _).mono ?_
    rintro e w' ⟨rfl, rfl⟩
    rw [hr]
    go_wp2
    go_ret
    exact ⟨rfl, S1.out.b⟩
  | true =>
    go_wp2_with fail
    refine (pb_new S1.out g j hr).mono ?_
    rintro e w2 ⟨rfl, p2, -⟩
    have P2 := Lib.hid p2
    have HR := Lib.hid hr
    have K0 := Lib.hid S1.out.b.size
    generalize hk : w1.heap.size = k at *
    clear S1 p2 hk hr
    go_wp2_with fail
    refine (refRight_any g j _).mono ?_
    rintro e w' ⟨rfl, rfl⟩
    rw [HR.out]
    go_upto_region 9 with (fail)
    have P3 : Hid (PQ w k w2.heap.size (w2.heap.size + 1) g j b0 b0 nil [] (w2.alloc (rb g j nil 0))) := Lib.hid ⟨⟨(P2.out.st.alloc (rb g j nil b0.m)).sub (by simp), P2.out.ge, fun x hx => by
      rw [List.mem_singleton] at hx
      rw [hx]
      have := P2.out.lt
      show w2.heap.size ≠ k
      omega, P2.out.rg, P2.out.ft⟩, OR.nil _ _ _ _, rfl, fun h => absurd h (by decide), by have := P2.out.lt; omega, by omega, P2.out.st.b.size, by rw [World.size_alloc]; exact Nat.le_refl _⟩
    generalize w2.alloc (rb g j nil 0) = W3 at *
    generalize hq : w2.heap.size = q at *
    clear hq P2
    go_upto_region 11 with (fail)
    go_loopw [10, 43] (fun rv iv wr => ∃ (i : Nat) (s : Bk) (v : Value) (ys : List Int), rv = .int .i64 s.r ∧ iv = .int .i64 i ∧ i ≤ xs.length ∧ Hid (s.n + s.r = i) ∧ Hid (PQ w k q (q + 1) g j s s v ys wr)) (fun _ iv _ => xs.length - (intOf iv).toNat)
    case atStart => exact ⟨0, b0, nil, [], rfl, rfl, Nat.zero_le _, Lib.hid rfl, P3⟩
    case round =>
      clear P3
      obtain ⟨i, s, v, ys, rfl, rfl, hi, HS, HP⟩ := hrel
      by_cases hil : i < xs.length
      · obtain ⟨t, hx⟩ : ∃ t, xs[i]? = some t := ⟨_, List.getElem?_eq_getElem hil⟩
        obtain ⟨a, rfl, hc⟩ := i64s_in (HA.out.below HP.out.pb.st.b) hx
        have sb : s.n + s.r < 17592186044416 := by have := HS.out; have := HL.out; omega
        have HSB := Lib.hid sb
        have HN8 := Lib.hid (show (s.n + 1) * 8 ≤ 140737488355328 by have := HS.out; have := HL.out; omega)
        have HI := Lib.hid hil
        obtain ⟨z, hz⟩ : ∃ z, nxt j s t = z := ⟨_, rfl⟩
        have N1 := Lib.hid (fun W (h : PQ w k q (q + 1) g j s s v ys W) => h.pb.nextT t)
        have N2 := Lib.hid (fun W (h : PQ w k q (q + 1) g j s s v ys W) => refNext_any g j (q + 1) v ys s.n s.l s.m t W HR.out h.pb.ft h.o h.len h.last (by have := HSB.out; omega))
        rw [show nx j s.n s.l s.m t = z from hz] at N2
        rw [hz] at N1
        clear hx hz sb
        go_upto_region 13 with (fail)
        clear hc
        apply wp_some (S := fun W => PQ w k q (q + 1) g j s s v ys W)
        case h =>
          refine wp_region_noPanic ?_
          refine wp_region_held_drew (S := fun W : World => PQ w k q (q + 1) g j s s v ys W) (by kernel_rfl) (HP.out.drew) (fun hHeld => ?_)
          refine wpAnyH_take (i := 0) (oi := ⟨some 47, _, _, _, _, _⟩) (v := ?_) rfl (by kernel_rfl) (by kernel_rfl) (by kernel_rfl) (fun _ _ _ h => h) (Or.inl ⟨by kernel_rfl, ?_⟩) (by assumption) ?_; rotate_left; (focus (intro w hSw; (try dsimp only at hSw); go_simp; (try with_reducible rfl)))
          simp only [Act.put, List.setIfInBounds_toArray, List.set_cons_zero, List.set_cons_succ]
          refine wpAnyH_take (i := 1) (oi := ⟨some 48, _, _, _, _, _⟩) (v := ?_) rfl (by kernel_rfl) (by kernel_rfl) (by kernel_rfl) (fun _ _ _ h => h) (Or.inl ⟨by kernel_rfl, ?_⟩) (by assumption) ?_; rotate_left; (focus (intro w hSw; (try dsimp only at hSw); go_simp; (try with_reducible rfl)))
          simp only [Act.put, List.setIfInBounds_toArray, List.set_cons_zero, List.set_cons_succ]
          refine wpAnyH_take (i := 3) (oi := ⟨some 50, _, _, _, _, _⟩) (v := ?_) rfl (by kernel_rfl) (by kernel_rfl) (by kernel_rfl) (fun _ _ _ h => h) (Or.inl ⟨by kernel_rfl, ?_⟩) (by assumption) ?_; rotate_left; (focus (intro w hSw; (try dsimp only at hSw); obtain ⟨x0, x1, x2, x3⟩ := cells4 (PQ.box hSw); go_simp; (try with_reducible rfl)))
          simp only [Act.put, List.setIfInBounds_toArray, List.set_cons_zero, List.set_cons_succ]
          refine wpAnyH_take (i := 4) (oi := ⟨some 51, _, _, _, _, _⟩) (v := ?_) rfl (by kernel_rfl) (by kernel_rfl) (by kernel_rfl) (fun _ _ _ h => h) (Or.inl ⟨by kernel_rfl, ?_⟩) (by assumption) ?_; rotate_left; (focus (intro w hSw; (try dsimp only at hSw); go_simp; (try with_reducible rfl)))
          simp only [Act.put, List.setIfInBounds_toArray, List.set_cons_zero, List.set_cons_succ]
          refine wpAnyH_ready (rs := [2]) (by kernel_rfl) (by simp) ?_
          refine AllReadyH.cons (o := ⟨some 49, _, _, _, _, _⟩) rfl (fun K hK => ?_) AllReadyH.nil
          rw [if_pos (by kernel_rfl)]
          go_simp
          refine (N1.out _ hHeld).mono ?_
          rintro e w4 ⟨rfl, b4⟩
          have hHeld4 := PQ.next (by assumption) b4
          clear b4
          go_simp
          refine hK.out _ _ (by assumption) (fun hHeld => ?_)
          clear hK K
          refine wpAnyH_ready (rs := [5]) (by kernel_rfl) (by simp) ?_
          refine AllReadyH.cons (o := ⟨some 52, _, _, _, _, _⟩) rfl (fun K hK => ?_) AllReadyH.nil
          rw [if_pos (by kernel_rfl)]
          go_simp
          refine (N2.out _ hHeld).mono ?_
          rintro e w5 ⟨rfl, b5⟩
          have hHeld5 := PQ.next (by assumption) b5
          clear b5
          go_simp
          refine hK.out _ _ (by assumption) (fun hHeld => ?_)
          clear hK K
          refine wpAnyH_take (i := 6) (oi := ⟨some 53, _, _, _, _, _⟩) (v := ?_) rfl (by kernel_rfl) (by kernel_rfl) (by kernel_rfl) (fun _ _ _ h => h) (Or.inl ⟨by kernel_rfl, ?_⟩) (by assumption) ?_; rotate_left; (focus (intro w hSw; (try dsimp only at hSw); go_simp; (try with_reducible rfl)))
          simp only [Act.put, List.setIfInBounds_toArray, List.set_cons_zero, List.set_cons_succ]
          refine wpAnyH_done (by kernel_rfl) ?_ _
          exact NoPanic.normal ⟨rfl, rfl, by assumption⟩
        case hm =>
        intro w5 p5
        have P5 := Lib.hid p5
        clear p5 N1 N2 HP
        have q5 := P5.out.box
        obtain ⟨x0, x1, x2, x3⟩ := cells4 q5
        clear q5
        cases hp : pas j s t with
        | true =>
          go_wp2_with fail
          refine (refTake_ok g j (q + 1) v ys s.n s.l s.m t _ HR.out P5.out.o P5.out.len P5.out.last HN8.out P5.out.bs hp).mono ?_
          rintro e w6 ⟨v', rfl, o6, s6⟩
          obtain ⟨u, hu⟩ : ∃ u, tk g j s t = u := ⟨_, rfl⟩
          have HU := Lib.hid hu
          rw [tk_yes hp] at hu
          have um : mk g s.n s.m t = u.m := by rw [← hu]
          have un : s.n + 1 = u.n := by rw [← hu]
          have ul : t = u.l := by rw [← hu]
          have ur : (u.r : Int) = (s.r : Int) := by rw [← hu]
          have HV := Lib.hid (show u.n + u.r = i + 1 by have := HS.out; omega)
          have q6 := Lib.hid (P5.out.grown s6)
          have y6 : (ys ++ [t]).length = u.n := by rw [List.length_append, P5.out.len]; exact un
          obtain ⟨A', c', rfl, -⟩ := o6.form
          rw [y6] at o6 s6 ⊢
          rw [um]
          generalize hy : ys ++ [t] = ys' at *
          have G6 := Lib.hid (store (u' := u) q6.out o6 y6 (fun _ => by rw [← hy, ← ul]; exact List.getLast?_concat) P5.out.kb P5.out.qb P5.out.q0 (Nat.le_trans P5.out.bs s6.g.size))
          have hq6 := q6.out.st.at 1 rfl
          clear x0 x1 x2 x3 hu um un ul o6 s6 y6 hy
          obtain ⟨x0, x1, x2, x3⟩ := cells4 hq6
          obtain ⟨f0, f1, f2, f3⟩ := frozen4 hq6
          clear hq6 q6 P5
          go_upto_region 17 with (fail)
          have P7 := G6
          clear G6 x0 x1 x2 x3 f0 f1 f2 f3
          generalize (((w6.setCell ⟨q, 0, none⟩ (.int .i64 g)).setCell ⟨q, 1, none⟩ (.int .i64 j)).setCell ⟨q, 2, none⟩ (.slice A' u.n c')).setCell ⟨q, 3, none⟩ (.int .i64 u.m) = w7 at *
          have iw : IntKind.i64.wrap ((i : Int) + 1) = (i : Int) + 1 := by have := HI.out; have := HL.out; rw [IntKind.wrap_i64]; omega
          have HT := Lib.hid (fun W (h : PQ w k q (q + 1) g j s u (.slice A' u.n c') ys' W) => h.take t (by have := HSB.out; omega))
          rw [hp, HU.out] at HT
          clear hp
          go_upto_region 19 with (fail)
          apply wp_some (S := fun W => PQ w k q (q + 1) g j u u (.slice A' u.n c') ys' W)
          case h =>
            refine wp_region_noPanic ?_
            refine wp_region_held_drew (S := fun W : World => Stay w [(q, rb g j (.slice A' u.n c') u.m)] W) (by kernel_rfl) (P7.out.pb.st.drop.drew) (fun hHeld => ?_)
            refine wpAnyH_take (i := 0) (oi := ⟨some 64, _, _, _, _, _⟩) (v := ?_) rfl (by kernel_rfl) (by kernel_rfl) (by kernel_rfl) (fun _ _ _ h => h) (Or.inl ⟨by kernel_rfl, ?_⟩) (by assumption) ?_; rotate_left; (focus (intro w hSw; (try dsimp only at hSw); go_simp; (try with_reducible rfl)))
            simp only [Act.put, List.setIfInBounds_toArray, List.set_cons_zero, List.set_cons_succ]
            refine wpAnyH_take (i := 1) (oi := ⟨some 65, _, _, _, _, _⟩) (v := ?_) rfl (by kernel_rfl) (by kernel_rfl) (by kernel_rfl) (fun _ _ _ h => h) (Or.inl ⟨by kernel_rfl, ?_⟩) (by assumption) ?_; rotate_left; (focus (intro w hSw; (try dsimp only at hSw); go_simp; (try with_reducible rfl)))
            simp only [Act.put, List.setIfInBounds_toArray, List.set_cons_zero, List.set_cons_succ]
            refine wpAnyH_take (i := 3) (oi := ⟨some 67, _, _, _, _, _⟩) (v := ?_) rfl (by kernel_rfl) (by kernel_rfl) (by kernel_rfl) (fun _ _ _ h => h) (Or.inl ⟨by kernel_rfl, ?_⟩) (by assumption) ?_; rotate_left; (focus (intro w hSw; (try dsimp only at hSw); go_simp; (try with_reducible rfl)))
            simp only [Act.put, List.setIfInBounds_toArray, List.set_cons_zero, List.set_cons_succ]
            refine wpAnyH_ready (rs := [2]) (by kernel_rfl) (by simp) ?_
            refine AllReadyH.cons (o := ⟨some 66, _, _, _, _, _⟩) rfl (fun K hK => ?_) AllReadyH.nil
            rw [if_pos (by kernel_rfl)]
            go_simp
            refine (HT.out _ P7.out.drew).mono ?_
            rintro e w8 ⟨rfl, p8⟩
            have P8 := Lib.hid p8
            have hHeld8 := p8.pb.st.drop
            clear p8
            go_simp
            refine hK.out _ _ (by assumption) (fun hHeld => ?_)
            clear hK K
            refine wpAnyH_take (i := 4) (oi := ⟨some 68, _, _, _, _, _⟩) (v := ?_) rfl (by kernel_rfl) (by kernel_rfl) (by kernel_rfl) (fun _ _ _ h => h) (Or.inl ⟨by kernel_rfl, ?_⟩) (by assumption) ?_; rotate_left; (focus (intro w hSw; (try dsimp only at hSw); go_simp; (try with_reducible rfl)))
            simp only [Act.put, List.setIfInBounds_toArray, List.set_cons_zero, List.set_cons_succ]
            refine wpAnyH_take (i := 5) (oi := ⟨some 69, _, _, _, _, _⟩) (v := ?_) rfl (by kernel_rfl) (by kernel_rfl) (by kernel_rfl) (fun _ _ _ h => h) (Or.inl ⟨by kernel_rfl, ?_⟩) (by assumption) ?_; rotate_left; (focus (intro w hSw; (try dsimp only at hSw); go_simp; (try with_reducible rfl)))
            simp only [Act.put, List.setIfInBounds_toArray, List.set_cons_zero, List.set_cons_succ]
            refine wpAnyH_take (i := 6) (oi := ⟨some 70, _, _, _, _, _⟩) (v := ?_) rfl (by kernel_rfl) (by kernel_rfl) (by kernel_rfl) (fun _ _ _ h => h) (Or.inl ⟨by kernel_rfl, ?_⟩) (by assumption) ?_; rotate_left; (focus (intro w hSw; (try dsimp only at hSw); go_simp; (try with_reducible rfl)))
            simp only [Act.put, List.setIfInBounds_toArray, List.set_cons_zero, List.set_cons_succ]
            refine wpAnyH_take (i := 8) (oi := ⟨some 72, _, _, _, _, _⟩) (v := ?_) rfl (by kernel_rfl) (by kernel_rfl) (by kernel_rfl) (fun _ _ _ h => h) (Or.inl ⟨by kernel_rfl, ?_⟩) (by assumption) ?_; rotate_left; (focus (intro w hSw; (try dsimp only at hSw); go_simp; (try with_reducible rfl)))
            simp only [Act.put, List.setIfInBounds_toArray, List.set_cons_zero, List.set_cons_succ]
            refine wpAnyH_take (i := 9) (oi := ⟨some 73, _, _, _, _, _⟩) (v := ?_) rfl (by kernel_rfl) (by kernel_rfl) (by kernel_rfl) (fun _ _ _ h => h) (Or.inl ⟨by kernel_rfl, ?_⟩) (by assumption) ?_; rotate_left; (focus (intro w hSw; (try dsimp only at hSw); obtain ⟨x0, x1, x2, x3⟩ := cells4 (Stay.at hSw 0 rfl); go_simp; (try with_reducible rfl)))
            simp only [Act.put, List.setIfInBounds_toArray, List.set_cons_zero, List.set_cons_succ]
            refine wpAnyH_take (i := 10) (oi := ⟨some 74, _, _, _, _, _⟩) (v := ?_) rfl (by kernel_rfl) (by kernel_rfl) (by kernel_rfl) (fun _ _ _ h => h) (Or.inl ⟨by kernel_rfl, ?_⟩) (by assumption) ?_; rotate_left; (focus (intro w hSw; (try dsimp only at hSw); go_simp; (try with_reducible rfl)))
            simp only [Act.put, List.setIfInBounds_toArray, List.set_cons_zero, List.set_cons_succ]
            refine wpAnyH_ready (rs := [7]) (by kernel_rfl) (by simp) ?_
            refine AllReadyH.cons (o := ⟨some 71, _, _, _, _, _⟩) rfl (fun K hK => ?_) AllReadyH.nil
            rw [if_pos (by kernel_rfl)]
            go_simp
            refine P8.out.pb.passed.mono ?_
            rintro e w' ⟨rfl, rfl⟩
            go_simp
            refine hK.out _ _ (by assumption) (fun hHeld => ?_)
            clear hK K
            refine wpAnyH_take (i := 11) (oi := ⟨some 75, _, _, _, _, _⟩) (v := ?_) rfl (by kernel_rfl) (by kernel_rfl) (by kernel_rfl) (fun _ _ _ h => h) (Or.inl ⟨by kernel_rfl, ?_⟩) (by assumption) ?_; rotate_left; (focus (intro w hSw; (try dsimp only at hSw); go_simp; (try with_reducible rfl)))
            simp only [Act.put, List.setIfInBounds_toArray, List.set_cons_zero, List.set_cons_succ]
            refine wpAnyH_take (i := 12) (oi := ⟨some 76, _, _, _, _, _⟩) (v := ?_) rfl (by kernel_rfl) (by kernel_rfl) (by kernel_rfl) (fun _ _ _ h => h) (Or.inl ⟨by kernel_rfl, ?_⟩) (by assumption) ?_; rotate_left; (focus (intro w hSw; (try dsimp only at hSw); go_simp; (try with_reducible rfl)))
            simp only [Act.put, List.setIfInBounds_toArray, List.set_cons_zero, List.set_cons_succ]
            refine wpAnyH_take (i := 13) (oi := ⟨some 77, _, _, _, _, _⟩) (v := ?_) rfl (by kernel_rfl) (by kernel_rfl) (by kernel_rfl) (fun _ _ _ h => h) (Or.inl ⟨by kernel_rfl, ?_⟩) (by assumption) ?_; rotate_left; (focus (intro w hSw; (try dsimp only at hSw); go_simp; (try with_reducible rfl)))
            simp only [Act.put, List.setIfInBounds_toArray, List.set_cons_zero, List.set_cons_succ]
            refine wpAnyH_take (i := 14) (oi := ⟨some 78, _, _, _, _, _⟩) (v := ?_) rfl (by kernel_rfl) (by kernel_rfl) (by kernel_rfl) (fun _ _ _ h => h) (Or.inl ⟨by kernel_rfl, ?_⟩) (by assumption) ?_; rotate_left; (focus (intro w hSw; (try dsimp only at hSw); go_simp; (try with_reducible rfl)))
            simp only [Act.put, List.setIfInBounds_toArray, List.set_cons_zero, List.set_cons_succ]
            refine wpAnyH_take (i := 16) (oi := ⟨some 80, _, _, _, _, _⟩) (v := ?_) rfl (by kernel_rfl) (by kernel_rfl) (by kernel_rfl) (fun _ _ _ h => h) (Or.inl ⟨by kernel_rfl, ?_⟩) (by assumption) ?_; rotate_left; (focus (intro w hSw; (try dsimp only at hSw); go_simp; (try with_reducible rfl)))
            simp only [Act.put, List.setIfInBounds_toArray, List.set_cons_zero, List.set_cons_succ]
            refine wpAnyH_ready (rs := [15]) (by kernel_rfl) (by simp) ?_
            refine AllReadyH.cons (o := ⟨some 79, _, _, _, _, _⟩) rfl (fun K hK => ?_) AllReadyH.nil
            rw [if_pos (by kernel_rfl)]
            go_simp
            refine P8.out.pb.refused.mono ?_
            rintro e w' ⟨rfl, rfl⟩
            go_simp
            refine hK.out _ _ (by assumption) (fun hHeld => ?_)
            clear hK K
            refine wpAnyH_take (i := 17) (oi := ⟨some 81, _, _, _, _, _⟩) (v := ?_) rfl (by kernel_rfl) (by kernel_rfl) (by kernel_rfl) (fun _ _ _ h => h) (Or.inl ⟨by kernel_rfl, ?_⟩) (by assumption) ?_; rotate_left; (focus (intro w hSw; (try dsimp only at hSw); go_simp; (try with_reducible rfl)))
            simp only [Act.put, List.setIfInBounds_toArray, List.set_cons_zero, List.set_cons_succ]
            refine wpAnyH_take (i := 18) (oi := ⟨some 82, _, _, _, _, _⟩) (v := ?_) rfl (by kernel_rfl) (by kernel_rfl) (by kernel_rfl) (fun _ _ _ h => h) (Or.inl ⟨by kernel_rfl, ?_⟩) (by assumption) ?_; rotate_left; (focus (intro w hSw; (try dsimp only at hSw); go_simp; (try with_reducible rfl)))
            simp only [Act.put, List.setIfInBounds_toArray, List.set_cons_zero, List.set_cons_succ]
            refine wpAnyH_done (by kernel_rfl) ?_ _
            exact NoPanic.normal ⟨rfl, rfl, P8.out⟩
          case hm =>
          intro w9 p9
          have P9 := Lib.hid p9
          clear p9 P7 HT
          go_wp2
          go_roundw
          case rel => exact ⟨i + 1, u, _, ys', by rw [ur], by simp, by have := HI.out; omega, HV, P9⟩
          case measure => have := HI.out; simp only [intOf]; clear iw ur; omega
        | false =>
          go_wp2_with fail
          refine (refTake_no g j (q + 1) v ys s.n s.l s.m t _ HR.out P5.out.pb.ft P5.out.o P5.out.len P5.out.last (by have := HSB.out; omega) hp).mono ?_
          rintro e w6 ⟨rfl, b6⟩
          obtain ⟨u, hu⟩ : ∃ u, tk g j s t = u := ⟨_, rfl⟩
          have HU := Lib.hid hu
          rw [tk_no hp] at hu
          have um : s.m = u.m := by rw [← hu]
          have un : s.n = u.n := by rw [← hu]
          have ul : s.l = u.l := by rw [← hu]
          have ur : s.r + 1 = u.r := by rw [← hu]
          have HV := Lib.hid (show u.n + u.r = i + 1 by have := HS.out; omega)
          have ui : (s.r : Int) + 1 = (u.r : Int) := by omega
          have uw : IntKind.i64.wrap (u.r : Int) = (u.r : Int) := by have := HSB.out; rw [IntKind.wrap_i64]; omega
          have p6 := P5.out.next b6
          obtain ⟨ys', hy⟩ : ∃ ys', ys = ys' := ⟨_, rfl⟩
          have y6 : ys'.length = u.n := by rw [← hy, ← un]; exact p6.len
          have o6 := p6.o
          obtain ⟨A', c', rfl, -⟩ := o6.form
          have HY := Lib.hid hy
          subst hy
          rw [y6] at o6 p6 ⊢
          have G6 := Lib.hid (store (u' := u) p6.pb o6 y6 (fun _ => by rw [← ul]; exact p6.last (by omega)) P5.out.kb P5.out.qb P5.out.q0 p6.bs)
          have hq6 := p6.pb.st.at 1 rfl
          rw [um] at hq6 ⊢
          clear x0 x1 x2 x3 hu um un ul ur o6 y6 p6 b6
          obtain ⟨x0, x1, x2, x3⟩ := cells4 hq6
          obtain ⟨f0, f1, f2, f3⟩ := frozen4 hq6
          clear hq6 P5
          go_upto_region 17 with (fail)
          have P7 := G6
          clear G6 x0 x1 x2 x3 f0 f1 f2 f3
          generalize (((w6.setCell ⟨q, 0, none⟩ (.int .i64 g)).setCell ⟨q, 1, none⟩ (.int .i64 j)).setCell ⟨q, 2, none⟩ (.slice A' u.n c')).setCell ⟨q, 3, none⟩ (.int .i64 u.m) = w7 at *
          have iw : IntKind.i64.wrap ((i : Int) + 1) = (i : Int) + 1 := by have := HI.out; have := HL.out; rw [IntKind.wrap_i64]; omega
          have HT := Lib.hid (fun W (h : PQ w k q (q + 1) g j s u (.slice A' u.n c') ys W) => h.take t (by have := HSB.out; omega))
          rw [hp, HU.out] at HT
          clear hp
          go_upto_region 19 with (fail)
          apply wp_some (S := fun W => PQ w k q (q + 1) g j u u (.slice A' u.n c') ys W)
          case h =>
            refine wp_region_noPanic ?_
            refine wp_region_held_drew (S := fun W : World => Stay w [(q, rb g j (.slice A' u.n c') u.m)] W) (by kernel_rfl) (P7.out.pb.st.drop.drew) (fun hHeld => ?_)
            refine wpAnyH_take (i := 0) (oi := ⟨some 64, _, _, _, _, _⟩) (v := ?_) rfl (by kernel_rfl) (by kernel_rfl) (by kernel_rfl) (fun _ _ _ h => h) (Or.inl ⟨by kernel_rfl, ?_⟩) (by assumption) ?_; rotate_left; (focus (intro w hSw; (try dsimp only at hSw); go_simp; (try with_reducible rfl)))
            simp only [Act.put, List.setIfInBounds_toArray, List.set_cons_zero, List.set_cons_succ]
            refine wpAnyH_take (i := 1) (oi := ⟨some 65, _, _, _, _, _⟩) (v := ?_) rfl (by kernel_rfl) (by kernel_rfl) (by kernel_rfl) (fun _ _ _ h => h) (Or.inl ⟨by kernel_rfl, ?_⟩) (by assumption) ?_; rotate_left; (focus (intro w hSw; (try dsimp only at hSw); go_simp; (try with_reducible rfl)))
            simp only [Act.put, List.setIfInBounds_toArray, List.set_cons_zero, List.set_cons_succ]
            refine wpAnyH_take (i := 3) (oi := ⟨some 67, _, _, _, _, _⟩) (v := ?_) rfl (by kernel_rfl) (by kernel_rfl) (by kernel_rfl) (fun _ _ _ h => h) (Or.inl ⟨by kernel_rfl, ?_⟩) (by assumption) ?_; rotate_left; (focus (intro w hSw; (try dsimp only at hSw); go_simp; (try with_reducible rfl)))
            simp only [Act.put, List.setIfInBounds_toArray, List.set_cons_zero, List.set_cons_succ]
            refine wpAnyH_ready (rs := [2]) (by kernel_rfl) (by simp) ?_
            refine AllReadyH.cons (o := ⟨some 66, _, _, _, _, _⟩) rfl (fun K hK => ?_) AllReadyH.nil
            rw [if_pos (by kernel_rfl)]
            go_simp
            refine (HT.out _ P7.out.drew).mono ?_
            rintro e w8 ⟨rfl, p8⟩
            have P8 := Lib.hid p8
            have hHeld8 := p8.pb.st.drop
            clear p8
            go_simp
            refine hK.out _ _ (by assumption) (fun hHeld => ?_)
            clear hK K
            refine wpAnyH_take (i := 4) (oi := ⟨some 68, _, _, _, _, _⟩) (v := ?_) rfl (by kernel_rfl) (by kernel_rfl) (by kernel_rfl) (fun _ _ _ h => h) (Or.inl ⟨by kernel_rfl, ?_⟩) (by assumption) ?_; rotate_left; (focus (intro w hSw; (try dsimp only at hSw); go_simp; (try with_reducible rfl)))
            simp only [Act.put, List.setIfInBounds_toArray, List.set_cons_zero, List.set_cons_succ]
            refine wpAnyH_take (i := 5) (oi := ⟨some 69, _, _, _, _, _⟩) (v := ?_) rfl (by kernel_rfl) (by kernel_rfl) (by kernel_rfl) (fun _ _ _ h => h) (Or.inl ⟨by kernel_rfl, ?_⟩) (by assumption) ?_; rotate_left; (focus (intro w hSw; (try dsimp only at hSw); go_simp; (try with_reducible rfl)))
            simp only [Act.put, List.setIfInBounds_toArray, List.set_cons_zero, List.set_cons_succ]
            refine wpAnyH_take (i := 6) (oi := ⟨some 70, _, _, _, _, _⟩) (v := ?_) rfl (by kernel_rfl) (by kernel_rfl) (by kernel_rfl) (fun _ _ _ h => h) (Or.inl ⟨by kernel_rfl, ?_⟩) (by assumption) ?_; rotate_left; (focus (intro w hSw; (try dsimp only at hSw); go_simp; (try with_reducible rfl)))
            simp only [Act.put, List.setIfInBounds_toArray, List.set_cons_zero, List.set_cons_succ]
            refine wpAnyH_take (i := 8) (oi := ⟨some 72, _, _, _, _, _⟩) (v := ?_) rfl (by kernel_rfl) (by kernel_rfl) (by kernel_rfl) (fun _ _ _ h => h) (Or.inl ⟨by kernel_rfl, ?_⟩) (by assumption) ?_; rotate_left; (focus (intro w hSw; (try dsimp only at hSw); go_simp; (try with_reducible rfl)))
            simp only [Act.put, List.setIfInBounds_toArray, List.set_cons_zero, List.set_cons_succ]
            refine wpAnyH_take (i := 9) (oi := ⟨some 73, _, _, _, _, _⟩) (v := ?_) rfl (by kernel_rfl) (by kernel_rfl) (by kernel_rfl) (fun _ _ _ h => h) (Or.inl ⟨by kernel_rfl, ?_⟩) (by assumption) ?_; rotate_left; (focus (intro w hSw; (try dsimp only at hSw); obtain ⟨x0, x1, x2, x3⟩ := cells4 (Stay.at hSw 0 rfl); go_simp; (try with_reducible rfl)))
            simp only [Act.put, List.setIfInBounds_toArray, List.set_cons_zero, List.set_cons_succ]
            refine wpAnyH_take (i := 10) (oi := ⟨some 74, _, _, _, _, _⟩) (v := ?_) rfl (by kernel_rfl) (by kernel_rfl) (by kernel_rfl) (fun _ _ _ h => h) (Or.inl ⟨by kernel_rfl, ?_⟩) (by assumption) ?_; rotate_left; (focus (intro w hSw; (try dsimp only at hSw); go_simp; (try with_reducible rfl)))
            simp only [Act.put, List.setIfInBounds_toArray, List.set_cons_zero, List.set_cons_succ]
            refine wpAnyH_ready (rs := [7]) (by kernel_rfl) (by simp) ?_
            refine AllReadyH.cons (o := ⟨some 71, _, _, _, _, _⟩) rfl (fun K hK => ?_) AllReadyH.nil
            rw [if_pos (by kernel_rfl)]
            go_simp
            refine P8.out.pb.passed.mono ?_
            rintro e w' ⟨rfl, rfl⟩
            go_simp
            refine hK.out _ _ (by assumption) (fun hHeld => ?_)
            clear hK K
            refine wpAnyH_take (i := 11) (oi := ⟨some 75, _, _, _, _, _⟩) (v := ?_) rfl (by kernel_rfl) (by kernel_rfl) (by kernel_rfl) (fun _ _ _ h => h) (Or.inl ⟨by kernel_rfl, ?_⟩) (by assumption) ?_; rotate_left; (focus (intro w hSw; (try dsimp only at hSw); go_simp; (try with_reducible rfl)))
            simp only [Act.put, List.setIfInBounds_toArray, List.set_cons_zero, List.set_cons_succ]
            refine wpAnyH_take (i := 12) (oi := ⟨some 76, _, _, _, _, _⟩) (v := ?_) rfl (by kernel_rfl) (by kernel_rfl) (by kernel_rfl) (fun _ _ _ h => h) (Or.inl ⟨by kernel_rfl, ?_⟩) (by assumption) ?_; rotate_left; (focus (intro w hSw; (try dsimp only at hSw); go_simp; (try with_reducible rfl)))
            simp only [Act.put, List.setIfInBounds_toArray, List.set_cons_zero, List.set_cons_succ]
            refine wpAnyH_take (i := 13) (oi := ⟨some 77, _, _, _, _, _⟩) (v := ?_) rfl (by kernel_rfl) (by kernel_rfl) (by kernel_rfl) (fun _ _ _ h => h) (Or.inl ⟨by kernel_rfl, ?_⟩) (by assumption) ?_; rotate_left; (focus (intro w hSw; (try dsimp only at hSw); go_simp; (try with_reducible rfl)))
            simp only [Act.put, List.setIfInBounds_toArray, List.set_cons_zero, List.set_cons_succ]
            refine wpAnyH_take (i := 14) (oi := ⟨some 78, _, _, _, _, _⟩) (v := ?_) rfl (by kernel_rfl) (by kernel_rfl) (by kernel_rfl) (fun _ _ _ h => h) (Or.inl ⟨by kernel_rfl, ?_⟩) (by assumption) ?_; rotate_left; (focus (intro w hSw; (try dsimp only at hSw); go_simp; (try with_reducible rfl)))
            simp only [Act.put, List.setIfInBounds_toArray, List.set_cons_zero, List.set_cons_succ]
            refine wpAnyH_take (i := 16) (oi := ⟨some 80, _, _, _, _, _⟩) (v := ?_) rfl (by kernel_rfl) (by kernel_rfl) (by kernel_rfl) (fun _ _ _ h => h) (Or.inl ⟨by kernel_rfl, ?_⟩) (by assumption) ?_; rotate_left; (focus (intro w hSw; (try dsimp only at hSw); go_simp; (try with_reducible rfl)))
            simp only [Act.put, List.setIfInBounds_toArray, List.set_cons_zero, List.set_cons_succ]
            refine wpAnyH_ready (rs := [15]) (by kernel_rfl) (by simp) ?_
            refine AllReadyH.cons (o := ⟨some 79, _, _, _, _, _⟩) rfl (fun K hK => ?_) AllReadyH.nil
            rw [if_pos (by kernel_rfl)]
            go_simp
            refine P8.out.pb.refused.mono ?_
            rintro e w' ⟨rfl, rfl⟩
            go_simp
            refine hK.out _ _ (by assumption) (fun hHeld => ?_)
            clear hK K
            refine wpAnyH_take (i := 17) (oi := ⟨some 81, _, _, _, _, _⟩) (v := ?_) rfl (by kernel_rfl) (by kernel_rfl) (by kernel_rfl) (fun _ _ _ h => h) (Or.inl ⟨by kernel_rfl, ?_⟩) (by assumption) ?_; rotate_left; (focus (intro w hSw; (try dsimp only at hSw); go_simp; (try with_reducible rfl)))
            simp only [Act.put, List.setIfInBounds_toArray, List.set_cons_zero, List.set_cons_succ]
            refine wpAnyH_take (i := 18) (oi := ⟨some 82, _, _, _, _, _⟩) (v := ?_) rfl (by kernel_rfl) (by kernel_rfl) (by kernel_rfl) (fun _ _ _ h => h) (Or.inl ⟨by kernel_rfl, ?_⟩) (by assumption) ?_; rotate_left; (focus (intro w hSw; (try dsimp only at hSw); go_simp; (try with_reducible rfl)))
            simp only [Act.put, List.setIfInBounds_toArray, List.set_cons_zero, List.set_cons_succ]
            refine wpAnyH_done (by kernel_rfl) ?_ _
            exact NoPanic.normal ⟨rfl, rfl, P8.out⟩
          case hm =>
          intro w9 p9
          have P9 := Lib.hid p9
          clear p9 P7 HT
          go_wp2
          go_roundw
          case rel => exact ⟨i + 1, u, _, ys, rfl, by simp, by have := HI.out; omega, HV, P9⟩
          case measure => have := HI.out; simp only [intOf]; clear iw ui uw; omega
      · go_wp2
        go_ret
        exact ⟨rfl, HP.out.pb.st.b⟩
set_option maxRecDepth 100000 in
/-- What the walk gives, for every argument and every world. -/
theorem contract (H : Type) (enc : TypeId × Value → H) (W : World) (base : Nat) (args : Array Value) (ds gs : List (DataW H)) (before : List MemPlace)
    (hval : ∀ (j : Nat) t v, Try.f3.params[j]? = some t → args[j]? = some v → Value.okWide Try.prog W .any base t v)
    (hW : DataW.Whole enc Try.prog Try.f3.params.toList Rows.bucketPlaysSpec.vars false W args.toList ds gs before) (hz : (DataW.weightsEach Try.prog (Try.f3.params.toList ++ (OpenSpec.ofChange Rows.bucketPlaysSpec).bare.plain.varTypes Try.prog) (ds ++ gs)).all (· ≤ reachBytes) = true) : 
    Calls Try.prog 3 args W fun e W' => ∃ v, e = .returned v ∧ Rows.bucketPlaysSpec.post enc Try.prog Try.f3 false true false false W args v W' := by
  have hW' := hW
  obtain ⟨p, q, hA0, hV, rfl, hfz, hnd⟩ := hW
  have hA : DataW.TrodAll enc Try.prog W 0 (fun _ => true) true Try.f3.params.toList args.toList ds p := hA0
  rw [Try.params3] at hA hval
  obtain ⟨v0, vs0, d0, ds0, p0, q0, hargs, rfl, rfl, h0, r0⟩ := trodAll_cons hA
  obtain ⟨v1, vs1, d1, ds1, p1, q1, rfl, rfl, rfl, h1, r1⟩ := trodAll_cons r0
  obtain ⟨v2, vs2, d2, ds2, p2, q2, rfl, rfl, rfl, h2, r2⟩ := trodAll_cons r1
  obtain ⟨rfl, rfl, rfl⟩ := trodAll_nil r2
  obtain rfl : args = #[v0, v1, v2] := by cases args; simp_all
  obtain ⟨rfl, rfl⟩ := trodVars_none hV
  obtain ⟨g, rfl, rfl, rfl, w0⟩ := open_int Try.underlying2 (hval 0 2 v0 rfl rfl) h0
  obtain ⟨j, rfl, rfl, rfl, w1⟩ := open_int Try.underlying2 (hval 1 2 v1 rfl rfl) h1
  obtain ⟨A2, xs, c2, rfl, f2, l2, lc2, sz2, nl2⟩ := open_nums Try.underlying22 Try.underlying2 (by kernel_rfl) (hval 2 22 v2 rfl rfl) h2
  have z2 : xs.length * 8 ≤ 140737488351232 := by
    rcases sz2 with h | ⟨es, sp, hd, hl⟩
    · rw [h]; decide
    · have := sized_slice hz (j := 2) (t := 22) (e := 2) (elems := es) (spare := sp) (by rw [Try.params3]; rfl) (by rw [hd]; rfl) Try.underlying22
      rw [show Try.prog.bytesOf 2 = 8 by kernel_rfl, show reachBytes = 140737488351232 from rfl] at this
      omega
  refine (walk g j A2 xs c2 W f2 (by omega) lc2).mono fun e W' ⟨he, hb⟩ => ?_
  exact ⟨_, he, Shell.post_law laidOut (by kernel_rfl) rfl Try.underlying4 rfl hW' rfl hb⟩
theorem reads (os : Os) {H : Type} (enc : TypeId × Value → H) : ∃ places, DataW.whole enc Try.prog ((World.holding Try.prog os ⟨#[], #[], []⟩).forCall (fun _ _ => 0) ⟨#[], #[.int .i64 0, .int .i64 0, .slice none 0 0], []⟩).memory Try.f3.params.toList Rows.bucketPlaysSpec.vars false (#[Value.int .i64 0, Value.int .i64 0, Value.slice none 0 0]).toList 8 = some ([.lit (.int .i64 0), .lit (.int .i64 0), .nil], [], places) :=
  ⟨[], by kernel_rfl⟩
set_option maxRecDepth 100000 in
theorem lifted (os : Os) (started : os.Started) (H : Type) (enc : TypeId × Value → H) (F : Stop.Interp) :
    ReturnsInHanded {} Try.checked os 3 .any ((OpenSpec.ofChange Rows.bucketPlaysSpec).preRow enc Try.prog Try.f3 Rows.bucketPlaysRow.domain false Rows.bucketPlaysRow.laid) (((OpenSpec.ofChange Rows.bucketPlaysSpec).at F).post enc Try.prog Try.f3 false true false false) := by
  obtain ⟨places, hx⟩ := reads os enc
  refine returnsInHanded_of_row (C := Try.checked) (s := OpenSpec.ofChange Rows.bucketPlaysSpec) own started (by kernel_rfl) Try.func3
    (witness_row_atRef (enc := enc) (C := Try.checked) false (World.holding Try.prog os ⟨#[], #[], []⟩) #[.int .i64 0, .int .i64 0, .slice none 0 0] rfl (by kernel_rfl) (by kernel_rfl) (by kernel_rfl)
      (OpenSpec.preRow_of_cond 8 hx (by kernel_rfl) (fun k hk => by cases hk) (by kernel_rfl) (laid_met os _))) ?_
  intro W base args ds gs before hval hW _ _ hz hL _ _
  exact contract H enc W base args ds gs before hval hW hz
theorem said : Rows.BucketPlaysSaid :=
  OpenClaim.holds_of_cond 3 Try.f3 rfl rfl rfl rfl rfl rfl rfl ⟨rfl, rfl, rfl, rfl, rfl⟩ rfl rfl rfl rfl rfl (by kernel_rfl) Try.func3 (by kernel_rfl)
    (of_decide_eq_true (by kernel_rfl)) (by unfold Func.isWrapper; first | (rw [if_pos (by decide +kernel)]; kernel_rfl) | (rw [if_neg (by decide +kernel)]; exact ⟨rfl, rfl⟩))
    (fun os started H enc _ F => by rw [OpenClaim.pre_eq_preRow]; exact lifted os started H enc F)
end Go.Proofs.Ytokddpialnkckaa.BucketW.BucketPlays
