/- The pile cloned; which places are kept. -/
import Derived.Test.YtniemmnmiefgeaaQueueS
import Derived.WalkSpells
import Derived.OwnWalk
namespace Go.Proofs.Ytniemmnmiefgeaa.QueueW
open Go.RowKit
theorem flat_one : ∀ L : List It, ∀ u ∈ flat L, u.oneCell' = true
  | [], u, h => by simp [flat] at h
  | x :: L, u, h => by
    rw [flat, List.mem_append] at h
    exact h.elim (cs_one x u) (flat_one L u)
set_option maxHeartbeats 2000000 in
set_option maxRecDepth 100000 in
theorem cloneI (v : Value) (L : List It) (w : World) (h : Row w 64 0 v L) (hl : L.length ≤ 65536) :
    Calls Try.prog 37 #[v] w fun e w' => ∃ v', e = .returned v' ∧ Row w' 64 w.heap.size v' L ∧ Below w.heap.size w w' := by
  have q0 : ∀ (w : World) (a : Option Addr) (n c n' c' : Nat), Sem.run Try.prog (binOp .eql 58 (.slice a n c) (.slice none n' c')) w = .ok (.bool a.isNone) w := fun w a n c n' c' => Lib.run_eql_slice_nil w _ _ a n c n' c' Try.underlying58
  rcases h.nil_form with ⟨rfl, rfl⟩ | ⟨g, c, rfl, _⟩
  · clear h
    go_enter Try.func37, Try.ntmps37
    go_wp2
    go_ret
    exact ⟨_, rfl, World.ownsRow_nil _ _ _ _, Below.refl _ _⟩
  · obtain ⟨i0, z0, hi0, hz0, hs0, hb0, hz1⟩ := infoI_parts
    have HI := Lib.hid hi0
    have HZ := Lib.hid hz0
    have H := Lib.hid h
    have hlen := flat_length L
    have HF := Lib.hid hlen
    have M1 := Lib.hid (show 0 + L.length ≤ maxLen by simp only [maxLen]; omega)
    have M2 := Lib.hid (show (0 + L.length) * 40 ≤ 140737488355328 by omega)
    have hC : ∀ (j : Nat) (u : Value), (flat L)[j]? = some u → (w.alloc (.cells #[] 64)).cell? ((⟨g, 0, none⟩ : Addr).add j) = some u := fun j u hu => by
      have h1 := World.ownsRow.cells h (g := g) rfl j u hu
      exact (((Below.refl w.heap.size w).alloc (Nat.le_refl _) (.cells #[] 64)).cell (World.block_lt_of_cell? _ _ h1)).trans h1
    have HC := Lib.hid hC
    clear hi0 hz0 h hlen hC
    go_enter Try.func37, Try.ntmps37
    go_wp2_with (at_builtin; refine wpList_append_own _ rfl _ _ 58 rfl w.heap.size 64 i0 z0 5 40 Try.underlying58 HI.out HZ.out hs0 hb0 hz1 (by decide) (.slice (some ⟨w.heap.size, 0, none⟩) 0 0) 0 [] rfl (World.ownsRow_made w #[] 0 (Nat.le_refl _) (Nat.zero_le _) rfl) ⟨g, 0, none⟩ L.length c (flat L) rfl HF.out HC.out (flat_one L) M1.out M2.out (by simp) ?_)
    intro v' w1 o1 g1 _
    go_wp2
    go_ret
    refine ⟨v', rfl, ?_, ?_⟩
    · unfold Row
      exact o1
    · exact ⟨g1.os, g1.tape, g1.output, Nat.le_trans (by simp) g1.size, fun j hj => (g1.block j (by simp; omega) (fun e => by simp only [Value.ownBlock, Option.some.injEq] at e; omega)).trans (heap_alloc_old _ _ hj)⟩
/-- A set of places, in a block of its own. -/
def PS (w : World) (b : Nat) (ks : List Int) : Prop := ∃ (n : Nat) (D : DataW Unit), w.ownsMap Try.prog 2 unitElem b n D ∧ n ≤ ks.length ∧ ∀ p : Int, (Lit.int .i64 p).wf = true → Maps.has D (.int .i64 p) = decide (p ∈ ks)
theorem PS.of_heap {w w1 : World} {b : Nat} {ks : List Int} (h : PS w b ks) (e : w1.heap[b]? = w.heap[b]?) : PS w1 b ks := by
  obtain ⟨n, D, ⟨es, clock, hb, r⟩, h2, h3⟩ := h
  exact ⟨n, D, ⟨es, clock, e.trans hb, r⟩, h2, h3⟩
theorem PS.lt {w : World} {b : Nat} {ks : List Int} (h : PS w b ks) : b < w.heap.size := by
  obtain ⟨n, D, h1, _⟩ := h
  exact h1.lt
theorem PS.made (w : World) : PS (w.alloc (.map #[] 0)) w.heap.size [] := ⟨0, _, World.ownsMap_made w _ _ _, Nat.le_refl _, fun _ _ => rfl⟩
/-- What is asked of a call's function. -/
structure KC (w0 : World) (k : Nat) (v : Value) (kf : Nat) (lb : Array Value) (S : List It) (kp : It → Bool) (X : Nat → Prop) (I : Nat → World → Prop) : Prop where
  x0 : ∀ j, X j → j < w0.heap.size ∧ ¬ j = k ∧ v.ownBlock ≠ some j
  ent : ∀ (args : Array Value) (w : World), Sem.run Try.prog (callFunc kf args) w = .ok (.enter kf args) w
  start : I 0 w0
  call : ∀ (j : Nat) (x : It) (W : World), S[j]? = some x → w0.heap.size ≤ W.heap.size → I j W → Calls Try.prog kf (#[x.thing] ++ lb) W fun e w' => e = .returned (.bool (kp x)) ∧ I (j + 1) w' ∧ Chg X W w'
  stay : ∀ (j : Nat) (W W' : World), I j W → w0.heap.size ≤ W.heap.size → Chg (fun b => w0.heap.size ≤ b ∨ b = k ∨ v.ownBlock = some b) W W' → I j W'
theorem sorted_eq {M S : List It} (p : M.Perm S) (hm : M.Pairwise (fun a b => ¬ lt b a)) (hs : S.Pairwise lt) : M = S := by
  refine List.Perm.eq_of_pairwise (le := fun a b => ¬ lt b a) (fun a b ha hb h1 h2 => ?_) hm (hs.imp (fun h => lt_asymm h)) p
  have ha' := p.mem_iff.1 ha
  obtain ⟨i, hi, rfl⟩ := List.getElem_of_mem ha'
  obtain ⟨j, hj, rfl⟩ := List.getElem_of_mem hb
  rcases Nat.lt_trichotomy i j with h | h | h
  · exact absurd (List.pairwise_iff_getElem.1 hs i j hi hj h) h2
  · subst h; rfl
  · exact absurd (List.pairwise_iff_getElem.1 hs j i hj hi h) h1
theorem keylit {p : Int} : WideAt.IsKeyLit (.int .i64 p) := by unfold WideAt.IsKeyLit; trivial
def gone (kp : It → Bool) (S : List It) : List Int := (S.filter (fun x => !kp x)).map (·.place)
/-- What unkept keeps at thing j. -/
structure UK (w0 wr : World) (X : Nat → Prop) (I : Nat → World → Prop) (kp : It → Bool) (g c mb : Nat) (S : List It) (j : Nat) : Prop where
  row : Row wr 64 0 (.slice (some ⟨g, 0, none⟩) S.length c) S
  ps : PS wr mb (gone kp (S.take j))
  inv : I j wr
  chg : Chg X w0 wr
  g0 : w0.heap.size ≤ g
  m0 : w0.heap.size ≤ mb
  gm : ¬ g = mb
theorem UK.next {w0 wr : World} {k kf : Nat} {v : Value} {lb : Array Value} {X : Nat → Prop} {I : Nat → World → Prop} {kp : It → Bool} {g c mb : Nat} {S : List It} {j : Nat} {x : It} {w2 : World} {ob : Obj} (K : KC w0 k v kf lb S kp X I) (h : UK w0 wr X I kp g c mb S j) (hx : S[j]? = some x) (hi : I (j + 1) w2) (hc : Chg X (wr.alloc ob) w2) (hk : kp x = true) : UK w0 w2 X I kp g c mb S (j + 1) := by
  have e : ∀ b, w0.heap.size ≤ b → ¬ X b := fun b hb hX => by have := (K.x0 b hX).1; omega
  have e2 : ∀ b, w0.heap.size ≤ b → b < wr.heap.size → w2.heap[b]? = wr.heap[b]? := fun b hb hl => (hc.block b (by simp; omega) (e b hb)).trans (heap_alloc_old _ _ hl)
  refine ⟨Row.of_block h.row (fun b hb => ?_), ?_, hi, ((h.chg.alloc ob).trans hc (fun _ _ q => q)), h.g0, h.m0, h.gm⟩
  · injection hb with hb
    subst hb
    exact e2 g h.g0 (h.row.lt rfl)
  · have := h.ps.of_heap (e2 mb h.m0 h.ps.lt)
    have et : S.take (j + 1) = S.take j ++ [x] := by
      obtain ⟨hj, ex⟩ := List.getElem?_eq_some_iff.1 hx
      rw [List.take_succ_eq_append_getElem hj, ex]
    rw [et]
    unfold gone at *
    rw [List.filter_append, List.filter_cons_of_neg (by simp [hk])]
    simpa using this
theorem UK.put {w0 wr : World} {k kf : Nat} {v : Value} {lb : Array Value} {X : Nat → Prop} {I : Nat → World → Prop} {kp : It → Bool} {g c mb : Nat} {S : List It} {j : Nat} {x : It} {w2 w3 : World} {ob : Obj} (K : KC w0 k v kf lb S kp X I) (h : UK w0 wr X I kp g c mb S j) (hx : S[j]? = some x) (hi : I (j + 1) w2) (hc : Chg X (wr.alloc ob) w2) (hk : kp x = false)
    {n : Nat} {D : DataW Unit} (ho : w3.ownsMap Try.prog 2 unitElem mb (n + 1) (D.put (.int .i64 x.place) (.agg []))) (hg : w2.grownBy w3 (some mb)) (hn : n ≤ (gone kp (S.take j)).length) (hD : ∀ p : Int, (Lit.int .i64 p).wf = true → Maps.has D (.int .i64 p) = decide (p ∈ gone kp (S.take j))) (hm : Maps.IsMap D) : UK w0 w3 X I kp g c mb S (j + 1) := by
  have e : ∀ b, w0.heap.size ≤ b → ¬ X b := fun b hb hX => by have := (K.x0 b hX).1; omega
  have g23 : Chg (fun b => w0.heap.size ≤ b ∨ b = k ∨ v.ownBlock = some b) w2 w3 := ⟨hg.os, hg.tape, hg.output, hg.size, fun b hb hn => hg.block b hb (fun e => hn (Or.inl (by have e := Option.some.inj e; have := h.m0; omega)))⟩
  have l0 : w0.heap.size ≤ wr.heap.size := h.chg.size
  have l2 : wr.heap.size ≤ w2.heap.size := by have := hc.size; simp at this; omega
  refine ⟨Row.of_block h.row (fun b hb => ?_), ?_, K.stay _ _ _ hi (by omega) g23, ?_, h.g0, h.m0, h.gm⟩
  · injection hb with hb
    subst hb
    have hl := h.row.lt (g := g) rfl
    rw [hg.block g (by omega) (fun e => h.gm (Option.some.inj e))]
    exact (hc.block g (by rw [show (wr.alloc ob).heap.size = wr.heap.size + 1 by simp]; omega) (e g h.g0)).trans (heap_alloc_old _ _ hl)
  · have et : S.take (j + 1) = S.take j ++ [x] := by
      obtain ⟨hj, ex⟩ := List.getElem?_eq_some_iff.1 hx
      rw [List.take_succ_eq_append_getElem hj, ex]
    have eg : gone kp (S.take (j + 1)) = gone kp (S.take j) ++ [x.place] := by
      rw [et]
      unfold gone
      rw [List.filter_append, List.filter_cons_of_pos (by simp [hk])]
      simp
    rw [eg]
    refine ⟨n + 1, _, ho, by simp; omega, fun p hp => ?_⟩
    by_cases e : p = x.place
    · subst e
      rw [Maps.has_put_same hm ?_]
      · simp
      · exact keylit
    · rw [Maps.has_put_other (fun q => e (by injection q))]
      rw [hD p hp]
      simp [e]
  · exact ((h.chg.alloc ob).trans hc (fun _ _ q => q)).trans (Y := fun b => b = mb) ⟨hg.os, hg.tape, hg.output, hg.size, fun b hb hn => hg.block b hb (fun e => hn (Option.some.inj e))⟩ (fun b hb e => by
      subst e
      exfalso
      have := h.m0
      omega)
set_option maxHeartbeats 4000000 in
set_option maxRecDepth 100000 in
theorem unkeptI_some (k : Nat) (m n : Int) (v : Value) (S : List It) (kf : Nat) (lb : Array Value) (kp : It → Bool) (X : Nat → Prop) (I : Nat → World → Prop) (w0 : World) (h : QSI w0 k m n v S) (hi : ∀ x ∈ S, 0 ≤ x.place) (hn : n < 4611686018427387904) (K : KC w0 k v kf lb S kp X I) (hS : S ≠ []) :
    Calls Try.prog 30 #[.pointer (some ⟨k, 0, none⟩), .func (.func kf) #[] lb] w0 fun e w' => ∃ b, e = .returned (.map (some b)) ∧ w0.heap.size ≤ b ∧ PS w' b (gone kp S) ∧ I S.length w' ∧ Chg X w0 w' := by
  obtain ⟨L, r, p, o⟩ := h.row
  have c2 : w0.cell? ⟨k, 2, none⟩ = some v := cell_of_row w0 k 2 _ _ _ h.blk
  have lL : L.length = S.length := p.length_eq
  have few := h.few
  have C := Lib.hid (cloneI v L w0 r (by omega))
  have HS := Lib.hid h
  have HK := Lib.hid K
  have HP := Lib.hid p
  have ENT := K.ent
  have hmm := @run_makeMap Try.prog
  obtain ⟨A, cc, hv⟩ := RowI.form r
  have HPL := Lib.hid hi
  subst hv
  have HLL := Lib.hid lL
  have few2 : L.length ≤ 65536 := by omega
  clear h K r p o hi lL
  go_enter Try.func30, Try.ntmps30
  go_wp2_with fail
  refine C.out.mono ?_
  rintro e w1 ⟨v1, rfl, r1, b1⟩
  obtain ⟨g, c, rfl, hg⟩ : ∃ g c, v1 = .slice (some ⟨g, 0, none⟩) L.length c ∧ w0.heap.size ≤ g := by
    rcases r1.nil_form with ⟨_, e⟩ | h
    · exact absurd (List.eq_nil_of_length_eq_zero (by rw [← HLL.out, e]; rfl)) hS
    · exact h
  have P := Lib.hid (sortI g c L w1 (r1.rebase (fun _ _ => Nat.zero_le _)) few2)
  have B1 := Lib.hid b1
  clear r1 b1 C
  go_wp2_with fail
  refine P.out.mono ?_
  rintro e w2 ⟨rfl, M, p2, s2, r2, g2⟩
  obtain rfl : M = S := sorted_eq (p2.trans HP.out) s2 HS.out.up
  have q2 : Chg (fun b => w0.heap.size ≤ b ∨ b = k ∨ (Value.slice A L.length cc).ownBlock = some b) w0 w2 := (Chg.of B1.out).trans g2 (fun j hj e => by subst e; exact Or.inl hg)
  have HI := Lib.hid (HK.out.stay 0 w0 w2 HK.out.start (Nat.le_refl _) q2)
  have HC := Lib.hid (show Chg X w0 w2 from (Chg.of B1.out).trans g2 (fun j hj e => by subst e; omega))
  have lM := HLL.out
  rw [lM] at r2 ⊢
  clear lM few2
  have R2 := Lib.hid r2
  clear r2 g2 q2 P s2 p2
  go_wp2_with fail
  have hmb : w0.heap.size ≤ w2.heap.size := HC.out.size
  have gl := R2.out.lt (g := g) rfl
  have H0 := Lib.hid (show UK w0 (w2.alloc (.map #[] 0)) X I kp g c w2.heap.size M 0 from
    ⟨Row.of_block R2.out (fun j hj => heap_alloc_old _ _ (R2.out.lt hj)), PS.made w2, HK.out.stay 0 w2 _ HI.out hmb (Chg.of ((Below.refl _ _).alloc (Nat.le_refl _) _)), HC.out.alloc _, hg, hmb, by omega⟩)
  generalize w2.heap.size = mb at *
  clear R2 HI HC gl
  go_loopw [19] (fun iv wr => ∃ j : Nat, iv = .int .i64 j ∧ j ≤ M.length ∧ Hid (UK w0 wr X I kp g c mb M j)) (fun iv _ => M.length - (intOf iv).toNat)
  case atStart => exact ⟨0, rfl, Nat.zero_le _, H0⟩
  case round =>
    clear H0
    obtain ⟨j, rfl, hj, H⟩ := hrel
    by_cases hjl : j < M.length
    · have hx := some_nth hjl
      obtain ⟨a0, a1, a2, a3, a4⟩ := H.out.row.cells hjl
      have l0 : w0.heap.size ≤ wr.heap.size := H.out.chg.size
      have jl : (j : Int) < (M.length : Int) := by omega
      have pl : 0 ≤ (nth M j).place := HPL.out _ (List.mem_of_getElem? hx)
      have ph : (nth M j).place < n := HS.out.old _ (List.mem_of_getElem? hx)
      have CL := Lib.hid (fun W hW => HK.out.call j _ W hx hW)
      have UN := Lib.hid (fun w2 ob => UK.next (w2 := w2) (ob := ob) HK.out H.out hx)
      have UP := Lib.hid (fun w2 w3 ob nn D => UK.put (w2 := w2) (w3 := w3) (ob := ob) (n := nn) (D := D) HK.out H.out hx)
      generalize hy : nth M j = y at *
      obtain ⟨y0, y1, y2, y3, y4, y5⟩ := y
      have sx : ∀ (W : World) (a : Addr) (m : Mode), Sem.run Try.prog (store a y4 m) W = stored Try.prog W a y4 m := fun W a m => run_store _ W a _ m y5
      dsimp only at a0 a1 a2 a3 a4 pl ph CL UP UN
      have CW := Lib.hid (CL.out (wr.alloc (.cells #[.int .i64 y0, .int .i64 y1, .int .i64 y2, .int .i64 y3, y4] 64)) (by rw [show (wr.alloc (.cells #[.int .i64 y0, .int .i64 y1, .int .i64 y2, .int .i64 y3, y4] 64)).heap.size = wr.heap.size + 1 by simp]; omega) (HK.out.stay j wr _ H.out.inv l0 (Chg.of ((Below.refl _ _).alloc (Nat.le_refl _) _))))
      clear hx hy CL
      go_wp2_with fail
      refine CW.out.mono ?_
      rintro e w3 ⟨rfl, i3, g3⟩
      have xs : ¬ X wr.heap.size := fun e => by have := (HK.out.x0 _ e).1; omega
      have xm : ¬ X mb := fun e => by have := (HK.out.x0 _ e).1; omega
      obtain ⟨b0, b1, b2, b3, b4⟩ := cells5 (g3.heap (heap_alloc_new wr _) xs)
      have lm := H.out.ps.lt
      have ps3 : PS w3 mb (gone kp (M.take j)) := H.out.ps.of_heap ((g3.block mb (by rw [show (wr.alloc (.cells #[.int .i64 y0, .int .i64 y1, .int .i64 y2, .int .i64 y3, y4] 64)).heap.size = wr.heap.size + 1 by simp]; omega) xm).trans (heap_alloc_old _ _ lm))
      have UN2 := Lib.hid (UN.out w3 _ i3 g3)
      have UP2 := Lib.hid (fun w4 nn D => UP.out w3 w4 _ nn D i3 g3)
      clear i3 g3 CW UN UP a0 a1 a2 a3 a4 xs xm lm
      cases hk : kp ⟨y0, y1, y2, y3, y4, y5⟩ with
      | true =>
        have UN3 := Lib.hid (UN2.out hk)
        clear hk UN2 UP2 ps3
        go_wp2_with fail
        go_roundw
        case rel => exact ⟨j + 1, by congr 1, by omega, UN3⟩
        case measure => simp only [intOf]; omega
      | false =>
        obtain ⟨nn, D, ho, hnn, hD⟩ := ps3
        have UP3 := Lib.hid (fun w4 => UP2.out w4 nn D hk)
        have hgl : (gone kp (M.take j)).length ≤ 65536 := by
          unfold gone
          rw [List.length_map]
          refine Nat.le_trans (List.length_filter_le _ _) ?_
          rw [List.length_take]
          omega
        have HNN := Lib.hid hnn
        have HDD := Lib.hid hD
        have HIM := Lib.hid ho.isMap
        have HO := Lib.hid ho
        have HML := Lib.hid (show nn < maxLen by simp only [maxLen]; omega)
        have HKY := Lib.hid (Maps.keyOf_int_mk (P := Try.prog) (k := 2) Try.underlying2 (a := y3) (by simp only [Lit.wf, Bool.and_eq_true, decide_eq_true_eq]; have e1 : IntKind.i64.min = -9223372036854775808 := rfl; have e2 : IntKind.i64.max = 9223372036854775807 := rfl; omega))
        clear hk UN2 UP2 hnn hD ho hgl
        go_wp2_with (at_mapUpdate; refine wpList_mapUpdate_own _ rfl _ _ _ 66 rfl 2 69 (Maps.int_keyed Try.underlying2) Try.underlying66 unitElem mb nn D rfl HO.out HML.out (.int .i64 y3) (.agg #[]) (.int .i64 y3) rfl rfl HKY.out (.agg []) [] unitElem_mk ?_; intro w4 o4 g4; have O4 := Lib.hid o4; have G4 := Lib.hid g4; clear o4 g4)
        go_roundw
        case rel => exact ⟨j + 1, by congr 1, by omega, Lib.hid (UP3.out w4 O4.out G4.out HNN.out HDD.out HIM.out)⟩
        case measure => simp only [intOf]; omega
    · have ej : j = M.length := by omega
      subst ej
      go_wp2
      go_ret
      refine ⟨mb, rfl, hmb, ?_, H.out.inv, H.out.chg⟩
      have := H.out.ps
      rwa [List.take_length] at this
end Go.Proofs.Ytniemmnmiefgeaa.QueueW
