/- The law PermOrders: with a right clock, frames whose time is told truly come out just the greatest delay behind their sending, in the order in which they were sent: for all delays, gaps and times. No condition. -/
import Derived.Test.YtmkgnkbcdkcboaaPermFixed
import Derived.Test.YtmkgnkbcdkcboaaPermQ
import Derived.Test.YtmkgnkbcdkcboaaRow1
namespace Go.Proofs.Ytmkgnkbcdkcboaa.PermW.PermOrders
open Go.ChangeShapes Go.WideShapes Go.ChangeAt Go.RowKit PermW Shell
open QueueW (It lt ins cbx)
open ClockW (CK CI tell tell_iff sh wh okN okN_iff)
open FrameW (CV rightC)
theorem i64_one : One Try.prog 56 2 .i64 8 := ⟨Try.underlying56, by
  have h : (Try.prog.info? 2).map (fun i => (i.zero, i.size, i.bytes)) = some (some (.int .i64 0), 1, 8) := by kernel_rfl
  revert h
  cases Try.prog.info? 2 with
  | none => intro h; cases h
  | some i =>
    intro h
    simp only [Option.map_some, Option.some.injEq, Prod.mk.injEq] at h
    exact ⟨i, rfl, h.1, h.2.1, h.2.2⟩⟩
theorem one_cl (w : World) (x : Int) (h0 : 0 ≤ x) (h1 : x < 4611686018427387904) (t : TypeId) : CL (w.alloc (.cells #[.int .i64 x] t)) .i64 (some ⟨w.heap.size, 0, none⟩) [x] :=
  new_cl w .i64 [x] t (Wf.one (by simp [Lit.wf]; exact ⟨(by show -9223372036854775808 ≤ x; omega), (by show x ≤ 9223372036854775807; omega)⟩))
theorem tk_right {n : Nat} {d t j sp : Int} (hn : n < 64) (h0 : 0 ≤ t) (h1 : t ≤ 562949953421312) (j0 : 0 ≤ j) (j1 : j ≤ 60) (s0 : 0 ≤ sp) (s1 : sp ≤ d) (d1 : d ≤ 1048576) : tkA 0 0 0 d n t 1 0 j 0 sp = (t + (d - sp), 0) := by
  have hr : rightC 1 0 j 0 sp := by unfold rightC; omega
  unfold tkA
  rw [if_neg (not_not_intro hr), if_neg (by omega), du_right h0 (by omega) s0 s1 d1, if_neg (by simp), if_neg (by omega)]
/-- The frames that are held: the k-th is of the k-th sending. -/
structure FS (d : Int) (S : List It) (ts : List Int) : Prop where
  len : S.length = ts.length
  at_ : ∀ (k : Nat) (x : It), S[k]? = some x → ts[k]? = some (x.time - d) ∧ x.y = k
  up : ts.Pairwise (· ≤ ·)
theorem FS.nil (d : Int) : FS d [] [] := ⟨rfl, fun k x h => by simp at h, List.Pairwise.nil⟩
theorem ins_last {z : It} : ∀ {S : List It}, (∀ x ∈ S, ¬ lt z x) → ins z S = S ++ [z]
  | [], _ => rfl
  | y :: S, h => by
    rw [ins, if_neg (h y List.mem_cons_self), ins_last (fun x hx => h x (List.mem_cons_of_mem _ hx))]
    rfl
theorem FS.snoc {d a p sp : Int} {S : List It} {ts : List Int} (h : FS d S ts) (hs : Std S) (hf : ∀ x ∈ S, x.f = 0) (hp : ∀ x ∈ S, x.place < p) (ha : ∀ x ∈ ts, x ≤ a) (j : Nat) (hj : ts.length = j) :
    ins ⟨a + d, 0, 0, p, 1, 0, j, 0, sp⟩ S = S ++ [⟨a + d, 0, 0, p, 1, 0, j, 0, sp⟩] ∧ FS d (S ++ [⟨a + d, 0, 0, p, 1, 0, j, 0, sp⟩]) (ts ++ [a]) := by
  refine ⟨ins_last (fun x hx => ?_), ⟨by rw [List.length_append, List.length_append, h.len]; rfl, fun k x hk => ?_, ?_⟩⟩
  · obtain ⟨k, hk⟩ := List.getElem?_of_mem hx
    have h1 := (h.at_ k x hk).1
    have h2 := ha _ (List.mem_of_getElem? h1)
    have h3 := hs x hx
    have h4 := hf x hx
    have h5 := hp x hx
    unfold lt
    show ¬ (a + d < x.time ∨ a + d = x.time ∧ ((0 : Int) < x.rank ∨ (0 : Int) = x.rank ∧ ((0 : Int) < x.node ∨ (0 : Int) = x.node ∧ p < x.place)))
    omega
  · by_cases hl : k < S.length
    · rw [List.getElem?_append_left hl] at hk
      rw [List.getElem?_append_left (by rw [← h.len]; exact hl)]
      exact h.at_ k x hk
    · have hk2 : k = S.length := by
        have := (List.getElem?_eq_some_iff.1 hk).1
        simp only [List.length_append, List.length_cons, List.length_nil] at this
        omega
      rw [hk2, List.getElem?_append_right (Nat.le_refl _), Nat.sub_self] at hk
      simp only [List.getElem?_cons_zero, Option.some.injEq] at hk
      subst hk
      rw [hk2, h.len, List.getElem?_append_right (Nat.le_refl _), Nat.sub_self, hj]
      simp
  · refine List.pairwise_append.2 ⟨h.up, by simp, fun x hx y hy => ?_⟩
    rw [List.mem_singleton] at hy
    subst hy
    exact ha x hx
/-- All that the loops keep: the hold with its clock, and a row of times of the call's own. -/
structure OK (w0 : World) (g q j : Nat) (d : Int) (v : Value) (ts : List Int) (S : List It) (N : Nat) (w : World) : Prop where
  p : ∃ L, PW w0 L g q j d 0 0 0 S N none [] w ∧ ∀ i, v.ownBlock = some i → ∃ o, (i, o) ∈ L
  o : OR w (g + 1) 2 .i64 v ts
  b0 : w0.heap.size ≤ g
section
variable {w0 w w1 : World} {g q j N : Nat} {d : Int} {v : Value} {ts : List Int} {S : List It}
theorem OK.next (h : OK w0 g q j d v ts S N w) (b : Below w.heap.size w w1) : OK w0 g q j d v ts S N w1 := by
  obtain ⟨L, P, hL⟩ := h.p
  exact ⟨⟨L, P.next b, hL⟩, h.o.below b, h.b0⟩
theorem OK.b (h : OK w0 g q j d v ts S N w) : Below w0.heap.size w0 w := by
  obtain ⟨L, P, hL⟩ := h.p
  exact P.st.b
/-- A call that turns the hold leaves the row of times as it is. -/
theorem OK.call {S1 : List It} {N1 : Nat} (h : OK w0 g q j d v ts S N w) {L : List (Nat × Obj)} (P : PW w0 L g q j d 0 0 0 S N none [] w) (hL : ∀ i, v.ownBlock = some i → ∃ o, (i, o) ∈ L) (P1 : PW w0 L g q j d 0 0 0 S1 N1 none [] w1) : OK w0 g q j d v ts S1 N1 w1 := by
  refine ⟨⟨L, P1, hL⟩, ?_, h.b0⟩
  rcases h.o.1.2 with e | ⟨i, cap, cur, e, hb, hg, hr⟩
  · exact ⟨⟨h.o.1.1, Or.inl e⟩, h.o.2⟩
  · obtain ⟨o, ho⟩ := hL i (by rw [e]; rfl)
    have h1 := P.st.h _ ho
    have h2 := P1.st.h _ ho
    exact ⟨⟨h.o.1.1, Or.inr ⟨i, cap, cur, e, hb, (h2.trans h1.symm).trans hg, hr⟩⟩, h.o.2⟩
/-- The row of times turns. -/
theorem OK.row {w' : World} {v' : Value} {ts' : List Int} (h : OK w0 g q j d v ts S N w) (s : Step w v w' v') (o' : OR w' (g + 1) 2 .i64 v' ts') : OK w0 g q j d v' ts' S N w' := by
  obtain ⟨L, P, hL⟩ := h.p
  have lt := P.lts
  have c : QueueW.Chg (fun i => v.ownBlock = some i) w w' := ⟨s.g.os, s.g.tape, s.g.output, s.g.size, fun i hi hx => s.g.block i hi (fun e => hx e.symm)⟩
  have nqj : ∀ i, v.ownBlock = some i → i ≠ q ∧ i ≠ j := fun i hi => by
    obtain ⟨o, ho⟩ := hL i hi
    exact P.lq _ ho
  have ng : v.ownBlock ≠ some g := fun e => by have := (h.o.lt g e).1; omega
  obtain ⟨n, u, hk, hn, ho⟩ := P.hold
  have nu : ∀ i, u.ownBlock = some i → v.ownBlock ≠ some i := fun i hi e => by
    obtain ⟨o, hm⟩ := hL i e
    exact (ho i hi).2.2.1 _ hm rfl
  have mv : ∀ i, v'.ownBlock = some i → v.ownBlock = some i ∨ w.heap.size ≤ i := fun i hi => by
    rcases s.m with e | ⟨k, e, hk⟩
    · exact Or.inl (e ▸ hi)
    · rw [hi] at e; cases e; exact Or.inr hk
  have b' : Below w0.heap.size w0 w' := P.st.b.trans (c.below (fun i hi e => by have := (h.o.lt i e).1; have := h.b0; omega) P.st.b.size)
  have hk' := hk.frame c ng (fun e => (nqj q e).1 rfl) nu
  have ck' : CK w' j 0 0 0 := c.heap P.ck (fun e => (nqj j e).2 rfl)
  have ob : ∀ L', (∀ x ∈ L', w'.heap[x.1]? = some x.2 ∧ v'.ownBlock = some x.1) → PW w0 L' g q j d 0 0 0 S N none [] w' := fun L' hL' =>
    ⟨⟨b', fun x hx => (hL' x hx).1⟩, ⟨n, u, hk', hn, fun i hi => ⟨(ho i hi).1, (ho i hi).2.1, fun x hx e => by
        rcases mv x.1 (hL' x hx).2 with e2 | e2
        · exact nu i hi (e ▸ e2)
        · have := hk.q.lt.2 i hi; omega, fun a ha => (by cases ha)⟩⟩, ck', P.ci, P.q0, P.j0, P.jq, P.hj, fun x hx => by
      rcases mv x.1 (hL' x hx).2 with e2 | e2
      · exact nqj _ e2
      · exact ⟨by omega, by omega⟩, Or.inl rfl, fun a ha => (by cases ha), P.std, P.few⟩
  refine ⟨?_, o', h.b0⟩
  cases hv : v'.ownBlock with
  | none => exact ⟨[], ob [] (fun x hx => by cases hx), fun i hi => by cases hi⟩
  | some i =>
    obtain ⟨o, ho⟩ : ∃ o, w'.heap[i]? = some o := ⟨_, Array.getElem?_eq_getElem (o'.lt i hv).2⟩
    exact ⟨[(i, o)], ob _ (fun x hx => by rw [List.mem_singleton] at hx; subst hx; exact ⟨ho, hv⟩), fun k hk => by cases hk; exact ⟨o, List.mem_singleton.2 rfl⟩⟩
theorem OK.takeY (h : OK w0 g q j d v ts S N w) (t k f y c l : Int) (hc : 0 ≤ c) (hN : N < 4611686018427387904) (x0 : Int) (hx : tkA 0 0 0 d S.length t k f y c l = (x0, 0)) :
    Calls Try.prog 11 #[.pointer (some ⟨g, 0, none⟩), .pointer (some ⟨j, 0, none⟩), .int .i64 t, CV k f y c l] w fun e w' => e = .returned (.tuple #[.int .i64 x0, .int .i64 0]) ∧
      ∃ p : Int, (∀ x ∈ S, x.place < p) ∧ OK w0 g q j d v ts (ins ⟨x0, f, 0, p, k, f, y, c, l⟩ S) (N + 1) w' := by
  obtain ⟨L, P, hL⟩ := h.p
  refine (P.takeY t k f y c l hc hN x0 hx).mono ?_
  rintro e w' ⟨rfl, p, hp, P'⟩
  exact ⟨rfl, p, hp, h.call P hL P'⟩
theorem OK.give {x : It} (h : OK w0 g q j d v ts (x :: S) N w) (t : Int) (hx : x.time ≤ t) :
    Calls Try.prog 13 #[.pointer (some ⟨g, 0, none⟩), .int .i64 t] w fun e w' => e = .returned (.tuple #[x.thing, .int .i64 x.time, .bool true]) ∧ OK w0 g q j d v ts S N w' := by
  obtain ⟨L, P, hL⟩ := h.p
  refine (P.give t hx).mono ?_
  rintro e w' ⟨rfl, P'⟩
  exact ⟨rfl, h.call P hL P'⟩
theorem OK.len (h : OK w0 g q j d v ts S N w) :
    Calls Try.prog 19 #[.pointer (some ⟨g, 0, none⟩)] w fun e w' => e = .returned (.int .i64 (S.length : Nat)) ∧ w = w' := by
  obtain ⟨L, P, hL⟩ := h.p
  exact P.len
end
theorem or_cl {w : World} {base : Nat} {e : TypeId} {k : IntKind} {A : Option Addr} {n c : Nat} {xs : List Int} (h : OR w base e k (.slice A n c) xs) : CL w k A xs := by
  obtain ⟨A', c', hv, hc, -⟩ := h.form
  injection hv with h1 _ _
  exact h1 ▸ hc
/-- What the first loop keeps, behind j frames. -/
structure Sent (w0 : World) (g q c : Nat) (d : Int) (v : Value) (at_ : Int) (j : Nat) (w : World) : Prop where
  x : ∃ ts S N, OK w0 g q c d v ts S N w ∧ FS d S ts ∧ ts.length = j ∧ N ≤ j ∧ (∀ y ∈ ts, y ≤ at_) ∧ (∀ x ∈ S, x.f = 0) ∧ ∀ y ∈ ts, 0 ≤ y
  a0 : 0 ≤ at_
  a1 : at_ ≤ 65535 * j
set_option maxHeartbeats 8000000 in
set_option maxRecDepth 100000 in
theorem walk (d : Int) (A B : Option Addr) (xs ys : List Int) (ca cb : Nat) (w : World) (hA : CL w .u16 A xs) (hB : CL w .u16 B ys) (la : xs.length ≤ ca) (_lb : ys.length ≤ cb) :
    Calls Try.prog 4 #[.int .i64 d, .slice A xs.length ca, .slice B ys.length cb] w fun e w' => e = .returned (.bool true) ∧ Below w.heap.size w w' := by
  have HA := Lib.hid hA
  have HB := Lib.hid hB
  clear hA hB
  obtain ⟨n, hn⟩ : ∃ n, xs.length = n := ⟨_, rfl⟩
  obtain ⟨k, hk⟩ : ∃ k, ys.length = k := ⟨_, rfl⟩
  rw [hn] at la ⊢
  rw [hk] at _lb ⊢
  have Hn := Lib.hid hn
  have Hk := Lib.hid hk
  clear hn hk
  obtain ⟨m, hm⟩ : ∃ m : Nat, min (min n k) 60 = m := ⟨_, rfl⟩
  have HM := Lib.hid (show m ≤ n ∧ m ≤ k ∧ m ≤ 60 by omega)
  obtain ⟨m1, hm1⟩ : ∃ m1 : Nat, min n k = m1 := ⟨_, rfl⟩
  have e0 : min (n : Int) (k : Int) = (m1 : Int) := by omega
  have e1 : min (m1 : Int) 60 = (m : Int) := by omega
  have e4 : (if (k : Int) < (n : Int) then (k : Int) else (n : Int)) = (m1 : Int) := by split <;> omega
  have e5 : (if k < n then (k : Int) else (n : Int)) = (m1 : Int) := by split <;> omega
  have e6 : (if (60 : Int) < (m1 : Int) then (60 : Int) else (m1 : Int)) = (m : Int) := by split <;> omega
  clear hm1
  have e2 : (m : Int) ≤ (ca : Int) := by omega
  have e3 : (m : Int) ≤ (n : Int) := by omega
  have LA := Lib.hid la
  clear la _lb hm
  go_enter Try.func4, Try.ntmps4
  go_wp2_with fail
  refine (fixed_any _).mono ?_
  rintro e w1 ⟨rfl, b1⟩
  have B1 := Lib.hid b1
  clear b1
  cases ho : okD d with
  | false =>
    go_wp2_with fail
    refine (new_bad d ho _).mono ?_
    rintro e w' ⟨rfl, rfl⟩
    go_wp2_with fail
    refine (ClockW.new_ok 0 0 0 (by decide) _).mono ?_
    rintro e w2 ⟨rfl, c2, b2⟩
    go_wp2
    go_ret
    exact ⟨rfl, B1.out.trans (b2.mono B1.out.size)⟩
  | true =>
    have HD := Lib.hid (okD_iff.1 ho)
    go_wp2_with fail
    refine (new_ok d ho _).mono ?_
    rintro e w2 ⟨g, rfl, hg, hk, b2⟩
    have HK2 := Lib.hid hk
    have B2 := Lib.hid (B1.out.trans (b2.mono B1.out.size))
    have HG := Lib.hid hg
    clear hg hk b2 ho
    go_wp2_with fail
    refine (ClockW.new_ok 0 0 0 (by decide) _).mono ?_
    rintro e w3 ⟨rfl, c3, b3⟩
    have LT := HK2.out.q.lt.1
    have LG := QueueW.lt_heap HK2.out.box
    have P1 := Lib.hid (PW.mk0 (L := []) (w0 := w) (Stay.next ⟨B2.out, fun x hx => by cases hx⟩ b3) (HK2.out.below b3) c3 ci0 B1.out.size B2.out.size (by omega) (by omega) (fun x hx => by cases hx))
    have G0 := Lib.hid (show w.heap.size ≤ g by have := B1.out.size; have := HG.out; omega)
    generalize w1.heap.size = q at *
    generalize w2.heap.size = j at *
    clear c3 b3 LT LG HK2 B2 HG B1
    go_upto_region 7 with (fail)
    go_upto_region 8 with (fail)
    clear e0 e1 e4 e5 e6 e2 e3 LA
    have hm60 : (m : Int) ≤ 60 := by have := HM.out; omega
    have hmk : (m : Int) ≤ (k : Int) := by have := HM.out; omega
    have st := Lib.hid (P1.out.st.b)
    go_wp2
    go_loopw [11, 13, 47] (fun av vv iv wr => ∃ (i : Nat) (at_ : Int), iv = .int .i64 i ∧ av = .int .i64 at_ ∧ i ≤ m ∧ Hid (Sent w g q j d vv at_ i wr)) (fun _ _ iv _ => (m - intOf iv).toNat)
    case atStart => exact ⟨0, 0, rfl, rfl, Nat.zero_le _, Lib.hid ⟨⟨[], [], 0, ⟨⟨[], P1.out, fun i hi => by cases hi⟩, OR.nil _ _ _ _, G0.out⟩, FS.nil d, rfl, Nat.le_refl _, fun y hy => (by cases hy), fun x hx => (by cases hx), fun y hy => (by cases hy)⟩, Int.le_refl _, by decide⟩⟩
    case round =>
      clear P1 st
      obtain ⟨i, at_, rfl, rfl, hi, HS⟩ := hrel
      obtain ⟨⟨ts, S, N, HO, HF, hl, hN, hup, hf0, hy0⟩, ha0, ha1⟩ := HS.out
      have HX := Lib.hid (And.intro hl (And.intro hN (And.intro hup (And.intro hf0 hy0))))
      have HO' := Lib.hid HO
      have HF' := Lib.hid HF
      clear HS hl hN hup hf0 hy0 HO HF
      have HO := HO'
      have HF := HF'
      clear HO' HF'
      by_cases hlt : (i : Int) < (m : Int)
      · have ki : (i : Int) < (k : Int) := by omega
        obtain ⟨x, hx⟩ : ∃ x, xs[i]? = some x := ⟨_, List.getElem?_eq_getElem (by have := Hn.out; have := HM.out; omega)⟩
        obtain ⟨y, hy⟩ : ∃ y, ys[i]? = some y := ⟨_, List.getElem?_eq_getElem (by have := Hk.out; omega)⟩
        obtain ⟨a, rfl, cx, wx⟩ := (HA.out.below HO.out.b) i x hx
        obtain ⟨b, rfl, cy, wy⟩ := (HB.out.below HO.out.b) i y hy
        have bx := u16_wf wx
        have by_ := u16_wf wy
        have x0 := bx.1
        have x1 := bx.2
        have y0 := by_.1
        have y1 := by_.2
        have d0 := HD.out.1
        have d1 := HD.out.2
        obtain ⟨sp, hsp⟩ : ∃ sp, min y d = sp := ⟨_, rfl⟩
        have hs0 : 0 ≤ sp ∧ sp ≤ d := by omega
        obtain ⟨t, ht⟩ : ∃ t, at_ + x = t := ⟨_, rfl⟩
        have ht0 : 0 ≤ t ∧ t ≤ 65535 * (i + 1) := by omega
        have w1 : wrap64 t = t := by unfold wrap64; omega
        have w2 : wrap64 (t + sp) = t + sp := by unfold wrap64; omega
        have w3 : wrap64 (t + d) = t + d := by unfold wrap64; omega
        have T1 := Lib.hid (HO.out.takeY (t + sp) 1 0 i 0 sp (by decide) (by have := HX.out.2.1; omega) (t + d) (by
          rw [tk_right (by have := HF.out.len; have := HX.out.1; omega) (by omega) (by omega) (by omega) (by omega) hs0.1 hs0.2 d1]
          exact Prod.ext (by show t + sp + (d - sp) = t + d; omega) rfl))
        obtain ⟨c0, hc0⟩ : ∃ c0 : Int, c0 = i := ⟨_, rfl⟩
        have HT := Lib.hid (And.intro hs0 ht0)
        clear hx hy wx wy bx by_ hs0 ht0 hc0
        go_wp2_with fail
        refine T1.out.mono ?_
        rintro e w4 ⟨rfl, p, hp, O4⟩
        obtain ⟨f1, f2⟩ := HF.out.snoc (a := t) (p := p) (sp := sp) (by obtain ⟨L, P, -⟩ := HO.out.p; exact P.std) HX.out.2.2.2.1 hp (fun z hz => by have := HX.out.2.2.1 z hz; omega) i HX.out.1
        rw [f1] at O4
        have O4 := Lib.hid O4
        have F4 := Lib.hid f2
        have X4 := Lib.hid (show (ts ++ [t]).length = i + 1 ∧ N + 1 ≤ i + 1 ∧ (∀ z ∈ ts ++ [t], z ≤ t) ∧ (∀ z ∈ S ++ [(⟨t + d, 0, 0, p, 1, 0, i, 0, sp⟩ : It)], z.f = 0) ∧ ∀ z ∈ ts ++ [t], 0 ≤ z by
          have hx := HX.out
          refine ⟨by simp [hx.1], by omega, fun z hz => ?_, fun z hz => ?_, fun z hz => ?_⟩
          · rcases List.mem_append.1 hz with h | h
            · have := hx.2.2.1 z h; omega
            · rw [List.mem_singleton] at h; omega
          · rcases List.mem_append.1 hz with h | h
            · exact hx.2.2.2.1 z h
            · rw [List.mem_singleton] at h; rw [h]
          · rcases List.mem_append.1 hz with h | h
            · exact hx.2.2.2.2 z h
            · rw [List.mem_singleton] at h; have := HT.out.2; omega)
        have L4 := Lib.hid (show ts.length ≤ 60 by have := HX.out.1; omega)
        generalize S ++ [(⟨t + d, 0, 0, p, 1, 0, i, 0, sp⟩ : It)] = S4 at *
        clear T1 f1 f2 hp HF HX cx cy hsp ht w1 w2 HO
        go_wp2_with (at_builtin; refine wpList_append_or i64_one _ rfl _ _ rfl (g + 1) _ ts rfl (O4.out.o.alloc _) (some ⟨w4.heap.size, 0, none⟩) 1 1 [t] rfl rfl ?c1 (fun h => by cases h) ?c2 (by decide) ?c3 ?_)
        case c1 => exact one_cl _ _ HT.out.2.1 (by have := HT.out.2.2; omega) _
        case c2 => have := L4.out; omega
        case c3 => obtain ⟨L, P, -⟩ := O4.out.p; have := P.lts; rw [World.size_alloc]; omega
        intro v2 w5 o5 s5
        have O5 := Lib.hid ((O4.out.next (al (Below.refl _ _) _)).row s5 o5)
        clear o5 s5
        go_wp2
        go_roundw
        case rel => exact ⟨i + 1, t, by simp, rfl, by omega, Lib.hid ⟨⟨_, _, _, O5.out, F4.out, X4.out⟩, HT.out.2.1, by have := HT.out.2.2; omega⟩⟩
        case measure => simp only [intOf]; omega
      · have him : i = m := by omega
        have A0 := Lib.hid ha1
        subst him
        clear hlt hi ha0 ha1
        obtain ⟨A2, c2, rfl, hc2, -, -, -⟩ := HO.out.o.form
        have TL := HX.out.1
        have X := Lib.hid HX.out.2.2
        obtain ⟨tl, htl⟩ : ∃ tl, ts.length = tl := ⟨_, rfl⟩
        rw [htl] at TL
        subst TL
        rw [htl]
        have HTL := Lib.hid htl
        have O6 := Lib.hid (show OK w g q j d (.slice A2 tl c2) ts S N wr by have := HO.out; rw [htl] at this; exact this)
        have C6 := Lib.hid hc2
        clear HX hc2 htl HO
        go_wp2
        go_loopw [12, 91] (fun lv iv wr => ∃ (i : Nat) (last : Int), iv = .int .i64 i ∧ lv = .int .i64 last ∧ Hid (i ≤ tl) ∧ Hid (∃ N, OK w g q j d (.slice A2 tl c2) ts (S.drop i) N wr) ∧ Hid (∀ y ∈ ts.drop i, last ≤ y + d)) (fun _ iv _ => (tl - intOf iv).toNat)
        case atStart => exact ⟨0, -1, rfl, rfl, Lib.hid (Nat.zero_le _), Lib.hid ⟨N, O6.out⟩, Lib.hid (fun y hy => by have := X.out.2.2 y hy; have := HD.out.1; omega)⟩
        case round =>
          clear O6 C6
          obtain ⟨i, last, rfl, rfl, HI, HO, HL⟩ := hrel
          obtain ⟨N, O⟩ := HO.out
          have O := Lib.hid O
          clear HO
          by_cases hlt : (i : Int) < (tl : Int)
          · obtain ⟨x, hx⟩ : ∃ x, S[i]? = some x := ⟨_, List.getElem?_eq_getElem (by have := HF.out.len; have := HTL.out; omega)⟩
            obtain ⟨hy, hxy⟩ := HF.out.at_ i x hx
            have hd1 : S.drop i = x :: S.drop (i + 1) := by
              have hi : i < S.length := by have := HF.out.len; have := HTL.out; omega
              rw [List.drop_eq_getElem_cons hi, List.getElem?_eq_getElem hi] at *
              rw [Option.some.inj hx]
            obtain ⟨y, hyy⟩ : ∃ y, x.time - d = y := ⟨_, rfl⟩
            rw [hyy] at hy
            have hym : y ∈ ts := List.mem_of_getElem? hy
            have y0 := X.out.2.2 y hym
            have y1 := X.out.1 y hym
            have hi2 : i < ts.length := by have := HTL.out; omega
            have hd2 : ts.drop i = y :: ts.drop (i + 1) := by
              rw [List.drop_eq_getElem_cons hi2]
              rw [List.getElem?_eq_getElem hi2] at hy
              rw [Option.some.inj hy]
            have hlast : last ≤ y + d := HL.out y (by rw [hd2]; exact List.mem_cons_self)
            have hnext : ∀ z ∈ ts.drop (i + 1), y + d ≤ z + d := fun z hz => by
              have hp := (List.pairwise_cons.1 (hd2 ▸ (HF.out.up.sublist (List.drop_sublist i ts)))).1 z hz
              omega
            have d0 := HD.out.1
            have d1 := HD.out.2
            have yb : y ≤ 3932100 := by have := A0.out; omega
            have O1 := O.out
            rw [hd1] at O1
            obtain ⟨x0, x1, x2, x3, x4, x5, x6, x7, x8⟩ := x
            dsimp only at hyy hxy
            obtain rfl : x0 = y + d := by omega
            obtain rfl := hxy
            have G1 := O1.give 1125899906842624 (by show y + d ≤ 1125899906842624; omega)
            dsimp only [It.thing] at G1
            have G1 := Lib.hid G1
            have w3 : wrap64 (y + d) = y + d := by unfold wrap64; omega
            have HN := Lib.hid hnext
            have YY := Lib.hid hy
            have nl : ¬ y + d < last := by omega
            clear hx hy hd1 hd2 hyy hym hi2 hnext hlast y1 O1 O HL
            go_wp2_with fail
            refine G1.out.mono ?_
            rintro e w4 ⟨rfl, O2⟩
            have O3 := Lib.hid (O2.next (al (Below.refl _ _) (cbx x4 x5 i x7 x8)))
            obtain ⟨z0, z1, z2, z3, z4⟩ := QueueW.cells5 (heap_alloc_new w4 (cbx x4 x5 i x7 x8))
            obtain ⟨a, rfl, ca, -⟩ := or_cl O3.out.o i y YY.out
            clear O2 G1
            go_wp2
            go_roundw
            case rel => exact ⟨i + 1, y + d, by simp, rfl, Lib.hid (by omega), Lib.hid ⟨N, O3.out⟩, HN⟩
            case measure => simp only [intOf]; omega
          · have LN := O.out.len
            rw [show (S.drop i).length = 0 by rw [List.length_drop, HF.out.len, HTL.out]; omega] at LN
            have LN := Lib.hid LN
            go_wp2_with (go_at_call 19; refine LN.out.mono ?_; rintro e w' ⟨rfl, hw⟩; obtain rfl := hw.symm)
            go_ret
            exact ⟨rfl, O.out.b⟩
set_option maxRecDepth 100000 in
/-- What the walk gives, for every argument and every world. -/
theorem contract (H : Type) (enc : TypeId × Value → H) (W : World) (base : Nat) (args : Array Value) (ds gs : List (DataW H)) (before : List MemPlace)
    (hval : ∀ (j : Nat) t v, Try.f4.params[j]? = some t → args[j]? = some v → Value.okWide Try.prog W .any base t v)
    (hW : DataW.Whole enc Try.prog Try.f4.params.toList Rows.permOrdersSpec.vars false W args.toList ds gs before) : 
    Calls Try.prog 4 args W fun e W' => ∃ v, e = .returned v ∧ Rows.permOrdersSpec.post enc Try.prog Try.f4 false true false false W args v W' := by
  have hW' := hW
  obtain ⟨p, q, hA0, hV, rfl, hfz, hnd⟩ := hW
  have hA : DataW.TrodAll enc Try.prog W 0 (fun _ => true) true Try.f4.params.toList args.toList ds p := hA0
  rw [Try.params4] at hA hval
  obtain ⟨v0, vs0, d0, ds0, p0, q0, hargs, rfl, rfl, h0, r0⟩ := trodAll_cons hA
  obtain ⟨v1, vs1, d1, ds1, p1, q1, rfl, rfl, rfl, h1, r1⟩ := trodAll_cons r0
  obtain ⟨v2, vs2, d2, ds2, p2, q2, rfl, rfl, rfl, h2, r2⟩ := trodAll_cons r1
  obtain ⟨rfl, rfl, rfl⟩ := trodAll_nil r2
  obtain rfl : args = #[v0, v1, v2] := by cases args; simp_all
  obtain ⟨rfl, rfl⟩ := trodVars_none hV
  obtain ⟨d, rfl, rfl, rfl, w0⟩ := open_int Try.underlying2 (hval 0 2 v0 rfl rfl) h0
  obtain ⟨A1, s, c1, rfl, f1, l1, lc1, sz1, nl1⟩ := Shell.open_nums (q := .u16) Try.underlying55 Try.underlying57 (by kernel_rfl) (hval 1 55 v1 rfl rfl) h1
  obtain ⟨A2, k, c2, rfl, f2, l2, lc2, sz2, nl2⟩ := Shell.open_nums (q := .u16) Try.underlying55 Try.underlying57 (by kernel_rfl) (hval 2 55 v2 rfl rfl) h2
  refine (walk d A1 A2 s k c1 c2 W f1 f2 lc1 lc2).mono fun e W' ⟨he, hb⟩ => ?_
  exact ⟨_, he, Shell.post_law laidOut (by kernel_rfl) rfl Try.underlying4 rfl hW' rfl hb⟩
theorem reads (os : Os) {H : Type} (enc : TypeId × Value → H) : ∃ places, DataW.whole enc Try.prog ((World.holding Try.prog os ⟨#[], #[], []⟩).forCall (fun _ _ => 0) ⟨#[], #[.int .i64 0, .slice none 0 0, .slice none 0 0], []⟩).memory Try.f4.params.toList Rows.permOrdersSpec.vars false (#[Value.int .i64 0, Value.slice none 0 0, Value.slice none 0 0]).toList 8 = some ([.lit (.int .i64 0), .nil, .nil], [], places) :=
  ⟨[], by kernel_rfl⟩
set_option maxRecDepth 100000 in
theorem lifted (os : Os) (started : os.Started) (H : Type) (enc : TypeId × Value → H) (F : Stop.Interp) :
    ReturnsInHanded {} Try.checked os 4 .any ((OpenSpec.ofChange Rows.permOrdersSpec).preRow enc Try.prog Try.f4 Rows.permOrdersRow.domain false Rows.permOrdersRow.laid) (((OpenSpec.ofChange Rows.permOrdersSpec).at F).post enc Try.prog Try.f4 false true false false) := by
  obtain ⟨places, hx⟩ := reads os enc
  refine returnsInHanded_of_row (C := Try.checked) (s := OpenSpec.ofChange Rows.permOrdersSpec) own started (by kernel_rfl) Try.func4
    (witness_row_atRef (enc := enc) (C := Try.checked) false (World.holding Try.prog os ⟨#[], #[], []⟩) #[.int .i64 0, .slice none 0 0, .slice none 0 0] rfl (by kernel_rfl) (by kernel_rfl) (by kernel_rfl)
      (OpenSpec.preRow_of_cond 8 hx (by kernel_rfl) (fun k hk => by cases hk) (by kernel_rfl) (laid_met os _))) ?_
  intro W base args ds gs before hval hW _ _ _ hL _ _
  exact contract H enc W base args ds gs before hval hW
theorem said : Rows.PermOrdersSaid :=
  OpenClaim.holds_of_cond 4 Try.f4 rfl rfl rfl rfl rfl rfl rfl ⟨rfl, rfl, rfl, rfl, rfl⟩ rfl rfl rfl rfl rfl (by kernel_rfl) Try.func4 (by kernel_rfl)
    (of_decide_eq_true (by kernel_rfl)) (by unfold Func.isWrapper; first | (rw [if_pos (by decide +kernel)]; kernel_rfl) | (rw [if_neg (by decide +kernel)]; exact ⟨rfl, rfl⟩))
    (fun os started H enc _ F => by rw [OpenClaim.pre_eq_preRow]; exact lifted os started H enc F)
end Go.Proofs.Ytmkgnkbcdkcboaa.PermW.PermOrders
