/- A hold, its queue, its clock and the document's own list, kept together while the world goes on. -/
import Derived.Test.YtmkgnkbcdkcboaaPermG
namespace Go.Proofs.Ytmkgnkbcdkcboaa.PermW
open Go.RowKit Shell
open QueueW hiding al cell_keep
open ClockW (CK CI RV tell tell_iff sh wh okR okB okR_iff okB_iff)
open FrameW (CV rightC)
/-- What Take answers, when n frames are held. -/
def tkA (m b r d : Int) (n : Nat) (t k f y c l : Int) : Int × Int :=
  if ¬ rightC k f y c l then (0, 1) else if d < l then (0, 4) else if (du m b r t l d (tell m t)).2 ≠ 0 then (0, (du m b r t l d (tell m t)).2)
  else if 64 ≤ n then (0, 6) else ((du m b r t l d (tell m t)).1, 0)
/-- The frames that are held behind it. -/
def tkS (p m b r d t k f y c l : Int) (S : List It) : List It :=
  if (tkA m b r d S.length t k f y c l).2 = 0 then ins ⟨(tkA m b r d S.length t k f y c l).1, f, 0, p, k, f, y, c, l⟩ S else S
theorem tkS_no {p m b r d t k f y c l : Int} {S : List It} (h : ¬ (tkA m b r d S.length t k f y c l).2 = 0) : tkS p m b r d t k f y c l S = S := if_neg h
theorem tkS_yes {p m b r d t k f y c l : Int} {S : List It} (h : (tkA m b r d S.length t k f y c l).2 = 0) : tkS p m b r d t k f y c l S = ins ⟨(tkA m b r d S.length t k f y c l).1, f, 0, p, k, f, y, c, l⟩ S := if_pos h
theorem tkA_room {m b r d t k f y c l : Int} {n : Nat} (h : (tkA m b r d n t k f y c l).2 = 0) : n < 64 := by
  unfold tkA at h
  by_cases h1 : rightC k f y c l
  · rw [if_neg (not_not_intro h1)] at h
    by_cases h2 : d < l
    · rw [if_pos h2] at h; simp at h
    · rw [if_neg h2] at h
      by_cases h3 : (du m b r t l d (tell m t)).2 = 0
      · rw [if_neg (not_not_intro h3)] at h
        by_cases h4 : 64 ≤ n
        · rw [if_pos h4] at h; simp at h
        · omega
      · rw [if_pos h3] at h; exact absurd h h3
  · rw [if_pos h1] at h; simp at h
theorem tkS_std {p m b r d t k f y c l : Int} {S : List It} (h : Std S) : Std (tkS p m b r d t k f y c l S) := by
  unfold tkS
  split
  · exact ins_std ⟨rfl, rfl⟩ h
  · exact h
theorem tkS_few {p m b r d t k f y c l : Int} {S : List It} (h : S.length ≤ 64) : (tkS p m b r d t k f y c l S).length ≤ 64 := by
  by_cases g : (tkA m b r d S.length t k f y c l).2 = 0
  · rw [tkS_yes g, ins_length]
    have := tkA_room g
    omega
  · rw [tkS_no g]; exact h
theorem take_any {w : World} {h q j : Nat} {d n : Int} {v : Value} {S : List It} {m b r : Int} (H : HK w h q d n v S) (C : CK w j m b r) (hi : CI m b r) (t k f y c l : Int) (hc : 0 ≤ c) (hn : 0 ≤ n ∧ n < 4611686018427387904) :
    Calls Try.prog 11 #[.pointer (some ⟨h, 0, none⟩), .pointer (some ⟨j, 0, none⟩), .int .i64 t, CV k f y c l] w fun e w' => e = .returned (duT (tkA m b r d S.length t k f y c l)) ∧
      ∃ n' v', HK w' h q d n' v' (tkS n m b r d t k f y c l S) ∧ (n ≤ n' ∧ n' ≤ n + 1) ∧ (∀ i, v'.ownBlock = some i → v.ownBlock = some i ∨ w.heap.size ≤ i) ∧ Chg (fun i => i = q ∨ v.ownBlock = some i) w w' := by
  have no : ∀ x : Int × Int, tkA m b r d S.length t k f y c l = x → ¬ x.2 = 0 → ∀ w', Below w.heap.size w w' → (∃ n' v', HK w' h q d n' v' (tkS n m b r d t k f y c l S) ∧ (n ≤ n' ∧ n' ≤ n + 1) ∧ (∀ i, v'.ownBlock = some i → v.ownBlock = some i ∨ w.heap.size ≤ i) ∧ Chg (fun i => i = q ∨ v.ownBlock = some i) w w') := by
    intro x hx h0 w' hb
    rw [tkS_no (by rw [hx]; exact h0)]
    exact ⟨n, v, H.below hb, ⟨Int.le_refl _, by omega⟩, fun i hi => Or.inl hi, Chg.of hb⟩
  by_cases h1 : rightC k f y c l
  · by_cases h2 : d < l
    · have e : tkA m b r d S.length t k f y c l = (0, 4) := by unfold tkA; rw [if_neg (not_not_intro h1), if_pos h2]
      refine (take_above H C hi t k f y c l hc h1 h2).mono ?_
      rintro e' w' ⟨rfl, hb⟩
      exact ⟨by rw [e], no _ e (by decide) w' hb⟩
    · obtain ⟨a, ha⟩ : ∃ a, du m b r t l d (tell m t) = a := ⟨_, rfl⟩
      obtain ⟨a0, a1⟩ := a
      by_cases h3 : a1 = 0
      · subst h3
        by_cases h4 : 64 ≤ S.length
        · have e : tkA m b r d S.length t k f y c l = (0, 6) := by unfold tkA; rw [if_neg (not_not_intro h1), if_neg h2, ha, if_neg (by simp), if_pos h4]
          refine (take_full H C hi t k f y c l hc h1 h2 a0 ha (by omega)).mono ?_
          rintro e' w' ⟨rfl, hb⟩
          exact ⟨by rw [e], no _ e (by decide) w' hb⟩
        · have e : tkA m b r d S.length t k f y c l = (a0, 0) := by unfold tkA; rw [if_neg (not_not_intro h1), if_neg h2, ha, if_neg (by simp), if_neg h4]
          refine (take_ok H C hi t k f y c l hc h1 h2 a0 ha (by omega) hn).mono ?_
          rintro e' w' ⟨rfl, v', hk, ho, hg⟩
          refine ⟨by rw [e], n + 1, v', ?_, ⟨by omega, Int.le_refl _⟩, ho, hg⟩
          rw [tkS_yes (by rw [e]), e]
          exact hk
      · have e : tkA m b r d S.length t k f y c l = (0, a1) := by unfold tkA; rw [if_neg (not_not_intro h1), if_neg h2, ha, if_pos h3]
        refine (take_err H C hi t k f y c l hc h1 h2 a0 a1 ha h3).mono ?_
        rintro e' w' ⟨rfl, hb⟩
        exact ⟨by rw [e], no _ e h3 w' hb⟩
  · have e : tkA m b r d S.length t k f y c l = (0, 1) := by unfold tkA; rw [if_pos h1]
    refine (take_wrong H C hi t k f y c l hc h1).mono ?_
    rintro e' w' ⟨rfl, hb⟩
    exact ⟨by rw [e], no _ e (by decide) w' hb⟩
theorem refTake_any (m b r t d k f y c l : Int) (S : List It) (A : Option Addr) (cp : Nat) (hc : 0 ≤ c) (hi : CI m b r) (w : World) (hA : HL w A S) (h64 : S.length ≤ 64) (hs : Std S) (p : Int) (hp : ∀ x ∈ S, x.place < p) (ha : ∀ a, A = some a → a.block < w.heap.size) (hcp : S.length ≤ cp) :
    Calls Try.prog 12 #[.slice A S.length cp, .int .i64 d, RV m b r, .int .i64 t, CV k f y c l] w fun e w' =>
      ∃ A' cp', e = .returned (.tuple #[.slice A' (tkS p m b r d t k f y c l S).length cp', .int .i64 (tkA m b r d S.length t k f y c l).1, .int .i64 (tkA m b r d S.length t k f y c l).2]) ∧
        HL w' A' (tkS p m b r d t k f y c l S) ∧ (∀ a, A' = some a → (A = some a ∨ w.heap.size ≤ a.block) ∧ a.block < w'.heap.size) ∧ (tkS p m b r d t k f y c l S).length ≤ cp' ∧ Below w.heap.size w w' := by
  have no : ∀ x : Int × Int, tkA m b r d S.length t k f y c l = x → ¬ x.2 = 0 → ∀ w', Below w.heap.size w w' → (∃ A' cp', (Ending.returned (.tuple #[.slice A S.length cp, .int .i64 x.1, .int .i64 x.2])) = .returned (.tuple #[.slice A' (tkS p m b r d t k f y c l S).length cp', .int .i64 (tkA m b r d S.length t k f y c l).1, .int .i64 (tkA m b r d S.length t k f y c l).2]) ∧
        HL w' A' (tkS p m b r d t k f y c l S) ∧ (∀ a, A' = some a → (A = some a ∨ w.heap.size ≤ a.block) ∧ a.block < w'.heap.size) ∧ (tkS p m b r d t k f y c l S).length ≤ cp' ∧ Below w.heap.size w w') := by
    intro x hx h0 w' hb
    rw [tkS_no (by rw [hx]; exact h0), hx]
    exact ⟨A, cp, rfl, hA.below hb, fun a e => ⟨Or.inl e, Nat.lt_of_lt_of_le (ha a e) hb.size⟩, hcp, hb⟩
  by_cases h1 : rightC k f y c l
  · by_cases h2 : d < l
    · have e : tkA m b r d S.length t k f y c l = (0, 4) := by unfold tkA; rw [if_neg (not_not_intro h1), if_pos h2]
      refine (refTake_above m b r t d k f y c l A S.length cp hc hi w h1 h2).mono ?_
      rintro e' w' ⟨rfl, hb⟩
      exact no _ e (by decide) w' hb
    · obtain ⟨a, hd⟩ : ∃ a, du m b r t l d (tell m t) = a := ⟨_, rfl⟩
      obtain ⟨a0, a1⟩ := a
      by_cases h3 : a1 = 0
      · subst h3
        by_cases h4 : 64 ≤ S.length
        · have e : tkA m b r d S.length t k f y c l = (0, 6) := by unfold tkA; rw [if_neg (not_not_intro h1), if_neg h2, hd, if_neg (by simp), if_pos h4]
          refine (refTake_full m b r t d k f y c l A S.length cp hc hi w h1 h2 a0 hd (by omega)).mono ?_
          rintro e' w' ⟨rfl, hb⟩
          exact no _ e (by decide) w' hb
        · have e : tkA m b r d S.length t k f y c l = (a0, 0) := by unfold tkA; rw [if_neg (not_not_intro h1), if_neg h2, hd, if_neg (by simp), if_neg h4]
          refine (refTake_ok m b r t d k f y c l S A S.length cp hc hi w h1 h2 a0 hd (by omega) rfl hA p).mono ?_
          rintro e' w' ⟨A', ⟨cp', rfl, hc2⟩, hl, hx, hb⟩
          rw [fold_ins ⟨a0, f, 0, p, k, f, y, c, l⟩ ⟨rfl, rfl⟩ S [] hs hp, List.nil_append] at hl
          rw [tkS_yes (by rw [e]), e]
          refine ⟨A', cp', ?_, hl, fun a ha => ⟨Or.inr (hx a ha).1, (hx a ha).2⟩, by rw [ins_length]; exact hc2, hb⟩
          rw [ins_length]
      · have e : tkA m b r d S.length t k f y c l = (0, a1) := by unfold tkA; rw [if_neg (not_not_intro h1), if_neg h2, hd, if_pos h3]
        refine (refTake_err m b r t d k f y c l A S.length cp hc hi w h1 h2 a0 a1 hd h3).mono ?_
        rintro e' w' ⟨rfl, hb⟩
        exact no _ e h3 w' hb
  · have e : tkA m b r d S.length t k f y c l = (0, 1) := by unfold tkA; rw [if_pos h1]
    refine (refTake_wrong m b r t d k f y c l A S.length cp hc hi w h1).mono ?_
    rintro e' w' ⟨rfl, hb⟩
    exact no _ e (by decide) w' hb
/-- A hold (box h, queue q), its clock (j), other boxes (L), the document's own list (T at A). -/
structure PW (w0 : World) (L : List (Nat × Obj)) (h q j : Nat) (d m b r : Int) (S : List It) (N : Nat) (A : Option Addr) (T : List It) (w : World) : Prop where
  st : Stay w0 L w
  hold : ∃ n v, HK w h q d n v S ∧ (0 ≤ n ∧ n ≤ N) ∧ (∀ i, v.ownBlock = some i → w0.heap.size ≤ i ∧ i ≠ j ∧ (∀ x ∈ L, x.1 ≠ i) ∧ (∀ a, A = some a → a.block ≠ i))
  ck : CK w j m b r
  ci : CI m b r
  q0 : w0.heap.size ≤ q
  j0 : w0.heap.size ≤ j
  jq : j ≠ q
  hj : h ≠ j
  lq : ∀ x ∈ L, x.1 ≠ q ∧ x.1 ≠ j
  li : HL w A T
  lb : ∀ a, A = some a → a.block ≠ q ∧ a.block ≠ j ∧ a.block < w.heap.size
  std : Std S
  few : S.length ≤ 64
section
variable {w0 : World} {L : List (Nat × Obj)} {h q j : Nat} {d m b r : Int} {S : List It} {N : Nat} {A : Option Addr} {T : List It} {w : World}
theorem PW.next (P : PW w0 L h q j d m b r S N A T w) {w1 : World} (hb : Below w.heap.size w w1) : PW w0 L h q j d m b r S N A T w1 := by
  obtain ⟨n, v, hk, hn, ho⟩ := P.hold
  exact ⟨P.st.next hb, ⟨n, v, hk.below hb, hn, ho⟩, P.ck.below hb, P.ci, P.q0, P.j0, P.jq, P.hj, P.lq, P.li.below hb, fun a ha => ⟨(P.lb a ha).1, (P.lb a ha).2.1, Nat.lt_of_lt_of_le (P.lb a ha).2.2 hb.size⟩, P.std, P.few⟩
theorem PW.drew (P : PW w0 L h q j d m b r S N A T w) : PW w0 L h q j d m b r S N A T w.drew := P.next (Below.refl _ _).drew
theorem PW.sub (P : PW w0 L h q j d m b r S N A T w) {M : List (Nat × Obj)} (hM : ∀ x ∈ M, x ∈ L) : PW w0 M h q j d m b r S N A T w := by
  obtain ⟨n, v, hk, hn, ho⟩ := P.hold
  exact ⟨P.st.sub hM, ⟨n, v, hk, hn, fun i hi => ⟨(ho i hi).1, (ho i hi).2.1, fun x hx => (ho i hi).2.2.1 x (hM x hx), (ho i hi).2.2.2⟩⟩, P.ck, P.ci, P.q0, P.j0, P.jq, P.hj, fun x hx => P.lq x (hM x hx), P.li, P.lb, P.std, P.few⟩
theorem PW.lts (P : PW w0 L h q j d m b r S N A T w) : q < w.heap.size ∧ j < w.heap.size ∧ h < w.heap.size := by
  obtain ⟨n, v, hk, -, -⟩ := P.hold
  exact ⟨hk.q.lt.1, P.ck.lt, lt_heap hk.box⟩
theorem PW.alloc (P : PW w0 L h q j d m b r S N A T w) (o : Obj) : PW w0 ((w.heap.size, o) :: L) h q j d m b r S N A T (w.alloc o) := by
  have P1 := P.next (al (Below.refl _ _) o)
  obtain ⟨n, v, hk, hn, ho⟩ := P1.hold
  obtain ⟨n0, v0, hk0, hn0, ho0⟩ := P.hold
  have lt := P.lts
  refine ⟨P1.st.add (heap_alloc_new w o), ⟨n0, v0, hk0.below (al (Below.refl _ _) o), hn0, fun i hi => ⟨(ho0 i hi).1, (ho0 i hi).2.1, fun x hx => ?_, (ho0 i hi).2.2.2⟩⟩, P1.ck, P.ci, P.q0, P.j0, P.jq, P.hj, fun x hx => ?_, P1.li, P1.lb, P.std, P.few⟩
  · rcases List.mem_cons.1 hx with rfl | hx
    · have := hk0.q.lt.2 i hi
      exact fun e => by have : w.heap.size = i := e; omega
    · exact (ho0 i hi).2.2.1 x hx
  · rcases List.mem_cons.1 hx with rfl | hx
    · exact ⟨fun e => by have : w.heap.size = q := e; omega, fun e => by have : w.heap.size = j := e; omega⟩
    · exact P.lq x hx
/-- A turn of the hold alone. -/
theorem PW.turn (P : PW w0 L h q j d m b r S N A T w) {w1 : World} {S1 : List It} {n n1 : Int} {v v1 : Value} (_hk : HK w h q d n v S) (ho : ∀ i, v.ownBlock = some i → w0.heap.size ≤ i ∧ i ≠ j ∧ (∀ x ∈ L, x.1 ≠ i) ∧ (∀ a, A = some a → a.block ≠ i))
    (hk1 : HK w1 h q d n1 v1 S1) {N1 : Nat} (hn : 0 ≤ n1 ∧ n1 ≤ N1) (hv : ∀ i, v1.ownBlock = some i → v.ownBlock = some i ∨ w.heap.size ≤ i) (c : Chg (fun i => i = q ∨ v.ownBlock = some i) w w1) (std : Std S1) (few : S1.length ≤ 64) : PW w0 L h q j d m b r S1 N1 A T w1 := by
  have lt := P.lts
  refine ⟨⟨P.st.b.trans (c.below (fun i hi => ?_) P.st.b.size), fun x hx => c.heap (P.st.h x hx) (fun e => ?_)⟩, ⟨n1, v1, hk1, hn, fun i hi => ?_⟩, c.heap P.ck (fun e => ?_), P.ci, P.q0, P.j0, P.jq, P.hj, P.lq, P.li.block c.size (fun a ha => ?_), fun a ha => ⟨(P.lb a ha).1, (P.lb a ha).2.1, Nat.lt_of_lt_of_le (P.lb a ha).2.2 c.size⟩, std, few⟩
  · intro e
    have q0 := P.q0
    rcases e with e | e
    · have e : i = q := e
      omega
    · have := (ho i e).1; omega
  · rcases e with e | e
    · exact (P.lq x hx).1 e
    · exact (ho _ e).2.2.1 x hx rfl
  · rcases hv i hi with e | e
    · exact ho i e
    · have s0 := P.st.b.size
      refine ⟨by omega, by omega, fun x hx e2 => ?_, fun a ha e2 => ?_⟩
      · have := lt_of_heap (P.st.h x hx); omega
      · have := (P.lb a ha).2.2; omega
  · rcases e with e | e
    · exact P.jq e
    · exact (ho _ e).2.1 rfl
  · refine c.block a.block (P.lb a ha).2.2 (fun e => ?_)
    rcases e with e | e
    · exact (P.lb a ha).1 e
    · exact (ho _ e).2.2.2 a ha rfl
theorem PW.take (P : PW w0 L h q j d m b r S N A T w) (t k f y c l : Int) (hc : 0 ≤ c) (hN : N < 4611686018427387904) :
    Calls Try.prog 11 #[.pointer (some ⟨h, 0, none⟩), .pointer (some ⟨j, 0, none⟩), .int .i64 t, CV k f y c l] w fun e w' => e = .returned (duT (tkA m b r d S.length t k f y c l)) ∧
      ∃ p : Int, (∀ x ∈ S, x.place < p) ∧ PW w0 L h q j d m b r (tkS p m b r d t k f y c l S) (N + 1) A T w' := by
  obtain ⟨n, v, hk, hn, ho⟩ := P.hold
  refine (take_any hk P.ck P.ci t k f y c l hc ⟨hn.1, by omega⟩).mono ?_
  rintro e w' ⟨rfl, n', v', hk', hn', hv, hg⟩
  exact ⟨rfl, n, hk.q.old, P.turn hk ho hk' ⟨by omega, by omega⟩ hv hg (tkS_std P.std) (tkS_few P.few)⟩
theorem PW.give {x : It} (P : PW w0 L h q j d m b r (x :: S) N A T w) (t : Int) (hx : x.time ≤ t) :
    Calls Try.prog 13 #[.pointer (some ⟨h, 0, none⟩), .int .i64 t] w fun e w' => e = .returned (.tuple #[x.thing, .int .i64 x.time, .bool true]) ∧ PW w0 L h q j d m b r S N A T w' := by
  obtain ⟨n, v, hk, hn, ho⟩ := P.hold
  refine (give_some hk t hx).mono ?_
  rintro e w' ⟨rfl, v', hk', hv, hg⟩
  exact ⟨rfl, P.turn hk ho hk' hn (fun i hi => Or.inl (hv ▸ hi)) hg (fun y hy => P.std y (List.mem_cons_of_mem _ hy)) (by have := P.few; simp only [List.length_cons] at this; omega)⟩
theorem PW.give_later {x : It} (P : PW w0 L h q j d m b r (x :: S) N A T w) (t : Int) (hx : t < x.time) :
    Calls Try.prog 13 #[.pointer (some ⟨h, 0, none⟩), .int .i64 t] w fun e w' => e = .returned (.tuple #[CV 0 0 0 0 0, .int .i64 0, .bool false]) ∧ PW w0 L h q j d m b r (x :: S) N A T w' := by
  obtain ⟨n, v, hk, hn, ho⟩ := P.hold
  refine (PermW.give_later hk t hx).mono ?_
  rintro e w' ⟨rfl, hb⟩
  exact ⟨rfl, P.next hb⟩
theorem PW.give_none (P : PW w0 L h q j d m b r [] N A T w) (t : Int) :
    Calls Try.prog 13 #[.pointer (some ⟨h, 0, none⟩), .int .i64 t] w fun e w' => e = .returned (.tuple #[CV 0 0 0 0 0, .int .i64 0, .bool false]) ∧ PW w0 L h q j d m b r [] N A T w' := by
  obtain ⟨n, v, hk, hn, ho⟩ := P.hold
  refine (PermW.give_none hk t).mono ?_
  rintro e w' ⟨rfl, hb⟩
  exact ⟨rfl, P.next hb⟩
theorem PW.nxt (P : PW w0 L h q j d m b r S N A T w) :
    Calls Try.prog 18 #[.pointer (some ⟨h, 0, none⟩)] w fun e w' => e = .returned (PermW.nxt S) ∧ PW w0 L h q j d m b r S N A T w' := by
  obtain ⟨n, v, hk, hn, ho⟩ := P.hold
  refine (next_any hk).mono ?_
  rintro e w' ⟨rfl, hb⟩
  exact ⟨rfl, P.next hb⟩
theorem PW.len (P : PW w0 L h q j d m b r S N A T w) :
    Calls Try.prog 19 #[.pointer (some ⟨h, 0, none⟩)] w fun e w' => e = .returned (.int .i64 (S.length : Nat)) ∧ w = w' := by
  obtain ⟨n, v, hk, hn, ho⟩ := P.hold
  exact len_any hk
theorem PW.due (P : PW w0 L h q j d m b r S N A T w) (t cl dd : Int) :
    Calls Try.prog 20 #[.pointer (some ⟨j, 0, none⟩), .int .i64 t, .int .i64 cl, .int .i64 dd] w fun e w' => e = .returned (duT (du m b r t cl dd (tell m t))) ∧ PW w0 L h q j d m b r S N A T w' := by
  refine (due_any j m b r t cl dd w P.ck P.ci).mono ?_
  rintro e w' ⟨rfl, hb⟩
  exact ⟨rfl, P.next hb⟩
/-- A turn of the clock alone. -/
theorem PW.tick (P : PW w0 L h q j d m b r S N A T w) {w1 : World} {m1 b1 r1 : Int} (kp : Kept j w w1) (c : CK w1 j m1 b1 r1) (ci : CI m1 b1 r1) : PW w0 L h q j d m1 b1 r1 S N A T w1 := by
  obtain ⟨n, v, hk, hn, ho⟩ := P.hold
  have g : Chg (fun i => i = j) w w1 := ⟨kp.os, kp.tape, kp.output, kp.size, fun i hi hx => kp.block i hx hi⟩
  exact ⟨⟨P.st.b.trans (kp.below P.j0 P.st.b.size), fun x hx => (kp.block x.1 (P.lq x hx).2 (lt_of_heap (P.st.h x hx))).trans (P.st.h x hx)⟩,
    ⟨n, v, hk.frame g P.hj (fun e => P.jq e.symm) (fun i hi => (ho i hi).2.1), hn, ho⟩, c, ci, P.q0, P.j0, P.jq, P.hj, P.lq,
    P.li.block kp.size (fun a ha => kp.block a.block (P.lb a ha).2.1 (P.lb a ha).2.2), fun a ha => ⟨(P.lb a ha).1, (P.lb a ha).2.1, Nat.lt_of_lt_of_le (P.lb a ha).2.2 kp.size⟩, P.std, P.few⟩
/-- Another list of the document's own. -/
theorem PW.list (P : PW w0 L h q j d m b r S N A T w) {A1 : Option Addr} {T1 : List It} {w1 : World} (hb : Below w.heap.size w w1) (li : HL w1 A1 T1) (ha : ∀ a, A1 = some a → (A = some a ∨ w.heap.size ≤ a.block) ∧ a.block < w1.heap.size) : PW w0 L h q j d m b r S N A1 T1 w1 := by
  have lt := P.lts
  have P1 := P.next hb
  obtain ⟨n, v, hk, hn, ho⟩ := P.hold
  refine ⟨P1.st, ⟨n, v, hk.below hb, hn, fun i hi => ⟨(ho i hi).1, (ho i hi).2.1, (ho i hi).2.2.1, fun a e => ?_⟩⟩, P1.ck, P.ci, P.q0, P.j0, P.jq, P.hj, P.lq, li, fun a e => ?_, P.std, P.few⟩
  · rcases (ha a e).1 with e | e
    · exact (ho i hi).2.2.2 a e
    · have := hk.q.lt.2 i hi; omega
  · rcases (ha a e).1 with e2 | e2
    · exact ⟨(P.lb a e2).1, (P.lb a e2).2.1, (ha a e).2⟩
    · exact ⟨by omega, by omega, (ha a e).2⟩
end
/-- A clock behind Rate, and behind Set. -/
def rt (m b r t r' : Int) : Int × Int × Int := if tell m t && okR r' then (t, sh m b r t, r') else (m, b, r)
def se (m b r t b' : Int) : Int × Int × Int := if tell m t && okB b' then (t, b', r) else (m, b, r)
end Go.Proofs.Ytmkgnkbcdkcboaa.PermW
