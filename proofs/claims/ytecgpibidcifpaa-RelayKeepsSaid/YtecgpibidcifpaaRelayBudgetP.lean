/- The frames of a rated link that go on: plain mathematics. -/
import Derived.Test.YtecgpibidcifpaaRelayKJa
namespace Go.Proofs.Ytecgpibidcifpaa.RelayW
open Shell
open ConfW (Cfg R4 chk)
open BucketW (Bk pas tk b0 fit Lim)
open FrameW (rdE)
/-- Does this frame go on, and is it of link k? -/
def hits (c : Cfg) (bs : List Bk) (k : Nat) (o : Op) : Bool := decide ((jd c bs o.t o.lc o.fr o.l).w = 0) && (decide ((dt o.l).c = 2) && decide ((dt o.l).l = (k : Int)))
/-- The times of those that went on. -/
def tms (c : Cfg) (ops : List Op) (k : Nat) : Nat → List Int
  | 0 => []
  | i + 1 => match ops[i]? with | some o => if hits c (runB c ops i) k o then tms c ops k i ++ [o.t] else tms c ops k i | none => tms c ops k i
theorem tms_at (c : Cfg) {ops : List Op} (k : Nat) {i : Nat} {o : Op} (h : ops[i]? = some o) : tms c ops k (i + 1) = if hits c (runB c ops i) k o then tms c ops k i ++ [o.t] else tms c ops k i := by rw [tms, h]
theorem tms_len (c : Cfg) (ops : List Op) (k : Nat) : ∀ i, (tms c ops k i).length ≤ i
  | 0 => Nat.le_refl _
  | i + 1 => by
    have h := tms_len c ops k i
    rw [tms]
    cases ops[i]? with
    | none => dsimp only; omega
    | some o =>
      dsimp only
      split
      · simp; omega
      · omega
theorem hits_iff {c : Cfg} {bs : List Bk} {k : Nat} {o : Op} : hits c bs k o = true ↔ (jd c bs o.t o.lc o.fr o.l).w = 0 ∧ (dt o.l).c = 2 ∧ (dt o.l).l = (k : Int) := by
  unfold hits
  simp only [Bool.and_eq_true, decide_eq_true_eq]
/-- One that hits has asked its link's bucket, and passed. -/
theorem hits_pas {c : Cfg} {bs : List Bk} {k : Nat} {o : Op} {e : R4} (he : c.links[k]? = some e) (h : hits c bs k o = true) : askv c o.fr (rdE o.l) (dt o.l) = some e ∧ pas c.delay (bkt bs (dt o.l)) o.t = true ∧ (jd c bs o.t o.lc o.fr o.l).u = e.b := by
  obtain ⟨h1, h2, h3⟩ := hits_iff.1 h
  unfold jd jv at h1 ⊢
  by_cases h0 : rdE o.l = 0
  · rw [if_pos h0, if_neg (by omega), if_neg (by omega)] at h1 ⊢
    have hl : lnkAt c (dt o.l).l = some e := by unfold lnkAt; rw [h3, Int.toNat_natCast]; exact he
    unfold vR at h1 ⊢
    cases ha : asks c o.fr (dt o.l) with
    | none => rw [ha] at h1; simp at h1
    | some e' =>
      rw [ha] at h1
      dsimp only at h1 ⊢
      have hee : e' = e := by
        unfold asks at ha
        rw [hl] at ha
        dsimp only at ha
        split at ha
        · exact (Option.some.inj ha).symm
        · cases ha
      subst hee
      cases hp : pas c.delay (bkt bs (dt o.l)) o.t with
      | false => rw [hp] at h1; simp at h1
      | true => exact ⟨by unfold askv; rw [if_pos h0, if_neg (by omega), if_neg (by omega), ha], rfl, by rw [if_pos rfl]⟩
  · rw [if_neg h0] at h1; simp at h1
/-- What is known of a link's bucket and of those that went on. -/
structure Bud (c : Cfg) (ops : List Op) (k : Nat) (e : R4) (i : Nat) (s : Bk) : Prop where
  n : s.n = (tms c ops k i).length
  l : ∀ p, (tms c ops k i).getLast? = some p → p = s.l
  m : Lim e.c c.delay (tms c ops k i) s.m
  f : ∀ p ∈ tms c ops k i, BucketW.far p = false
theorem bud_run {c : Cfg} (hz : chk c = 0) (ops : List Op) {k : Nat} {e : R4} (he : c.links[k]? = some e) : ∀ i, ∃ s, (runB c ops i)[k]? = some s ∧ Bud c ops k e i s
  | 0 => by
    refine ⟨b0, ?_, rfl, fun p h => by simp [tms] at h, BucketW.lim_nil _ _ _, fun p h => by simp [tms] at h⟩
    show (bs0 c)[k]? = some b0
    unfold bs0
    rw [List.getElem?_map, he]
    rfl
  | i + 1 => by
    obtain ⟨s, hs, hb⟩ := bud_run hz ops he i
    cases ho : ops[i]? with
    | none =>
      refine ⟨s, by rw [runB, ho]; exact hs, ?_⟩
      have e1 : tms c ops k (i + 1) = tms c ops k i := by rw [tms, ho]
      exact ⟨by rw [e1]; exact hb.n, by rw [e1]; exact hb.l, by rw [e1]; exact hb.m, by rw [e1]; exact hb.f⟩
    | some o =>
      have e0 := runB_at c ho
      have e1 := tms_at c k ho
      have hj := (PlanW.chk_span hz).2.1.1
      cases hh : hits c (runB c ops i) k o with
      | true =>
        obtain ⟨ha, hp, -⟩ := hits_pas he hh
        obtain ⟨-, -, h3⟩ := hits_iff.1 hh
        have hk : (dt o.l).l.toNat = k := by rw [h3, Int.toNat_natCast]
        have eb : bkt (runB c ops i) (dt o.l) = s := bkt_at (by rw [hk]; exact hs)
        rw [eb] at hp
        rw [hh, if_pos rfl] at e1
        refine ⟨tk e.c c.delay s o.t, ?_, ?_⟩
        · rw [e0]
          unfold jb jbv
          rw [ha]
          dsimp only
          rw [eb, hk, List.getElem?_set_self (lt_of_get hs)]
        · rw [BucketW.tk_yes hp]
          have hpas : BucketW.okB c.delay (tms c ops k i).length s.l s.m o.t = true := by rw [← hb.n]; exact hp
          refine ⟨by rw [e1]; simp [hb.n], fun p h => by rw [e1] at h; simp at h; exact h.symm, ?_, fun p h => ?_⟩
          · rw [e1, hb.n]
            exact BucketW.lim_take hj hb.m hb.l hpas
          · rw [e1] at h
            rcases List.mem_append.1 h with h | h
            · exact hb.f p h
            · rw [List.mem_singleton] at h
              subst h
              exact BucketW.far_iff.2 (BucketW.okB_iff.1 hpas).1
      | false =>
        rw [hh, if_neg (by decide)] at e1
        have keep : ∀ s', s'.n = s.n → s'.l = s.l → s'.m = s.m → Bud c ops k e (i + 1) s' := fun s' h1 h2 h3 =>
          ⟨by rw [h1, e1]; exact hb.n, by rw [h2, e1]; exact hb.l, by rw [h3, e1]; exact hb.m, by rw [e1]; exact hb.f⟩
        rw [e0]
        unfold jb jbv
        cases ha : askv c o.fr (rdE o.l) (dt o.l) with
        | none => exact ⟨s, hs, keep s rfl rfl rfl⟩
        | some e' =>
          dsimp only
          by_cases hk : (dt o.l).l.toNat = k
          · have eb : bkt (runB c ops i) (dt o.l) = s := bkt_at (by rw [hk]; exact hs)
            rw [eb, hk]
            obtain ⟨h0, c1, c3, hl, -, -⟩ := asked ha
            have ok := dt_ok h0
            have hp : pas c.delay s o.t = false := by
              cases hq : pas c.delay s o.t with
              | false => rfl
              | true =>
                exfalso
                have h9 : hits c (runB c ops i) k o = true := by
                  rw [hits_iff]
                  refine ⟨?_, by have := ok.c; omega, by have := ok.l; omega⟩
                  unfold askv at ha
                  rw [if_pos h0, if_neg c1, if_neg c3] at ha
                  unfold jd jv vR
                  rw [if_pos h0, if_neg c1, if_neg c3, ha]
                  dsimp only
                  rw [eb, hq, if_pos rfl]
                rw [hh] at h9
                cases h9
            rw [BucketW.tk_no hp, List.getElem?_set_self (lt_of_get hs)]
            exact ⟨_, rfl, keep _ rfl rfl rfl⟩
          · rw [List.getElem?_set_ne hk]
            exact ⟨s, hs, keep s rfl rfl rfl⟩
/-- No more than the budget. -/
theorem bud_in {c : Cfg} (hz : chk c = 0) (ops : List Op) {k : Nat} {e : R4} (he : c.links[k]? = some e) (n : Nat) {i j : Nat} {p q : Int} (hij : i ≤ j) (hp : (tms c ops k n)[i]? = some p) (hq : (tms c ops k n)[j]? = some q) : (j : Int) - i + 1 ≤ BucketW.bud e.c c.delay (q - p) := by
  obtain ⟨s, -, hb⟩ := bud_run hz ops he n
  exact BucketW.lim_bud (lnk_rgt hz (List.mem_of_getElem? he)) hb.m hb.f hij hp hq
end Go.Proofs.Ytecgpibidcifpaa.RelayW
