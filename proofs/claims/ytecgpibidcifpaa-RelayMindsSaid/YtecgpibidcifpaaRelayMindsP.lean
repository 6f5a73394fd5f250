/- Whom a frame goes to: plain mathematics. -/
import Derived.Test.YtecgpibidcifpaaRelayKJa
namespace Go.Proofs.Ytecgpibidcifpaa.RelayW
open ConfW (Cfg R4 chk)
open BucketW (Bk)
theorem jv_no {c : Cfg} {bs : List Bk} {t lo fr e : Int} {d : Dt} (h : (jv c bs t lo fr e d).w ≠ 0) : (jv c bs t lo fr e d).u = 0 ∧ (jv c bs t lo fr e d).a = 0 := by
  revert h
  unfold jv vT vE vR
  (repeat' split) <;> simp
/-- What holds of a frame that goes on. -/
structure On (c : Cfg) (lo fr : Int) (d : Dt) (v : Vd) : Prop where
  some : v.u ≠ 0
  few : v.u < 2 ^ c.hosts.toNat
  back : 0 ≤ fr → fr ≤ 31 → v.u / 2 ^ fr.toNat % 2 = 0
  timed : d.c = 1 → v.a ≠ 0 ∧ lo ≤ v.a
  other : d.c ≠ 1 → v.a = 0
theorem has_no {b : Nat} {k : Int} (h0 : 0 ≤ k) (h1 : k < 6) (h : CrewW.has b k = false) : b / 2 ^ k.toNat % 2 = 0 := by
  obtain ⟨n, rfl⟩ := Int.eq_ofNat_of_zero_le h0
  rw [CrewW.has_div b n (by omega), decide_eq_false_iff_not] at h
  rw [Int.toNat_natCast]
  have := Nat.mod_lt (b / 2 ^ n) (show 0 < 2 by decide)
  omega
theorem ent_way {c : Cfg} {e : R4} (h : chk c = 0) (he : e ∈ c.entries) : (0 ≤ e.a ∧ e.a ≤ c.hosts - 1) ∧ e.b ≠ 0 ∧ e.b < 2 ^ c.hosts.toNat ∧ CrewW.has e.b e.a = false := by
  have h1 := (ConfW.chk_ok h).2.2.2.2.1
  unfold ConfW.entOk at h1
  rw [Bool.and_eq_true, List.all_eq_true] at h1
  have h2 := h1.2 e he
  unfold ConfW.wayE at h2
  rw [ConfW.way_iff] at h2
  exact ⟨h2.1, h2.2.1, h2.2.2.1, h2.2.2.2.1⟩
theorem only_on {k : Nat} (hk : k < 6) : CrewW.only (k : Int) = 2 ^ k := by
  unfold CrewW.only
  rw [if_pos ⟨by omega, by omega⟩, Int.toNat_natCast]
theorem of_one' (x : Int) : CrewW.of [x] = CrewW.only x := by
  have h := CrewW.of_snoc [] x
  rw [show CrewW.of [] = 0 by decide, Nat.zero_or] at h
  exact h
theorem jv_yes {c : Cfg} {bs : List Bk} {t lo fr : Int} {d : Dt} (hz : chk c = 0) (ok : DOk d) (h : (jv c bs t lo fr 0 d).w = 0) : On c lo fr d (jv c bs t lo fr 0 d) := by
  have hh := ConfW.btw_iff.1 (ConfW.chk_ok hz).1
  unfold jv at h ⊢
  rw [if_pos rfl] at h ⊢
  by_cases c1 : d.c = 1
  · rw [if_pos c1] at h ⊢
    unfold vT at h ⊢
    cases h2 : entAt c d.l with
    | none => rw [h2] at h; simp at h
    | some e =>
      rw [h2] at h
      dsimp only at h ⊢
      by_cases h3 : e.a = fr ∧ e.d = d.s
      · rw [if_pos h3] at h ⊢
        by_cases h4 : (PlanW.relayV c d.l lo).2 = true
        · rw [if_pos h4]
          have hm : e ∈ c.entries := List.mem_of_getElem? h2
          have w := ent_way hz hm
          obtain ⟨wa, wb, wc, wd⟩ := w
          have r : (PlanW.relayV c d.l lo).1 ≠ 0 ∧ lo ≤ (PlanW.relayV c d.l lo).1 := by
            cases hg : PlanW.got c d.l lo with
            | false => rw [PlanW.relay_no hg] at h4; cases h4
            | true =>
              obtain ⟨n, e', hn, he', hgod, eok, hent⟩ := PlanW.got_ent hg
              rw [PlanW.relay_yes hg hent] at h4 ⊢
              by_cases h5 : ConfW.at0 c e' ≤ lo % c.cycle ∧ lo % c.cycle ≤ ConfW.at1 c e'
              · rw [if_pos h5]
                dsimp only
                have hi := PlanW.ent_in eok
                have hlo := (PlanW.god_iff.1 hgod).1.1
                have hcy := (PlanW.chk_span hz).1
                have hsp := PlanW.chk_span hz
                have htp := eok.tp
                have hq : lo / c.cycle * c.cycle + lo % c.cycle = lo := by rw [Int.mul_comm]; exact Int.mul_ediv_add_emod lo c.cycle
                have hq0 : 0 ≤ lo / c.cycle * c.cycle := Int.mul_nonneg (Int.ediv_nonneg hlo (by omega)) (by omega)
                have h6 := h5.2
                rw [hi.a1] at h6
                rw [hi.f]
                have := hi.lo
                generalize lo / c.cycle * c.cycle = z at *
                generalize lo % c.cycle = y at *
                constructor <;> omega
              · rw [if_neg h5] at h4; cases h4
          exact ⟨wb, wc, fun f0 f1 => by rw [← h3.1]; exact has_no wa.1 (by omega) wd, fun _ => r, fun hc => absurd c1 hc⟩
        · rw [if_neg h4] at h; simp at h
      · rw [if_neg h3] at h; simp at h
  · rw [if_neg c1] at h ⊢
    by_cases c3 : d.c = 3
    · rw [if_pos c3] at h ⊢
      unfold vE at h ⊢
      by_cases h2 : d.l < c.hosts ∧ d.l ≠ fr
      · rw [if_pos h2]
        obtain ⟨n, hn⟩ := Int.eq_ofNat_of_zero_le ok.l.1
        have hn' : d.l = (n : Int) := hn
        have hn6 : n < 6 := by omega
        rw [of_one', hn', only_on hn6]
        refine ⟨Nat.pos_iff_ne_zero.1 (Nat.two_pow_pos n), Nat.pow_lt_pow_right (by decide) (by omega), fun f0 f1 => ?_, fun hc => absurd hc c1, fun _ => rfl⟩
        dsimp only
        have h5 : (2 ^ n).testBit fr.toNat = false := by rw [Nat.testBit_two_pow]; simp; omega
        rw [Nat.testBit_eq_decide_div_mod_eq, decide_eq_false_iff_not] at h5
        have := Nat.mod_lt (2 ^ n / 2 ^ fr.toNat) (show 0 < 2 by decide)
        omega
      · rw [if_neg h2] at h; simp at h
    · rw [if_neg c3] at h ⊢
      unfold vR at h ⊢
      cases ha : asks c fr d with
      | none => rw [ha] at h; simp at h
      | some k =>
        rw [ha] at h
        dsimp only at h ⊢
        cases hp : BucketW.pas c.delay (bkt bs d) t with
        | false => rw [hp] at h; simp at h
        | true =>
          rw [if_pos rfl]
          have h4 : askv c fr 0 d = some k := by unfold askv; rw [if_pos rfl, if_neg c1, if_neg c3, ha]
          obtain ⟨-, -, -, hk, hf, -⟩ := asked h4
          obtain ⟨⟨wa, wb, wc, wd⟩, -⟩ := lnk_ok hz (List.mem_of_getElem? hk)
          exact ⟨wb, wc, fun f0 f1 => by rw [← hf]; exact has_no wa.1 (by omega) wd, fun hc => absurd hc c1, fun _ => rfl⟩
end Go.Proofs.Ytecgpibidcifpaa.RelayW
