/- The document's own Judge of a station, whatever the frame. -/
import Derived.Test.YtnlimdlmhfnkiaaStationR
namespace Go.Proofs.Ytnlimdlmhfnkiaa.StationW
open Go.RowKit Shell
open ConfW (Cfg R4 CM ML chk)
open FrameW (BL rdE rdV)
open PlanW (landV)
set_option maxHeartbeats 4000000 in
set_option maxRecDepth 100000 in
theorem r_bad (c : Cfg) (D E L : Option Addr) (nd cd ne ce nl cl : Nat) (h t : Int) (Av : Option Addr) (Lt : List Tn) (cv : Nat) (A : Option Addr) (l : List Int) (cp : Nat) (w : World) (hb : BL w A l) (hl : l.length ≤ 9223372036854775807) (hc : l.length ≤ cp) (he : rdE l ≠ 0) :
    Calls Try.prog 13 #[.agg #[.int .i64 c.hosts, .int .i64 c.cycle, .int .i64 c.delay, .int .i64 c.window, .int .i64 c.precision, .slice D nd cd, .slice E ne ce, .slice L nl cl, .int .i64 c.queue], .int .i64 h, .slice Av Lt.length cv, .int .i64 t, .slice A l.length cp] w fun r w' => r = .returned (gg d0 ⟨1, 0⟩) ∧ Below w.heap.size w w' := by
  have S0 := ((Stay.start w).alloc (cbx c D E L nd cd ne ce nl cl)).alloc (gbx ⟨0, 0⟩ d0 43)
  rw [World.size_alloc] at S0
  have S1 := Lib.hid S0
  have HR := Lib.hid (FrameW.refReadData_any A cp l _ (hb.below S0.b) hl hc)
  rw [rdV_dt] at HR
  have hz : dt l = d0 := by unfold dt; rw [if_neg he]; rfl
  rw [hz] at HR
  have q1 : (rdE l != 0) = true := by rw [bne_iff_ne]; exact he
  clear S0 hb hl hc hz
  generalize rdE l = e at *
  go_enter Try.func13, Try.ntmps13
  go_wp2_with fail
  refine HR.out.mono ?_
  rintro r w1 ⟨rfl, b1⟩
  have S2 := Lib.hid ((S1.out.next b1).alloc (dbx d0))
  clear b1 S1 HR
  obtain ⟨y0, y1, y2, y3, y4, y5, y6⟩ := cells7 (S2.out.at 1 rfl)
  obtain ⟨f0, f1, f2, f3, f4, f5, f6⟩ := frozen7 (S2.out.at 1 rfl)
  go_wp2
  exact ret_g rfl rfl (put7 (S2.out.at 1 rfl) _ _ _ _ _ _ _) ⟨rfl, S2.out.b.trans ((kept7 _ _ _ _ _ _ _ _ _).below (Nat.le_succ _) S2.out.b.size)⟩
theorem refJ_any (c : Cfg) (D E L : Option Addr) (nd cd ne ce nl cl : Nat) (h t : Int) (Av : Option Addr) (Lt : List Tn) (cv : Nat) (A : Option Addr) (l : List Int) (cp : Nat) (w : World) (m : CM w c D E L nd cd ne ce nl cl) (hb : BL w A l) (hl : l.length ≤ 9223372036854775807) (hc : l.length ≤ cp) (hs : SG F19 w Av Lt) (hL : Lt.length ≤ 9223372036854775807) :
    Calls Try.prog 13 #[.agg #[.int .i64 c.hosts, .int .i64 c.cycle, .int .i64 c.delay, .int .i64 c.window, .int .i64 c.precision, .slice D nd cd, .slice E ne ce, .slice L nl cl, .int .i64 c.queue], .int .i64 h, .slice Av Lt.length cv, .int .i64 t, .slice A l.length cp] w fun r w' => r = .returned (gg (dt l) (gd c h Lt t l)) ∧ Below w.heap.size w w' := by
  by_cases he : rdE l = 0
  case neg =>
    have hd : dt l = d0 := by unfold dt; rw [if_neg he]; rfl
    have e1 : gd c h Lt t l = ⟨1, 0⟩ := by
      unfold gd gj pj
      rw [if_neg he, if_neg (fun hh => absurd hh.1 (by decide))]
    rw [hd, e1]
    exact r_bad c D E L nd cd ne ce nl cl h t Av Lt cv A l cp w hb hl hc he
  have ok := dt_ok he
  obtain ⟨d, hd⟩ : ∃ d, dt l = d := ⟨_, rfl⟩
  have eg : gd c h Lt t l = gj c h Lt t 0 d := by unfold gd; rw [he, hd]
  rw [eg, hd]
  rw [hd] at ok
  have no : ∀ v : Vg, pj c h t 0 d = v → v.w ≠ 0 → gj c h Lt t 0 d = v := fun v h1 h2 => by
    unfold gj
    rw [h1, if_neg (fun hh => h2 hh.1)]
  have yes : ∀ k : Int, pj c h t 0 d = ⟨0, k⟩ → gj c h Lt t 0 d = ⟨if tw Lt d k = true then 3 else 0, k⟩ := fun k h1 => by
    unfold gj
    rw [h1]
    by_cases ht : tw Lt d k = true
    · rw [if_pos ⟨rfl, ht⟩, if_pos ht]
    · rw [if_neg (fun hh => ht hh.2), if_neg ht]
  by_cases c1 : d.c = 1
  · have a1 : pj c h t 0 d = vT c h t d := by unfold pj; rw [if_pos rfl, if_pos c1]
    cases h2 : entAt c d.l with
    | none =>
      rw [no ⟨1, 0⟩ (by rw [a1]; unfold vT; rw [h2]) (by decide)]
      exact rt0 c D E L nd cd ne ce nl cl h t Av Lt cv A l cp w m hb hl hc d hd he hs c1 h2
    | some e =>
      cases h3 : CrewW.has e.b h with
      | false =>
        rw [no ⟨1, 0⟩ (by rw [a1]; unfold vT; rw [h2]; dsimp only; rw [h3, if_neg (fun hh => absurd hh.1 (by decide))]) (by decide)]
        exact rt1 c D E L nd cd ne ce nl cl h t Av Lt cv A l cp w m hb hl hc d hd he hs e c1 h2 h3
      | true =>
        by_cases h4 : e.d = d.s
        · obtain ⟨k, b, h5⟩ : ∃ k b, landV c d.l t = (k, b) := ⟨_, _, rfl⟩
          cases b with
          | true =>
            rw [yes k (by rw [a1]; unfold vT; rw [h2]; dsimp only; rw [if_pos ⟨h3, h4⟩, h5]; rfl)]
            exact rt4 c D E L nd cd ne ce nl cl h t Av Lt cv A l cp w m hb hl hc d hd he hs hL e k c1 h2 h3 h4 h5 _ rfl
          | false =>
            rw [no ⟨2, 0⟩ (by rw [a1]; unfold vT; rw [h2]; dsimp only; rw [if_pos ⟨h3, h4⟩, h5]; rfl) (by decide)]
            exact rt3 c D E L nd cd ne ce nl cl h t Av Lt cv A l cp w m hb hl hc d hd he hs e k c1 h2 h3 h4 h5
        · rw [no ⟨1, 0⟩ (by rw [a1]; unfold vT; rw [h2]; dsimp only; rw [if_neg (fun hh => h4 hh.2)]) (by decide)]
          exact rt2 c D E L nd cd ne ce nl cl h t Av Lt cv A l cp w m hb hl hc d hd he hs e c1 h2 h3 h4
  by_cases c3 : d.c = 3
  · have a1 : pj c h t 0 d = vE h d := by unfold pj; rw [if_pos rfl, if_neg c1, if_pos c3]
    by_cases h3 : d.l = h
    · rw [yes 0 (by rw [a1]; unfold vE; rw [if_pos h3]), tw_effort c3]
      exact re1 c D E L nd cd ne ce nl cl h t Av Lt cv A l cp w m hb hl hc d hd he hs c3 h3
    · rw [no ⟨1, 0⟩ (by rw [a1]; unfold vE; rw [if_neg h3]) (by decide)]
      exact re0 c D E L nd cd ne ce nl cl h t Av Lt cv A l cp w m hb hl hc d hd he hs c3 h3
  have c2 : d.c = 2 := by have := ok.c; omega
  have a1 : pj c h t 0 d = vR c h d := by unfold pj; rw [if_pos rfl, if_neg c1, if_neg c3]
  cases h2 : lnkAt c d.l with
  | none =>
    rw [no ⟨1, 0⟩ (by rw [a1]; unfold vR; rw [h2]) (by decide)]
    exact rr0 c D E L nd cd ne ce nl cl h t Av Lt cv A l cp w m hb hl hc d hd he hs c2 h2
  | some e =>
    cases h3 : CrewW.has e.b h with
    | false =>
      rw [no ⟨1, 0⟩ (by rw [a1]; unfold vR; rw [h2]; dsimp only; rw [h3, if_neg (fun hh => absurd hh.1 (by decide))]) (by decide)]
      exact rr1 c D E L nd cd ne ce nl cl h t Av Lt cv A l cp w m hb hl hc d hd he hs e c2 h2 h3
    | true =>
      by_cases h4 : d.s ≤ e.d
      · rw [yes 0 (by rw [a1]; unfold vR; rw [h2]; dsimp only; rw [if_pos ⟨h3, h4⟩])]
        exact rr4 c D E L nd cd ne ce nl cl h t Av Lt cv A l cp w m hb hl hc d hd he hs hL e c2 h2 h3 h4 _ rfl
      · rw [no ⟨1, 0⟩ (by rw [a1]; unfold vR; rw [h2]; dsimp only; rw [if_neg (fun hh => h4 hh.2)]) (by decide)]
        exact rr2 c D E L nd cd ne ce nl cl h t Av Lt cv A l cp w m hb hl hc d hd he hs e c2 h2 h3 (Int.not_le.1 h4)
end Go.Proofs.Ytnlimdlmhfnkiaa.StationW
