/- Plain: what a configuration reserves. -/
import Derived.Test.YtdaoemjkefpmcaaConfZ
import Derived.Test.YtdaoemjkefpmcaaPlanP
namespace Go.Proofs.Ytdaoemjkefpmcaa.PlanW
open ConfW
/-- May the local time and the configuration be? -/
def god (c : Cfg) (t : Int) : Bool := decide (0 ≤ t) && (decide (t ≤ 1125899906842624) && decide (chk c = 0))
theorem god_iff {c : Cfg} {t : Int} : god c t = true ↔ (0 ≤ t ∧ t ≤ 1125899906842624) ∧ chk c = 0 := by
  unfold god
  simp only [Bool.and_eq_true, decide_eq_true_eq, and_assoc]
theorem god_no {c : Cfg} {t : Int} (h : ¬((0 ≤ t ∧ t ≤ 1125899906842624) ∧ chk c = 0)) : god c t = false := by rw [← Bool.not_eq_true, god_iff]; exact h
/-- And is there such an entry? -/
def got (c : Cfg) (k t : Int) : Bool := god c t && (decide (0 ≤ k) && decide (k < (c.entries.length : Int)))
theorem got_iff {c : Cfg} {k t : Int} : got c k t = true ↔ god c t = true ∧ 0 ≤ k ∧ k < (c.entries.length : Int) := by
  unfold got
  simp only [Bool.and_eq_true, decide_eq_true_eq]
theorem got_no {c : Cfg} {k t : Int} (h : ¬(god c t = true ∧ 0 ≤ k ∧ k < (c.entries.length : Int))) : got c k t = false := by rw [← Bool.not_eq_true, got_iff]; exact h
/-- May a wire be asked? -/
def ask (c : Cfg) (h t n : Int) : Bool := god c t && ((decide (0 ≤ h) && decide (h < c.hosts)) && (decide (1 ≤ n) && decide (n ≤ c.cycle)))
theorem ask_iff {c : Cfg} {h t n : Int} : ask c h t n = true ↔ god c t = true ∧ (0 ≤ h ∧ h < c.hosts) ∧ 1 ≤ n ∧ n ≤ c.cycle := by
  unfold ask
  simp only [Bool.and_eq_true, decide_eq_true_eq]
theorem ask_no {c : Cfg} {h t n : Int} (g : ¬(god c t = true ∧ (0 ≤ h ∧ h < c.hosts) ∧ 1 ≤ n ∧ n ≤ c.cycle)) : ask c h t n = false := by rw [← Bool.not_eq_true, ask_iff]; exact g
/-- Is an entry's stretch on this wire, and which one? -/
def onW (h : Int) (down : Bool) (e : R4) : Bool := if down then CrewW.has e.b h else decide (e.a = h)
def str (c : Cfg) (down : Bool) (e : R4) : Int × Int := (if down then fwd c e else e.c, tim e.d)
def rs (c : Cfg) (h : Int) (down : Bool) : List R4 → List (Int × Int)
  | [] => []
  | e :: l => if onW h down e then str c down e :: rs c h down l else rs c h down l
theorem rs_snoc (c : Cfg) (h : Int) (down : Bool) (e : R4) : ∀ l : List R4, rs c h down (l ++ [e]) = if onW h down e then rs c h down l ++ [str c down e] else rs c h down l
  | [] => by
    show (if onW h down e then [str c down e] else []) = _
    split <;> rfl
  | x :: l => by
    show (if onW h down x then str c down x :: rs c h down (l ++ [e]) else rs c h down (l ++ [e])) = _
    rw [rs_snoc c h down e l]
    show _ = if onW h down e then (if onW h down x then str c down x :: rs c h down l else rs c h down l) ++ [str c down e] else (if onW h down x then str c down x :: rs c h down l else rs c h down l)
    split <;> split <;> rfl
theorem rs_take {c : Cfg} {h : Int} {down : Bool} {l : List R4} {k : Nat} {e : R4} (he : l[k]? = some e) : rs c h down (l.take (k + 1)) = if onW h down e then rs c h down (l.take k) ++ [str c down e] else rs c h down (l.take k) := by
  rw [List.take_add_one, he]
  exact rs_snoc c h down e _
theorem rs_mem {c : Cfg} {h : Int} {down : Bool} {x : Int × Int} : ∀ {l : List R4}, x ∈ rs c h down l ↔ ∃ e ∈ l, onW h down e = true ∧ x = str c down e
  | [] => by simp [rs]
  | e :: l => by
    show x ∈ (if onW h down e then str c down e :: rs c h down l else rs c h down l) ↔ _
    split
    · rename_i g
      rw [List.mem_cons, rs_mem]
      constructor
      · rintro (rfl | ⟨d, h1, h2, h3⟩)
        · exact ⟨e, List.mem_cons_self, g, rfl⟩
        · exact ⟨d, List.mem_cons_of_mem _ h1, h2, h3⟩
      · rintro ⟨d, h1, h2, h3⟩
        rcases List.mem_cons.1 h1 with rfl | h1
        · exact Or.inl h3
        · exact Or.inr ⟨d, h1, h2, h3⟩
    · rename_i g
      rw [rs_mem]
      constructor
      · rintro ⟨d, h1, h2, h3⟩
        exact ⟨d, List.mem_cons_of_mem _ h1, h2, h3⟩
      · rintro ⟨d, h1, h2, h3⟩
        rcases List.mem_cons.1 h1 with rfl | h1
        · exact absurd h2 g
        · exact ⟨d, h1, h2, h3⟩
/-- What holds of an entry of a configuration that may be. -/
structure EntOk (c : Cfg) (e : R4) : Prop where
  pl : placed c e = true
  lo : 2 * c.delay + c.window + 4 * c.precision ≤ e.c
  hi : e.c + tim e.d + c.delay + 2 * c.precision + tim e.d + c.delay + c.precision < c.cycle
  b : e.b < 4294967296
  tp : 512 ≤ tim e.d ∧ tim e.d ≤ 12144
theorem chk_spans {c : Cfg} (h : chk c = 0) : spans c = true := by
  obtain ⟨h1, h2, h3, h4, h5, h6, h7⟩ := chk_ok h
  exact spans_iff.2 ⟨btw_iff.1 h2, h3⟩
theorem chk_span {c : Cfg} (h : chk c = 0) : (1 ≤ c.cycle ∧ c.cycle ≤ 1073741824) ∧ (0 ≤ c.delay ∧ c.delay ≤ 1048576) ∧ (0 ≤ c.window ∧ c.window ≤ 1048576) ∧ 0 ≤ c.precision ∧ c.precision ≤ 1048576 := by
  obtain ⟨h1, h2⟩ := spans_iff.1 (chk_spans h)
  exact ⟨h1, spansT_iff.1 h2⟩
theorem chk_hosts {c : Cfg} (h : chk c = 0) : 1 ≤ c.hosts ∧ c.hosts ≤ 6 := btw_iff.1 (chk_ok h).1
theorem chk_len {c : Cfg} (h : chk c = 0) : c.entries.length ≤ 16 := (entOk_iff.1 (chk_ok h).2.2.2.2.1).1
theorem ent_ok {c : Cfg} {e : R4} (h : chk c = 0) (he : e ∈ c.entries) : EntOk c e := by
  obtain ⟨h1, h2, h3, h4, h5, h6, h7⟩ := chk_ok h
  have hs := chk_spans h
  have sp := chk_span h
  have hw := way_six (btw_iff.1 h1) ((entOk_iff.1 h5).2 e he)
  have hp := ph_iff.1 (List.all_eq_true.1 h6 e he)
  have hq : quiet c = 2 * c.delay + c.window + 4 * c.precision := by unfold quiet; rw [if_pos hs]
  rw [hq] at hp
  have pl : placed c e = true := placed_iff.2 ⟨hs, hw, by omega, by omega⟩
  have hl : lat c e = e.c + tim e.d + c.delay + 2 * c.precision + tim e.d + c.delay + c.precision := by unfold lat; rw [if_pos pl]
  rw [hl] at hp
  have hb := (way_iff.1 hw).2.2.1
  exact ⟨pl, hp.1, hp.2.2, by have : (2 : Nat) ^ (6 : Int).toNat = 64 := rfl; omega, tim_pos e.d⟩
/-- All its times lie within the cycle. -/
structure EntIn (c : Cfg) (e : R4) : Prop where
  a0 : at0 c e = e.c + tim e.d - c.precision
  a1 : at1 c e = e.c + tim e.d + c.delay + c.precision
  f : fwd c e = e.c + tim e.d + c.delay + c.precision + c.precision
  er : ear c e = e.c + tim e.d + c.delay + c.precision + c.precision + tim e.d - c.precision
  la : lat c e = e.c + tim e.d + c.delay + c.precision + c.precision + tim e.d + c.delay + c.precision
  lo : 2 * c.delay + c.window + 4 * c.precision ≤ e.c
  hi : lat c e < c.cycle
theorem ent_in {c : Cfg} {e : R4} (g : EntOk c e) : EntIn c e := by
  have f : fwd c e = e.c + tim e.d + c.delay + c.precision + c.precision := by unfold fwd; rw [if_pos g.pl]; omega
  have la : lat c e = e.c + tim e.d + c.delay + c.precision + c.precision + tim e.d + c.delay + c.precision := by unfold lat; rw [if_pos g.pl]; omega
  exact ⟨by unfold at0; rw [if_pos g.pl], by unfold at1; rw [if_pos g.pl], f, by unfold ear; rw [if_pos g.pl]; omega, la, g.lo, by have := g.hi; omega⟩
theorem rs_ok {c : Cfg} {h : Int} {down : Bool} (hc : chk c = 0) : Ok c.cycle (rs c h down c.entries) := by
  intro x hx
  obtain ⟨e, he, -, rfl⟩ := rs_mem.1 hx
  have g := ent_ok hc he
  have i := ent_in g
  have s := chk_span hc
  have i1 := i.f
  have i2 := g.lo
  have i3 := g.hi
  have i4 := g.tp
  cases down
  · show 0 ≤ e.c ∧ 0 < tim e.d ∧ e.c + tim e.d ≤ c.cycle
    omega
  · show 0 ≤ fwd c e ∧ 0 < tim e.d ∧ fwd c e + tim e.d ≤ c.cycle
    omega
/-- The entry of that number. -/
def entA (c : Cfg) (k : Int) : R4 := (c.entries[k.toNat]?).getD ⟨0, 0, 0, 0⟩
/-- When it is sent, forwarded, and where it lands: what is told. -/
def sendV (c : Cfg) (k t : Int) : Int × Bool := if got c k t then (snd c.cycle (entA c k).c t, true) else (0, false)
def relayV (c : Cfg) (k t : Int) : Int × Bool := if got c k t && (decide (at0 c (entA c k) ≤ t % c.cycle) && decide (t % c.cycle ≤ at1 c (entA c k))) then (t / c.cycle * c.cycle + fwd c (entA c k), true) else (0, false)
def landV (c : Cfg) (k t : Int) : Int × Bool := if got c k t && (decide (ear c (entA c k) ≤ t % c.cycle) && decide (t % c.cycle ≤ lat c (entA c k))) then (t / c.cycle, true) else (0, false)
theorem got_ent {c : Cfg} {k t : Int} (h : got c k t = true) : ∃ (n : Nat) (e : R4), k = (n : Int) ∧ c.entries[n]? = some e ∧ god c t = true ∧ EntOk c e ∧ entA c k = e := by
  obtain ⟨g, h0, h1⟩ := got_iff.1 h
  obtain ⟨n, rfl⟩ := Int.eq_ofNat_of_zero_le h0
  have hn : n < c.entries.length := by omega
  refine ⟨n, c.entries[n], rfl, List.getElem?_eq_getElem hn, g, ent_ok (god_iff.1 g).2 (List.getElem_mem hn), ?_⟩
  unfold entA
  rw [Int.toNat_natCast, List.getElem?_eq_getElem hn]
  rfl
theorem snd_p {C f t q p : Int} (h : t / C = q) (hs : q * C + p = t) : snd C f t = if f - p < 0 then t + (f - p + C) else t + (f - p) := by
  unfold snd
  rw [h]
  by_cases h1 : f - p < 0
  · rw [if_pos h1, if_pos (by omega)]; omega
  · rw [if_neg h1, if_neg (by omega)]; omega
end Go.Proofs.Ytdaoemjkefpmcaa.PlanW
