/- Two copies of a timed frame: plain. -/
import Derived.Test.YtnlimdlmhfnkiaaStationTwo
import Derived.Test.YtnlimdlmhfnkiaaConfZ
namespace Go.Proofs.Ytnlimdlmhfnkiaa.StationW
open ConfW (Cfg R4 chk ear lat)
open FrameW (rdE rightD)
open PlanW (landV EntOk EntIn)
/-- The window of an entry at a host. -/
structure Win (c : Cfg) (n : Nat) (e : R4) : Prop where
  z : chk c = 0
  at' : c.entries[n]? = some e
  n16 : n < 16
  sz : 64 ≤ e.d ∧ e.d ≤ 1518
  b : e.b < 4294967296
  t0 : 0 ≤ ear c e
  w : ear c e ≤ lat c e
  wd : lat c e - ear c e ≤ 5242880
  hi : lat c e < c.cycle
  cy : 1 ≤ c.cycle ∧ c.cycle ≤ 1073741824
theorem win_of {c : Cfg} {n : Nat} {e : R4} (hz : chk c = 0) (h : c.entries[n]? = some e) : Win c n e := by
  have hm := List.mem_of_getElem? h
  have ok := PlanW.ent_ok hz hm
  have ei := PlanW.ent_in ok
  have sp := PlanW.chk_span hz
  have tp := ok.tp
  have lo := ok.lo
  have f := ConfW.chk_ok hz
  have h5 := f.2.2.2.2.1
  unfold ConfW.entOk at h5
  rw [Bool.and_eq_true, decide_eq_true_eq, List.all_eq_true] at h5
  have h6 := h5.2 e hm
  unfold ConfW.wayE at h6
  rw [ConfW.way_iff] at h6
  have hl := Shell.lt_of_get h
  have er := ei.er
  have la := ei.la
  have hi := ei.hi
  exact ⟨hz, h, by omega, h6.2.2.2.2, ok.b, by omega, by omega, by omega, hi, sp.1⟩
/-- A local time in it, in cycle k. -/
theorem land_win {c : Cfg} {n : Nat} {e : R4} (W : Win c n e) {k u : Int} (hk : 0 ≤ k ∧ k ≤ 2) (hu : 0 ≤ u ∧ u ≤ lat c e - ear c e) : landV c (n : Int) (k * c.cycle + ear c e + u) = (k, true) := by
  have ea : PlanW.entA c (n : Int) = e := by unfold PlanW.entA; rw [Int.toNat_natCast, W.at']; rfl
  have h1 := W.t0
  have h2 := W.hi
  have h3 := W.cy
  have hm : (k * c.cycle + ear c e + u) % c.cycle = ear c e + u := by
    rw [show k * c.cycle + ear c e + u = (ear c e + u) + k * c.cycle by omega, Int.add_mul_emod_self_right]
    exact Int.emod_eq_of_lt (by omega) (by omega)
  have hd : (k * c.cycle + ear c e + u) / c.cycle = k := by
    rw [show k * c.cycle + ear c e + u = (ear c e + u) + k * c.cycle by omega, Int.add_mul_ediv_right _ _ (by omega), Int.ediv_eq_zero_of_lt (by omega) (by omega)]
    omega
  have hb : 0 ≤ k * c.cycle ∧ k * c.cycle ≤ 2 * 1073741824 := by
    refine ⟨Int.mul_nonneg hk.1 (by omega), ?_⟩
    have : k = 0 ∨ k = 1 ∨ k = 2 := by omega
    rcases this with rfl | rfl | rfl <;> omega
  have hg : PlanW.got c (n : Int) (k * c.cycle + ear c e + u) = true := PlanW.got_iff.2 ⟨PlanW.god_iff.2 ⟨⟨by omega, by omega⟩, W.z⟩, by omega, by have := Shell.lt_of_get W.at'; omega⟩
  unfold PlanW.landV
  rw [hg, ea, hm, hd, decide_eq_true (show ear c e ≤ ear c e + u by omega), decide_eq_true (show ear c e + u ≤ lat c e by omega)]
  rfl
abbrev dE (n : Nat) (s : Int) : Dt := ⟨1, (n : Int), 0, ⟨#[]⟩, s⟩
/-- Of the entry, what was taken are the cycles below k. -/
def TopK (T : List Tn) (n : Nat) (s : Int) (k : Int) : Prop := ∀ q, 0 ≤ q → tw T (dE n s) q = decide (q < k)
theorem topk_nil (n : Nat) (s : Int) : TopK [] n s 0 := fun q hq => by rw [tw_nil, decide_eq_false (by omega)]
theorem topk_snoc {T : List Tn} {n : Nat} {s k : Int} (h : TopK T n s k) : TopK (T ++ [⟨dE n s, k⟩]) n s (k + 1) := by
  intro q hq
  rw [tw_snoc, h q hq]
  have e : bars (dE n s) q ⟨dE n s, k⟩ = decide (q ≤ k) := by simp [bars]
  rw [e]
  by_cases h1 : q ≤ k
  · rw [decide_eq_true h1, Bool.or_true, decide_eq_true (by omega)]
  · rw [decide_eq_false h1, Bool.or_false, decide_eq_false (by omega), decide_eq_false (by omega)]
theorem pj_win {c : Cfg} {n : Nat} {e : R4} (W : Win c n e) {h t k : Int} (hl : landV c (n : Int) t = (k, true)) : pj c h t 0 (dE n e.d) = if CrewW.has e.b h = true then ⟨0, k⟩ else ⟨1, 0⟩ := by
  unfold pj vT
  have e1 : entAt c (dE n e.d).l = some e := by unfold entAt; rw [show (dE n e.d).l = (n : Int) from rfl, Int.toNat_natCast]; exact W.at'
  rw [if_pos rfl, if_pos rfl, e1]
  dsimp only
  by_cases hh : CrewW.has e.b h = true
  · rw [if_pos ⟨hh, rfl⟩, hl, if_pos hh]; rfl
  · rw [if_neg (fun x => hh x.1), if_neg hh]
/-- Who isn't meant gets none. -/
theorem copy_no {c : Cfg} {n : Nat} {e : R4} (W : Win c n e) {h t k : Int} {T : List Tn} {l : List Int} (hl : landV c (n : Int) t = (k, true)) (hh : CrewW.has e.b h = false) (he : rdE l = 0) (hd : dt l = dE n e.d) : gd c h T t l = ⟨1, 0⟩ ∧ nL c h T t l = T := by
  have e1 : gd c h T t l = ⟨1, 0⟩ := by
    unfold gd gj
    rw [he, hd, show pj c h t 0 (dE n e.d) = ⟨1, 0⟩ by rw [pj_win W hl, hh]; rfl]
    rw [if_neg (fun x => absurd x.1 (by decide))]
  refine ⟨e1, ?_⟩
  unfold nL
  rw [e1, if_neg (by decide)]
/-- The first is taken. -/
theorem copy_one {c : Cfg} {n : Nat} {e : R4} (W : Win c n e) {h t k : Int} {T : List Tn} {l : List Int} (hl : landV c (n : Int) t = (k, true)) (hk : 0 ≤ k) (hh : CrewW.has e.b h = true) (he : rdE l = 0) (hd : dt l = dE n e.d) (hT : TopK T n e.d k) : gd c h T t l = ⟨0, k⟩ ∧ nL c h T t l = T ++ [⟨dE n e.d, k⟩] := by
  have e1 : gd c h T t l = ⟨0, k⟩ := by
    unfold gd gj
    rw [he, hd, pj_win W hl, hh, if_pos rfl]
    dsimp only
    rw [hT k hk, decide_eq_false (Int.lt_irrefl k), if_neg (fun x => absurd x.2 (by decide))]
  refine ⟨e1, ?_⟩
  unfold nL
  rw [e1, hd, if_pos rfl]
/-- The second isn't. -/
theorem copy_two {c : Cfg} {n : Nat} {e : R4} (W : Win c n e) {h t k : Int} {T : List Tn} {l : List Int} (hl : landV c (n : Int) t = (k, true)) (hk : 0 ≤ k) (hh : CrewW.has e.b h = true) (he : rdE l = 0) (hd : dt l = dE n e.d) (hT : TopK T n e.d (k + 1)) : gd c h T t l = ⟨3, k⟩ ∧ nL c h T t l = T := by
  have e1 : gd c h T t l = ⟨3, k⟩ := by
    unfold gd gj
    rw [he, hd, pj_win W hl, hh, if_pos rfl]
    dsimp only
    rw [hT k hk, decide_eq_true (show k < k + 1 by omega), if_pos ⟨rfl, rfl⟩]
  refine ⟨e1, ?_⟩
  unfold nL
  rw [e1, if_neg (show ¬ (3 : Int) = 0 by decide)]
theorem rem_win {c : Cfg} {n : Nat} {e : R4} (W : Win c n e) (x : Int) : 0 ≤ x % (lat c e - ear c e + 1) ∧ x % (lat c e - ear c e + 1) ≤ lat c e - ear c e := by
  have h1 := W.w
  have h2 := Int.emod_nonneg x (show lat c e - ear c e + 1 ≠ 0 by omega)
  have h3 := Int.emod_lt_of_pos x (show 0 < lat c e - ear c e + 1 by omega)
  omega
/-- A bit of a set that is shifted down. -/
theorem shr_has (m h : Nat) (hm : m < 4294967296) (hh : h < 6) : (bits BinOp.and IntKind.u32 ((m : Int) / 2 ^ h) 1 == 0) = !CrewW.has m (h : Int) := by
  have e1 : (m : Int) / 2 ^ h = ((m / 2 ^ h : Nat) : Int) := by rw [Int.natCast_ediv, Int.natCast_pow]; rfl
  have e2 : m / 2 ^ h < 4294967296 := Nat.lt_of_le_of_lt (Nat.div_le_self _ _) hm
  have e3 : bits BinOp.and IntKind.u32 ((m / 2 ^ h : Nat) : Int) ((1 : Nat) : Int) = ((m / 2 ^ h &&& 1 : Nat) : Int) := u32_and_nat _ _ e2 (by decide)
  have e4 : CrewW.has m (h : Int) = m.testBit h := by
    unfold CrewW.has
    rw [decide_eq_true (show 0 ≤ (h : Int) ∧ (h : Int) < 6 by omega), Bool.true_and, Int.toNat_natCast]
  rw [e1, show (1 : Int) = ((1 : Nat) : Int) from rfl, e3, e4, Nat.and_one_is_mod, Nat.testBit_eq_decide_div_mod_eq]
  have h2 := Nat.mod_two_eq_zero_or_one (m / 2 ^ h)
  rcases h2 with h2 | h2 <;> rw [h2] <;> decide
end Go.Proofs.Ytnlimdlmhfnkiaa.StationW
