/- The point of a collection: the tolerant mean of its times. -/
import Derived.Test.YtmagjekmlnpfpaaGreatCrewPJa
import Derived.Test.YtmagjekmlnpfpaaGreatMeanProgJa
import Derived.Test.YtmagjekmlnpfpaaGreatConfPJa
namespace Go.Proofs.YtmagjekmlnpfpaaGreat.CompW
open MeanW (halfAt tolK srt)
/-- The time that stands for all. -/
def pt (S : List Fr) : Int := halfAt (ts S) (tolK (ts S))
/-- The readings behind the first. -/
def rd (S : List Fr) : List Int := S.map fun x => x.t - sB S
theorem rd_shift (S : List Fr) : rd S = (ts S).map fun x => x + -sB S := by
  unfold rd ts
  rw [List.map_map]
  apply List.map_congr_left
  intro x _
  show _ = x.t + -sB S
  omega
theorem rd_half {S : List Fr} (h : S ≠ []) : sB S + halfAt (rd S) (tolK (rd S)) = pt S := by
  have hp : 0 < (ts S).length := by unfold ts; rw [List.length_map]; exact List.length_pos_iff.2 h
  rw [rd_shift, MeanW.shift_tolK, MeanW.shift_half _ _ _ (MeanW.tolK_lt hp)]
  unfold pt
  omega
theorem row_half {d : Int} {S : List Fr} (h : Ok d S) (hn : S ≠ []) : sB S + halfAt (row (sS S) (sR S)) (tolK (row (sS S) (sR S))) = pt S := by
  have hp : (row (sS S) (sR S)).Perm (rd S) := row_perm (fun x => x.t - sB S) h.f h.one
  rw [MeanW.halfAt_perm hp, MeanW.tolK_perm hp]
  exact rd_half hn
theorem getD_in {l : List Int} {k : Nat} (h : k < l.length) : l.getD k 0 ∈ l := by
  rw [List.getD_eq_getElem?_getD, List.getElem?_eq_getElem h]
  exact List.getElem_mem h
theorem half_in {xs : List Int} {lo hi : Int} (hn : 0 < xs.length) (h : ∀ x ∈ xs, lo ≤ x ∧ x ≤ hi) : lo ≤ halfAt xs (tolK xs) ∧ halfAt xs (tolK xs) ≤ hi := by
  have e := MeanW.half_ends hn (MeanW.tolK_lt hn)
  have l := MeanW.srt_len xs
  have a := h _ (MeanW.srt_mem.1 (getD_in (l := srt xs) (k := 0) (by omega)))
  have b := h _ (MeanW.srt_mem.1 (getD_in (l := srt xs) (k := xs.length - 1) (by omega)))
  omega
theorem pt_bounds {d : Int} {S : List Fr} (h : Ok d S) (hn : S ≠ []) : sB S ≤ pt S ∧ pt S ≤ sB S + d ∧ -1125899906842624 ≤ pt S ∧ pt S ≤ 1125899906842624 := by
  have hp : 0 < (ts S).length := by unfold ts; rw [List.length_map]; exact List.length_pos_iff.2 hn
  have m : ∀ u ∈ ts S, ∃ x ∈ S, x.t = u := fun u hu => by unfold ts at hu; exact List.mem_map.1 hu
  have a := half_in (lo := sB S) (hi := sB S + d) hp (fun u hu => by obtain ⟨x, hx, rfl⟩ := m u hu; have := h.t x hx; omega)
  have b := half_in (lo := -1125899906842624) (hi := 1125899906842624) hp (fun u hu => by obtain ⟨x, hx, rfl⟩ := m u hu; have := h.t x hx; omega)
  exact ⟨a.1, a.2, b.1, b.2⟩
theorem pt_wrap {d : Int} {S : List Fr} (h : Ok d S) (_hd : 0 ≤ d ∧ d ≤ 1048576) (hn : S ≠ []) : IntKind.i64.wrap (pt S) = pt S := by
  have := pt_bounds h hn
  rw [IntKind.wrap_i64]
  omega
end Go.Proofs.YtmagjekmlnpfpaaGreat.CompW



/- A round, as plain numbers: what a switch makes of the hosts' frames, what a host makes of the switches'. -/
namespace Go.Proofs.YtmagjekmlnpfpaaGreat.RoundW
open ConfW (Cfg chk)
open CompW (Fr sB sS pt)
open ClockW (sh wh CI)
open CrewW (has mem)
/-- The frames that come to a switch. -/
def frs (c : Cfg) (y : Int) (S : List Int) (u : Nat) : List Fr := ((ord S).filter fun h : Nat => !has u (h : Int)).map fun h : Nat => (⟨S.getD h (-1) + c.delay, h, y, 0, 0⟩ : Fr)
/-- One is added, or let go. -/
def ad1 (d : Int) (L : List Fr) (x : Fr) : List Fr := if (-1125899906842624 ≤ x.t ∧ x.t ≤ 1125899906842624) ∧ (L = [] ∨ sB L ≤ x.t ∧ x.t ≤ sB L + d) then L ++ [x] else L
/-- What is collected. -/
def col (c : Cfg) (y : Int) (S : List Int) (u : Nat) : List Fr := (frs c y S u).foldl (ad1 c.window) []
/-- What a switch sends: its point, its crew. -/
def rsl (c : Cfg) (y : Int) (S : List Int) (u : Nat) : Option (Int × Nat) := if col c y S u = [] then none else some (pt (col c y S u), sS (col c y S u))
/-- What a host's clock shows when a switch's frame is heard there. -/
def ear (c : Cfg) (y : Int) (k : Ck) (p dl : Int) : Option Int :=
  match du1 k (p + c.window + dl) dl c.delay with
  | none => none
  | some t => if inT c y (sho k t) then some (sho k t) else none
/-- What it hears of one switch. -/
def hr1 (c : Cfg) (y : Int) (k : Ck) (s : Int) (h : Nat) (r : Option (Int × Nat)) (dn : Nat) (dl : Int) : List (Int × Nat) :=
  match r with
  | none => []
  | some (p, cr) => if 0 ≤ s ∧ has dn (h : Int) = false then (match ear c y k p dl with | none => [] | some u => [(u, cr)]) else []
/-- By how much, of the best one. -/
def byL (c : Cfg) (y : Int) (l : List (Int × Nat)) : Int :=
  match l with
  | [] => 0
  | [a] => y * c.cycle + offC c - a.1
  | a :: b :: _ => if (mem a.2).length < (mem b.2).length then y * c.cycle + offC c - b.1 else y * c.cycle + offC c - a.1
/-- The clock behind it. -/
def aft (c : Cfg) (y : Int) (k : Ck) (n : Nat) (by' : Int) : Ck :=
  if n = 0 then k else if sho k 1125899906842624 < y * c.cycle + offC c + accC c + 1 then k else stk k (whn k (y * c.cycle + offC c + accC c + 1)) (sho k (whn k (y * c.cycle + offC c + accC c + 1)) + by')
/-- What a round tells. -/
structure Td where
  s : List Int
  c0 : Nat
  c1 : Nat
  b : List Int
  n : List Int
  a : List Ck
/-- What host h heard, of both. -/
def hrs (c : Cfg) (y : Int) (l : List Ck) (u0 u1 d0 d1 : Nat) (h : Nat) : List (Int × Nat) :=
  hr1 c y (l.getD h ⟨0, 0, 0⟩) ((snt c y l).getD h (-1)) h (rsl c y (snt c y l) u0) d0 ((c.delays.getD h []).getD 0 0) ++ hr1 c y (l.getD h ⟨0, 0, 0⟩) ((snt c y l).getD h (-1)) h (rsl c y (snt c y l) u1) d1 ((c.delays.getD h []).getD 1 0)
def crw (r : Option (Int × Nat)) : Nat := match r with | none => 0 | some x => x.2
def rnd (c : Cfg) (y : Int) (l : List Ck) (u0 u1 d0 d1 : Nat) : Td where
  s := snt c y l
  c0 := crw (rsl c y (snt c y l) u0)
  c1 := crw (rsl c y (snt c y l) u1)
  b := (List.range l.length).map fun h => byL c y (hrs c y l u0 u1 d0 d1 h)
  n := (List.range l.length).map fun h => ((hrs c y l u0 u1 d0 d1 h).length : Int)
  a := (List.range l.length).map fun h => aft c y (l.getD h ⟨0, 0, 0⟩) (hrs c y l u0 u1 d0 d1 h).length (byL c y (hrs c y l u0 u1 d0 d1 h))
end Go.Proofs.YtmagjekmlnpfpaaGreat.RoundW


/- A round, plain: what a configuration that may be gives; what is collected; what is heard. -/
namespace Go.Proofs.YtmagjekmlnpfpaaGreat.RoundW
open ConfW (Cfg chk)
open CompW (Fr sB sS pt)
open ClockW (sh wh CI)
open CrewW (has mem)
theorem snt_len (c : Cfg) (y : Int) (l : List Ck) : (snt c y l).length = l.length := by unfold snt; rw [List.length_map]
theorem snt_get {c : Cfg} {y : Int} {l : List Ck} {h : Nat} {k : Ck} (hk : l[h]? = some k) : (snt c y l).getD h (-1) = whn k (y * c.cycle) := by
  unfold snt
  rw [List.getD_eq_getElem?_getD, List.getElem?_map, hk]
  rfl
/-- When they send. -/
theorem Rgt.sent {c : Cfg} {y : Int} {l : List Ck} (q : Rgt c y l) {h : Nat} {k : Ck} (hk : l[h]? = some k) : (snt c y l).getD h (-1) = -1 ∨ (k.m ≤ (snt c y l).getD h (-1) ∧ 0 ≤ (snt c y l).getD h (-1) ∧ (snt c y l).getD h (-1) ≤ 1125899906842624) := by
  have hc := q.k k (List.mem_of_getElem? hk)
  rw [snt_get hk]
  rcases whn_in hc (n := y * c.cycle) with ⟨_, h1⟩ | ⟨_, _, h2, h3⟩
  · exact Or.inl h1
  · exact Or.inr ⟨h2, by have := hc.m0; omega, h3⟩
/-! ### what is collected -/
theorem ad1_yes {d : Int} {L : List Fr} {x : Fr} (h1 : -1125899906842624 ≤ x.t ∧ x.t ≤ 1125899906842624) (h2 : L = [] ∨ sB L ≤ x.t ∧ x.t ≤ sB L + d) : ad1 d L x = L ++ [x] := if_pos ⟨h1, h2⟩
theorem ad1_or (d : Int) (L : List Fr) (x : Fr) : ad1 d L x = L ∨ ad1 d L x = L ++ [x] ∧ (-1125899906842624 ≤ x.t ∧ x.t ≤ 1125899906842624) ∧ (L = [] ∨ sB L ≤ x.t ∧ x.t ≤ sB L + d) := by
  unfold ad1
  split
  · rename_i h
    exact Or.inr ⟨rfl, h⟩
  · exact Or.inl rfl
theorem col_ok {d y : Int} (hd : 0 ≤ d) (hy : 0 ≤ y ∧ y ≤ 1125899906842624) : ∀ (F L : List Fr), CompW.Ok d L → (∀ x ∈ F, x.f < 6 ∧ x.y = y) → ((L ++ F).map fun x => x.f).Nodup → CompW.Ok d (F.foldl (ad1 d) L)
  | [], L, h, _, _ => h
  | x :: F, L, h, hF, hn => by
    rw [List.foldl_cons]
    have hx := hF x List.mem_cons_self
    have hF' := fun z hz => hF z (List.mem_cons_of_mem _ hz)
    rcases ad1_or d L x with e | ⟨e, ht, hb⟩
    · rw [e]
      refine col_ok hd hy F L h hF' ?_
      exact hn.sublist (List.Sublist.map _ (List.Sublist.append_left (List.sublist_cons_self x F) L))
    · rw [e]
      refine col_ok hd hy F (L ++ [x]) ?_ hF' (by rw [List.append_assoc]; exact hn)
      by_cases hL : L = []
      · subst hL
        exact CompW.Ok.one' hd hx.1 ht (by rw [hx.2]; exact hy)
      · refine h.snoc hL hx.1 ht (by rcases hb with h1 | h1; exact absurd h1 hL; exact h1) (by rw [hx.2]; exact hy) ?_
        rintro ⟨z, hz, e2⟩
        rw [List.map_append, List.nodup_append] at hn
        exact hn.2.2 _ (List.mem_map.2 ⟨z, hz, rfl⟩) _ (List.mem_map.2 ⟨x, List.mem_cons_self, rfl⟩) e2
theorem frs_f {c : Cfg} {y : Int} {S : List Int} {u : Nat} : (frs c y S u).map (fun x => x.f) = (ord S).filter fun h : Nat => !has u (h : Int) := by
  unfold frs
  rw [List.map_map]
  exact List.map_id _
theorem frs_mem {c : Cfg} {y : Int} {S : List Int} {u : Nat} {x : Fr} (h : x ∈ frs c y S u) : x.f < S.length ∧ 0 ≤ S.getD x.f (-1) ∧ x.t = S.getD x.f (-1) + c.delay ∧ x.y = y ∧ has u (x.f : Int) = false ∧ x = ⟨S.getD x.f (-1) + c.delay, x.f, y, 0, 0⟩ := by
  unfold frs at h
  obtain ⟨i, hi, rfl⟩ := List.mem_map.1 h
  rw [List.mem_filter] at hi
  have := (ord_mem S i).1 hi.1
  exact ⟨this.1, this.2, rfl, rfl, by simpa using hi.2, rfl⟩
theorem frs_in {c : Cfg} {y : Int} {S : List Int} {u h : Nat} (h1 : h < S.length) (h2 : 0 ≤ S.getD h (-1)) (h3 : has u (h : Int) = false) : (⟨S.getD h (-1) + c.delay, h, y, 0, 0⟩ : Fr) ∈ frs c y S u := by
  unfold frs
  refine List.mem_map.2 ⟨h, ?_, rfl⟩
  rw [List.mem_filter]
  exact ⟨(ord_mem S h).2 ⟨h1, h2⟩, by rw [h3]; rfl⟩
theorem frs_nodup (c : Cfg) (y : Int) (S : List Int) (u : Nat) : ((frs c y S u).map fun x => x.f).Nodup := by
  rw [frs_f]
  exact (ord_nodup S).filter _
theorem Rgt.col {c : Cfg} {y : Int} {l : List Ck} (q : Rgt c y l) (u : Nat) : CompW.Ok c.window (col c y (snt c y l) u) := by
  have k := cok q.z
  refine col_ok k.w.1 q.yb _ _ (CompW.Ok.nil _) (fun x hx => ?_) ?_
  · obtain ⟨h1, -, -, h2, -⟩ := frs_mem hx
    rw [snt_len] at h1
    exact ⟨by have := q.len; omega, h2⟩
  · rw [List.nil_append]
    exact frs_nodup _ _ _ _
/-! ### what is heard -/
theorem ear_in {c : Cfg} {y : Int} {k : Ck} {p dl u : Int} (h : ear c y k p dl = some u) : inT c y u := by
  unfold ear at h
  split at h
  · cases h
  · split at h
    · rename_i h1
      cases h
      exact h1
    · cases h
theorem hr1_mem {c : Cfg} {y : Int} {k : Ck} {s : Int} {h : Nat} {r : Option (Int × Nat)} {dn : Nat} {dl : Int} {x : Int × Nat} (hx : x ∈ hr1 c y k s h r dn dl) : inT c y x.1 := by
  unfold hr1 at hx
  split at hx
  · cases hx
  · split at hx
    · split at hx
      · cases hx
      · rename_i h1
        rw [List.mem_singleton] at hx
        rw [hx]
        exact ear_in h1
    · cases hx
theorem hr1_len (c : Cfg) (y : Int) (k : Ck) (s : Int) (h : Nat) (r : Option (Int × Nat)) (dn : Nat) (dl : Int) : (hr1 c y k s h r dn dl).length ≤ 1 := by
  unfold hr1
  split
  · exact Nat.zero_le _
  · split
    · split
      · exact Nat.zero_le _
      · exact Nat.le_refl _
    · exact Nat.zero_le _
/-- By how much: of one that was heard. -/
theorem byL_of {c : Cfg} {y : Int} {l : List (Int × Nat)} (hl : l ≠ []) : ∃ x ∈ l, byL c y l = y * c.cycle + offC c - x.1 := by
  match l, hl with
  | [a], _ => exact ⟨a, List.mem_singleton.2 rfl, rfl⟩
  | a :: b :: m, _ =>
    unfold byL
    dsimp only
    split
    · exact ⟨b, List.mem_cons_of_mem _ List.mem_cons_self, rfl⟩
    · exact ⟨a, List.mem_cons_self, rfl⟩
/-- Nothing arrives: nothing is heard. -/
theorem hr1_lost {c : Cfg} {y : Int} {k : Ck} {s : Int} {h : Nat} {r : Option (Int × Nat)} {dn : Nat} {dl : Int} (hd : has dn (h : Int) = true) : hr1 c y k s h r dn dl = [] := by
  unfold hr1
  split
  · rfl
  · rw [if_neg (fun hh => by rw [hd] at hh; cases hh.2)]
theorem rnd_a {c : Cfg} {y : Int} {l : List Ck} {u0 u1 d0 d1 h : Nat} (hh : h < l.length) : (rnd c y l u0 u1 d0 d1).a[h]? = some (aft c y (l.getD h ⟨0, 0, 0⟩) (hrs c y l u0 u1 d0 d1 h).length (byL c y (hrs c y l u0 u1 d0 d1 h))) := by
  show ((List.range l.length).map _)[h]? = _
  rw [List.getElem?_map, List.getElem?_range hh]
  rfl
theorem rnd_b {c : Cfg} {y : Int} {l : List Ck} {u0 u1 d0 d1 h : Nat} (hh : h < l.length) : (rnd c y l u0 u1 d0 d1).b[h]? = some (byL c y (hrs c y l u0 u1 d0 d1 h)) := by
  show ((List.range l.length).map _)[h]? = _
  rw [List.getElem?_map, List.getElem?_range hh]
  rfl
theorem rnd_n {c : Cfg} {y : Int} {l : List Ck} {u0 u1 d0 d1 h : Nat} (hh : h < l.length) : (rnd c y l u0 u1 d0 d1).n[h]? = some ((hrs c y l u0 u1 d0 d1 h).length : Int) := by
  show ((List.range l.length).map _)[h]? = _
  rw [List.getElem?_map, List.getElem?_range hh]
  rfl
theorem rnd_len (c : Cfg) (y : Int) (l : List Ck) (u0 u1 d0 d1 : Nat) : (rnd c y l u0 u1 d0 d1).s.length = l.length ∧ (rnd c y l u0 u1 d0 d1).b.length = l.length ∧ (rnd c y l u0 u1 d0 d1).n.length = l.length ∧ (rnd c y l u0 u1 d0 d1).a.length = l.length :=
  ⟨snt_len c y l, by simp [rnd], by simp [rnd], by simp [rnd]⟩
end Go.Proofs.YtmagjekmlnpfpaaGreat.RoundW


/- A round of right clocks, plain. -/
namespace Go.Proofs.YtmagjekmlnpfpaaGreat.RoundW
open ConfW (Cfg chk)
open CompW (Fr sB sS pt)
open ClockW (sh wh CI)
open CrewW (has mem)
theorem sho0 {k : Ck} (h : k.r = 0) (t : Int) : sho k t = t + (k.b - k.m) := by
  unfold sho sh
  rw [h, Int.add_zero, Int.mul_ediv_cancel _ (by decide)]
  omega
theorem whn0 {k : Ck} (h : k.r = 0) {n : Int} (hb : k.b ≤ n) (hs : n ≤ 1125899906842624 + (k.b - k.m)) : whn k n = n - (k.b - k.m) := by
  unfold whn
  rw [sho0 h, if_neg (by omega)]
  by_cases e : n ≤ k.b
  · rw [ClockW.wh_low e]; omega
  · have h1 : wh k.m k.b k.r n = k.m - (k.b - n) * 1000000000 / (1000000000 + k.r) := if_neg e
    rw [h1, h, Int.add_zero, Int.mul_ediv_cancel _ (by decide)]
    omega
theorem du0 {k : Ck} (h : k.r = 0) {t cl d : Int} (ht : 0 ≤ t ∧ t ≤ 1125899906842624) (hm : k.m ≤ t) (hc : cl ≤ d) (hz : t + d - cl ≤ 1125899906842624) : du1 k t cl d = some (t + d - cl) := by
  have e1 := sho0 h t
  have e2 := sho0 h 1125899906842624
  have e3 := whn0 h (n := sho k t + d - cl) (by omega) (by omega)
  unfold whn at e3
  rw [if_neg (by omega)] at e3
  unfold du1
  rw [if_pos ⟨ht, hm⟩, if_neg (by omega), e3]
  congr 1
  omega
/-- The time of a setting, what is shown then. -/
def eA (c : Cfg) (y : Int) : Int := y * c.cycle + offC c + accC c + 1
/-! ### right clocks near each other -/
/-- A configuration whose spans are small beside its cycle. -/
structure Near (c : Cfg) : Prop where
  y : 100000 ≤ c.cycle
  w : 8 * c.window ≤ c.cycle
  d : 8 * c.delay ≤ c.cycle
  p : 16 * c.precision ≤ c.cycle
structure RK (c : Cfg) (l : List Ck) : Prop where
  r : ∀ k ∈ l, k.r = 0
  k : ∀ k ∈ l, 0 ≤ k.b - k.m ∧ k.b - k.m ≤ c.window
theorem col_all {d : Int} : ∀ (F L : List Fr), (∀ x ∈ F, (-1125899906842624 ≤ x.t ∧ x.t ≤ 1125899906842624) ∧ sB (L ++ F) ≤ x.t ∧ x.t ≤ sB (L ++ F) + d) → F.foldl (ad1 d) L = L ++ F
  | [], L, _ => by simp
  | x :: F, L, h => by
    have hx := h x List.mem_cons_self
    have e : ad1 d L x = L ++ [x] := ad1_yes hx.1 (by
      by_cases hL : L = []
      · exact Or.inl hL
      · refine Or.inr ?_
        have : sB (L ++ x :: F) = sB L := by
          cases L with
          | nil => exact absurd rfl hL
          | cons z L => rfl
        rw [this] at hx
        exact hx.2)
    rw [List.foldl_cons, e, col_all F (L ++ [x]) (fun z hz => by
      rw [List.append_assoc]
      exact h z (List.mem_cons_of_mem _ hz)), List.append_assoc]
    rfl
theorem sB_le {F : List Fr} (h : F.Pairwise fun a b => a.t ≤ b.t) {x : Fr} (hx : x ∈ F) : sB F ≤ x.t := by
  cases F with
  | nil => cases hx
  | cons z F =>
    rcases List.mem_cons.1 hx with rfl | hx
    · exact Int.le_refl _
    · exact List.rel_of_pairwise_cons h hx
theorem sB_mem {F : List Fr} (h : F ≠ []) : ∃ x ∈ F, sB F = x.t := by
  cases F with
  | nil => exact absurd rfl h
  | cons z F => exact ⟨z, List.mem_cons_self, rfl⟩
theorem frs_up (c : Cfg) (y : Int) (S : List Int) (u : Nat) : (frs c y S u).Pairwise fun a b => a.t ≤ b.t := by
  unfold frs
  rw [List.pairwise_map]
  refine ((ord_up S).filter _).imp (fun {a b} h => ?_)
  show S.getD a (-1) + c.delay ≤ S.getD b (-1) + c.delay
  unfold ahd at h
  omega
theorem col_near {c : Cfg} {y : Int} {S : List Int} {u : Nat} {lo : Int} (hw : 0 ≤ c.window) (h : ∀ x ∈ frs c y S u, lo ≤ x.t ∧ x.t ≤ lo + c.window) (h0 : -1125899906842624 ≤ lo) (h1 : lo + c.window ≤ 1125899906842624) : col c y S u = frs c y S u := by
  unfold col
  rw [col_all _ [] (fun x hx => ?_)]
  · rfl
  · rw [List.nil_append]
    have a := h x hx
    have b := sB_le (frs_up c y S u) hx
    obtain ⟨z, hz, e⟩ := sB_mem (F := frs c y S u) (fun e => by rw [e] at hx; cases hx)
    have := h z hz
    exact ⟨by omega, b, by omega⟩
theorem near_sent {c : Cfg} {y : Int} {l : List Ck} (q : Rgt c y l) (R : RK c l) (N : Near c) (hy : 1 ≤ y) {h : Nat} {k : Ck} (hk : l[h]? = some k) : (snt c y l).getD h (-1) = y * c.cycle - (k.b - k.m) ∧ 0 ≤ y * c.cycle - (k.b - k.m) ∧ k.m ≤ y * c.cycle - (k.b - k.m) := by
  have hm := List.mem_of_getElem? hk
  have h1 := q.yc
  have h2 := R.k k hm
  have h3 := q.b k hm
  have h4 := (q.k k hm).m0
  have h5 := Int.mul_le_mul_of_nonneg_right hy (show 0 ≤ c.cycle by have := N.y; omega)
  have := N.w
  rw [snt_get hk, whn0 (R.r k hm) h3 (by omega)]
  exact ⟨rfl, by omega, by omega⟩
theorem bits_all {n s : Nat} (hn : n ≤ 6) (hs : s < 64) (h : ∀ i, i < 6 → s.testBit i = decide (i < n)) : s = 2 ^ n - 1 := by
  apply Nat.eq_of_testBit_eq
  intro i
  rw [Nat.testBit_two_pow_sub_one]
  by_cases h6 : i < 6
  · exact h i h6
  · rw [Nat.testBit_lt_two_pow (Nat.lt_of_lt_of_le hs (show 64 ≤ 2 ^ i by
      calc 64 = 2 ^ 6 := rfl
        _ ≤ 2 ^ i := Nat.pow_le_pow_right (by decide) (by omega)))]
    symm
    rw [decide_eq_false_iff_not]
    omega
/-- What a switch that loses nothing makes of right clocks near each other. -/
theorem near_rsl {c : Cfg} {y : Int} {l : List Ck} (q : Rgt c y l) (R : RK c l) (N : Near c) (hy : 1 ≤ y) : col c y (snt c y l) 0 = frs c y (snt c y l) 0 ∧ ∃ p, rsl c y (snt c y l) 0 = some (p, 2 ^ l.length - 1) ∧ p = pt (frs c y (snt c y l) 0) ∧ y * c.cycle - c.window + c.delay ≤ p ∧ p ≤ y * c.cycle + c.delay := by
  have C := cok q.z
  have h1 := q.yc
  have hF : ∀ x ∈ frs c y (snt c y l) 0, y * c.cycle - c.window + c.delay ≤ x.t ∧ x.t ≤ y * c.cycle - c.window + c.delay + c.window := fun x hx => by
    obtain ⟨a1, -, a3, -⟩ := frs_mem hx
    rw [snt_len] at a1
    obtain ⟨e, -⟩ := near_sent q R N hy (List.getElem?_eq_getElem a1)
    have := R.k _ (List.getElem_mem a1)
    omega
  have := C.d
  have := C.w
  have hc := col_near C.w.1 hF (by omega) (by omega)
  have hmem : ∀ h, h < l.length → ∃ x ∈ frs c y (snt c y l) 0, x.f = h := fun h hh => by
    obtain ⟨e, e2, -⟩ := near_sent q R N hy (List.getElem?_eq_getElem hh)
    exact ⟨_, frs_in (by rw [snt_len]; exact hh) (by omega) (by unfold has; simp), rfl⟩
  have hne : frs c y (snt c y l) 0 ≠ [] := fun e => by
    obtain ⟨x, hx, -⟩ := hmem 0 (by have := q.len; omega)
    rw [e] at hx
    cases hx
  refine ⟨hc, pt (frs c y (snt c y l) 0), ?_, rfl, ?_⟩
  · unfold rsl
    rw [hc, if_neg hne]
    congr 2
    refine bits_all (by have := q.len; omega) (CompW.sS_lt _) (fun i hi => ?_)
    have := CompW.has_sS (frs c y (snt c y l) 0) i hi
    rw [CrewW.has_nat _ _ hi] at this
    rw [this, decide_eq_decide]
    constructor
    · rintro ⟨x, hx, rfl⟩
      have := (frs_mem hx).1
      rwa [snt_len] at this
    · exact hmem i
  · have hp : 0 < (CompW.ts (frs c y (snt c y l) 0)).length := by unfold CompW.ts; rw [List.length_map]; exact List.length_pos_iff.2 hne
    have := CompW.half_in (lo := y * c.cycle - c.window + c.delay) (hi := y * c.cycle + c.delay) hp (fun u hu => by
      unfold CompW.ts at hu
      obtain ⟨x, hx, rfl⟩ := List.mem_map.1 hu
      have := hF x hx
      omega)
    exact this
/-- It is heard. -/
theorem near_hr1 {c : Cfg} {y : Int} {l : List Ck} (q : Rgt c y l) (R : RK c l) (N : Near c) (hy : 1 ≤ y) {h w dn cr : Nat} {k : Ck} (hk : l[h]? = some k) {p : Int} (hp : y * c.cycle - c.window + c.delay ≤ p ∧ p ≤ y * c.cycle + c.delay) (hw : w < 2) (hd : has dn (h : Int) = false) :
    hr1 c y (l.getD h ⟨0, 0, 0⟩) ((snt c y l).getD h (-1)) h (some (p, cr)) dn ((c.delays.getD h []).getD w 0) = [((k.b - k.m) + (p + c.window + c.delay), cr)] ∧ inT c y ((k.b - k.m) + (p + c.window + c.delay)) := by
  have C := cok q.z
  have h1 := q.yc
  have hm := List.mem_of_getElem? hk
  have hr := R.r k hm
  have hK := R.k k hm
  obtain ⟨e, e2, e3⟩ := near_sent q R N hy hk
  have hl : (h : Int) < c.hosts := by have := q.n; have := (List.getElem?_eq_some_iff.1 hk).1; omega
  have dl := C.dl hl hw
  have := C.d
  have := C.w
  have := C.p
  have h5 := Int.mul_le_mul_of_nonneg_right hy (show 0 ≤ c.cycle by have := N.y; omega)
  have := N.w
  have hin : inT c y ((k.b - k.m) + (p + c.window + c.delay)) := by
    unfold inT offC accC
    omega
  refine ⟨?_, hin⟩
  have hg : l.getD h ⟨0, 0, 0⟩ = k := by rw [List.getD_eq_getElem?_getD, hk]; rfl
  unfold hr1
  rw [e, hg]
  dsimp only
  rw [if_pos ⟨e2, hd⟩]
  have he : ear c y k p ((c.delays.getD h []).getD w 0) = some ((k.b - k.m) + (p + c.window + c.delay)) := by
    unfold ear
    rw [du0 hr (by omega) (by omega) dl.2 (by omega)]
    dsimp only
    rw [sho0 hr, if_pos (by
      rw [show p + c.window + (c.delays.getD h []).getD w 0 + c.delay - (c.delays.getD h []).getD w 0 + (k.b - k.m) = (k.b - k.m) + (p + c.window + c.delay) by omega]
      exact hin)]
    congr 1
    omega
  rw [he]
end Go.Proofs.YtmagjekmlnpfpaaGreat.RoundW


/- Clocks of any rate behind a round in which all is heard: no further apart than the bound. Plain. -/
namespace Go.Proofs.YtmagjekmlnpfpaaGreat.RoundW
open ConfW (Cfg chk)
open CompW (Fr sB sS pt)
open ClockW (sh wh CI)
open CrewW (has mem)
/-- A clock that has far to go. -/
structure Far (j : Int) (k : Ck) : Prop where
  m : k.m ≤ j * 68719476736
  b : 0 ≤ k.b
theorem hr1_some {c : Cfg} {y : Int} {k : Ck} {s : Int} {h : Nat} {r : Option (Int × Nat)} {dn : Nat} {dl : Int} {x : Int × Nat} (hx : x ∈ hr1 c y k s h r dn dl) : ∃ p cr t, r = some (p, cr) ∧ 0 ≤ s ∧ du1 k (p + c.window + dl) dl c.delay = some t ∧ x.1 = sho k t ∧ x.2 = cr := by
  unfold hr1 at hx
  split at hx
  · cases hx
  · rename_i p cr
    split at hx
    · rename_i hs
      split at hx
      · cases hx
      · rename_i u hu
        rw [List.mem_singleton] at hx
        subst hx
        unfold ear at hu
        split at hu
        · cases hu
        · rename_i t ht
          split at hu
          · cases hu
            exact ⟨p, cr, t, rfl, hs.1, ht, rfl, rfl⟩
          · cases hu
    · cases hx
end Go.Proofs.YtmagjekmlnpfpaaGreat.RoundW

