/- What is asked of a round's package: Go, Run, Bound, Spread. -/
import Derived.Test.YtmagjekmlnpfpaaGreatRowGJa
import Derived.Test.YtmagjekmlnpfpaaGreatCompMJa
import Derived.Test.YtmagjekmlnpfpaaGreatRoundAJa
namespace Go.Proofs.YtmagjekmlnpfpaaGreat.RoundW
open Go.RowKit Shell
open ConfW (Cfg CM chk)
/-- What is lost. -/
structure Lo where
  u0 : Nat
  u1 : Nat
  d0 : Nat
  d1 : Nat
structure LoOk (x : Lo) : Prop where
  u0 : x.u0 < 4294967296
  u1 : x.u1 < 4294967296
  d0 : x.d0 < 4294967296
  d1 : x.d1 < 4294967296
abbrev LV (x : Lo) : Value := .agg #[.int .u32 (x.u0 : Int), .int .u32 (x.u1 : Int), .int .u32 (x.d0 : Int), .int .u32 (x.d1 : Int)]
def FX : Flat Lo where
  n := 4
  cs x := [.int .u32 (x.u0 : Int), .int .u32 (x.u1 : Int), .int .u32 (x.d0 : Int), .int .u32 (x.d1 : Int)]
  len _ := rfl
  one x u hu := by
    simp only [List.mem_cons, List.not_mem_nil, or_false] at hu
    rcases hu with rfl | rfl | rfl | rfl <;> rfl
  pos := by decide
/-- What a round tells, as a value. -/
structure Tv where
  s : Option Addr × Nat
  b : Option Addr × Nat
  n : Option Addr × Nat
  a : Option Addr × Nat
  k : Nat
  c0 : Nat
  c1 : Nat
abbrev sv (x : Option Addr × Nat) (k : Nat) : Value := .slice x.1 k x.2
abbrev tvV (t : Tv) : Value := .agg #[sv t.s t.k, .int .u32 (t.c0 : Int), .int .u32 (t.c1 : Int), sv t.b t.k, sv t.n t.k, sv t.a t.k]
/-- It is told in rows of the call's own. -/
structure TvR (w : World) (base : Nat) (t : Tv) (T : Td) : Prop where
  c0 : t.c0 = T.c0
  c1 : t.c1 = T.c1
  k : T.s.length = t.k ∧ T.b.length = t.k ∧ T.n.length = t.k ∧ T.a.length = t.k
  s : OG FI w base 2 (sv t.s t.k) T.s
  b : OG FI w base 2 (sv t.b t.k) T.b
  n : OG FI w base 3 (sv t.n t.k) T.n
  a : OG FK w base 60 (sv t.a t.k) T.a
theorem TvR.below {w w1 : World} {base : Nat} {t : Tv} {T : Td} (h : TvR w base t T) (b : Below w.heap.size w w1) : TvR w1 base t T := ⟨h.c0, h.c1, h.k, h.s.below b, h.b.below b, h.n.below b, h.a.below b⟩
def rp (r : Option (Int × Nat)) : Int := match r with | none => 0 | some x => x.1
def ry (y : Int) (r : Option (Int × Nat)) : Int := match r with | none => 0 | some _ => y
/-- A round with what is lost. -/
def rndL (c : Cfg) (y : Int) (l : List Ck) (x : Lo) : Td := rnd c y l x.u0 x.u1 x.d0 x.d1
/-- Do all the clocks tell a time? -/
def tells (l : List Ck) (t : Int) : Prop := l ≠ [] ∧ (∀ k ∈ l, CkOk k) ∧ (0 ≤ t ∧ t ≤ 1125899906842624) ∧ ∀ k ∈ l, k.m ≤ t
instance (l : List Ck) (t : Int) : Decidable (tells l t) := by
  unfold tells
  have : DecidablePred fun k => CkOk k := fun k => decidable_of_iff _ okK_iff
  infer_instance
end Go.Proofs.YtmagjekmlnpfpaaGreat.RoundW


/- A round, plain: a switch's result; what is heard of one. -/
namespace Go.Proofs.YtmagjekmlnpfpaaGreat.RoundW
open Go.RowKit Shell
open ConfW (Cfg CM chk)
open CrewW (has mem)
theorem rsl_some {c : Cfg} {y : Int} {l : List Ck} (q : Rgt c y l) {u : Nat} {p : Int} {cr : Nat} (h : rsl c y (snt c y l) u = some (p, cr)) : (-1125899906842624 ≤ p ∧ p ≤ 1125899906842624) ∧ 1 ≤ cr ∧ cr < 64 := by
  unfold rsl at h
  split at h
  · cases h
  · rename_i hne
    have e := Option.some.inj h
    have e1 : CompW.pt (col c y (snt c y l) u) = p := congrArg Prod.fst e
    have e2 : CompW.sS (col c y (snt c y l) u) = cr := congrArg Prod.snd e
    have ok := q.col u
    have b := CompW.pt_bounds ok hne
    have h1 := CompW.sS_pos hne ok.f
    have h2 := CompW.sS_lt (col c y (snt c y l) u)
    rw [e1] at b
    rw [e2] at h1 h2
    exact ⟨⟨b.2.2.1, b.2.2.2⟩, by omega, h2⟩
theorem hr1_neg {c : Cfg} {y : Int} {k : Ck} {s : Int} {h : Nat} {r : Option (Int × Nat)} {dn : Nat} {dl : Int} (hs : ¬ 0 ≤ s) : hr1 c y k s h r dn dl = [] := by
  unfold hr1
  split
  · rfl
  · rw [if_neg (fun hh => hs hh.1)]
end Go.Proofs.YtmagjekmlnpfpaaGreat.RoundW


/- A switch whose frames are all lost, plain. -/
namespace Go.Proofs.YtmagjekmlnpfpaaGreat.RoundW
open ConfW (Cfg chk)
open CompW (Fr sB sS pt)
open CrewW (has mem)
theorem has63 {h : Nat} (h6 : h < 6) : has 63 (h : Int) = true := by
  rcases h with _ | _ | _ | _ | _ | _ | h <;> first | decide | omega
theorem rsl63 {c : Cfg} {y : Int} {l : List Ck} (q : Rgt c y l) : rsl c y (snt c y l) 63 = none := by
  have : frs c y (snt c y l) 63 = [] := by
    unfold frs
    rw [List.map_eq_nil_iff, List.filter_eq_nil_iff]
    intro h hh
    have h1 := ((ord_mem _ _).1 hh).1
    rw [snt_len] at h1
    have := q.len
    rw [has63 (by omega)]
    decide
  unfold rsl col
  rw [this]
  rfl
/-- What is lost: all of one switch. -/
def gone (w : Bool) : Lo := if w then ⟨0, 63, 0, 63⟩ else ⟨63, 0, 63, 0⟩
structure OneSw (w : Bool) (n : Nat) (A B : Td) : Prop where
  a0 : B.a = A.a
  b0 : B.b = A.b
  n0 : B.n = List.replicate n 1
  c0 : (if w then B.c1 else B.c0) = 0
  c1 : (if w then B.c0 else B.c1) = (if w then A.c0 else A.c1)
theorem has0 (h : Int) : has 0 h = false := by unfold has; simp
theorem one_sw {c : Cfg} {l : List Ck} (q : Rgt c 1 l) (R : RK c l) (N : Near c) (w : Bool) : OneSw w l.length (rndL c 1 l ⟨0, 0, 0, 0⟩) (rndL c 1 l (gone w)) := by
  obtain ⟨-, p, hr, -, hp⟩ := near_rsl q R N (by decide)
  have h63 := rsl63 q
  have key : ∀ h, h < l.length → ∃ u cr, hrs c 1 l 0 0 0 0 h = [(u, cr), (u, cr)] ∧ hrs c 1 l 63 0 63 0 h = [(u, cr)] ∧ hrs c 1 l 0 63 0 63 h = [(u, cr)] := fun h hh => by
    have hk : l[h]? = some l[h] := List.getElem?_eq_getElem hh
    obtain ⟨e0, -⟩ := near_hr1 (w := 0) (dn := 0) (cr := 2 ^ l.length - 1) q R N (by decide) hk hp (by decide) (has0 _)
    obtain ⟨e1, -⟩ := near_hr1 (w := 1) (dn := 0) (cr := 2 ^ l.length - 1) q R N (by decide) hk hp (by decide) (has0 _)
    refine ⟨l[h].b - l[h].m + (p + c.window + c.delay), 2 ^ l.length - 1, ?_, ?_, ?_⟩
    · unfold hrs; rw [hr, e0, e1]; rfl
    · unfold hrs; rw [hr, h63, e1]; rfl
    · unfold hrs; rw [hr, h63, e0]; rfl
  have by2 : ∀ u cr, byL c 1 [(u, cr), (u, cr)] = byL c 1 [(u, cr)] := fun u cr => by
    unfold byL
    dsimp only
    rw [if_neg (Nat.lt_irrefl _)]
  have af2 : ∀ k z, aft c 1 k 2 z = aft c 1 k 1 z := fun k z => rfl
  have F : ∀ u0 u1 d0 d1, (∀ h, h < l.length → ∃ u cr, hrs c 1 l 0 0 0 0 h = [(u, cr), (u, cr)] ∧ hrs c 1 l u0 u1 d0 d1 h = [(u, cr)]) → (rnd c 1 l u0 u1 d0 d1).a = (rnd c 1 l 0 0 0 0).a ∧ (rnd c 1 l u0 u1 d0 d1).b = (rnd c 1 l 0 0 0 0).b ∧ (rnd c 1 l u0 u1 d0 d1).n = List.replicate l.length 1 := fun u0 u1 d0 d1 H => by
    refine ⟨List.map_congr_left fun h hh => ?_, List.map_congr_left fun h hh => ?_, ?_⟩
    · obtain ⟨u, cr, e1, e2⟩ := H h (List.mem_range.1 hh)
      rw [e1, e2, by2]
      exact (af2 _ _).symm
    · obtain ⟨u, cr, e1, e2⟩ := H h (List.mem_range.1 hh)
      rw [e1, e2, by2]
    · rw [List.eq_replicate_iff]
      refine ⟨by show ((List.range l.length).map _).length = _; rw [List.length_map, List.length_range], fun b hb => ?_⟩
      obtain ⟨h, hh, rfl⟩ := List.mem_map.1 hb
      obtain ⟨u, cr, e1, e2⟩ := H h (List.mem_range.1 hh)
      rw [e2]
      rfl
  cases w
  · obtain ⟨f1, f2, f3⟩ := F 63 0 63 0 (fun h hh => by obtain ⟨u, cr, a, b, -⟩ := key h hh; exact ⟨u, cr, a, b⟩)
    exact ⟨f1, f2, f3, by show crw (rsl c 1 (snt c 1 l) 63) = 0; rw [h63]; rfl, rfl⟩
  · obtain ⟨f1, f2, f3⟩ := F 0 63 0 63 (fun h hh => by obtain ⟨u, cr, a, -, b⟩ := key h hh; exact ⟨u, cr, a, b⟩)
    exact ⟨f1, f2, f3, by show crw (rsl c 1 (snt c 1 l) 63) = 0; rw [h63]; rfl, rfl⟩
/-- May a round of right clocks be asked for? -/
theorem right_rgt {c : Cfg} {l : List Ck} (hz : chk c = 0) (N : Near c) (hn : (l.length : Int) = c.hosts) (hl : ∀ k ∈ l, k.m = 0 ∧ k.r = 0 ∧ 0 ≤ k.b ∧ k.b ≤ c.window) : Rgt c 1 l ∧ RK c l := by
  have C := cok hz
  have := C.y
  have := N.w
  have := N.y
  have := C.w
  refine ⟨⟨hz, by decide, ?_, hn, fun k hk => ?_, fun k hk => ?_⟩, ⟨fun k hk => (hl k hk).2.1, fun k hk => ?_⟩⟩
  · rw [Int.le_ediv_iff_mul_le (by omega)]
    omega
  · obtain ⟨h1, h2, h3, h4⟩ := hl k hk
    refine ⟨?_, ?_, ?_, ?_, ?_, ?_⟩ <;> omega
  · obtain ⟨h1, h2, h3, h4⟩ := hl k hk
    omega
  · obtain ⟨h1, h2, h3, h4⟩ := hl k hk
    omega
end Go.Proofs.YtmagjekmlnpfpaaGreat.RoundW

