/- What a collection is compressed to: its frames with a cycle, its cycle, its point. -/
import Derived.Test.YtmagjekmlnpfpaaGreatCompAJa
import Derived.Test.YtmagjekmlnpfpaaGreatCompMJa
import Derived.Test.YtmagjekmlnpfpaaGreatTake
import Derived.Test.YtmagjekmlnpfpaaGreatRoundAJa
import Derived.Test.YtmagjekmlnpfpaaGreatRoundIJa
namespace Go.Proofs.YtmagjekmlnpfpaaGreat.CompW
open Go.RowKit Shell
open CrewW (only has of has_any of_any mem mem_len memTo_range members_any)
open MeanW (halfAt tolK ansM ansM_some)
theorem count_take {l : List Int} {i : Nat} {x : Int} (h : l[i]? = some x) (y : Int) : (l.take (i + 1)).count y = (l.take i).count y + (if x = y then 1 else 0) := by
  rw [List.take_add_one, h, List.count_append]
  congr 1
  show List.count y [x] = _
  rw [List.count_singleton]
  by_cases e : x = y
  · rw [if_pos (by simpa using e), if_pos e]
  · rw [if_neg (by simpa using e), if_neg e]
theorem row_len (s : Nat) (R : Nat → Int) : (row s R).length = (mem s).length := List.length_map ..
theorem row_get {s i : Nat} {R : Nat → Int} {x : Int} (h : (mem s)[i]? = some x) : ∃ k : Nat, x = (k : Int) ∧ k < 6 ∧ (row s R)[i]? = some (R k) := by
  obtain ⟨k, rfl, hk, -⟩ := memTo_range (c := s) (n := 6) (List.mem_of_getElem? h)
  refine ⟨k, rfl, hk, ?_⟩
  unfold row
  rw [List.getElem?_map, h]
  rfl
theorem at_host {w : World} {g : Nat} {b : Int} {s : Nat} {R C : Nat → Int} (h : w.heap[g]? = some (gbx b s R C)) (k : Nat) (hk : k < 6) :
    w.cell? ⟨g, 2 + k, none⟩ = some (.int .i64 (R k)) ∧ w.cell? ⟨g, 8 + k, none⟩ = some (.int .i64 (C k)) := by
  obtain ⟨a0, a1, a2, a3, a4, a5, a6, a7, a8, a9, a10, a11, a12, a13⟩ := cells14 h
  match k, hk with
  | 0, _ => exact ⟨a2, a8⟩
  | 1, _ => exact ⟨a3, a9⟩
  | 2, _ => exact ⟨a4, a10⟩
  | 3, _ => exact ⟨a5, a11⟩
  | 4, _ => exact ⟨a6, a12⟩
  | 5, _ => exact ⟨a7, a13⟩
set_option maxHeartbeats 1000000 in
theorem having_any (b y : Int) (s : Nat) (R C : Nat → Int) (hs : s < 64) (w : World) :
    Calls Tryz.prog 200 #[GV b s R C, .int .i64 y] w fun e w' => e = .returned (.int .i64 ((row s C).count y : Nat)) ∧ Below w.heap.size w w' := by
  have HM := Lib.hid (fun W => members_any s W (by omega))
  have HG := Lib.hid (fun i x (h : (mem s)[i]? = some x) => row_get (R := C) h)
  have HL := Lib.hid (row_len s C)
  have h6 := mem_len s
  have X := (Stay.start w).alloc (gbx b s R C)
  have X := Lib.hid X
  go_enter Tryz.func200, Tryz.ntmps200
  go_upto_region 2 with (fail)
  generalize w.alloc (gbx b s R C) = W at *
  generalize w.heap.size = g0 at *
  obtain ⟨a0, a1, a2, a3, a4, a5, a6, a7, a8, a9, a10, a11, a12, a13⟩ := cells14 (X.out.at 0 rfl)
  go_wp2_with (go_at_call 199; refine (HM.out _).mono ?_; rintro e w1 ⟨v, rfl, o1, b1⟩; obtain ⟨A, d, rfl, hcl, -⟩ := o1.form; have X1 := Lib.hid (X.out.next b1); have H := Lib.hid hcl; clear o1 b1 hcl)
  clear a0 a1 a2 a3 a4 a5 a6 a7 a8 a9 a10 a11 a12 a13 HM X
  generalize hcs : row s C = cs at *
  have HCS := Lib.hid hcs
  clear hcs
  generalize mem s = ms at *
  obtain ⟨n, hn⟩ : ∃ n, ms.length = n := ⟨_, rfl⟩
  rw [hn] at HL h6 ⊢
  have HN := Lib.hid hn
  have H6 := Lib.hid h6
  clear hn h6
  go_loopw [5, 12] (fun cv iv wr => ∃ (i : Nat), i ≤ n ∧ iv = .int .i64 i ∧ cv = .int .i64 (((cs.take i).count y : Nat) : Int) ∧ wr = w1) (fun _ iv _ => n - (intOf iv).toNat)
  case atStart => exact ⟨0, Nat.zero_le _, rfl, rfl, rfl⟩
  case round =>
    obtain ⟨i, hi, rfl, rfl, rfl⟩ := hrel
    have n6 := H6.out
    have ib : (i : Int) ≤ 6 := by omega
    by_cases hlt : (i : Int) < (n : Int)
    · obtain ⟨x, hx⟩ : ∃ x, ms[i]? = some x := ⟨_, List.getElem?_eq_getElem (by have := HN.out; omega)⟩
      obtain ⟨ad, rfl, hcell, _⟩ := H.out i x hx
      obtain ⟨k, rfl, hk, hr⟩ := HG.out i x hx
      have HT := Lib.hid (count_take hr y)
      have hc := (at_host (X1.out.at 0 rfl) k hk).2
      have cl := Nat.le_trans (List.count_le_length (a := y) (l := cs.take i)) (by rw [List.length_take]; exact Nat.min_le_left _ _)
      have k1 : (k : Int) < 6 := by omega
      have ab : (((cs.take i).count y : Nat) : Int) ≤ 6 := by omega
      clear hx hr
      generalize (cs.take i).count y = a at *
      generalize C k = z at *
      by_cases hz : z = y
      · have e1 : (z == y) = true := by rw [beq_iff_eq]; exact hz
        have HT2 := Lib.hid (HT.out.trans (by rw [if_pos hz]))
        clear hz
        go_wp2
        go_roundw
        case rel => exact ⟨i + 1, by omega, by go_num, by rw [HT2.out]; go_num, trivial⟩
        case measure => simp only [intOf]; omega
      · have e1 : (z == y) = false := by rw [beq_eq_false_iff_ne]; exact hz
        have HT2 := Lib.hid (HT.out.trans (by rw [if_neg hz, Nat.add_zero]))
        clear hz
        go_wp2
        go_roundw
        case rel => exact ⟨i + 1, by omega, by go_num, by rw [HT2.out], trivial⟩
        case measure => simp only [intOf]; omega
    · obtain rfl : i = n := by omega
      have e := HL.out
      rw [List.take_of_length_le (by omega)]
      clear e
      go_wp2
      go_ret
      exact ⟨by rw [HCS.out]; rfl, X1.out.b⟩
end Go.Proofs.YtmagjekmlnpfpaaGreat.CompW



/- The cycle of a collection, and its point. -/
namespace Go.Proofs.YtmagjekmlnpfpaaGreat.CompW
open Go.RowKit Shell
open CrewW (only has of has_any of_any mem mem_len memTo_range members_any)
open MeanW (halfAt tolK ansM ansM_some)
theorem best_take {cs : List Int} {i : Nat} {x : Int} (h : cs[i]? = some x) : best cs (cs.take (i + 1)) = stp cs (best cs (cs.take i)) x := by
  rw [List.take_add_one, h]
  exact best_snoc _ _ _
theorem best_le (cs : List Int) : ∀ l, 0 ≤ (best cs l).2 ∧ (best cs l).2 ≤ cs.length := by
  intro l
  generalize hn : l.length = n
  induction n generalizing l with
  | zero =>
    obtain rfl := List.eq_nil_of_length_eq_zero hn
    exact ⟨Int.le_refl _, by show (0 : Int) ≤ _; omega⟩
  | succ n ih =>
    have hne : l ≠ [] := fun e => by rw [e] at hn; cases hn
    obtain ⟨m, y, rfl⟩ : ∃ m y, l = m ++ [y] := ⟨l.dropLast, l.getLast hne, (List.dropLast_concat_getLast hne).symm⟩
    have B := ih m (by simpa using hn)
    rw [best_snoc]
    unfold stp
    split
    · have := List.count_le_length (a := y) (l := cs)
      exact ⟨by dsimp only; omega, by dsimp only; omega⟩
    · exact B
set_option maxHeartbeats 2000000 in
theorem cycle_any (b : Int) (s : Nat) (R C : Nat → Int) (hs : s < 64) (w : World) :
    Calls Tryz.prog 173 #[GV b s R C] w fun e w' => e = .returned (.int .i64 (best (row s C) (row s C)).1) ∧ Below w.heap.size w w' := by
  have HM := Lib.hid (fun W => members_any s W (by omega))
  have HV := Lib.hid (fun y W => having_any b y s R C hs W)
  have HG := Lib.hid (fun i x (h : (mem s)[i]? = some x) => row_get (R := C) h)
  have HL := Lib.hid (row_len s C)
  have h6 := mem_len s
  have X := (Stay.start w).alloc (gbx b s R C)
  have X := Lib.hid X
  go_enter Tryz.func173, Tryz.ntmps173
  go_upto_region 2 with (fail)
  generalize w.alloc (gbx b s R C) = W at *
  generalize w.heap.size = g0 at *
  obtain ⟨a0, a1, a2, a3, a4, a5, a6, a7, a8, a9, a10, a11, a12, a13⟩ := cells14 (X.out.at 0 rfl)
  go_wp2_with (go_at_call 199; refine (HM.out _).mono ?_; rintro e w1 ⟨v, rfl, o1, b1⟩; obtain ⟨A, d, rfl, hcl, -⟩ := o1.form; have X1 := Lib.hid (X.out.next b1); have H := Lib.hid hcl; clear o1 b1 hcl)
  clear a0 a1 a2 a3 a4 a5 a6 a7 a8 a9 a10 a11 a12 a13 HM X
  generalize hcs : row s C = cs at *
  have HCS := Lib.hid hcs
  clear hcs
  generalize mem s = ms at *
  obtain ⟨n, hn⟩ : ∃ n, ms.length = n := ⟨_, rfl⟩
  rw [hn] at HL h6 ⊢
  have HN := Lib.hid hn
  have H6 := Lib.hid h6
  clear hn h6
  go_loopw [3, 4, 13] (fun bv mv iv wr => ∃ (i : Nat), i ≤ n ∧ iv = .int .i64 i ∧ bv = .int .i64 (best cs (cs.take i)).1 ∧ mv = .int .i64 (best cs (cs.take i)).2 ∧ Hid (Below w1.heap.size w1 wr)) (fun _ _ iv _ => n - (intOf iv).toNat)
  case atStart => exact ⟨0, Nat.zero_le _, rfl, rfl, rfl, Lib.hid (Below.refl _ _)⟩
  case round =>
    obtain ⟨i, hi, rfl, rfl, rfl, HB⟩ := hrel
    have n6 := H6.out
    have ib : (i : Int) ≤ 6 := by omega
    by_cases hlt : (i : Int) < (n : Int)
    · obtain ⟨x, hx⟩ : ∃ x, ms[i]? = some x := ⟨_, List.getElem?_eq_getElem (by have := HN.out; omega)⟩
      obtain ⟨ad, rfl, hcell, _⟩ := (H.out.below HB.out) i x hx
      obtain ⟨k, rfl, hk, hr⟩ := HG.out i x hx
      have X2 := Lib.hid (X1.out.next HB.out)
      have HT := best_take hr
      have hc := (at_host (X2.out.at 0 rfl) k hk).2
      have k1 : (k : Int) < 6 := by omega
      have ml := best_le cs (cs.take i)
      have cl := List.count_le_length (a := C k) (l := cs)
      have hl := HL.out
      unfold stp at HT
      clear hx hr
      obtain ⟨c, hcc⟩ : ∃ c, cs.count (C k) = c := ⟨_, rfl⟩
      have V := fun W => HV.out (C k) W
      rw [hcc] at V
      rw [hcc] at HT cl
      have V := Lib.hid V
      clear hcc
      have HT := Lib.hid HT
      obtain ⟨p, hp⟩ : ∃ p, best cs (cs.take i) = p := ⟨_, rfl⟩
      rw [hp] at HT ml ⊢
      clear hp
      obtain ⟨pb, pm⟩ := p
      dsimp only at HT ml ⊢
      go_upto_region 6 with (fail)
      clear hcell hc
      obtain ⟨a0, a1, a2, a3, a4, a5, a6, a7, a8, a9, a10, a11, a12, a13⟩ := cells14 (X2.out.at 0 rfl)
      go_upto_region 7 with (go_at_call 200; refine (V.out _).mono ?_; rintro e w2 ⟨rfl, b2⟩; have HB2 := Lib.hid (HB.out.trans (b2.mono HB.out.size)); clear b2)
      clear a0 a1 a2 a3 a4 a5 a6 a7 a8 a9 a10 a11 a12 a13
      generalize C k = z at *
      have cb : (c : Int) ≤ 6 := by omega
      have yes : (pm < (c : Int) ∨ ((c : Int) = pm ∧ pb < z)) → Hid (best cs (cs.take (i + 1)) = (z, (c : Int))) := fun h => Lib.hid (by rw [HT.out, if_pos h])
      have no : ¬ (pm < (c : Int) ∨ ((c : Int) = pm ∧ pb < z)) → Hid (best cs (cs.take (i + 1)) = (pb, pm)) := fun h => Lib.hid (by rw [HT.out, if_neg h])
      by_cases h1 : pm < (c : Int)
      · have HT2 := yes (Or.inl h1)
        clear yes no HT
        go_wp2
        go_roundw
        case rel => exact ⟨i + 1, by omega, by go_num, by rw [HT2.out], by rw [HT2.out], HB2⟩
        case measure => simp only [intOf]; omega
      · by_cases h2 : (c : Int) = pm
        · by_cases h3 : pb < z
          · have HT2 := yes (Or.inr ⟨h2, h3⟩)
            have e2 : ((c : Int) == pm) = true := by rw [beq_iff_eq]; exact h2
            clear yes no HT h2
            go_wp2
            go_roundw
            case rel => exact ⟨i + 1, by omega, by go_num, by rw [HT2.out], by rw [HT2.out], HB2⟩
            case measure => simp only [intOf]; omega
          · have HT2 := no (by omega)
            have e2 : ((c : Int) == pm) = true := by rw [beq_iff_eq]; exact h2
            clear yes no HT h2
            go_wp2
            go_roundw
            case rel => exact ⟨i + 1, by omega, by go_num, by rw [HT2.out], by rw [HT2.out], HB2⟩
            case measure => simp only [intOf]; omega
        · have HT2 := no (by omega)
          have e2 : ((c : Int) == pm) = false := by rw [beq_eq_false_iff_ne]; exact h2
          clear yes no HT h2
          go_wp2
          go_roundw
          case rel => exact ⟨i + 1, by omega, by go_num, by rw [HT2.out], by rw [HT2.out], HB2⟩
          case measure => simp only [intOf]; omega
    · obtain rfl : i = n := by omega
      have e := HL.out
      rw [List.take_of_length_le (by omega)]
      clear e
      go_wp2
      go_ret
      exact ⟨by rw [HCS.out]; rfl, X1.out.b.trans (HB.out.mono X1.out.b.size)⟩
end Go.Proofs.YtmagjekmlnpfpaaGreat.CompW



/- The point of a collection. -/
namespace Go.Proofs.YtmagjekmlnpfpaaGreat.CompW
open Go.RowKit Shell
open CrewW (only has of has_any of_any mem mem_len memTo_range members_any)
open MeanW (halfAt tolK ansM ansM_some tolerant_any)
theorem i64_one : One Tryz.prog 35 2 .i64 8 := ⟨Tryz.underlying35, by
  have h : (Tryz.prog.info? 2).map (fun i => (i.zero, i.size, i.bytes)) = some (some (.int .i64 0), 1, 8) := by kernel_rfl
  revert h
  cases Tryz.prog.info? 2 with
  | none => intro h; cases h
  | some i =>
    intro h
    simp only [Option.map_some, Option.some.injEq, Prod.mk.injEq] at h
    exact ⟨i, rfl, h.1, h.2.1, h.2.2⟩⟩
theorem i64_in {x : Int} (h0 : -4611686018427387904 ≤ x) (h1 : x < 4611686018427387904) : (Lit.int .i64 x).wf = true := by
  simp [Lit.wf]
  exact ⟨(by show -9223372036854775808 ≤ x; omega), (by show x ≤ 9223372036854775807; omega)⟩
theorem cl_one (w : World) (x : Int) (h0 : -4611686018427387904 ≤ x) (h1 : x < 4611686018427387904) (t : TypeId) : CL (w.alloc (.cells #[.int .i64 x] t)) .i64 (some ⟨w.heap.size, 0, none⟩) [x] :=
  new_cl w .i64 [x] t (Wf.one (i64_in h0 h1))
theorem cl_il {w : World} {A : Option Addr} {xs : List Int} (h : CL w .i64 A xs) : TickW.IL w A xs := by
  intro k x hx
  obtain ⟨a, ha, hc, hw⟩ := h k x hx
  simp [Lit.wf] at hw
  have hw : -9223372036854775808 ≤ x ∧ x ≤ 9223372036854775807 := hw
  exact ⟨a, ha, hc, hw⟩
set_option maxHeartbeats 2000000 in
theorem point_any (b : Int) (s : Nat) (R C : Nat → Int) (hs : s < 64) (hR : ∀ k, 0 ≤ R k ∧ R k ≤ 1048576) (hp : 0 < (mem s).length)
    (hw : IntKind.i64.wrap (b + halfAt (row s R) (tolK (row s R))) = b + halfAt (row s R) (tolK (row s R))) (w : World) :
    Calls Tryz.prog 172 #[GV b s R C] w fun e w' => e = .returned (.int .i64 (b + halfAt (row s R) (tolK (row s R)))) ∧ Below w.heap.size w w' := by
  have HM := Lib.hid (fun W => members_any s W (by omega))
  have HG := Lib.hid (fun i x (h : (mem s)[i]? = some x) => row_get (R := R) h)
  have HL := Lib.hid (row_len s R)
  have HW := Lib.hid hw
  have HR := Lib.hid hR
  have h6 := mem_len s
  clear hw hR
  have X := (Stay.start w).alloc (gbx b s R C)
  have X := Lib.hid X
  go_enter Tryz.func172, Tryz.ntmps172
  go_upto_region 2 with (fail)
  generalize w.alloc (gbx b s R C) = W at *
  generalize w.heap.size = g0 at *
  obtain ⟨a0, a1, a2, a3, a4, a5, a6, a7, a8, a9, a10, a11, a12, a13⟩ := cells14 (X.out.at 0 rfl)
  go_wp2_with (go_at_call 199; refine (HM.out _).mono ?_; rintro e w1 ⟨v, rfl, o1, b1⟩; obtain ⟨A, d, rfl, hcl, -⟩ := o1.form; have X1 := Lib.hid (X.out.next b1); have H := Lib.hid hcl; clear o1 b1 hcl)
  clear a0 a1 a2 a3 a4 a5 a6 a7 a8 a9 a10 a11 a12 a13 HM X
  obtain ⟨cs, hcs⟩ : ∃ cs, row s R = cs := ⟨_, rfl⟩
  rw [hcs] at HL HW
  have HG := Lib.hid (fun i x h => hcs ▸ HG.out i x h)
  have HCS := Lib.hid hcs
  clear hcs
  generalize mem s = ms at *
  obtain ⟨n, hn⟩ : ∃ n, ms.length = n := ⟨_, rfl⟩
  rw [hn] at HL h6 hp ⊢
  have HN := Lib.hid hn
  have H6 := Lib.hid h6
  have HP := Lib.hid hp
  clear hn h6 hp
  go_loopw [3, 12] (fun lv iv wr => ∃ (i : Nat), i ≤ n ∧ iv = .int .i64 i ∧ Hid (OR wr w1.heap.size 2 .i64 lv (cs.take i)) ∧ Hid (Below w1.heap.size w1 wr)) (fun _ iv _ => n - (intOf iv).toNat)
  case atStart => exact ⟨0, Nat.zero_le _, rfl, Lib.hid (OR.nil _ _ _ _), Lib.hid (Below.refl _ _)⟩
  case round =>
    obtain ⟨i, hi, rfl, HO, HB⟩ := hrel
    have n6 := H6.out
    have ib : (i : Int) ≤ 6 := by omega
    obtain ⟨A2, d2, rfl, hcl, hlc, -⟩ := HO.out.form
    by_cases hlt : (i : Int) < (n : Int)
    · obtain ⟨x, hx⟩ : ∃ x, ms[i]? = some x := ⟨_, List.getElem?_eq_getElem (by have := HN.out; omega)⟩
      obtain ⟨ad, rfl, hcell, _⟩ := (H.out.below HB.out) i x hx
      obtain ⟨k, rfl, hk, hr⟩ := HG.out i x hx
      have X2 := Lib.hid (X1.out.next HB.out)
      have hc := (at_host (X2.out.at 0 rfl) k hk).1
      have k1 : (k : Int) < 6 := by omega
      have HT := Lib.hid (show cs.take (i + 1) = cs.take i ++ [R k] by rw [List.take_add_one, hr]; rfl)
      have hl2 : (cs.take i).length = i := by rw [List.length_take]; have := HL.out; omega
      have HZ := Lib.hid (HR.out k)
      clear hx hr hcl hlc
      generalize R k = z at *
      generalize cs.take i = L at *
      rw [hl2] at HO ⊢
      have HL2 := Lib.hid hl2
      clear hl2
      go_wp2_with (at_builtin; refine wpList_append_or i64_one _ rfl _ _ rfl w1.heap.size _ _ rfl (HO.out.alloc _) (some ⟨wr.heap.size, 0, none⟩) 1 1 [z] rfl rfl ?c1 (fun h => by cases h) ?c2 (by decide) ?c3 ?_)
      case c1 => exact cl_one _ _ (by have := HZ.out; omega) (by have := HZ.out; omega) _
      case c2 => have := HL2.out; omega
      case c3 => rw [World.size_alloc]; have := HB.out.size; omega
      intro v2 w2 o2 s2
      have HO2 := Lib.hid (show OR w2 w1.heap.size 2 .i64 v2 (cs.take (i + 1)) by rw [HT.out]; exact o2)
      have HB2 := Lib.hid (HB.out.trans (((Step.alloc _ _ _).trans s2).below HO.out HB.out.size))
      clear o2 s2
      go_wp2
      go_roundw
      case rel => exact ⟨i + 1, by omega, by go_num, HO2, HB2⟩
      case measure => simp only [intOf]; omega
    · obtain rfl : i = n := by omega
      have e := HL.out
      rw [List.take_of_length_le (by omega)] at hcl hlc HO ⊢
      have T := tolerant_any A2 d2 cs wr (cl_il hcl) (by omega)
      rw [ansM_some (by have := HP.out; omega)] at T
      have T := Lib.hid T
      have X2 := Lib.hid (X1.out.next HB.out)
      obtain ⟨m, hm⟩ : ∃ m, cs.length = m := ⟨_, rfl⟩
      rw [hm] at T ⊢
      have e5 := HW.out
      generalize hz : halfAt cs (tolK cs) = z at *
      have HZ := Lib.hid hz
      clear e hcl hlc hm hz
      go_wp2_with (go_at_call 29; refine T.out.mono ?_; rintro e w3 ⟨rfl, b3⟩; have X3 := Lib.hid (X2.out.next b3); obtain ⟨a0, a1, a2, a3, a4, a5, a6, a7, a8, a9, a10, a11, a12, a13⟩ := cells14 (X3.out.at 0 rfl); clear b3)
      go_ret
      exact ⟨by rw [HCS.out, HZ.out]; rfl, X3.out.b⟩
end Go.Proofs.YtmagjekmlnpfpaaGreat.CompW



/- A collection in memory, kept while the world goes on: what each call tells of it, and what it leaves. -/
namespace Go.Proofs.YtmagjekmlnpfpaaGreat.CompW
open Go.RowKit Shell
open CrewW (only has of mem mem_len)
open FrameW (CV rightC)
open MeanW (halfAt tolK)
theorem sS_nil : sS [] = 0 := by decide +kernel
theorem upd_mem {S : List Fr} {R : Nat → Int} {g : Fr → Int} {lo hi : Int} (h : ∀ x ∈ S, lo ≤ g x ∧ g x ≤ hi) (h0 : ∀ k, lo ≤ R k ∧ R k ≤ hi) : ∀ k, lo ≤ fold g S R k ∧ fold g S R k ≤ hi := by
  induction S generalizing R with
  | nil => exact h0
  | cons x S ih =>
    refine ih (fun y hy => h y (List.mem_cons_of_mem _ hy)) (fun k => ?_)
    show lo ≤ upd R x.f (g x) k ∧ upd R x.f (g x) k ≤ hi
    unfold upd
    split
    · exact h x List.mem_cons_self
    · exact h0 k
theorem Ok.reads {d : Int} {S : List Fr} (h : Ok d S) (hd : 0 ≤ d ∧ d ≤ 1048576) : ∀ k, 0 ≤ sR S k ∧ sR S k ≤ 1048576 :=
  upd_mem (fun x hx => by have := h.t x hx; omega) (fun k => by unfold zero; omega)
/-- A collection in memory (box g), with other boxes L. -/
structure PC (w0 : World) (L : List (Nat × Obj)) (g : Nat) (d : Int) (S : List Fr) (w : World) : Prop where
  st : Stay w0 L w
  box : w.heap[g]? = some (pbx d (sB S) (sS S) (sR S) (sC S))
  ok : Ok d S
  hd : 0 ≤ d ∧ d ≤ 1048576
  g0 : w0.heap.size ≤ g
  gl : ∀ x ∈ L, x.1 ≠ g
section
variable {w0 : World} {L : List (Nat × Obj)} {g : Nat} {d : Int} {S : List Fr} {w w1 : World}
theorem PC.next (P : PC w0 L g d S w) (b : Below w.heap.size w w1) : PC w0 L g d S w1 := ⟨P.st.next b, row_below b P.box, P.ok, P.hd, P.g0, P.gl⟩
theorem PC.drew (P : PC w0 L g d S w) : PC w0 L g d S w.drew := P.next (Below.refl _ _).drew
theorem PC.alloc (P : PC w0 L g d S w) (o : Obj) : PC w0 ((w.heap.size, o) :: L) g d S (w.alloc o) := by
  have lt := lt_of_heap P.box
  refine ⟨P.st.alloc o, row_below (al (Below.refl _ _) o) P.box, P.ok, P.hd, P.g0, fun x hx => ?_⟩
  rcases List.mem_cons.1 hx with rfl | hx
  · show w.heap.size ≠ g; omega
  · exact P.gl x hx
theorem PC.sub (P : PC w0 L g d S w) {M : List (Nat × Obj)} (hM : ∀ x ∈ M, x ∈ L) : PC w0 M g d S w := ⟨P.st.sub hM, P.box, P.ok, P.hd, P.g0, fun x hx => P.gl x (hM x hx)⟩
theorem PC.turn {S1 : List Fr} (P : PC w0 L g d S w) (k : Kept g w w1) (h : w1.heap[g]? = some (pbx d (sB S1) (sS S1) (sR S1) (sC S1))) (ok : Ok d S1) : PC w0 L g d S1 w1 :=
  ⟨⟨P.st.b.trans (k.below P.g0 P.st.b.size), fun x hx => (k.block x.1 (P.gl x hx) (lt_of_heap (P.st.h x hx))).trans (P.st.h x hx)⟩, h, ok, P.hd, P.g0, P.gl⟩
/-- The row of one's own beside it: another block has turned. -/
theorem PC.rest (P : PC w0 L g d S w) {u u' : Value} (s : Step w u w1 u') (hu : u.ownBlock ≠ some g) (hb : ∀ k, u.ownBlock = some k → w0.heap.size ≤ k) (hL : ∀ x ∈ L, u.ownBlock ≠ some x.1) : PC w0 L g d S w1 :=
  ⟨⟨P.st.b.trans ⟨s.g.os, s.g.tape, s.g.output, s.g.size, fun k hk => s.g.block k (Nat.lt_of_lt_of_le hk P.st.b.size) (fun e => by have := hb k e.symm; omega)⟩, fun x hx => (s.g.block x.1 (lt_of_heap (P.st.h x hx)) (fun e => hL x hx e.symm)).trans (P.st.h x hx)⟩,
    (s.g.block g (lt_of_heap P.box) (fun e => hu e.symm)).trans P.box, P.ok, P.hd, P.g0, P.gl⟩
theorem pc_new {w0 : World} {L : List (Nat × Obj)} {d : Int} {w w1 : World} (s : Stay w0 L w) (hd : okW d = true) (h : w1.heap[w.heap.size]? = some (pbx d 0 0 zero zero)) (b : Below w.heap.size w w1) : PC w0 L w.heap.size d [] w1 :=
  ⟨s.next b, by rw [sS_nil]; exact h, Ok.nil d, okW_iff.1 hd, s.b.size, fun x hx => by have := lt_of_heap (s.h x hx); omega⟩
theorem PC.base (P : PC w0 L g d S w) (hn : S ≠ []) : -1125899906842624 ≤ sB S ∧ sB S ≤ 1125899906842624 := by
  cases S with
  | nil => exact absurd rfl hn
  | cons x S => have := P.ok.t x List.mem_cons_self; exact ⟨this.1, this.2.1⟩
/-- A frame is taken. -/
theorem PC.put (P : PC w0 L g d S w) (t : Int) (f : Nat) (y c l : Int) (hr : rightC 1 f y c l) (hf : f < 6) (ht : -1125899906842624 ≤ t ∧ t ≤ 1125899906842624) (hb : S = [] ∨ (sB S ≤ t ∧ t ≤ sB S + d)) (ho : ¬ ∃ z ∈ S, z.f = f) :
    Calls Tryz.prog 139 #[.pointer (some ⟨g, 0, none⟩), .int .i64 t, CV 1 f y c l] w fun e w' => e = .returned (.tuple #[.int .i64 (sB (S ++ [⟨t, f, y, c, l⟩]) + d), .int .i64 0]) ∧ PC w0 L g d (S ++ [⟨t, f, y, c, l⟩]) w' ∧ Kept g w w' := by
  have hc : 0 ≤ c := by have := hr; unfold rightC at this; omega
  have hy : 0 ≤ y ∧ y ≤ 1125899906842624 := by have := hr; unfold rightC at this; omega
  have hh : okH 1 f y c l = true := okH_iff.2 ⟨hr, rfl, by omega⟩
  by_cases hn : S = []
  · subst hn
    have hbx := P.box
    rw [sS_nil] at hbx
    refine (add_new hbx P.hd t 1 f y c l hc (okL_iff.2 ht) hh hf).mono ?_
    rintro e w' ⟨rfl, h, k⟩
    refine ⟨rfl, P.turn k ?_ (Ok.one' (x := ⟨t, f, y, c, l⟩) P.hd.1 hf ht hy), k⟩
    rw [List.nil_append, sR_one, show sS [⟨t, f, y, c, l⟩] = 0 ||| only (f : Int) by rw [← sS_nil]; exact sS_snoc [] _]
    exact h
  · have hb := hb.resolve_left hn
    have hs : has (sS S) (f : Int) = false := by rw [has_sS S f hf]; exact decide_eq_false ho
    refine (add_in P.box (sS_pos hn P.ok.f) (sS_lt S) (P.base hn) P.hd t 1 f y c l hc (okL_iff.2 ht) hh (by omega) (by omega) hs hf).mono ?_
    rintro e w' ⟨rfl, h, k⟩
    have e2 := sB_snoc hn (⟨t, f, y, c, l⟩ : Fr)
    refine ⟨by rw [e2], P.turn k ?_ (P.ok.snoc hn hf ht hb hy ho), k⟩
    rw [e2, sS_snoc, sR_snoc hn, sC_snoc]
    exact h
theorem PC.no_arg (P : PC w0 L g d S w) (t k f y c l : Int) (hc : 0 ≤ c) (h : okL t = false ∨ okH k f y c l = false) :
    Calls Tryz.prog 139 #[.pointer (some ⟨g, 0, none⟩), .int .i64 t, CV k f y c l] w fun e w' => e = .returned (.tuple #[.int .i64 0, .int .i64 1]) ∧ PC w0 L g d S w' ∧ Below w.heap.size w w' := by
  refine (add_arg ⟨g, 0, none⟩ t k f y c l hc h w).mono ?_
  rintro e w' ⟨rfl, b⟩
  exact ⟨rfl, P.next b, b⟩
theorem PC.no_range (P : PC w0 L g d S w) (hn : S ≠ []) (t k f y c l : Int) (hc : 0 ≤ c) (ht : okL t = true) (hh : okH k f y c l = true) (hr : t < sB S ∨ sB S + d < t) :
    Calls Tryz.prog 139 #[.pointer (some ⟨g, 0, none⟩), .int .i64 t, CV k f y c l] w fun e w' => e = .returned (.tuple #[.int .i64 0, .int .i64 4]) ∧ PC w0 L g d S w' ∧ Below w.heap.size w w' := by
  by_cases h1 : t < sB S
  · refine (add_low P.box (sS_pos hn P.ok.f) (P.base hn) P.hd t k f y c l hc ht hh h1).mono ?_
    rintro e w' ⟨rfl, b⟩
    exact ⟨rfl, P.next b, b⟩
  · refine (add_high P.box (sS_pos hn P.ok.f) (P.base hn) P.hd t k f y c l hc ht hh h1 (by omega)).mono ?_
    rintro e w' ⟨rfl, b⟩
    exact ⟨rfl, P.next b, b⟩
/-- It is closed. -/
theorem PC.shut (P : PC w0 L g d S w) (hn : S ≠ []) (t : Int) (ht : sB S + d ≤ t) :
    Calls Tryz.prog 140 #[.pointer (some ⟨g, 0, none⟩), .int .i64 t] w fun e w' => e = .returned (.tuple #[.agg #[.int .i64 (pt S), .int .u32 ((sS S : Nat) : Int), .int .i64 (cy S)], .bool true]) ∧ PC w0 L g d [] w' ∧ Kept g w w' := by
  have hm : (mem (sS S)).length = S.length := by rw [(mem_sS P.ok.f P.ok.one).length_eq]; exact List.length_map ..
  have hh := row_half P.ok hn
  have hp : 0 < S.length := List.length_pos_iff.2 hn
  have hw := pt_wrap P.ok P.hd hn
  refine (close_ok P.box (sS_pos hn P.ok.f) (P.base hn) P.hd t (by omega) (pt S) (cy S)
    (fun W => ?_) (fun W => ?_)).mono ?_
  · have := point_any (sB S) (sS S) (sR S) (sC S) (sS_lt S) (P.ok.reads P.hd) (by omega) (by rw [hh]; exact hw) W
    rw [hh] at this
    exact this
  · have := cycle_any (sB S) (sS S) (sR S) (sC S) (sS_lt S) W
    rw [row_best P.ok] at this
    exact this
  · rintro e w' ⟨rfl, h, k⟩
    exact ⟨rfl, P.turn k (by rw [sS_nil]; exact h) (Ok.nil d), k⟩
theorem PC.no_close (P : PC w0 L g d S w) (t : Int) (ht : S = [] ∨ t < sB S + d) :
    Calls Tryz.prog 140 #[.pointer (some ⟨g, 0, none⟩), .int .i64 t] w fun e w' => e = .returned noR ∧ PC w0 L g d S w' ∧ Below w.heap.size w w' := by
  by_cases hn : S = []
  · subst hn
    have hbx := P.box
    rw [sS_nil] at hbx
    refine (close_none hbx t).mono ?_
    rintro e w' ⟨rfl, b⟩
    exact ⟨rfl, P.next b, b⟩
  · refine (close_early P.box (sS_pos hn P.ok.f) (P.base hn) P.hd t (ht.resolve_left hn)).mono ?_
    rintro e w' ⟨rfl, b⟩
    exact ⟨rfl, P.next b, b⟩
end
end Go.Proofs.YtmagjekmlnpfpaaGreat.CompW



/- The landed round: what a switch makes of the hosts' frames. -/
namespace Go.Proofs.YtmagjekmlnpfpaaGreat.RoundW
open Shell (takeR skipR aput lset)
open Go.RowKit Shell
open ConfW (Cfg CM chk)
open CompW (Fr sB sS pt cy ts ys hosts PC pbx okL okH okW okL_iff okH_iff okW_iff)
open CrewW (has)
open FrameW (CV rightC)
theorem results_r1 {fn : Func} {p : Tmp} (h : fn.results = #[.cell p 92]) (tmps : Array Value) (w : World) (g : Nat) (t : TypeId) (x1 x2 x3 : Value) (fr : Nat × Nat)
    (hp : tmps.getD p undef = .pointer (some ⟨g, 0, none⟩)) (hg : w.heap[g]? = some (.cells #[x1, x2, x3] t fr)) :
    (results fn tmps).run Tryz.prog w = .ok (.agg #[x1, x2, x3]) w := by
  have hp' : tmps[p]?.getD undef = .pointer (some ⟨g, 0, none⟩) := by simpa using hp
  simp [results, h, hp', asAddr, run_loadVar_row w g t 92 #[x1, x2, x3] fr _ hg Tryz.underlying92 rfl (by kernel_rfl)]
theorem ret_r1 {fn : Func} {R : Ending → World → Prop} {p : Tmp} (h : fn.results = #[.cell p 92]) {tmps : Array Value} {w : World} {g : Nat} {x1 x2 x3 : Value} {t : TypeId} {fr : Nat × Nat}
    (hp : tmps.getD p undef = .pointer (some ⟨g, 0, none⟩)) (hg : w.heap[g]? = some (.cells #[x1, x2, x3] t fr)) (hR : R (.returned (.agg #[x1, x2, x3])) w) :
    bodyPost Tryz.prog fn R .ret { tmps := tmps, defers := [] } w :=
  bodyPost_ret (results_r1 h tmps w g t x1 x2 x3 fr hp hg) rfl hR
theorem below_q {w w1 w2 : World} {q : Nat} (hq : w.heap.size = q) (b : Below w.heap.size w w1) (k : Kept q w1 w2) : Below q w w2 := by
  subst hq
  exact b.trans (k.below (Nat.le_refl _) b.size)
/-- The box of an exchange. -/
abbrev xbx (c : Cfg) (D E L : Option Addr) (nd cd ne ce nl cl : Nat) (y : Int) (x : Lo) (a b : Option (Int × Nat)) : Obj := .cells #[.int .i64 c.hosts, .int .i64 c.cycle, .int .i64 c.delay, .int .i64 c.window, .int .i64 c.precision, .slice D nd cd, .slice E ne ce, .slice L nl cl, .int .i64 c.queue, .int .i64 y, .int .u32 (x.u0 : Int), .int .u32 (x.u1 : Int), .int .u32 (x.d0 : Int), .int .u32 (x.d1 : Int), .int .i64 (rp a), .int .u32 (crw a : Int), .int .i64 (ry y a), .int .i64 (rp b), .int .u32 (crw b : Int), .int .i64 (ry y b)] 95 (0, 0)
def Lo.up (x : Lo) (j : Nat) : Nat := if j = 0 then x.u0 else x.u1
def Lo.dn (x : Lo) (j : Nat) : Nat := if j = 0 then x.d0 else x.d1
theorem LoOk.up {x : Lo} (h : LoOk x) (j : Nat) : x.up j < 4294967296 := by unfold Lo.up; split; exact h.u0; exact h.u1
theorem LoOk.dn {x : Lo} (h : LoOk x) (j : Nat) : x.dn j < 4294967296 := by unfold Lo.dn; split; exact h.d0; exact h.d1
/-- A link's delay, in memory. -/
theorem delay_at {w : World} (c : Cfg) (D E L : Option Addr) (nd cd ne ce nl cl : Nat) (m : CM w c D E L nd cd ne ce nl cl) (C : COk c) {i j : Nat} (hi : (i : Int) < c.hosts) (hj : j < 2) : ∃ ad ar cpr x, D = some ad ∧ w.cell? (ad.add i) = some (.slice (some ar) 2 cpr) ∧ w.cell? (ar.add j) = some (.int .i64 x) ∧ (c.delays.getD i []).getD j 0 = x ∧ (0 ≤ x ∧ x ≤ c.delay) ∧ (nd : Int) = c.hosts := by
  obtain ⟨row, x, e1, e2, e3, e4⟩ := C.r i j hi hj
  obtain ⟨ad, Ar, cpr, hD, dr, hcl, -⟩ := m.hd i row e1
  obtain ⟨ar, rfl, q0, -⟩ := hcl j x e3
  rw [e2] at dr
  refine ⟨ad, ar, cpr, x, hD, dr, q0, ?_, e4, by rw [m.nD]; exact C.n⟩
  rw [List.getD_eq_getElem?_getD (l := c.delays), e1]
  show row.getD j 0 = x
  rw [List.getD_eq_getElem?_getD, e3]
  rfl
/-- A frame without what it has spent. -/
def st (x : Fr) : Fr := ⟨x.t, x.f, x.y, 0, 0⟩
theorem ts_st (M : List Fr) : ts (M.map st) = ts M := by unfold ts; rw [List.map_map]; rfl
theorem sB_st (M : List Fr) : sB (M.map st) = sB M := by cases M <;> rfl
theorem pt_st (M : List Fr) : pt (M.map st) = pt M := by unfold pt; rw [ts_st]
theorem sS_st (M : List Fr) : sS (M.map st) = sS M := by unfold sS hosts; rw [List.map_map]; rfl
/-- The frames of these hosts that come. -/
def lof (c : Cfg) (y : Int) (S : List Int) (u : Nat) (T : List Nat) : List Fr := (T.filter fun h : Nat => !has u (h : Int)).map fun h : Nat => (⟨S.getD h (-1) + c.delay, h, y, 0, 0⟩ : Fr)
/-- Behind these hosts. -/
structure Lsd (c : Cfg) (y : Int) (S : List Int) (u : Nat) (T : List Nat) (M : List Fr) : Prop where
  e : M.map st = (lof c y S u T).foldl (ad1 c.window) []
  f : ∀ z ∈ M, z.f ∈ T
  y : ∀ z ∈ M, z.y = y
theorem Lsd.start (c : Cfg) (y : Int) (S : List Int) (u : Nat) : Lsd c y S u [] [] := ⟨rfl, fun z h => (by cases h), fun z h => (by cases h)⟩
theorem Lsd.lost {c : Cfg} {y : Int} {S : List Int} {u h : Nat} {T : List Nat} {M : List Fr} (l : Lsd c y S u T M) (hu : has u (h : Int) = true) : Lsd c y S u (T ++ [h]) M := by
  refine ⟨?_, fun z hz => List.mem_append_left _ (l.f z hz), l.y⟩
  have e : lof c y S u (T ++ [h]) = lof c y S u T := by
    unfold lof
    rw [List.filter_append, List.filter_cons_of_neg (by rw [hu]; decide)]
    simp
  rw [e]
  exact l.e
theorem Lsd.come {c : Cfg} {y : Int} {S : List Int} {u h : Nat} {T : List Nat} {M M' : List Fr} (l : Lsd c y S u T M) (hu : has u (h : Int) = false) (hM : M'.map st = ad1 c.window (M.map st) ⟨S.getD h (-1) + c.delay, h, y, 0, 0⟩) (hf : ∀ z ∈ M', z ∈ M ∨ (z.f = h ∧ z.y = y)) : Lsd c y S u (T ++ [h]) M' := by
  refine ⟨?_, fun z hz => ?_, fun z hz => ?_⟩
  · have e : lof c y S u (T ++ [h]) = lof c y S u T ++ [⟨S.getD h (-1) + c.delay, h, y, 0, 0⟩] := by
      unfold lof
      rw [List.filter_append, List.filter_cons_of_pos (by rw [hu]; decide), List.map_append]
      rfl
    rw [e, List.foldl_append, hM, l.e]
    rfl
  · rcases hf z hz with g | ⟨g, -⟩
    · exact List.mem_append_left _ (l.f z g)
    · exact List.mem_append_right _ (by rw [g]; exact List.mem_singleton.2 rfl)
  · rcases hf z hz with g | ⟨-, g⟩
    · exact l.y z g
    · exact g
/-- The end of a window. -/
def endv (d : Int) (M : List Fr) : Int := if M = [] then 0 else sB M + d
/-- One frame is added, or let go. -/
theorem ladd {w0 w : World} {LL : List (Nat × Obj)} {g : Nat} {d : Int} {M : List Fr} (_P : PC w0 LL g d M w) {y t cl : Int} {f : Nat} (hy : 0 ≤ y ∧ y ≤ 1125899906842624) (hcl : 0 ≤ cl ∧ cl ≤ 1048576) (hf : f < 6) (hn : ¬ ∃ z ∈ M, z.f = f) :
    ∃ (M' : List Fr) (u e : Int), M'.map st = ad1 d (M.map st) ⟨t, f, y, 0, 0⟩ ∧ (∀ z ∈ M', z ∈ M ∨ (z.f = f ∧ z.y = y)) ∧ ((e = 0 ∧ u = endv d M') ∨ (e ≠ 0 ∧ M' = M)) ∧
      ∀ W, PC w0 LL g d M W → Calls Tryz.prog 139 #[.pointer (some ⟨g, 0, none⟩), .int .i64 t, CV 1 (f : Int) y 0 cl] W fun r w' => r = .returned (.tuple #[.int .i64 u, .int .i64 e]) ∧ PC w0 LL g d M' w' ∧ Kept g W w' := by
  have hr : rightC 1 (f : Int) y 0 cl := by unfold rightC; omega
  have hh : okH 1 (f : Int) y 0 cl = true := okH_iff.2 ⟨hr, rfl, by omega⟩
  cases ht : okL t with
  | false =>
    refine ⟨M, 0, 1, ?_, fun z hz => Or.inl hz, Or.inr ⟨by decide, rfl⟩, fun W PW => (PW.no_arg t 1 f y 0 cl (Int.le_refl _) (Or.inl ht)).mono (fun r w' h => ⟨h.1, h.2.1, Kept.of h.2.2⟩)⟩
    unfold ad1
    rw [if_neg (fun h => by have := okL_iff.2 h.1; rw [ht] at this; cases this)]
  | true =>
    have tb := okL_iff.1 ht
    by_cases hb : M = [] ∨ (sB M ≤ t ∧ t ≤ sB M + d)
    · refine ⟨M ++ [⟨t, f, y, 0, cl⟩], sB (M ++ [⟨t, f, y, 0, cl⟩]) + d, 0, ?_, fun z hz => ?_, Or.inl ⟨rfl, (if_neg (by simp)).symm⟩, fun W PW => (PW.put t f y 0 cl hr hf tb hb hn).mono (fun r w' h => ⟨h.1, h.2.1, h.2.2⟩)⟩
      · rw [ad1_yes tb, List.map_append]
        · rfl
        · rcases hb with h | h
          · exact Or.inl (by rw [h]; rfl)
          · exact Or.inr (by rw [sB_st]; exact h)
      · rcases List.mem_append.1 hz with h | h
        · exact Or.inl h
        · rw [List.mem_singleton.1 h]
          exact Or.inr ⟨rfl, rfl⟩
    · refine ⟨M, 0, 4, ?_, fun z hz => Or.inl hz, Or.inr ⟨by decide, rfl⟩, fun W PW => (PW.no_range (fun h => hb (Or.inl h)) t 1 f y 0 cl (Int.le_refl _) ht hh (by omega)).mono (fun r w' h => ⟨h.1, h.2.1, Kept.of h.2.2⟩)⟩
      unfold ad1
      rw [if_neg]
      rintro ⟨-, h2⟩
      rw [sB_st] at h2
      exact hb (by
        rcases h2 with h2 | h2
        · exact Or.inl (List.map_eq_nil_iff.1 h2)
        · exact Or.inr h2)
theorem cell_lt {w : World} {a : Addr} {v : Value} (h : w.cell? a = some v) : w.cell? a = some v ∧ a.block < w.heap.size := ⟨h, Lib.lt_of_cell h⟩
abbrev rbL (p : Int) (s : Int) (y : Int) : Obj := .cells #[.int .i64 p, .int .u32 s, .int .i64 y] 92 (0, 0)
theorem cy_one {y : Int} {L : List Fr} (h : ∀ x ∈ L, x.y = y) (hn : L ≠ []) : cy L = y := by
  unfold cy
  have B := CompW.best_is (CompW.ys L) (CompW.ys L) (fun _ h => h)
  rcases B.one with ⟨e, -⟩ | ⟨e, -⟩
  · unfold CompW.ys at e
    rw [List.map_eq_nil_iff] at e
    exact absurd e hn
  · unfold CompW.ys at e ⊢
    obtain ⟨x, hx, e2⟩ := List.mem_map.1 e
    rw [← e2]
    exact h x hx
set_option maxHeartbeats 8000000 in
set_option maxRecDepth 100000 in
theorem lcollect_any (c : Cfg) (D E L : Option Addr) (nd cd ne ce nl cl : Nat) (y : Int) (x : Lo) (ra rb : Option (Int × Nat)) (g j : Nat) (B : Option Addr) (m bp : Nat) (A : Option Addr) (S : List Int) (n cp : Nat) (w : World) (C : COk c) (HCM : CM w c D E L nd cd ne ce nl cl) (hx : LoOk x) (hj : j < 2) (hg : w.heap[g]? = some (xbx c D E L nd cd ne ce nl cl y x ra rb)) (hy : 0 ≤ y ∧ y ≤ 1125899906842624) (hn : S.length = n) (hnh : (n : Int) = c.hosts) (hS : ∀ s ∈ S, -1 ≤ s ∧ s ≤ 1125899906842624) (hm : (ord S).length = m) (hB : SG FI w B (hI (ord S))) (hA : SG FI w A S) :
    Calls Tryz.prog 84 #[.pointer (some ⟨g, 0, none⟩), .int .i64 (j : Int), .slice B m bp, .slice A n cp] w fun e w' => e = .returned (.agg #[.int .i64 (rp (rsl c y S (x.up j))), .int .u32 (crw (rsl c y S (x.up j)) : Int), .int .i64 (ry y (rsl c y S (x.up j)))]) ∧ Below w.heap.size w w' := by
  have HC := Lib.hid C
  have HM := Lib.hid HCM
  have HX := Lib.hid hx
  have HG := Lib.hid hg
  have HY := Lib.hid hy
  have HN := Lib.hid hn
  have HNH := Lib.hid hnh
  have HS := Lib.hid hS
  have HML := Lib.hid hm
  have HB := Lib.hid hB
  have HA := Lib.hid hA
  have n6 : n ≤ 6 := by have := C.h; omega
  have m6 : m ≤ 6 := by
    rw [← hm]
    have h1 := (hst_ord (S := S) (fun s hs => (hS s hs).1)).length_eq
    have h2 := hst_len S S.length
    omega
  have hW : okW c.window = true := okW_iff.2 C.w
  obtain ⟨q, hq⟩ : ∃ q, w.heap.size = q := ⟨_, rfl⟩
  have HQ := Lib.hid hq
  have S0 := (Stay.start w).alloc (rbL 0 0 0)
  have B0 := al (Below.refl w.heap.size w) (rbL 0 0 0)
  have a3 := cell_of_row _ g 3 _ _ _ (row_below B0 hg)
  have NE := CompW.new_ok c.window hW (w.alloc (rbL 0 0 0))
  rw [World.size_alloc] at NE
  rw [hq] at S0 NE ⊢
  obtain ⟨gc, hgc⟩ : ∃ gc, q + 1 = gc := ⟨_, rfl⟩
  rw [hgc] at NE
  have NEW := Lib.hid NE
  have HW := Lib.hid hW
  have HGC := Lib.hid hgc
  have HS0 := Lib.hid S0
  clear C HCM hx hg hy hn hnh hS hm hB hA NE hgc S0 B0 hW
  go_enter Tryz.func84, Tryz.ntmps84
  go_wp2_with fail
  clear hq
  refine NEW.out.mono ?_
  rintro r w1 ⟨rfl, h1, b1⟩
  have P0 := Lib.hid (show PC w [(q, rbL 0 0 0)] gc c.window [] w1 from by
    have e : (w.alloc (rbL 0 0 0)).heap.size = gc := by rw [World.size_alloc, HQ.out, HGC.out]
    have h := CompW.pc_new HS0.out HW.out (by rw [e]; exact h1) (by rw [e]; exact b1)
    rw [e] at h
    exact h)
  clear h1 b1 NEW a3
  go_wp2
  go_loopw [11, 30] (fun ev iv wr => ∃ (i : Nat) (M : List Fr), i ≤ m ∧ iv = .int .i64 i ∧ ev = .int .i64 (endv c.window M) ∧ Hid (PC w [(q, rbL 0 0 0)] gc c.window M wr) ∧ Hid (Lsd c y S (x.up j) ((ord S).take i) M)) (fun _ iv _ => m - (intOf iv).toNat)
  case atStart => exact ⟨0, [], Nat.zero_le _, rfl, rfl, P0, Lib.hid (Lsd.start c y S _)⟩
  case round =>
    clear P0
    obtain ⟨i, M, hi, rfl, rfl, P, LS⟩ := hrel
    by_cases hlt : (i : Int) < (m : Int)
    · obtain ⟨h, hh⟩ : ∃ h, (ord S)[i]? = some h := ⟨_, List.getElem?_eq_getElem (by have := HML.out; omega)⟩
      have ho := (ord_mem S h).1 (List.mem_of_getElem? hh)
      have hl6 : h < 6 := by have := HN.out; omega
      have hhc : (h : Int) < c.hosts := by have := HN.out; have := HNH.out; omega
      obtain ⟨s, hs⟩ : ∃ s, S[h]? = some s := ⟨_, List.getElem?_eq_getElem ho.1⟩
      have sg : S.getD h (-1) = s := by rw [List.getD_eq_getElem?_getD, hs]; rfl
      have sb := HS.out s (List.mem_of_getElem? hs)
      have BP := P.out.st.b
      obtain ⟨bb, boff, rfl, -, hc⟩ := HB.out.below BP i (h : Int) (hI_at hh)
      have c0 := hc 0 (.int .i64 (h : Int)) rfl
      rw [show boff + i * FI.n + 0 = boff + i by show boff + i * 1 + 0 = boff + i; omega] at c0
      have XX := row_below BP HG.out
      have u0 := cell_of_row _ g 10 _ _ _ XX
      have u1 := cell_of_row _ g 11 _ _ _ XX
      have uj : wr.cell? ⟨g, 10 + j, none⟩ = some (.int .u32 (x.up j : Int)) := by
        rcases (show j = 0 ∨ j = 1 by omega) with rfl | rfl
        · exact u0
        · exact u1
      have jn : (j : Int) < 2 := by omega
      have TS := Lib.hid (take_snoc hh)
      have HH := Lib.hid (fun W => CrewW.has_any (x.up j) (h : Int) W (HX.out.up j))
      clear hh u0 u1 XX hc
      cases hu : has (x.up j) (h : Int) with
      | true =>
        have L2 := Lib.hid (LS.out.lost hu)
        rw [hu] at HH
        clear hu hs sg sb BP ho
        go_wp2_with (go_at_call 86; refine (HH.out _).mono ?_; rintro r w3 ⟨rfl, rfl⟩)
        go_roundw
        case rel => exact ⟨i + 1, M, by omega, by go_num, rfl, P, by rw [TS.out]; exact L2⟩
        case measure => simp [intOf]; omega
      | false =>
        rw [hu] at HH
        have HU := Lib.hid hu
        obtain ⟨ad, ar, cpr, clr, hD, d0, d1, -, hcl, hnd⟩ := delay_at c D E L nd cd ne ce nl cl (HM.out.below BP) HC.out hhc hj
        subst hD
        have hnf : ¬ ∃ z ∈ M, z.f = h := by
          rintro ⟨z, hz, e⟩
          have h1 := LS.out.f z hz
          rw [e] at h1
          have h2 := ord_nodup S
          rw [← List.take_append_drop (i + 1) (ord S), TS.out, List.append_assoc] at h2
          exact (List.nodup_append.1 h2).2.2 h h1 h (List.mem_append_left _ (List.mem_singleton.2 rfl)) rfl
        obtain ⟨M', u', e', h1, h2, h3, h4⟩ := ladd P.out (y := y) (t := s + c.delay) (cl := clr) (f := h) HY.out ⟨hcl.1, by have := HC.out.d; omega⟩ hl6 hnf
        have L2 := Lib.hid (LS.out.come (h := h) HU.out (M' := M') (by rw [sg]; exact h1) h2)
        have ADD := Lib.hid h4
        have EV := Lib.hid h3
        have XX := row_below BP HG.out
        have A2 := Lib.hid (cell_of_row _ g 2 _ _ _ XX)
        have A5 := Lib.hid (cell_lt (cell_of_row _ g 5 _ _ _ XX))
        have A9 := Lib.hid (cell_lt (cell_of_row _ g 9 _ _ _ XX))
        have D0 := Lib.hid (cell_lt d0)
        have D1 := Lib.hid (cell_lt d1)
        obtain ⟨sb0, soff, rfl, -, hsc⟩ := HA.out.below BP h s hs
        have s0 := hsc 0 (.int .i64 s) rfl
        rw [show soff + h * FI.n + 0 = soff + h by show soff + h * 1 + 0 = soff + h; omega] at s0
        have SC := Lib.hid s0
        have SH := Lib.hid hs
        have hl1 : (h : Int) < (nd : Int) := by omega
        have hl2 : (h : Int) < (n : Int) := by have := HN.out; omega
        have hcd := HC.out.d
        have wz1 : IntKind.i64.wrap (s + c.delay) = s + c.delay := by rw [IntKind.wrap_i64]; omega
        have wz2 : wrap64 (s + c.delay) = s + c.delay := by unfold wrap64; omega
        obtain ⟨zr, hzr⟩ : ∃ zr, wr.heap.size = zr := ⟨_, rfl⟩
        have HZ := Lib.hid hzr
        rw [hzr] at A5 A9 D0 D1
        clear hu hs sg BP ho h1 h2 h3 h4 XX d0 d1 hsc s0 hnf hcl hcd
        go_wp2_with fail
        refine (HH.out _).mono ?_
        rintro r w3 ⟨rfl, hw⟩
        obtain rfl := hw.symm
        clear hw
        clear c0 uj HH
        go_wp2
        apply wp_some (S := fun Z : World => Below zr wr Z ∧ Z.heap[zr]? = some (CompW.cb 1 (h : Int) y 0 clr))
        case h =>
          refine wp_region_noPanic ?_
          refine wp_region_held_drew (S := fun Z : World => Below zr wr Z) (by kernel_rfl) ((hzr ▸ Below.refl _ _ : Below zr wr wr).drew) (fun hHeld => ?_)
          refine takeR 0 (some 43) ?_ ?_ ?_; rotate_left; (focus (intros; go_simp; (try with_reducible rfl)))
          simp only [aput, lset]
          refine takeR 1 (some 44) ?_ ?_ ?_; rotate_left; (focus (intros; go_simp; (try with_reducible rfl)))
          simp only [aput, lset]
          refine takeR 2 (some 45) ?_ ?_ ?_; rotate_left; (focus (intros; go_simp; (try with_reducible rfl)))
          simp only [aput, lset]
          refine takeR 3 (some 46) ?_ ?_ ?_; rotate_left; (focus (intros; go_simp; (try with_reducible rfl)))
          simp only [aput, lset]
          refine takeR 4 (some 47) ?_ ?_ ?_; rotate_left; (focus (intro w hSw; (try dsimp only at hSw); have a5 := cell_b hSw A5.out; have a9 := cell_b hSw A9.out; have d0 := cell_b hSw D0.out; have d1 := cell_b hSw D1.out; go_simp; (try with_reducible rfl)))
          simp only [aput, lset]
          refine takeR 5 (some 48) ?_ ?_ ?_; rotate_left; (focus (intros; go_simp; (try with_reducible rfl)))
          simp only [aput, lset]
          refine takeR 6 (some 49) ?_ ?_ ?_; rotate_left; (focus (intros; go_simp; (try with_reducible rfl)))
          simp only [aput, lset]
          refine takeR 7 (some 50) ?_ ?_ ?_; rotate_left; (focus (intros; go_simp; (try with_reducible rfl)))
          simp only [aput, lset]
          refine takeR 8 (some 51) ?_ ?_ ?_; rotate_left; (focus (intros; go_simp; (try with_reducible rfl)))
          simp only [aput, lset]
          refine takeR 9 (some 52) ?_ ?_ ?_; rotate_left; (focus (intro w hSw; (try dsimp only at hSw); have a5 := cell_b hSw A5.out; have a9 := cell_b hSw A9.out; have d0 := cell_b hSw D0.out; have d1 := cell_b hSw D1.out; go_simp; (try with_reducible rfl)))
          simp only [aput, lset]
          refine takeR 10 (some 53) ?_ ?_ ?_; rotate_left; (focus (intros; go_simp; (try with_reducible rfl)))
          simp only [aput, lset]
          refine takeR 11 (some 54) ?_ ?_ ?_; rotate_left; (focus (intros; go_simp; (try with_reducible rfl)))
          simp only [aput, lset]
          refine takeR 12 (some 55) ?_ ?_ ?_; rotate_left; (focus (intro w hSw; (try dsimp only at hSw); have a5 := cell_b hSw A5.out; have a9 := cell_b hSw A9.out; have d0 := cell_b hSw D0.out; have d1 := cell_b hSw D1.out; go_simp; (try with_reducible rfl)))
          simp only [aput, lset]
          refine takeR 13 (some 56) ?_ ?_ ?_; rotate_left; (focus (intros; go_simp; (try with_reducible rfl)))
          simp only [aput, lset]
          refine takeR 14 (some 57) ?_ ?_ ?_; rotate_left; (focus (intros; go_simp; (try with_reducible rfl)))
          simp only [aput, lset]
          refine takeR 15 (some 58) ?_ ?_ ?_; rotate_left; (focus (intro w hSw; (try dsimp only at hSw); have a5 := cell_b hSw A5.out; have a9 := cell_b hSw A9.out; have d0 := cell_b hSw D0.out; have d1 := cell_b hSw D1.out; go_simp; (try with_reducible rfl)))
          simp only [aput, lset]
          refine takeR 16 (some 59) ?_ ?_ ?_; rotate_left; (focus (intros; go_simp; (try with_reducible rfl)))
          simp only [aput, lset]
          refine wpAnyH_ready (rs := [17]) (by kernel_rfl) (by simp) ?_
          refine AllReadyH.cons (o := ⟨some 14, _, _, _, _, _⟩) rfl (fun K hK => ?_) AllReadyH.nil
          rw [if_pos (by kernel_rfl)]
          go_simp
          have hS9' : Below zr wr (wr.drew.alloc (CompW.cb 0 0 0 0 0)) := (Below.refl _ _).drew.alloc (Nat.le_of_eq hzr.symm) _
          have B9 : (wr.alloc (CompW.cb 0 0 0 0 0)).drew.heap[zr]? = some (CompW.cb 0 0 0 0 0) := heap_at hzr _
          go_simp
          refine hK.out _ _ (by assumption) (fun hHeld => ?_)
          clear hK K
          refine wpAnyH_ready (rs := [18]) (by kernel_rfl) (by simp) ?_
          refine AllReadyH.cons (o := ⟨none, _, _, _, _, _⟩) rfl (fun K hK => ?_) AllReadyH.nil
          rw [if_pos (by kernel_rfl)]
          go_simp
          have hB : (wr.alloc (CompW.cb 1 (h : Int) y 0 clr)).drew.heap[zr]? = some (CompW.cb 1 (h : Int) y 0 clr) := heap_at hzr _
          have hS8 : Below zr wr (wr.drew.alloc (CompW.cb 1 (h : Int) y 0 clr)) := (Below.refl _ _).drew.alloc (Nat.le_of_eq hzr.symm) _
          go_simp
          refine hK.out _ _ (by assumption) (fun hHeld => ?_)
          clear hK K
          refine wpAnyH_done (by kernel_rfl) ?_ _
          exact NoPanic.normal ⟨rfl, rfl, hS8, hB⟩
        case hm =>
          rintro w4 ⟨b4, hb4⟩
          have B4 := Lib.hid (show Below wr.heap.size wr w4 by rw [HZ.out]; exact b4)
          have P4 := Lib.hid (P.out.next B4.out)
          have GZ := Lib.hid (show gc < zr by rw [← HZ.out]; exact lt_of_heap P.out.box)
          have GLE := Lib.hid (show gc ≤ w4.heap.size by have := lt_of_heap P4.out.box; omega)
          have GW := Lib.hid (show w.heap.size ≤ gc by rw [HQ.out, ← HGC.out]; exact Nat.le_succ _)
          have Y2 := Lib.hid (show w4.cell? ⟨g, 2, none⟩ = some (.int .i64 c.delay) ∧ g < gc from ⟨cell_keep A2.out B4.out, Nat.lt_of_lt_of_le (lt_of_heap HG.out) GW.out⟩)
          have Y0 := Lib.hid (show w4.cell? ⟨sb0, soff + h, none⟩ = some (.int .i64 s) ∧ sb0 < gc from ⟨cell_keep SC.out B4.out, by
            obtain ⟨sb1, so1, e1, hlt1, -⟩ := HA.out h s SH.out
            cases e1
            exact Nat.lt_of_lt_of_le hlt1 GW.out⟩)
          have CB := Lib.hid hb4
          clear b4 hb4 A2 SC A5 A9 D0 D1
          go_wp2
          apply wp_some (S := fun Z : World => PC w [(q, rbL 0 0 0)] gc c.window M' Z)
          case h =>
            refine wp_region_noPanic ?_
            refine wp_region_held_drew (S := fun Z : World => Kept gc w4 Z) (by kernel_rfl) ((Kept.of (Below.refl _ _)).drew) (fun hHeld => ?_)
            refine takeR 0 (some 61) ?_ ?_ ?_; rotate_left; (focus (intros; go_simp; (try with_reducible rfl)))
            simp only [aput, lset]
            refine takeR 1 (some 62) ?_ ?_ ?_; rotate_left; (focus (intros; go_simp; (try with_reducible rfl)))
            simp only [aput, lset]
            refine takeR 2 (some 63) ?_ ?_ ?_; rotate_left; (focus (intros; go_simp; (try with_reducible rfl)))
            simp only [aput, lset]
            refine takeR 3 (some 64) ?_ ?_ ?_; rotate_left; (focus (intros; go_simp; (try with_reducible rfl)))
            simp only [aput, lset]
            refine takeR 4 (some 65) ?_ ?_ ?_; rotate_left; (focus (intro w hSw; (try dsimp only at hSw); have kb := Kept.below hSw (Nat.le_refl gc) GLE.out; have a2 := cell_b kb Y2.out; have s0 := cell_b kb Y0.out; have zb := (Kept.block hSw zr (fun e => absurd GZ.out (by omega)) (lt_of_heap CB.out)).trans CB.out; have z0 := cell_of_row _ zr 0 _ _ _ zb; have z1 := cell_of_row _ zr 1 _ _ _ zb; have z2 := cell_of_row _ zr 2 _ _ _ zb; have z3 := cell_of_row _ zr 3 _ _ _ zb; have z4 := cell_of_row _ zr 4 _ _ _ zb; go_simp; (try with_reducible rfl)))
            simp only [aput, lset]
            refine takeR 5 (some 66) ?_ ?_ ?_; rotate_left; (focus (intros; go_simp; (try with_reducible rfl)))
            simp only [aput, lset]
            refine takeR 6 (some 67) ?_ ?_ ?_; rotate_left; (focus (intros; go_simp; (try with_reducible rfl)))
            simp only [aput, lset]
            refine takeR 7 (some 68) ?_ ?_ ?_; rotate_left; (focus (intros; go_simp; (try with_reducible rfl)))
            simp only [aput, lset]
            refine takeR 8 (some 69) ?_ ?_ ?_; rotate_left; (focus (intros; go_simp; (try with_reducible rfl)))
            simp only [aput, lset]
            refine takeR 9 (some 70) ?_ ?_ ?_; rotate_left; (focus (intro w hSw; (try dsimp only at hSw); have kb := Kept.below hSw (Nat.le_refl gc) GLE.out; have a2 := cell_b kb Y2.out; have s0 := cell_b kb Y0.out; have zb := (Kept.block hSw zr (fun e => absurd GZ.out (by omega)) (lt_of_heap CB.out)).trans CB.out; have z0 := cell_of_row _ zr 0 _ _ _ zb; have z1 := cell_of_row _ zr 1 _ _ _ zb; have z2 := cell_of_row _ zr 2 _ _ _ zb; have z3 := cell_of_row _ zr 3 _ _ _ zb; have z4 := cell_of_row _ zr 4 _ _ _ zb; go_simp; (try with_reducible rfl)))
            simp only [aput, lset]
            refine takeR 10 (some 71) ?_ ?_ ?_; rotate_left; (focus (intros; go_simp; (try with_reducible rfl)))
            simp only [aput, lset]
            refine takeR 11 (some 72) ?_ ?_ ?_; rotate_left; (focus (intro w hSw; (try dsimp only at hSw); have kb := Kept.below hSw (Nat.le_refl gc) GLE.out; have a2 := cell_b kb Y2.out; have s0 := cell_b kb Y0.out; have zb := (Kept.block hSw zr (fun e => absurd GZ.out (by omega)) (lt_of_heap CB.out)).trans CB.out; have z0 := cell_of_row _ zr 0 _ _ _ zb; have z1 := cell_of_row _ zr 1 _ _ _ zb; have z2 := cell_of_row _ zr 2 _ _ _ zb; have z3 := cell_of_row _ zr 3 _ _ _ zb; have z4 := cell_of_row _ zr 4 _ _ _ zb; go_simp; (try with_reducible rfl)))
            simp only [aput, lset]
            refine wpAnyH_ready (rs := [12]) (by kernel_rfl) (by simp) ?_
            refine AllReadyH.cons (o := ⟨some 73, _, _, _, _, _⟩) rfl (fun K hK => ?_) AllReadyH.nil
            rw [if_pos (by kernel_rfl)]
            go_simp
            refine (ADD.out _ P4.out.drew).mono ?_
            rintro r w9 ⟨rfl, p9, k9⟩
            have hS9 : Kept gc w4 w9 := Kept.trans hHeld k9
            go_simp
            refine hK.out _ _ (by assumption) (fun hHeld => ?_)
            clear hK K
            refine takeR 13 (some 60) ?_ ?_ ?_; rotate_left; (focus (intros; go_simp; (try with_reducible rfl)))
            simp only [aput, lset]
            refine takeR 14 (some 74) ?_ ?_ ?_; rotate_left; (focus (intros; go_simp; (try with_reducible rfl)))
            simp only [aput, lset]
            refine takeR 15 (some 75) ?_ ?_ ?_; rotate_left; (focus (intros; go_simp; (try with_reducible rfl)))
            simp only [aput, lset]
            refine takeR 16 (some 15) ?_ ?_ ?_; rotate_left; (focus (intros; go_simp; (try with_reducible rfl)))
            simp only [aput, lset]
            refine takeR 17 (some 16) ?_ ?_ ?_; rotate_left; (focus (intros; go_simp; (try with_reducible rfl)))
            simp only [aput, lset]
            refine wpAnyH_done (by kernel_rfl) ?_ _
            exact NoPanic.normal ⟨rfl, rfl, p9⟩
          case hm =>
            rintro w5 p5
            have P5 := Lib.hid p5
            clear p5 ADD
            rcases EV.out with ⟨rfl, rfl⟩ | ⟨hne, rfl⟩
            · go_wp2
              go_roundw
              case rel => exact ⟨i + 1, M', by omega, by go_num, rfl, P5, by rw [TS.out]; exact L2⟩
              case measure => simp [intOf]; omega
            · go_wp2
              go_roundw
              case rel => exact ⟨i + 1, M', by omega, by go_num, rfl, P5, by rw [TS.out]; exact L2⟩
              case measure => simp [intOf]; omega
    · obtain rfl : m = i := by omega
      have LF := Lib.hid (show M.map st = col c y S (x.up j) from by
        have h1 := LS.out.e
        rw [List.take_of_length_le (by rw [HML.out]; exact Nat.le_refl _)] at h1
        exact h1)
      have BP := Lib.hid P.out.st.b
      by_cases hM : M = []
      · have CL := Lib.hid (P.out.no_close (endv c.window M) (Or.inl hM))
        have RS := Lib.hid (show rsl c y S (x.up j) = none by unfold rsl; rw [← LF.out, hM]; rfl)
        clear hM
        go_wp2_with fail
        refine CL.out.mono ?_
        rintro r w6 ⟨rfl, p6, b6⟩
        have P6 := Lib.hid p6
        clear p6 b6 CL
        have BQ := Lib.hid (row_below (al (Below.refl _ w6) (rbL (0) (0) (0))) (P6.out.st.at 0 rfl))
        obtain ⟨f0, f1, f2⟩ := frozen3 BQ.out
        obtain ⟨e0, e1, e2⟩ := cells3 BQ.out
        have P3 := Lib.hid (put3 BQ.out (.int .i64 (0)) (.int .u32 (0)) (.int .i64 (0)))
        have B6 := Lib.hid (show Below w.heap.size w (w6.alloc (rbL (0) (0) (0))) from P6.out.st.b.trans ((al (Below.refl _ w6) _).mono P6.out.st.b.size))
        go_wp2
        exact ret_r1 rfl rfl P3.out ⟨by rw [RS.out]; rfl, below_q HQ.out B6.out (kept3 _ _ _ _ _)⟩
      · have CL := Lib.hid (P.out.shut hM (endv c.window M) (by unfold endv; rw [if_neg hM]; exact Int.le_refl _))
        have RS := Lib.hid (show rsl c y S (x.up j) = some (pt M, sS M) by
          unfold rsl
          rw [← LF.out, if_neg (fun h => hM (List.map_eq_nil_iff.1 h)), pt_st, sS_st])
        have CY := Lib.hid (cy_one LS.out.y hM)
        clear hM
        go_wp2_with fail
        refine CL.out.mono ?_
        rintro r w6 ⟨rfl, p6, k6⟩
        have P6 := Lib.hid p6
        rw [CY.out]
        clear p6 k6 CL
        have BQ := Lib.hid (row_below (al (Below.refl _ w6) (rbL (pt M) ((sS M : Int)) (y))) (P6.out.st.at 0 rfl))
        obtain ⟨f0, f1, f2⟩ := frozen3 BQ.out
        obtain ⟨e0, e1, e2⟩ := cells3 BQ.out
        have P3 := Lib.hid (put3 BQ.out (.int .i64 (pt M)) (.int .u32 ((sS M : Int))) (.int .i64 (y)))
        have B6 := Lib.hid (show Below w.heap.size w (w6.alloc (rbL (pt M) ((sS M : Int)) (y))) from P6.out.st.b.trans ((al (Below.refl _ w6) _).mono P6.out.st.b.size))
        go_wp2
        exact ret_r1 rfl rfl P3.out ⟨by rw [RS.out]; rfl, below_q HQ.out B6.out (kept3 _ _ _ _ _)⟩
end Go.Proofs.YtmagjekmlnpfpaaGreat.RoundW


/- The landed round: both switches; who is in each result. -/
namespace Go.Proofs.YtmagjekmlnpfpaaGreat.RoundW
open Shell (takeR skipR aput lset)
open Go.RowKit Shell
open ConfW (Cfg CM chk)
open CrewW (has)
theorem sg_kept {α : Type} {F : Flat α} {w w1 : World} {g : Nat} {A : Option Addr} {S : List α} (h : SG F w A S) (k : Kept g w w1) (hA : ∀ a, A = some a → a.block ≠ g) : SG F w1 A S :=
  h.step (step_kept k (v := .slice (some ⟨g, 0, none⟩) 0 0) rfl) (fun a ha e => hA a ha (by cases e; rfl))
/-- A world, its old one, the exchange's box. -/
structure WX (w0 : World) (g : Nat) (c : Cfg) (D E L : Option Addr) (nd cd ne ce nl cl : Nat) (y : Int) (x : Lo) (a b : Option (Int × Nat)) (w : World) : Prop where
  st : Stay w0 [(g, xbx c D E L nd cd ne ce nl cl y x a b)] w
  m : CM w0 c D E L nd cd ne ce nl cl
  g0 : w0.heap.size ≤ g
theorem WX.next {w0 w w1 : World} {g : Nat} {c : Cfg} {D E L : Option Addr} {nd cd ne ce nl cl : Nat} {y : Int} {x : Lo} {a b : Option (Int × Nat)} (h : WX w0 g c D E L nd cd ne ce nl cl y x a b w) (bl : Below w.heap.size w w1) : WX w0 g c D E L nd cd ne ce nl cl y x a b w1 := ⟨h.st.next bl, h.m, h.g0⟩
theorem WX.turn {w0 w w1 : World} {g : Nat} {c : Cfg} {D E L : Option Addr} {nd cd ne ce nl cl : Nat} {y : Int} {x : Lo} {a b a' b' : Option (Int × Nat)} (h : WX w0 g c D E L nd cd ne ce nl cl y x a b w) (k : Kept g w w1) (hg : w1.heap[g]? = some (xbx c D E L nd cd ne ce nl cl y x a' b')) : WX w0 g c D E L nd cd ne ce nl cl y x a' b' w1 :=
  ⟨h.st.turn k hg h.g0 (fun x hx => by cases hx), h.m, h.g0⟩
theorem WX.kept {w0 w w1 : World} {g p : Nat} {c : Cfg} {D E L : Option Addr} {nd cd ne ce nl cl : Nat} {y : Int} {x : Lo} {a b : Option (Int × Nat)} (h : WX w0 g c D E L nd cd ne ce nl cl y x a b w) (k : Kept p w w1) (hp : p ≠ g) (hp0 : w0.heap.size ≤ p) : WX w0 g c D E L nd cd ne ce nl cl y x a b w1 :=
  ⟨⟨h.st.b.trans (k.below hp0 h.st.b.size), fun z hz => by
    rw [List.mem_singleton.1 hz]
    exact (k.block g (fun e => hp e.symm) (lt_of_heap (h.st.at 0 rfl))).trans (h.st.at 0 rfl)⟩, h.m, h.g0⟩
theorem WX.cm {w0 w : World} {g : Nat} {c : Cfg} {D E L : Option Addr} {nd cd ne ce nl cl : Nat} {y : Int} {x : Lo} {a b : Option (Int × Nat)} (h : WX w0 g c D E L nd cd ne ce nl cl y x a b w) : CM w c D E L nd cd ne ce nl cl := h.m.below h.st.b
theorem WX.box {w0 w : World} {g : Nat} {c : Cfg} {D E L : Option Addr} {nd cd ne ce nl cl : Nat} {y : Int} {x : Lo} {a b : Option (Int × Nat)} (h : WX w0 g c D E L nd cd ne ce nl cl y x a b w) : w.heap[g]? = some (xbx c D E L nd cd ne ce nl cl y x a b) := h.st.at 0 rfl
def raj (j : Nat) (r0 : Option (Int × Nat)) : Option (Int × Nat) := if j = 0 then none else r0
def rbj (j : Nat) (r1 : Option (Int × Nat)) : Option (Int × Nat) := if j ≤ 1 then none else r1
set_option maxHeartbeats 8000000 in
set_option maxRecDepth 100000 in
theorem compress_any (c : Cfg) (D E L : Option Addr) (nd cd ne ce nl cl : Nat) (y : Int) (x : Lo) (g : Nat) (A : Option Addr) (S : List Int) (n cp : Nat) (w0 w : World) (C : COk c) (hx : LoOk x) (hw : WX w0 g c D E L nd cd ne ce nl cl y x none none w) (hy : 0 ≤ y ∧ y ≤ 1125899906842624) (hn : S.length = n) (hnh : (n : Int) = c.hosts) (hS : ∀ s ∈ S, -1 ≤ s ∧ s ≤ 1125899906842624) (hA : SG FI w A S) (hna : ∀ a, A = some a → a.block ≠ g) :
    Calls Tryz.prog 36 #[.pointer (some ⟨g, 0, none⟩), .slice A n cp] w fun e w' => e = .returned (.tuple #[]) ∧ WX w0 g c D E L nd cd ne ce nl cl y x (rsl c y S x.u0) (rsl c y S x.u1) w' ∧ Kept g w w' := by
  have HC := Lib.hid C
  have HX := Lib.hid hx
  have HW := Lib.hid hw
  have HY := Lib.hid hy
  have HN := Lib.hid hn
  have HNH := Lib.hid hnh
  have HS := Lib.hid hS
  have NA := Lib.hid hna
  have HA := Lib.hid hA
  have n6 : n ≤ 6 := by have := C.h; omega
  obtain ⟨r0, hr0⟩ : ∃ r0, rsl c y S x.u0 = r0 := ⟨_, rfl⟩
  obtain ⟨r1, hr1⟩ : ∃ r1, rsl c y S x.u1 = r1 := ⟨_, rfl⟩
  rw [hr0, hr1]
  have HR0 := Lib.hid hr0
  have HR1 := Lib.hid hr1
  have IN := Lib.hid (inOrder_any A S n cp w hn n6 hS hA)
  have GS := Lib.hid (lt_of_heap hw.box)
  clear C hx hw hy hn hnh hS hA hr0 hr1 hna
  go_enter Tryz.func36, Tryz.ntmps36
  go_wp2_with fail
  refine IN.out.mono ?_
  rintro e w1 ⟨v, rfl, o1, b1⟩
  obtain ⟨B, bp, hv, sB, -, -, hbl⟩ := o1.form
  obtain ⟨m, hm⟩ : ∃ m, (hI (ord S)).length = m := ⟨_, rfl⟩
  rw [hm] at hv
  have HML := Lib.hid (show (ord S).length = m by rw [← hm, List.length_map])
  subst hv
  have Q1 := Lib.hid (HW.out.next b1)
  have K1 := Lib.hid (Kept.of (k := g) b1)
  have SB1 := Lib.hid sB
  have NB := Lib.hid (fun a (ha : B = some a) => (show a.block ≠ g by have := (hbl a ha).2.2.1; have := GS.out; omega))
  have SA1 := Lib.hid (HA.out.below b1)
  clear o1 b1 sB hbl hm IN
  go_wp2
  go_loopw [8] (fun jv wr => ∃ (j : Nat), j ≤ 2 ∧ jv = .int .i64 j ∧ Hid (WX w0 g c D E L nd cd ne ce nl cl y x (raj j r0) (rbj j r1) wr) ∧ Hid (Kept g w wr) ∧ Hid (SG FI wr B (hI (ord S))) ∧ Hid (SG FI wr A S)) (fun jv _ => 2 - (intOf jv).toNat)
  case atStart => exact ⟨0, by omega, rfl, Q1, K1, SB1, SA1⟩
  case round =>
    clear Q1 K1 SB1 SA1
    obtain ⟨j, hj, rfl, Q, KP, SB, SA⟩ := hrel
    rcases (show j = 0 ∨ j = 1 ∨ j = 2 by omega) with rfl | rfl | rfl
    · rw [show raj 0 r0 = none from rfl, show rbj 0 r1 = none from rfl] at Q
      have XB0 := Lib.hid Q.out.box
      have CO0 := lcollect_any c D E L nd cd ne ce nl cl y x none none g 0 B m bp A S n cp wr.drew HC.out (Q.out.cm.below (Below.refl _ _).drew) HX.out (by decide) Q.out.box HY.out HN.out HNH.out HS.out HML.out (SB.out.below (Below.refl _ _).drew) (SA.out.below (Below.refl _ _).drew)
      rw [show ((0 : Nat) : Int) = 0 from rfl, show x.up 0 = x.u0 from rfl, HR0.out] at CO0
      have CO := Lib.hid CO0
      clear CO0
      go_wp2
      apply wp_some (S := fun Z : World => Kept g wr Z ∧ Z.heap[g]? = some (xbx c D E L nd cd ne ce nl cl y x r0 none))
      case h =>
        refine wp_region_noPanic ?_
        refine wp_region_held_drew (S := fun Z : World => Kept g wr Z) (by kernel_rfl) ((Kept.of (Below.refl _ _)).drew) (fun hHeld => ?_)
        refine takeR 0 (some 11) ?_ ?_ ?_; rotate_left; (focus (intros; go_simp; (try with_reducible rfl)))
        simp only [aput, lset]
        refine takeR 1 (some 12) ?_ ?_ ?_; rotate_left; (focus (intros; go_simp; (try with_reducible rfl)))
        simp only [aput, lset]
        refine takeR 2 (some 13) ?_ ?_ ?_; rotate_left; (focus (intros; go_simp; (try with_reducible rfl)))
        simp only [aput, lset]
        refine takeR 3 (some 14) ?_ ?_ ?_; rotate_left; (focus (intros; go_simp; (try with_reducible rfl)))
        simp only [aput, lset]
        refine takeR 4 (some 15) ?_ ?_ ?_; rotate_left; (focus (intros; go_simp; (try with_reducible rfl)))
        simp only [aput, lset]
        refine takeR 5 (some 16) ?_ ?_ ?_; rotate_left; (focus (intros; go_simp; (try with_reducible rfl)))
        simp only [aput, lset]
        refine takeR 7 (some 18) ?_ ?_ ?_; rotate_left; (focus (intros; go_simp; (try with_reducible rfl)))
        simp only [aput, lset]
        refine takeR 8 (some 19) ?_ ?_ ?_; rotate_left; (focus (intros; go_simp; (try with_reducible rfl)))
        simp only [aput, lset]
        refine wpAnyH_ready (rs := [6]) (by kernel_rfl) (by simp) ?_
        refine AllReadyH.cons (o := ⟨some 17, _, _, _, _, _⟩) rfl (fun K hK => ?_) AllReadyH.nil
        rw [if_pos (by kernel_rfl)]
        go_simp
        refine CO.out.mono ?_
        rintro r w9 ⟨rfl, b9⟩
        have B9 : Below wr.heap.size wr w9 := Below.trans (Below.refl _ _).drew b9
        have hS9 : Kept g wr w9 := Kept.of B9
        go_simp
        refine hK.out _ _ (by assumption) (fun hHeld => ?_)
        clear hK K
        refine takeR 9 (some 20) ?_ ?_ ?_; rotate_left; (focus (intros; go_simp; (try with_reducible rfl)))
        simp only [aput, lset]
        refine wpAnyH_ready (rs := [10]) (by kernel_rfl) (by simp) ?_
        refine AllReadyH.cons (o := ⟨none, _, _, _, _, _⟩) rfl (fun K hK => ?_) AllReadyH.nil
        rw [if_pos (by kernel_rfl)]
        go_simp
        have XB := row_below B9 XB0.out
        have f14 := frozen_of_row _ g 14 _ _ XB
        have c14 := cell_of_row _ g 14 _ _ _ XB
        have f15 := frozen_of_row _ g 15 _ _ XB
        have c15 := cell_of_row _ g 15 _ _ _ XB
        have f16 := frozen_of_row _ g 16 _ _ XB
        have c16 := cell_of_row _ g 16 _ _ _ XB
        have hS8 : Kept g wr (((w9.setCell ⟨g, 14, none⟩ (.int .i64 (rp r0))).setCell ⟨g, 15, none⟩ (.int .u32 (crw r0 : Int))).setCell ⟨g, 16, none⟩ (.int .i64 (ry y r0))) := hS9.trans ((kept2 _ g 14 15 _ _).trans (kept1 _ g 16 _))
        have hB : (((w9.setCell ⟨g, 14, none⟩ (.int .i64 (rp r0))).setCell ⟨g, 15, none⟩ (.int .u32 (crw r0 : Int))).setCell ⟨g, 16, none⟩ (.int .i64 (ry y r0))).heap[g]? = some (xbx c D E L nd cd ne ce nl cl y x r0 none) := heap_setCell_same _ g 16 _ _ _ (heap_setCell_same _ g 15 _ _ _ (heap_setCell_same _ g 14 _ _ _ XB))
        go_simp
        refine hK.out _ _ (by assumption) (fun hHeld => ?_)
        clear hK K
        refine wpAnyH_done (by kernel_rfl) ?_ _
        exact NoPanic.normal ⟨rfl, rfl, hS8, hB⟩
      case hm =>
        rintro w5 ⟨k5, hb5⟩
        have Q5 := Lib.hid (Q.out.turn k5 hb5)
        have K5 := Lib.hid (KP.out.trans k5)
        have SB5 := Lib.hid (sg_kept SB.out k5 NB.out)
        have SA5 := Lib.hid (sg_kept SA.out k5 NA.out)
        clear k5 hb5
        go_wp2
        go_roundw
        case rel => exact ⟨1, by omega, by go_num, Q5, K5, SB5, SA5⟩
        case measure => simp [intOf]
    · rw [show raj 1 r0 = r0 from rfl, show rbj 1 r1 = none from rfl] at Q
      have XB0 := Lib.hid Q.out.box
      have CO0 := lcollect_any c D E L nd cd ne ce nl cl y x r0 none g 1 B m bp A S n cp wr.drew HC.out (Q.out.cm.below (Below.refl _ _).drew) HX.out (by decide) Q.out.box HY.out HN.out HNH.out HS.out HML.out (SB.out.below (Below.refl _ _).drew) (SA.out.below (Below.refl _ _).drew)
      rw [show ((1 : Nat) : Int) = 1 from rfl, show x.up 1 = x.u1 from rfl, HR1.out] at CO0
      have CO := Lib.hid CO0
      clear CO0
      go_wp2
      apply wp_some (S := fun Z : World => Kept g wr Z ∧ Z.heap[g]? = some (xbx c D E L nd cd ne ce nl cl y x r0 r1))
      case h =>
        refine wp_region_noPanic ?_
        refine wp_region_held_drew (S := fun Z : World => Kept g wr Z) (by kernel_rfl) ((Kept.of (Below.refl _ _)).drew) (fun hHeld => ?_)
        refine takeR 0 (some 11) ?_ ?_ ?_; rotate_left; (focus (intros; go_simp; (try with_reducible rfl)))
        simp only [aput, lset]
        refine takeR 1 (some 12) ?_ ?_ ?_; rotate_left; (focus (intros; go_simp; (try with_reducible rfl)))
        simp only [aput, lset]
        refine takeR 2 (some 13) ?_ ?_ ?_; rotate_left; (focus (intros; go_simp; (try with_reducible rfl)))
        simp only [aput, lset]
        refine takeR 3 (some 14) ?_ ?_ ?_; rotate_left; (focus (intros; go_simp; (try with_reducible rfl)))
        simp only [aput, lset]
        refine takeR 4 (some 15) ?_ ?_ ?_; rotate_left; (focus (intros; go_simp; (try with_reducible rfl)))
        simp only [aput, lset]
        refine takeR 5 (some 16) ?_ ?_ ?_; rotate_left; (focus (intros; go_simp; (try with_reducible rfl)))
        simp only [aput, lset]
        refine takeR 7 (some 18) ?_ ?_ ?_; rotate_left; (focus (intros; go_simp; (try with_reducible rfl)))
        simp only [aput, lset]
        refine takeR 8 (some 19) ?_ ?_ ?_; rotate_left; (focus (intros; go_simp; (try with_reducible rfl)))
        simp only [aput, lset]
        refine wpAnyH_ready (rs := [6]) (by kernel_rfl) (by simp) ?_
        refine AllReadyH.cons (o := ⟨some 17, _, _, _, _, _⟩) rfl (fun K hK => ?_) AllReadyH.nil
        rw [if_pos (by kernel_rfl)]
        go_simp
        refine CO.out.mono ?_
        rintro r w9 ⟨rfl, b9⟩
        have B9 : Below wr.heap.size wr w9 := Below.trans (Below.refl _ _).drew b9
        have hS9 : Kept g wr w9 := Kept.of B9
        go_simp
        refine hK.out _ _ (by assumption) (fun hHeld => ?_)
        clear hK K
        refine takeR 9 (some 20) ?_ ?_ ?_; rotate_left; (focus (intros; go_simp; (try with_reducible rfl)))
        simp only [aput, lset]
        refine wpAnyH_ready (rs := [10]) (by kernel_rfl) (by simp) ?_
        refine AllReadyH.cons (o := ⟨none, _, _, _, _, _⟩) rfl (fun K hK => ?_) AllReadyH.nil
        rw [if_pos (by kernel_rfl)]
        go_simp
        have XB := row_below B9 XB0.out
        have f17 := frozen_of_row _ g 17 _ _ XB
        have c17 := cell_of_row _ g 17 _ _ _ XB
        have f18 := frozen_of_row _ g 18 _ _ XB
        have c18 := cell_of_row _ g 18 _ _ _ XB
        have f19 := frozen_of_row _ g 19 _ _ XB
        have c19 := cell_of_row _ g 19 _ _ _ XB
        have hS8 : Kept g wr (((w9.setCell ⟨g, 17, none⟩ (.int .i64 (rp r1))).setCell ⟨g, 18, none⟩ (.int .u32 (crw r1 : Int))).setCell ⟨g, 19, none⟩ (.int .i64 (ry y r1))) := hS9.trans ((kept2 _ g 17 18 _ _).trans (kept1 _ g 19 _))
        have hB : (((w9.setCell ⟨g, 17, none⟩ (.int .i64 (rp r1))).setCell ⟨g, 18, none⟩ (.int .u32 (crw r1 : Int))).setCell ⟨g, 19, none⟩ (.int .i64 (ry y r1))).heap[g]? = some (xbx c D E L nd cd ne ce nl cl y x r0 r1) := heap_setCell_same _ g 19 _ _ _ (heap_setCell_same _ g 18 _ _ _ (heap_setCell_same _ g 17 _ _ _ XB))
        go_simp
        refine hK.out _ _ (by assumption) (fun hHeld => ?_)
        clear hK K
        refine wpAnyH_done (by kernel_rfl) ?_ _
        exact NoPanic.normal ⟨rfl, rfl, hS8, hB⟩
      case hm =>
        rintro w5 ⟨k5, hb5⟩
        have Q5 := Lib.hid (Q.out.turn k5 hb5)
        have K5 := Lib.hid (KP.out.trans k5)
        have SB5 := Lib.hid (sg_kept SB.out k5 NB.out)
        have SA5 := Lib.hid (sg_kept SA.out k5 NA.out)
        clear k5 hb5
        go_wp2
        go_roundw
        case rel => exact ⟨2, by omega, by go_num, Q5, K5, SB5, SA5⟩
        case measure => simp [intOf]
    · rw [show raj 2 r0 = r0 from rfl, show rbj 2 r1 = r1 from rfl] at Q
      go_wp2
      go_end0
      exact ⟨rfl, Q.out, KP.out⟩
abbrev cw2 (a b : Int) : Obj := .cells #[.int .u32 a, .int .u32 b] 29 (0, 0)
theorem cells2 {w : World} {j : Nat} {x y : Value} {t : TypeId} {fr : Nat × Nat} (h : w.heap[j]? = some (.cells #[x, y] t fr)) : w.cell? ⟨j, 0, none⟩ = some x ∧ w.cell? ⟨j, 1, none⟩ = some y := ⟨cell_of_row w j 0 _ _ _ h, cell_of_row w j 1 _ _ _ h⟩
theorem frozen2 {w : World} {j : Nat} {x y : Value} {t : TypeId} (h : w.heap[j]? = some (.cells #[x, y] t (0, 0))) : w.frozen? ⟨j, 0, none⟩ = false ∧ w.frozen? ⟨j, 1, none⟩ = false := ⟨frozen_of_row w j 0 _ _ h, frozen_of_row w j 1 _ _ h⟩
theorem put2 {w : World} {k : Nat} {m b : Value} {t : TypeId} (h : w.heap[k]? = some (.cells #[m, b] t (0, 0))) (x y : Value) : ((w.setCell ⟨k, 0, none⟩ x).setCell ⟨k, 1, none⟩ y).heap[k]? = some (.cells #[x, y] t (0, 0)) := heap_setCell_same _ k 1 _ _ _ (heap_setCell_same w k 0 _ _ _ h)
theorem results_w2 {fn : Func} {p : Tmp} (h : fn.results = #[.cell p 29]) (tmps : Array Value) (w : World) (g : Nat) (t : TypeId) (x1 x2 : Value) (fr : Nat × Nat)
    (hp : tmps.getD p undef = .pointer (some ⟨g, 0, none⟩)) (hg : w.heap[g]? = some (.cells #[x1, x2] t fr)) :
    (results fn tmps).run Tryz.prog w = .ok (.agg #[x1, x2]) w := by
  have hp' : tmps[p]?.getD undef = .pointer (some ⟨g, 0, none⟩) := by simpa using hp
  simp [results, h, hp', asAddr, run_loadVar_row w g t 29 #[x1, x2] fr _ hg Tryz.underlying29 rfl (by kernel_rfl)]
theorem ret_w2 {fn : Func} {R : Ending → World → Prop} {p : Tmp} (h : fn.results = #[.cell p 29]) {tmps : Array Value} {w : World} {g : Nat} {x1 x2 : Value} {t : TypeId} {fr : Nat × Nat}
    (hp : tmps.getD p undef = .pointer (some ⟨g, 0, none⟩)) (hg : w.heap[g]? = some (.cells #[x1, x2] t fr)) (hR : R (.returned (.agg #[x1, x2])) w) :
    bodyPost Tryz.prog fn R .ret { tmps := tmps, defers := [] } w :=
  bodyPost_ret (results_w2 h tmps w g t x1 x2 fr hp hg) rfl hR
set_option maxHeartbeats 8000000 in
set_option maxRecDepth 100000 in
theorem crews_any (c : Cfg) (D E L : Option Addr) (nd cd ne ce nl cl : Nat) (y : Int) (x : Lo) (g : Nat) (a b : Option (Int × Nat)) (w : World) (hg : w.heap[g]? = some (xbx c D E L nd cd ne ce nl cl y x a b)) :
    Calls Tryz.prog 37 #[.pointer (some ⟨g, 0, none⟩)] w fun e w' => e = .returned (.agg #[.int .u32 (crw a : Int), .int .u32 (crw b : Int)]) ∧ Below w.heap.size w w' := by
  have S0 := ((Stay.start w).alloc (cw2 0 0)).alloc (cw2 0 0)
  have XG := row_below S0.b hg
  have c14 := cell_of_row _ g 14 _ _ _ XG
  have c15 := cell_of_row _ g 15 _ _ _ XG
  have c16 := cell_of_row _ g 16 _ _ _ XG
  have c17 := cell_of_row _ g 17 _ _ _ XG
  have c18 := cell_of_row _ g 18 _ _ _ XG
  have c19 := cell_of_row _ g 19 _ _ _ XG
  obtain ⟨q, hq⟩ : ∃ q, w.heap.size = q := ⟨_, rfl⟩
  have HQ := Lib.hid hq
  simp only [World.size_alloc] at S0
  rw [hq] at S0 ⊢
  have Q0 := Lib.hid S0
  have hix0 : ∀ (v0 v1 v2 v3 v4 v5 : Value) (W : World), (Instr.index 93 (.agg #[v0, v1, v2, v3, v4, v5]) (.int .i64 0)).run Tryz.prog W = .ok (.agg #[v0, v1, v2]) W := fun _ _ _ _ _ _ _ => by kernel_rfl
  have hix1 : ∀ (v0 v1 v2 v3 v4 v5 : Value) (W : World), (Instr.index 93 (.agg #[v0, v1, v2, v3, v4, v5]) (.int .i64 1)).run Tryz.prog W = .ok (.agg #[v3, v4, v5]) W := fun _ _ _ _ _ _ _ => by kernel_rfl
  clear S0 XG hg
  go_enter Tryz.func37, Tryz.ntmps37
  go_wp2
  clear c14 c15 c16 c17 c18 c19
  generalize (w.alloc (cw2 0 0)).alloc (cw2 0 0) = w1 at *
  go_loopw [10] (fun jv wr => ∃ (j : Nat), j ≤ 2 ∧ jv = .int .i64 j ∧ Hid (Stay w [(q + 1, cw2 (if j = 0 then 0 else (crw a : Int)) (if j ≤ 1 then 0 else (crw b : Int))), (q, cw2 0 0)] wr)) (fun jv _ => 2 - (intOf jv).toNat)
  case atStart => exact ⟨0, by omega, rfl, Q0⟩
  case round =>
    clear Q0
    obtain ⟨j, hj, rfl, Q⟩ := hrel
    rcases (show j = 0 ∨ j = 1 ∨ j = 2 by omega) with rfl | rfl | rfl
    · simp only [if_true, Nat.zero_le] at Q
      have XB := Lib.hid (Q.out.alloc (rbL (rp a) (crw a : Int) (ry y a)))
      obtain ⟨e0, e1⟩ := cells2 (XB.out.at 1 rfl)
      obtain ⟨f0, f1⟩ := frozen2 (XB.out.at 1 rfl)
      have Q5 := Lib.hid (show Stay w [(q + 1, cw2 (crw a : Int) 0), (q, cw2 0 0)] _ from (XB.out.drop).turn (kept1 _ (q + 1) 0 (.int .u32 (crw a : Int))) (heap_setCell_same _ (q + 1) 0 _ _ _ (XB.out.at 1 rfl)) (by have := HQ.out; omega) (fun x hx => by rw [List.mem_singleton.1 hx]; exact fun e => by dsimp only at e; omega))
      go_wp2
      go_roundw
      case rel => exact ⟨1, by omega, by go_num, Q5⟩
      case measure => simp [intOf]
    · simp only [Nat.one_ne_zero, if_false, if_true, Nat.le_refl] at Q
      have XB := Lib.hid (Q.out.alloc (rbL (rp b) (crw b : Int) (ry y b)))
      obtain ⟨e0, e1⟩ := cells2 (XB.out.at 1 rfl)
      obtain ⟨f0, f1⟩ := frozen2 (XB.out.at 1 rfl)
      have Q5 := Lib.hid (show Stay w [(q + 1, cw2 (crw a : Int) (crw b : Int)), (q, cw2 0 0)] _ from (XB.out.drop).turn (kept1 _ (q + 1) 1 (.int .u32 (crw b : Int))) (heap_setCell_same _ (q + 1) 1 _ _ _ (XB.out.at 1 rfl)) (by have := HQ.out; omega) (fun x hx => by rw [List.mem_singleton.1 hx]; exact fun e => by dsimp only at e; omega))
      go_wp2
      go_roundw
      case rel => exact ⟨2, by omega, by go_num, Q5⟩
      case measure => simp [intOf]
    · simp only [show (2 : Nat) ≠ 0 by decide, show ¬ (2 : Nat) ≤ 1 by decide, if_false] at Q
      obtain ⟨e0, e1⟩ := cells2 (Q.out.at 0 rfl)
      obtain ⟨e2, e3⟩ := cells2 (Q.out.at 1 rfl)
      obtain ⟨f2, f3⟩ := frozen2 (Q.out.at 1 rfl)
      have P3 := Lib.hid (put2 (Q.out.at 1 rfl) (.int .u32 (crw a : Int)) (.int .u32 (crw b : Int)))
      go_wp2
      exact ret_w2 rfl rfl P3.out ⟨rfl, below_q HQ.out Q.out.b (kept2 _ _ _ _ _ _)⟩
end Go.Proofs.YtmagjekmlnpfpaaGreat.RoundW

