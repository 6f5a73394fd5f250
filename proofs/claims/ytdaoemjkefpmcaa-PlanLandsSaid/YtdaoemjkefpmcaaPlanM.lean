/- Reserved stretches in memory; meet. -/
import Derived.Test.YtdaoemjkefpmcaaPlanP
import Derived.Test.YtdaoemjkefpmcaaSmall
import Derived.Test.YtdaoemjkefpmcaaProg
import Derived.Deep.RegionHeld3
import Derived.Deep.RegionLaw
import Derived.Deep.RegionWith
import Derived.Deep.AppendLies
import Derived.Deep.DeepCutAuto
import Derived.Deep.CutBlock
import Derived.Laws.AppendOwn
import Derived.Laws.OwnMore
import Derived.OwnWalk
import Derived.OneCell
import Derived.Laws.Unary
import Derived.Laws.Shifts
import Derived.IntWalk
import Derived.Laws.Cover2
import Derived.Laws.Pointers
import Derived.Laws.NewBlocks
import Derived.WalkKit
namespace Go.Proofs.Ytdaoemjkefpmcaa.PlanW
open Go.RowKit Shell
def cs2 (x : Int × Int) : List Value := [.int .i64 x.1, .int .i64 (x.1 + x.2)]
def fl2 : List (Int × Int) → List Value
  | [] => []
  | x :: L => cs2 x ++ fl2 L
theorem fl2_app : ∀ L M, fl2 (L ++ M) = fl2 L ++ fl2 M
  | [], _ => rfl
  | x :: L, M => by simp only [List.cons_append, fl2, fl2_app L M, List.append_assoc]
theorem fl2_at : ∀ (L : List (Int × Int)) (i c : Nat) (x : Int × Int), L[i]? = some x → c < 2 → (fl2 L)[i * 2 + c]? = (cs2 x)[c]?
  | y :: L, 0, c, x, h, hc => by
    simp only [List.getElem?_cons_zero, Option.some.injEq] at h
    subst h
    rw [fl2, Nat.zero_mul, Nat.zero_add, List.getElem?_append_left (by simp only [cs2, List.length_cons, List.length_nil]; omega)]
  | y :: L, i + 1, c, x, h, hc => by
    simp only [List.getElem?_cons_succ] at h
    rw [fl2, List.getElem?_append_right (by simp only [cs2, List.length_cons, List.length_nil]; omega)]
    rw [show (i + 1) * 2 + c - (cs2 y).length = i * 2 + c by simp only [cs2, List.length_cons, List.length_nil]; omega]
    exact fl2_at L i c x h hc
theorem cs2_one (z : Int × Int) : ∀ u ∈ cs2 z, u.oneCell' = true := by
  intro u hu
  simp only [cs2, List.mem_cons, List.not_mem_nil, or_false] at hu
  rcases hu with rfl | rfl <;> rfl
/-- A slice's cells are these stretches. -/
def SL (w : World) (A : Option Addr) (S : List (Int × Int)) : Prop := ∀ (k : Nat) (x : Int × Int), S[k]? = some x → ∃ b off, A = some ⟨b, off, none⟩ ∧ w.cell? ⟨b, off + k * 2, none⟩ = some (.int .i64 x.1) ∧ w.cell? ⟨b, off + k * 2 + 1, none⟩ = some (.int .i64 (x.1 + x.2))
theorem SL.below {w w1 : World} {A : Option Addr} {S : List (Int × Int)} (h : SL w A S) (b : Below w.heap.size w w1) : SL w1 A S := by
  intro k x hk
  obtain ⟨g, off, hA, h0, h1⟩ := h k x hk
  exact ⟨g, off, hA, cell_keep h0 b, cell_keep h1 b⟩
/-- A row of stretches that the call owns. -/
def SR (w : World) (base : Nat) (v : Value) (S : List (Int × Int)) : Prop := w.ownsRow base 78 2 v S.length (fl2 S)
theorem SR.form {w : World} {base : Nat} {v : Value} {L : List (Int × Int)} (h : SR w base v L) : ∃ A c, v = .slice A L.length c ∧ SL w A L ∧ (∀ a, A = some a → base ≤ a.block ∧ a.block < w.heap.size) ∧ L.length ≤ c := by
  rcases h.2 with ⟨rfl, h2⟩ | ⟨g, cap, cur, rfl, hb, hg, hr⟩
  · have : L = [] := List.eq_nil_of_length_eq_zero h2
    subst this
    exact ⟨none, 0, rfl, fun k x hk => (by simp at hk), fun a ha => (by cases ha), Nat.le_refl _⟩
  · refine ⟨_, cap, rfl, fun k x hk => ⟨g, 0, rfl, ?_⟩, fun a ha => ?_, hr.1⟩
    · have c := World.ownsRow.cells h (g := g) rfl
      have e : ∀ j, (⟨g, 0, none⟩ : Addr).add j = ⟨g, j, none⟩ := fun j => by unfold Addr.add; split <;> simp_all
      have f := fun c hc => fl2_at L k c x hk hc
      have z : ∀ j u, j < 2 → (cs2 x)[j]? = some u → w.cell? ⟨g, 0 + k * 2 + j, none⟩ = some u := fun j u hc hu => by
        have := c (k * 2 + j) u ((f j hc).trans hu)
        rw [e] at this
        rwa [Nat.zero_add]
      exact ⟨z 0 _ (by omega) rfl, z 1 _ (by omega) rfl⟩
    · injection ha with ha
      subst ha
      exact ⟨hb, lt_of_heap hg⟩
theorem SR.alloc {w : World} {base : Nat} {v : Value} {L : List (Int × Int)} (h : SR w base v L) (o : Obj) : SR (w.alloc o) base v L := World.ownsRow.alloc h o
theorem SR.drew {w : World} {base : Nat} {v : Value} {L : List (Int × Int)} (h : SR w base v L) : SR w.drew base v L := World.ownsRow.drew h
theorem SR.lt {w : World} {base : Nat} {v : Value} {L : List (Int × Int)} (h : SR w base v L) (k : Nat) (hk : v.ownBlock = some k) : base ≤ k ∧ k < w.heap.size := World.ownsRow.lt h k hk
theorem SR.below {w w1 : World} {base : Nat} {v : Value} {L : List (Int × Int)} (h : SR w base v L) (b : Below w.heap.size w w1) : SR w1 base v L := by
  refine ⟨h.1, ?_⟩
  rcases h.2 with h1 | ⟨g, cap, cur, rfl, h2, h3, h4⟩
  · exact Or.inl h1
  · exact Or.inr ⟨g, cap, cur, rfl, h2, (b.block g (lt_of_heap h3)).trans h3, h4⟩
theorem SR.nil (w : World) (base : Nat) : SR w base (.slice none 0 0) [] := World.ownsRow_nil _ _ _ _
theorem info2_parts : ∃ (i : TypeInfo) (z : Value), Try.prog.info? 78 = some i ∧ i.zero = some z ∧ i.size = 2 ∧ i.bytes = 16 ∧ z.cells.size = 2 := by
  have h : (Try.prog.info? 78).map (fun i => (i.zero.map (fun z => z.cells.size), i.size, i.bytes)) = some (some 2, 2, 16) := by kernel_rfl
  revert h
  cases Try.prog.info? 78 with
  | none => intro h; cases h
  | some i =>
    intro h
    simp only [Option.map_some, Option.some.injEq, Prod.mk.injEq, Option.map_eq_some_iff] at h
    obtain ⟨⟨z, hz, hs⟩, h2, h3⟩ := h
    exact ⟨i, z, rfl, hz, h2, h3, hs⟩
/-- An append of one stretch to a row of one's own. -/
theorem wpList_append_sr (w : World) {ops : Array Oper} {rest : List Oper} {o : Oper} {a : Act} {Q : Exit → Act → World → Prop} (hgd : o.guard = none) (s x : Operand)
    (ho : o.op = .call { callee := .builtin .append, args := #[s, x], argTypes := #[57, 57] }) (base : Nat) (v : Value) (L : List (Int × Int)) (hs : a.eval s = v) (hown : SR w base v L)
    (z : Int × Int) (g : Nat) (hx : a.eval x = .slice (some ⟨g, 0, none⟩) 1 1) (hg : w.heap[g]? = some (.cells (cs2 z).toArray 78 (0, 0))) (hl : L.length ≤ 1000) (hbase : base ≤ w.heap.size)
    (h : ∀ v' w', SR w' base v' (L ++ [z]) → w.grownBy w' v.ownBlock → wpList Try.prog ops Q rest (a.put o.dst v') w') : wpList Try.prog ops Q (o :: rest) a w := by
  obtain ⟨i0, z0, hi0, hz0, hs0, hb0, hz1⟩ := info2_parts
  refine wpList_append_own w hgd s x 57 ho base 78 i0 z0 2 16 Try.underlying57 hi0 hz0 hs0 hb0 hz1 (by decide) v L.length (fl2 L) hs hown ⟨g, 0, none⟩ 1 1 (cs2 z) hx rfl (World.news_of_block hg) (cs2_one z) (by unfold maxLen; omega) (by omega) hbase ?_
  intro v' w' h2 h3 _
  refine h v' w' ?_ h3
  unfold SR
  rw [fl2_app, List.length_append]
  simpa [fl2] using h2
theorem two_cells {w : World} {j : Nat} {x y : Value} {t : TypeId} (h : w.heap[j]? = some (.cells #[x, y] t (0, 0))) : w.cell? ⟨j, 0, none⟩ = some x ∧ w.cell? ⟨j, 1, none⟩ = some y :=
  ⟨cell_of_row w j 0 _ _ _ h, cell_of_row w j 1 _ _ _ h⟩
theorem hit_b {C t n k B : Int} {x : Int × Int} (h : k * C = B) : hit C t n x k ↔ B + x.1 < t + n ∧ t < B + (x.1 + x.2) := by
  unfold hit
  rw [h]
  constructor <;> rintro ⟨h1, h2⟩ <;> constructor <;> omega
/-- What is told where something is met: its end. -/
def MetEnd (C t n : Int) (S : List (Int × Int)) (v : Int) : Prop := mtb C t n S = true → ∃ x ∈ S, ∃ k, hit C t n x k ∧ v = k * C + x.1 + x.2
set_option maxHeartbeats 4000000 in
set_option maxRecDepth 100000 in
theorem meet_any (A : Option Addr) (S : List (Int × Int)) (m cp : Nat) (C t n : Int) (w : World) (h : SL w A S) (hl : S.length = m) (hm : m ≤ 16) (_hcp : m ≤ cp) (hS : Ok C S) (hC : 1 ≤ C ∧ C ≤ 1073741824) (ht : 0 ≤ t ∧ t ≤ 1125904201809920) (hn : 1 ≤ n ∧ n ≤ C) :
    Calls Try.prog 36 #[.slice A m cp, .int .i64 C, .int .i64 t, .int .i64 n] w fun r w' => ∃ v, r = .returned (.tuple #[.int .i64 v, .bool (mtb C t n S)]) ∧ MetEnd C t n S v ∧ Below w.heap.size w w' := by
  have dv := div_ok ht.1 (show 0 < C by omega)
  obtain ⟨q, hq⟩ : ∃ q, t / C = q := ⟨_, rfl⟩
  rw [hq] at dv
  generalize t % C = p at dv
  obtain ⟨dq, dp, dq2, dp2, db, dr, ds⟩ := dv
  obtain ⟨z, hz⟩ : ∃ z, t - p = z := ⟨_, rfl⟩
  obtain ⟨y, hy⟩ : ∃ y, z + C = y := ⟨_, rfl⟩
  obtain ⟨e, he⟩ : ∃ e, t + n = e := ⟨_, rfl⟩
  have zb : 0 ≤ z ∧ z ≤ t := by rw [← hz]; rw [← ds]; have := Int.mul_nonneg db.1 (show 0 ≤ C by omega); omega
  have z1 : IntKind.i64.wrap (t - p) = z := by rw [IntKind.wrap_i64]; omega
  have z2 : wrap64 (t - p) = z := by unfold wrap64; omega
  have p1 : IntKind.i64.wrap p = p := by rw [IntKind.wrap_i64]; omega
  have p2 : wrap64 p = p := by unfold wrap64; omega
  have y1 : IntKind.i64.wrap (z + C) = y := by rw [IntKind.wrap_i64]; omega
  have y2 : wrap64 (z + C) = y := by unfold wrap64; omega
  have e1 : IntKind.i64.wrap (t + n) = e := by rw [IntKind.wrap_i64]; omega
  have e2 : wrap64 (t + n) = e := by unfold wrap64; omega
  have HZ0 := Lib.hid (show q * C = z by omega)
  have HZ1 := Lib.hid (show (q + 1) * C = y by rw [Int.add_mul, Int.one_mul]; omega)
  have HB := Lib.hid (show (0 ≤ z ∧ z ≤ t) ∧ y = z + C from ⟨zb, hy.symm⟩)
  have HE := Lib.hid he
  have HQ := Lib.hid hq
  have HA := Lib.hid h
  have HL := Lib.hid hl
  have HM := Lib.hid hm
  have HSO := Lib.hid hS
  have HC := Lib.hid hC
  have HT := Lib.hid ht
  have nz : ¬ C = 0 := by omega
  have S0 := Lib.hid (Stay.start w)
  clear hq dq dp db dr ds hz hy he h hl hS hC ht hn zb
  go_enter Try.func36, Try.ntmps36
  go_wp2
  go_loopw [22] (fun iv wr => ∃ (k : Nat), k ≤ m ∧ iv = .int .i64 k ∧ Hid (Stay w [] wr) ∧ Hid (∀ j x, j < k → S[j]? = some x → ¬ hit C t n x q ∧ ¬ hit C t n x (q + 1))) (fun iv _ => m - (intOf iv).toNat)
  case atStart => exact ⟨0, Nat.zero_le _, rfl, S0, Lib.hid (fun j x hj => by omega)⟩
  case round =>
    clear S0
    obtain ⟨k, hk, rfl, HS, HI⟩ := hrel
    by_cases hlt : (k : Int) < (m : Int)
    · obtain ⟨x, hx⟩ : ∃ x, S[k]? = some x := ⟨_, List.getElem?_eq_getElem (by rw [HL.out]; omega)⟩
      obtain ⟨b, off, rfl, c0, c1⟩ := (HA.out.below HS.out.b) k x hx
      have hxm := List.mem_of_getElem? hx
      have HXO := Lib.hid (HSO.out x hxm)
      have HXM := Lib.hid hxm
      have HX := Lib.hid hx
      clear hx hxm
      obtain ⟨wk, hwk⟩ : ∃ wk, wk = wr := ⟨_, rfl⟩
      subst hwk
      have S1 := Lib.hid (show Stay w [(wk.heap.size + 1, .cells #[.int .i64 z, .int .i64 y] 2), (wk.heap.size, .cells #[.int .i64 x.1, .int .i64 (x.1 + x.2)] 78)] ((wk.alloc (.cells #[.int .i64 x.1, .int .i64 (x.1 + x.2)] 78)).alloc (.cells #[.int .i64 z, .int .i64 y] 2)) by
        have := (HS.out.alloc (.cells #[.int .i64 x.1, .int .i64 (x.1 + x.2)] 78)).alloc (.cells #[.int .i64 z, .int .i64 y] 2)
        rwa [World.size_alloc] at this)
      go_wp2
      obtain ⟨g, hg⟩ : ∃ g, g = wk.heap.size := ⟨_, rfl⟩
      rw [← hg] at S1 ⊢
      clear hg c0 c1 HS
      generalize (wk.alloc _).alloc _ = w1 at *
      go_loopw [32] (fun iv wr => ∃ (i : Nat), i ≤ 2 ∧ iv = .int .i64 i ∧ Hid (Stay w [(g + 1, .cells #[.int .i64 z, .int .i64 y] 2), (g, .cells #[.int .i64 x.1, .int .i64 (x.1 + x.2)] 78)] wr) ∧ Hid (∀ j : Nat, j < i → ¬ hit C t n x (q + j))) (fun iv _ => 2 - (intOf iv).toNat)
      case atStart => exact ⟨0, by omega, rfl, S1, Lib.hid (fun j hj => by omega)⟩
      case round =>
        clear S1
        obtain ⟨i, hi, rfl, HS, HJ⟩ := hrel
        by_cases hi2 : (i : Int) < 2
        · obtain ⟨B, hB, hc, hb0⟩ : ∃ B, (q + (i : Int)) * C = B ∧ wr.cell? ⟨g + 1, i, none⟩ = some (.int .i64 B) ∧ (0 ≤ B ∧ B ≤ t + C) := by
            obtain ⟨d0, d1⟩ := two_cells (HS.out.at 0 rfl)
            have hb := HB.out
            have hcc := HC.out
            rcases (show i = 0 ∨ i = 1 by omega) with rfl | rfl
            · exact ⟨z, by rw [← HZ0.out]; simp, d0, by omega⟩
            · exact ⟨y, HZ1.out, d1, by omega⟩
          have hh := hit_b (t := t) (n := n) (x := x) hB
          obtain ⟨d2, d3⟩ := two_cells (HS.out.at 1 rfl)
          obtain ⟨T1, hT1⟩ : ∃ T1, B + x.1 = T1 := ⟨_, rfl⟩
          obtain ⟨T3, hT3⟩ : ∃ T3, B + (x.1 + x.2) = T3 := ⟨_, rfl⟩
          rw [HE.out, hT1, hT3] at hh
          have hxo := HXO.out
          have hcc := HC.out
          have htt := HT.out
          have t1 : IntKind.i64.wrap (B + x.1) = T1 := by rw [IntKind.wrap_i64]; omega
          have t2 : wrap64 (B + x.1) = T1 := by unfold wrap64; omega
          have t3 : IntKind.i64.wrap (B + (x.1 + x.2)) = T3 := by rw [IntKind.wrap_i64]; omega
          have t4 : wrap64 (B + (x.1 + x.2)) = T3 := by unfold wrap64; omega
          have HV := Lib.hid (show T3 = (q + (i : Int)) * C + x.1 + x.2 by rw [hB]; omega)
          have HH := Lib.hid hh
          have HK := Lib.hid (show q + (i : Int) = q ∨ q + (i : Int) = q + 1 by omega)
          clear hh hB hT1 hT3 hxo hcc htt hb0
          have no : ¬ hit C t n x (q + (i : Int)) → ∀ j : Nat, j < i + 1 → ¬ hit C t n x (q + j) := by
            intro hn j hj
            by_cases hji : j = i
            · rw [hji]; exact hn
            · exact HJ.out j (by omega)
          have NO := Lib.hid no
          clear no
          by_cases h1 : T1 < e
          · by_cases h2 : t < T3
            · have HIT := Lib.hid (HH.out.2 ⟨h1, h2⟩)
              have HMT := Lib.hid (show mtb C t n S = true from mtb_true HXM.out (by rw [HQ.out]; exact HK.out) HIT.out)
              go_wp2
              go_ret2
              exact ⟨T3, by rw [HMT.out]; rfl, fun _ => ⟨x, HXM.out, _, HIT.out, HV.out⟩, HS.out.b⟩
            · have HNO := Lib.hid (NO.out (fun h => h2 (HH.out.1 h).2))
              go_wp2
              go_roundw
              case rel => exact ⟨i + 1, by omega, by go_num, HS, HNO⟩
              case measure => simp [intOf]; omega
          · have HNO := Lib.hid (NO.out (fun h => h1 (HH.out.1 h).1))
            go_wp2
            go_roundw
            case rel => exact ⟨i + 1, by omega, by go_num, HS, HNO⟩
            case measure => simp [intOf]; omega
        · obtain rfl : i = 2 := by omega
          have HI2 := Lib.hid (show ∀ j y, j < k + 1 → S[j]? = some y → ¬ hit C t n y q ∧ ¬ hit C t n y (q + 1) by
            intro j y hj hy
            by_cases hjk : j = k
            · rw [hjk, HX.out] at hy
              cases hy
              have a := HJ.out 0 (by omega)
              have b := HJ.out 1 (by omega)
              exact ⟨by simpa using a, by simpa using b⟩
            · exact HI.out j y (by omega) hy)
          have HS2 := Lib.hid (HS.out.drop.drop)
          go_wp2
          go_roundw
          case rel => exact ⟨k + 1, by omega, by go_num, HS2, HI2⟩
          case measure => simp [intOf]; omega
    · have HMT := Lib.hid (show mtb C t n S = false from mtb_false (fun x hx => by
        obtain ⟨j, hj⟩ := List.getElem?_of_mem hx
        rw [HQ.out]
        have hlen : j < S.length := by
          rcases Nat.lt_or_ge j S.length with h | h
          · exact h
          · rw [List.getElem?_eq_none h] at hj; cases hj
        exact HI.out j x (by rw [HL.out] at hlen; omega) hj))
      go_wp2
      go_ret2
      exact ⟨0, by rw [HMT.out]; rfl, fun h => (by rw [HMT.out] at h; cases h), HS.out.b⟩
end Go.Proofs.Ytdaoemjkefpmcaa.PlanW
