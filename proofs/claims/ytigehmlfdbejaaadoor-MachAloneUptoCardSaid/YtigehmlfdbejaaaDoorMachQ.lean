/- A host that hears nothing: plain mathematics; rows of events of our own; Pick. -/
import Derived.Test.YtigehmlfdbejaaaDoorMachLay
import Derived.Laws.AppendOwn
import Derived.Laws.OwnMore
import Derived.OwnWalk
namespace Go.Proofs.YtigehmlfdbejaaaDoor.MachW
open Go.ChangeShapes Go.WideShapes Go.ChangeAt Go.RowKit Shell
open CrewW (Tz only mem)
/-- How many cycles have passed behind the first i events. -/
def cyc (K : Nat → Int) : Nat → Nat
  | 0 => 0
  | i + 1 => if K i = 3 then cyc K i + 1 else cyc K i
theorem cyc_le (K : Nat → Int) : ∀ i, cyc K i ≤ i
  | 0 => Nat.le_refl 0
  | i + 1 => by
    have := cyc_le K i
    unfold cyc
    split <;> omega
/-- What a host that hears nothing is when C cycles have passed. -/
def Al (h : Nat) (C : Nat) (a : Mc) : Prop := (C ≤ h + 1 → a = ⟨2, 0, 0, (C : Int)⟩) ∧ (C = h + 2 → a = ⟨3, only (h : Int), 0, 0⟩) ∧ (C = h + 3 → a = ⟨3, only (h : Int), 1, 0⟩)
theorem al_may {h C : Nat} {a : Mc} (hh : h < 6) (H : Al h C a) (hC : C < h + 4) : may (h : Int) a = true := by
  have ho := only_pos (h := (h : Int)) (by omega) (by omega)
  have hl := CrewW.only_lt (h : Int)
  rw [may_iff]
  by_cases h1 : C ≤ h + 1
  · rw [H.1 h1]; dsimp only; omega
  · by_cases h2 : C = h + 2
    · rw [H.2.1 h2]; dsimp only; omega
    · rw [H.2.2 (by omega)]; dsimp only; omega
theorem al_keep {h C : Nat} {a : Mc} (hh : h < 6) (k : Int) (hk : k = 1 ∨ k = 4) (H : Al h C a) (hC : C < h + 4) : stp (h : Int) a k 0 = (a, 0) := by
  have hm := al_may hh H hC
  have ho := only_pos (h := (h : Int)) (by omega) (by omega)
  have hl := CrewW.only_lt (h : Int)
  have hs : str 0 (only (h : Int)) = false := str_none (by decide) (by rw [Nat.mod_eq_of_lt hl]; omega)
  unfold stp
  rw [if_neg (by rw [hm]; decide)]
  by_cases h1 : C ≤ h + 1
  · rw [H.1 h1]
    dsimp only
    rw [if_neg (by decide), if_neg (by omega), if_pos rfl]
    unfold lisM
    rcases hk with rfl | rfl
    · rw [if_neg (by decide), if_neg (by decide)]
    · rw [if_pos rfl, if_pos (by decide)]
  · have h3 : ∃ m, a = ⟨3, only (h : Int), m, 0⟩ := by
      by_cases h2 : C = h + 2
      · exact ⟨0, H.2.1 h2⟩
      · exact ⟨1, H.2.2 (by omega)⟩
    obtain ⟨m, rfl⟩ := h3
    dsimp only
    rw [if_neg (by decide), if_neg (by omega), if_neg (by decide)]
    unfold synM
    rcases hk with rfl | rfl
    · rw [if_neg (by decide), if_neg (by decide)]
    · rw [if_neg (by decide), if_pos rfl]
      dsimp only
      rw [hs, if_neg (by decide)]
theorem al_next {h C : Nat} {a : Mc} (hh : h < 6) (H : Al h C a) (hC : C < h + 3) : Al h (C + 1) (stp (h : Int) a 3 0).1 := by
  have hm := al_may hh H (by omega)
  unfold stp
  rw [if_neg (by rw [hm]; decide)]
  by_cases h1 : C ≤ h + 1
  · rw [H.1 h1]
    dsimp only
    rw [if_neg (by decide), if_neg (by decide), if_pos rfl]
    unfold lisM
    rw [if_neg (by decide), if_pos rfl]
    dsimp only
    by_cases h2 : C ≤ h
    · rw [if_pos (by omega)]
      refine ⟨fun _ => ?_, fun e => by omega, fun e => by omega⟩
      dsimp only
      congr 1
    · rw [if_neg (by omega)]
      exact ⟨fun e => by omega, fun _ => rfl, fun e => by omega⟩
  · have h2 : C = h + 2 := by omega
    rw [H.2.1 h2]
    dsimp only
    rw [if_neg (by decide), if_neg (by decide), if_neg (by decide)]
    unfold synM
    rw [if_pos rfl, if_pos (by decide)]
    dsimp only
    rw [if_pos rfl]
    exact ⟨fun e => by omega, fun e => by omega, fun _ => rfl⟩
/-- The machine behind the first event and i more. -/
theorem al_all {h : Nat} (hh : h < 6) (K : Nat → Int) (h0 : K 0 = 1) (hK : ∀ i, K i = 1 ∨ K i = 3 ∨ K i = 4) : ∀ i, cyc K (i + 1) < h + 4 → Al h (cyc K (i + 1)) (mc (h : Int) (fun j => (K j, 0)) (i + 1))
  | 0, _ => by
    have e : cyc K 1 = 0 := by unfold cyc; rw [h0, if_neg (by decide)]; rfl
    have hm : may (h : Int) ⟨1, 0, 0, 0⟩ = true := by rw [may_iff]; dsimp only; omega
    rw [e]
    have : mc (h : Int) (fun j => (K j, 0)) 1 = ⟨2, 0, 0, 0⟩ := by
      show (stp (h : Int) ⟨1, 0, 0, 0⟩ (K 0) 0).1 = _
      rw [h0]
      unfold stp
      rw [if_neg (by rw [hm]; decide)]
      rfl
    rw [this]
    exact ⟨fun _ => rfl, fun e => by omega, fun e => by omega⟩
  | i + 1, hc => by
    have IH := al_all hh K h0 hK i
    have em : mc (h : Int) (fun j => (K j, 0)) (i + 1 + 1) = (stp (h : Int) (mc (h : Int) (fun j => (K j, 0)) (i + 1)) (K (i + 1)) 0).1 := rfl
    have ec : cyc K (i + 1 + 1) = if K (i + 1) = 3 then cyc K (i + 1) + 1 else cyc K (i + 1) := rfl
    rw [em]
    rw [ec] at hc ⊢
    by_cases h3 : K (i + 1) = 3
    · rw [if_pos h3] at hc ⊢
      rw [h3]
      exact al_next hh (IH (by omega)) (by omega)
    · rw [if_neg h3] at hc ⊢
      have hk : K (i + 1) = 1 ∨ K (i + 1) = 4 := by rcases hK (i + 1) with h | h | h <;> omega
      rw [al_keep hh _ hk (IH hc) hc]
      exact IH hc
/-- What the law asks of each machine. -/
theorem al_ask {h C : Nat} {a : Mc} (H : Al h C a) (hC : C < h + 4) : (a.s == 3) = decide ((h : Int) + 2 ≤ (C : Int)) := by
  by_cases h1 : C ≤ h + 1
  · rw [H.1 h1, decide_eq_false (by omega)]; rfl
  · rw [decide_eq_true (by omega)]
    by_cases h2 : C = h + 2
    · rw [H.2.1 h2]; rfl
    · rw [H.2.2 (by omega)]; rfl
/-- Events of no crew, cell by cell. -/
def ecs (K : Nat → Int) : Nat → List Value
  | 0 => []
  | n + 1 => ecs K n ++ [.int .i64 (K n), .int .u32 0]
theorem ecs_len (K : Nat → Int) : ∀ n, (ecs K n).length = n * 2
  | 0 => rfl
  | n + 1 => by unfold ecs; rw [List.length_append, ecs_len K n]; simp; omega
theorem ecs_get (K : Nat → Int) : ∀ n i, i < n → (ecs K n)[i * 2]? = some (.int .i64 (K i)) ∧ (ecs K n)[i * 2 + 1]? = some (.int .u32 0)
  | 0, i, h => by omega
  | n + 1, i, h => by
    have hl := ecs_len K n
    unfold ecs
    by_cases hi : i < n
    · obtain ⟨a, b⟩ := ecs_get K n i hi
      rw [List.getElem?_append_left (by omega), List.getElem?_append_left (by omega)]
      exact ⟨a, b⟩
    · obtain rfl : i = n := by omega
      rw [List.getElem?_append_right (by omega), List.getElem?_append_right (by omega), hl]
      have e : i * 2 + 1 - i * 2 = 1 := by omega
      rw [Nat.sub_self, e]
      exact ⟨rfl, rfl⟩
theorem ecs_congr {K L : Nat → Int} : ∀ n, (∀ i, i < n → K i = L i) → ecs K n = ecs L n
  | 0, _ => rfl
  | n + 1, h => by
    unfold ecs
    rw [ecs_congr n (fun i hi => h i (by omega)), h n (by omega)]
/-- A row of events of our own. -/
def ER (w : World) (base : Nat) (v : Value) (n : Nat) (K : Nat → Int) : Prop := w.ownsRow base 32 2 v n (ecs K n)
theorem ER.form {w : World} {base n : Nat} {v : Value} {K : Nat → Int} (h : ER w base v n K) (hn : 0 < n) : ∃ g cap, v = .slice (some ⟨g, 0, none⟩) n cap ∧ EV w (some ⟨g, 0, none⟩) n (fun i => (K i, 0)) := by
  rcases h.2 with ⟨-, h0⟩ | ⟨g, cap, cur, rfl, -⟩
  · omega
  · refine ⟨g, cap, rfl, fun i hi => ?_⟩
    have hc := World.ownsRow.cells h (g := g) rfl
    obtain ⟨a, b⟩ := ecs_get K n i hi
    have h1 := hc _ _ a
    have h2 := hc _ _ b
    have e : ∀ j, (⟨g, 0, none⟩ : Addr).add j = ⟨g, 0 + j, none⟩ := fun j => by unfold Addr.add; split <;> simp_all
    rw [e] at h1 h2
    exact ⟨g, 0, rfl, h1, h2, by show 0 < 4294967296; decide⟩
theorem ER.below {w w1 : World} {base n : Nat} {v : Value} {K : Nat → Int} (h : ER w base v n K) (b : Below w.heap.size w w1) : ER w1 base v n K :=
  h.kept (row := none) ⟨b.os, b.tape, b.output, b.size, fun k hk _ => b.block k hk⟩ (by
    cases hv : v.ownBlock with
    | none => exact Or.inl rfl
    | some k => exact Or.inr (by simp))
/-- What is picked. -/
def pick (n : Int) : Int := if n % 3 = 0 then 1 else if n % 3 = 1 then 3 else 4
theorem pick_in (n : Int) : pick n = 1 ∨ pick n = 3 ∨ pick n = 4 := by
  unfold pick
  split
  · exact Or.inl rfl
  · split
    · exact Or.inr (Or.inl rfl)
    · exact Or.inr (Or.inr rfl)
set_option maxHeartbeats 1000000 in
theorem pick_any (n : Nat) (w : World) : Calls Tryd.prog 13 #[.int .u8 (n : Int)] w fun e w' => e = .returned (.int .i64 (pick (n : Int))) ∧ w' = w := by
  have hR : (n : Int) % 3 = ((n % 3 : Nat) : Int) := by omega
  unfold pick
  rw [hR]
  have h3 : n % 3 = 0 ∨ n % 3 = 1 ∨ n % 3 = 2 := by omega
  generalize n % 3 = r at *
  rcases h3 with rfl | rfl | rfl
  · rw [show (if (((0 : Nat) : Int)) = 0 then (1 : Int) else if (((0 : Nat) : Int)) = 1 then 3 else 4) = 1 from rfl]
    have hR2 : (n : Int) % 3 = 0 := hR
    have hix : ∀ W : World, (Instr.index 55 (.agg #[.int .i64 1, .int .i64 3, .int .i64 4]) (.int .u8 0)).run Tryd.prog W = .ok (.int .i64 1) W := fun W => by kernel_rfl
    clear hR
    go_enter Tryd.func13, Tryd.ntmps13
    go_wp2
    go_ret
    exact ⟨rfl, rfl⟩
  · rw [show (if (((1 : Nat) : Int)) = 0 then (1 : Int) else if (((1 : Nat) : Int)) = 1 then 3 else 4) = 3 from rfl]
    have hR2 : (n : Int) % 3 = 1 := hR
    have hix : ∀ W : World, (Instr.index 55 (.agg #[.int .i64 1, .int .i64 3, .int .i64 4]) (.int .u8 1)).run Tryd.prog W = .ok (.int .i64 3) W := fun W => by kernel_rfl
    clear hR
    go_enter Tryd.func13, Tryd.ntmps13
    go_wp2
    go_ret
    exact ⟨rfl, rfl⟩
  · rw [show (if (((2 : Nat) : Int)) = 0 then (1 : Int) else if (((2 : Nat) : Int)) = 1 then 3 else 4) = 4 from rfl]
    have hR2 : (n : Int) % 3 = 2 := hR
    have hix : ∀ W : World, (Instr.index 55 (.agg #[.int .i64 1, .int .i64 3, .int .i64 4]) (.int .u8 2)).run Tryd.prog W = .ok (.int .i64 4) W := fun W => by kernel_rfl
    clear hR
    go_enter Tryd.func13, Tryd.ntmps13
    go_wp2
    go_ret
    exact ⟨rfl, rfl⟩
/-- The law's own small function: the machines of a run. -/
theorem first_any (h : Int) (A : Option Addr) (n c : Nat) (E : Nat → Int × Nat) (w : World) (hh : hostB h = true) (hE : EV w A n E) (hn : 32 * n ≤ 281474976710656) (hT : Tz w) :
    Calls Tryd.prog 14 #[.int .i64 h, .slice A n c] w fun e w' => ∃ g, e = .returned (.slice (some ⟨g, 0, none⟩) n n) ∧ w'.heap[g]? = some (mrow (mcs h E n n)) ∧ Below w.heap.size w w' := by
  have HR := Lib.hid (run_any h A n c E w hh hE hn hT)
  clear hh hE hn hT
  go_enter Tryd.func14, Tryd.ntmps14
  go_wp2_with fail
  refine HR.out.mono ?_
  rintro r w1 ⟨g, d, rfl, hg, -, b⟩
  have HG := Lib.hid hg
  have B := Lib.hid b
  clear hg b
  go_wp2
  go_ret
  exact ⟨g, rfl, HG.out, B.out⟩
theorem ev_news {w : World} {g : Nat} {a b : Value} {t : TypeId} (h : w.heap[g]? = some (.cells #[a, b] t (0, 0))) : ∀ j u, [a, b][j]? = some u → w.cell? ((⟨g, 0, none⟩ : Addr).add j) = some u := by
  intro j u hu
  have e : (⟨g, 0, none⟩ : Addr).add j = ⟨g, 0 + j, none⟩ := by unfold Addr.add; split <;> simp_all
  rw [e, Nat.zero_add]
  match j, hu with
  | 0, hu => cases hu; exact cell_of_row w g 0 _ _ _ h
  | 1, hu => cases hu; exact cell_of_row w g 1 _ _ _ h
theorem ev_one (a b : Int) : ∀ u ∈ [Value.int .i64 a, Value.int .u32 b], u.oneCell' = true := by
  intro u hu
  simp only [List.mem_cons, List.not_mem_nil, or_false] at hu
  rcases hu with rfl | rfl <;> rfl
/-- The kinds of the events: a power-on, then what the noise picks. -/
def kinds (xs : List Int) (i : Nat) : Int := if i = 0 then 1 else pick (xs.getD (i - 1) 0)
theorem kinds_in (xs : List Int) (i : Nat) : kinds xs i = 1 ∨ kinds xs i = 3 ∨ kinds xs i = 4 := by
  unfold kinds
  split
  · exact Or.inl rfl
  · exact pick_in _
theorem kinds_succ {xs : List Int} {k : Nat} {x : Int} (h : xs[k]? = some x) : kinds xs (k + 1) = pick x := by
  unfold kinds
  rw [if_neg (by omega), Nat.add_sub_cancel, List.getD_eq_getElem?_getD, h]
  rfl
end Go.Proofs.YtigehmlfdbejaaaDoor.MachW
