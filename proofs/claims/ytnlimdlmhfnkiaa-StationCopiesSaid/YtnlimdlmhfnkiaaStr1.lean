/- Strings as lists of bytes; all programs at once. -/
import Derived.Test.YtnlimdlmhfnkiaaRow1
import Derived.WalkSpells
import Derived.Laws.Slices
import Derived.Laws.BytesArg
import Derived.Laws.BytesString
import Derived.Laws.Strings
namespace Go.Proofs.Ytnlimdlmhfnkiaa.Shell
open Go.ChangeShapes Go.WideShapes Go.ChangeAt Go.RowKit
/-- All are bytes. -/
def By (xs : List Int) : Prop := ∀ x ∈ xs, 0 ≤ x ∧ x < 256
theorem u8_bound {x : Int} (h : (Lit.int .u8 x).wf = true) : 0 ≤ x ∧ x < 256 := by
  simp [Lit.wf] at h
  have h2 : x ≤ 255 := h.2
  exact ⟨h.1, by omega⟩
theorem u8_wf' {x : Int} (h : 0 ≤ x ∧ x < 256) : (Lit.int .u8 x).wf = true := by
  simp [Lit.wf]
  exact ⟨h.1, show x ≤ 255 by omega⟩
theorem By.wf {xs : List Int} (h : By xs) : Wf .u8 xs := fun x hx => u8_wf' (h x hx)
theorem Wf.by {xs : List Int} (h : Wf .u8 xs) : By xs := fun x hx => u8_bound (h x hx)
/-- A string's bytes. -/
def bs (s : ByteArray) : List Int := s.data.toList.map fun b => (b.toNat : Int)
theorem bs_len (s : ByteArray) : (bs s).length = s.size := by simp only [bs, List.length_map, Array.length_toList]; rfl
theorem bs_by (s : ByteArray) : By (bs s) := by
  intro x hx
  obtain ⟨b, -, rfl⟩ := List.mem_map.1 hx
  have := b.toNat_lt
  omega
theorem str_bs (s : ByteArray) : strOfNums (bs s) = s := by
  unfold strOfNums bs
  rw [List.map_map, show (fun n : Int => UInt8.ofNat n.toNat) ∘ (fun b : UInt8 => (b.toNat : Int)) = id from funext fun b => by simp, List.map_id]
theorem bs_str {l : List Int} (h : By l) : bs (strOfNums l) = l := by
  unfold bs
  rw [strOfNums_data, List.map_map]
  conv => rhs; rw [← List.map_id l]
  refine List.map_congr_left fun x hx => ?_
  have := h x hx
  simp
  omega
theorem str_inj {a b : List Int} (ha : By a) (hb : By b) (h : strOfNums a = strOfNums b) : a = b := by rw [← bs_str ha, ← bs_str hb, h]
theorem str_size (l : List Int) : (strOfNums l).size = l.length := by
  show (strOfNums l).data.size = l.length
  rw [← Array.length_toList, strOfNums_data, List.length_map]
theorem str_ne {a b : ByteArray} (h : a ≠ b) : (a.toList == b.toList) = false := by
  rw [beq_eq_false_iff_ne, ByteArray.toList_eq, ByteArray.toList_eq]
  exact fun z => h (ByteArray.ext (Array.toList_inj.1 z))
theorem str_eq {a b : ByteArray} (h : a = b) : (a.toList == b.toList) = true := by subst h; exact beq_self_eq_true _
section
variable {P : Program}
/-- string(b) of a row of bytes. -/
theorem conv_cl {w : World} {ts te tt : TypeId} (hs : P.underlying ts = some (.slice te)) (he : P.underlying te = some (.int .u8)) (ht : P.underlying tt = some .string) {A : Option Addr} {xs : List Int} {n c : Nat} (h : CL w .u8 A xs) (hn : n = xs.length) :
    (convert ts tt (.slice A n c)).run P w = .ok (.string (strOfNums xs)) w := by
  subst hn
  cases A with
  | none =>
    obtain rfl := h.nil
    show (convert ts tt (.slice none 0 c)).run P w = _
    rw [run_convert_bytes_nil w ts te hs he 0 c tt ht]
    rfl
  | some a =>
    have hl : (loadCells a xs.length).run P w = .ok (xs.map (Value.int .u8)).toArray w := by
      have := run_loadCells_list (P := P) w a (xs.map (Value.int .u8)) (fun j v hj => by
        rw [List.getElem?_map] at hj
        cases hx : xs[j]? with
        | none => rw [hx] at hj; cases hj
        | some x =>
          rw [hx] at hj
          obtain ⟨b, hb, hc, -⟩ := h j x hx
          cases hb
          cases hj
          exact hc)
      simpa using this
    rw [run_convert_bytes_string w ts tt te (some a) xs.length c hs he ht, run_bytesToString w a xs.length c xs hl, foldl_push_bytes]
    simp [strOfNums, ByteArray.empty, ByteArray.emptyWithCapacity]
    rfl
theorem bs_at {s : ByteArray} {k : Nat} {x : Int} (h : (bs s)[k]? = some x) : ∃ hk : k < s.size, (s[k].toNat : Int) = x := by
  have hk : k < s.size := by rw [← bs_len]; exact lt_of_get h
  refine ⟨hk, ?_⟩
  unfold bs at h
  rw [List.getElem?_map] at h
  rw [show s.data.toList[k]? = some (s[k]) by rw [Array.getElem?_toList, Array.getElem?_eq_getElem (show k < s.data.size from hk)]; rfl] at h
  exact Option.some.inj h
/-- s[i] of a string. -/
theorem index_bs {t : TypeId} {q : IntKind} (ht : P.underlying t = some .string) {s : ByteArray} {k : Nat} {x : Int} (h : (bs s)[k]? = some x) (w : World) : (Instr.index t (.string s) (.int q (k : Int))).run P w = .ok (.int .u8 x) w := by
  obtain ⟨hk, rfl⟩ := bs_at h
  rw [run_index_string w t s q (k : Int) ht, dif_pos ⟨by omega, by omega⟩]
  rfl
end
end Go.Proofs.Ytnlimdlmhfnkiaa.Shell

