/- The point of a collection: the tolerant mean of its times. -/
import Derived.Test.YtpjaijibkjmgiaaCompP
import Derived.Test.YtpjaijibkjmgiaaMeanPure
namespace Go.Proofs.Ytpjaijibkjmgiaa.CompW
open MeanW (halfAt tolK srt)
/-- The time that stands for all. -/
def pt (S : List Fr) : Int := halfAt (ts S) (tolK (ts S))
/-- The readings behind the first. -/
def rd (S : List Fr) : List Int := S.map fun x => x.t - sB S
theorem rd_shift (S : List Fr) : rd S = (ts S).map fun x => x + -sB S := by
  unfold rd ts
  rw [List.map_map]
  apply List.map_congr_left
  intro x _
  show _ = x.t + -sB S
  omega
theorem rd_half {S : List Fr} (h : S ≠ []) : sB S + halfAt (rd S) (tolK (rd S)) = pt S := by
  have hp : 0 < (ts S).length := by unfold ts; rw [List.length_map]; exact List.length_pos_iff.2 h
  rw [rd_shift, MeanW.shift_tolK, MeanW.shift_half _ _ _ (MeanW.tolK_lt hp)]
  unfold pt
  omega
theorem row_half {d : Int} {S : List Fr} (h : Ok d S) (hn : S ≠ []) : sB S + halfAt (row (sS S) (sR S)) (tolK (row (sS S) (sR S))) = pt S := by
  have hp : (row (sS S) (sR S)).Perm (rd S) := row_perm (fun x => x.t - sB S) h.f h.one
  rw [MeanW.halfAt_perm hp, MeanW.tolK_perm hp]
  exact rd_half hn
theorem getD_in {l : List Int} {k : Nat} (h : k < l.length) : l.getD k 0 ∈ l := by
  rw [List.getD_eq_getElem?_getD, List.getElem?_eq_getElem h]
  exact List.getElem_mem h
theorem half_in {xs : List Int} {lo hi : Int} (hn : 0 < xs.length) (h : ∀ x ∈ xs, lo ≤ x ∧ x ≤ hi) : lo ≤ halfAt xs (tolK xs) ∧ halfAt xs (tolK xs) ≤ hi := by
  have e := MeanW.half_ends hn (MeanW.tolK_lt hn)
  have l := MeanW.srt_len xs
  have a := h _ (MeanW.srt_mem.1 (getD_in (l := srt xs) (k := 0) (by omega)))
  have b := h _ (MeanW.srt_mem.1 (getD_in (l := srt xs) (k := xs.length - 1) (by omega)))
  omega
theorem pt_bounds {d : Int} {S : List Fr} (h : Ok d S) (hn : S ≠ []) : sB S ≤ pt S ∧ pt S ≤ sB S + d ∧ -1125899906842624 ≤ pt S ∧ pt S ≤ 1125899906842624 := by
  have hp : 0 < (ts S).length := by unfold ts; rw [List.length_map]; exact List.length_pos_iff.2 hn
  have m : ∀ u ∈ ts S, ∃ x ∈ S, x.t = u := fun u hu => by unfold ts at hu; exact List.mem_map.1 hu
  have a := half_in (lo := sB S) (hi := sB S + d) hp (fun u hu => by obtain ⟨x, hx, rfl⟩ := m u hu; have := h.t x hx; omega)
  have b := half_in (lo := -1125899906842624) (hi := 1125899906842624) hp (fun u hu => by obtain ⟨x, hx, rfl⟩ := m u hu; have := h.t x hx; omega)
  exact ⟨a.1, a.2, b.1, b.2⟩
theorem pt_wrap {d : Int} {S : List Fr} (h : Ok d S) (_hd : 0 ≤ d ∧ d ≤ 1048576) (hn : S ≠ []) : IntKind.i64.wrap (pt S) = pt S := by
  have := pt_bounds h hn
  rw [IntKind.wrap_i64]
  omega
end Go.Proofs.Ytpjaijibkjmgiaa.CompW
