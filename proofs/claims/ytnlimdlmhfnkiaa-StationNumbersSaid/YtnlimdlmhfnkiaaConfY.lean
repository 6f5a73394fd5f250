/- The chapter's examples. -/
import Derived.Test.YtnlimdlmhfnkiaaConfVJa
import Derived.Test.YtnlimdlmhfnkiaaConfT
import Derived.Test.YtnlimdlmhfnkiaaConfHJa
namespace Go.Proofs.Ytnlimdlmhfnkiaa.ConfW
open Go.RowKit Shell
/-- A copy is a configuration in memory. -/
theorem Dup.mem {w : World} {lo gd : Nat} {c : Cfg} {vs : List Value} {vE vL : Value} (h : Dup w lo c gd vs vE vL) (h1 : ∀ r ∈ c.delays, Wf .i64 r ∧ r.length ≤ maxLen) (h2 : ∀ e ∈ c.entries, e.b < 4294967296) (h3 : ∀ e ∈ c.links, e.b < 4294967296) (h4 : c.delays.length ≤ maxLen) :
    ∃ E L ce cl, vE = .slice E c.entries.length ce ∧ vL = .slice L c.links.length cl ∧ CM w c (some ⟨gd, 0, none⟩) E L c.delays.length c.delays.length c.entries.length ce c.links.length cl := by
  have he := h.ent
  have hl := h.lnk
  obtain ⟨E, ce, rfl, e1, e2, e3, _⟩ := own_form he
  obtain ⟨L, cl, rfl, l1, l2, l3, _⟩ := own_form hl
  refine ⟨E, L, ce, cl, rfl, rfl, ?_⟩
  exact { hd := fun k r hk => by
            obtain ⟨v, hv, ho⟩ := h.row k r hk
            obtain ⟨A, c', rfl, a1, a2, a3, _⟩ := own_form ho
            have hm := h1 r (List.mem_of_getElem? hk)
            have ha : (⟨gd, 0, none⟩ : Addr).add k = ⟨gd, k, none⟩ := by unfold Addr.add; split <;> simp_all
            exact ⟨⟨gd, 0, none⟩, A, c', rfl, by rw [ha]; exact box_cell h.hd (by rw [List.getElem?_toArray]; exact hv), own_cl ho hm.1, hm.2, a1, a3⟩
          he := own_ml he h2, hl := own_ml hl h3, nD := rfl, nE := rfl, nL := rfl, mD := h4, mE := e2, mL := l2, cD := Nat.le_refl _, cE := e1, cL := l1, zD := (fun hn => by cases hn), zE := e3, zL := l3 }
theorem CM.wf {w : World} (c : Cfg) (D E L : Option Addr) (nd cd ne ce nl cl : Nat) (h : CM w c D E L nd cd ne ce nl cl) : ∀ r ∈ c.delays, Wf .i64 r ∧ r.length ≤ maxLen := by
  intro r hr
  obtain ⟨k, hk⟩ := List.getElem?_of_mem hr
  obtain ⟨_, _, _, _, _, h3, h4, _⟩ := h.hd k r hk
  exact ⟨h3.wf, h4⟩
def e0 : R4 := ⟨0, 14, 10000, 64⟩
end Go.Proofs.Ytnlimdlmhfnkiaa.ConfW

