/- Arguments that came in, opened: an array of whole numbers; a slice of structs of whole numbers. -/
import Derived.Deep.Slices
import Derived.Laws.Cover2
import Derived.SizedLaws
import Derived.ProofKit
import Derived.OpenShut
import Derived.Lib.Hide
import Derived.Lib.AtoiErrMem
namespace Go.Proofs.YtmagjekmlnpfpaaGreat.Shell
open Go.ChangeShapes Go.WideShapes Go.ChangeAt Go.RowKit
section
variable {P : Program} {H : Type} {enc : TypeId × Value → H}
theorem trod_num {w : World} {base : Nat} {spare : Nat → Bool} {held : Bool} {e : TypeId} {q : IntKind} (he : P.underlying e = some (.int q)) {n : Nat} {v : Value} {x : DataW H × List MemPlace} (h : DataW.trod enc P w base spare held n e [v] = some x) :
    ∃ b : Int, v = .int q b ∧ (Lit.int q b).wf = true := by
  obtain ⟨a, ea, rfl, wa⟩ := DataW.trod_int he h
  injection ea with ea _
  exact ⟨a, ea, wa⟩
theorem slice_val {w : World} {r : Reach} {b0 : Nat} {t e : TypeId} {v : Value} (ht : P.underlying t = some (.slice e)) (h : Value.okWide P w r b0 t v) : ∃ A n c, v = .slice A n c := by
  simp only [Value.okWide, ht, Cell.okWide] at h
  cases v <;> simp_all [Cell.ok]
end
end Go.Proofs.YtmagjekmlnpfpaaGreat.Shell


