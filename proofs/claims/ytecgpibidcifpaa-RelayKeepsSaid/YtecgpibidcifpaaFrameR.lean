/- Appends of what came in; forms of what readers tell. -/
import Derived.Test.YtecgpibidcifpaaFrameLayJa
import Derived.Laws.AppendOwnNone
namespace Go.Proofs.Ytecgpibidcifpaa.FrameW
open Go.RowKit
theorem BL.nil {w : World} {xs : List Int} (h : BL w none xs) : xs = [] := by
  rcases xs with _ | ⟨x, xs⟩
  · rfl
  · obtain ⟨a, ha, -⟩ := h 0 x rfl
    cases ha
/-- append of bytes that may be nil. -/
theorem wpList_append_any (w : World) {ops : Array Oper} {rest : List Oper} {o : Oper} {a : Act} {Q : Exit → Act → World → Prop} (hgd : o.guard = none) (s x : Operand)
    (ho : o.op = .call { callee := .builtin .append, args := #[s, x], argTypes := #[37, 37] })
    (base : Nat) (v : Value) (xs : List Int) (hs : a.eval s = v) (hown : OB w base v xs)
    (A : Option Addr) (m c : Nat) (ys : List Int) (hx : a.eval x = .slice A m c) (hl : ys.length = m) (hb : BL w A ys) (hn : A = none → c = 0)
    (h63 : xs.length + m ≤ 140737488355328) (hbase : base ≤ w.heap.size)
    (h : ∀ v' w', OB w' base v' (xs ++ ys) → Step w v w' v' → wpList Try.prog ops Q rest (a.put o.dst v') w') : wpList Try.prog ops Q (o :: rest) a w := by
  cases A with
  | some ad => exact wpList_append_ob w hgd s x ho base v xs hs hown ad m c ys hx hl hb h63 hbase h
  | none =>
    obtain rfl := hb.nil
    obtain ⟨i0, hi, -, -, -⟩ := u8_info
    have hm : m = 0 := hl.symm
    have hc := hn rfl
    subst hm; subst hc
    exact wpList_append_own_none hgd s x 37 ho base 5 i0 1 Try.underlying37 hi v xs.length (u8s xs) hs hown.1 hx (h v w (by rw [List.append_nil]; exact hown) (Step.refl w v))
theorem empty_ob (w : World) {base : Nat} (h : base ≤ w.heap.size) : OB (w.alloc (.cells #[] 5)) base (.slice (some ⟨w.heap.size, 0, none⟩) 0 0) [] :=
  ob_row (rs := []) (heap_alloc_new w _) h (fun x hx => by cases hx) (by decide)
end Go.Proofs.Ytecgpibidcifpaa.FrameW

