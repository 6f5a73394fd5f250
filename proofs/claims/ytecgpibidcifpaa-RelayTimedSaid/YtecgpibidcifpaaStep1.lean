/- append to a row of numbers of one's own, as one step of a region that draws its order. -/
import Derived.Test.YtecgpibidcifpaaRow1
import Derived.Deep.RegionLaw
namespace Go.Proofs.Ytecgpibidcifpaa.Shell
open Go.RowKit
theorem step_append_or {P : Program} {t e : TypeId} {q : IntKind} {bytes : Nat} (O : One P t e q bytes) {w : World} {ops : Array Oper} {o : Oper} {a : Act} {K : Act → World → Prop} {Q : Exit → Act → World → Prop} {E : Prop} (hgd : o.guard = none) (s x : Operand)
    (ho : o.op = .call { callee := .builtin .append, args := #[s, x], argTypes := #[t, t] })
    (base : Nat) (v : Value) (xs : List Int) (hs : a.eval s = v) (hown : OR w base e q v xs)
    (ad : Addr) (m c : Nat) (ys : List Int) (hx : a.eval x = .slice (some ad) m c) (hl : ys.length = m) (hb : CL w q (some ad) ys)
    (h63 : (xs.length + m) * bytes ≤ 140737488355328) (hp : 0 < bytes) (hbase : base ≤ w.heap.size)
    (h : ∀ v' w', OR w' base e q v' (xs ++ ys) → Step w v w' v' → K (a.put o.dst v') w') : if Region.wanted o (yielded ops a.tmps) = true then Oper.wp P o a w K Q else E := by
  rw [if_pos (by simp [Region.wanted, hgd])]
  obtain ⟨i0, hi, hz0, hz1, hz2⟩ := O.i
  have hle : xs.length + m ≤ (xs.length + m) * bytes := Nat.le_mul_of_pos_right _ hp
  obtain ⟨v', w', hr, h2, h3, h4⟩ := run_append_moved (P := P) w base t o.type e i0 (.int q 0) 1 bytes O.u hi hz0 hz1 hz2 rfl (by decide) v xs.length (nums q xs) hown.1 ad m c (nums q ys) (by rw [nums_len, hl, Nat.mul_one])
    (fun j u hj => by
      obtain ⟨y, hy, rfl⟩ := nums_get hj
      obtain ⟨b, hb, hc, -⟩ := hb j y hy
      cases hb
      exact hc) nums_one (by simp only [maxLen]; omega) h63 hbase
  unfold Oper.wp execOp
  simp only [ho, resolve, invoke, builtin, Sem.run_bind, Sem.run_pure, Result.andThen_ok, List.map_toArray, List.map_cons, List.map_nil, hs, hx, hr]
  refine h v' w' ⟨?_, hown.2.append hb.wf⟩ ⟨h3, h4⟩
  rw [List.length_append, hl, nums_app]
  exact h2
end Go.Proofs.Ytecgpibidcifpaa.Shell

