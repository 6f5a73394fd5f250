/- How long the rows of a configuration that came in are at most, by the reach of the form. -/
import Derived.Test.YtecgpibidcifpaaConfLay
namespace Go.Proofs.Ytecgpibidcifpaa.ConfW
open Go.ChangeShapes Go.WideShapes Go.ChangeAt Go.RowKit Shell
set_option maxRecDepth 100000 in
theorem weights_all_mem {H : Type} {P : Program} {e : TypeId} : ∀ {es : List (DataW H)} {i : Nat} {x : DataW H}, es[i]? = some x → ∀ n ∈ x.weights P e, n ∈ DataW.weightsAll P e es
  | y :: es, 0, x, h, n, hn => by
    simp only [List.getElem?_cons_zero, Option.some.injEq] at h
    subst h
    simp only [DataW.weightsAll, List.mem_append]
    exact Or.inl hn
  | y :: es, i + 1, x, h, n, hn => by
    simp only [List.getElem?_cons_succ] at h
    simp only [DataW.weightsAll, List.mem_append]
    exact Or.inr (weights_all_mem h n hn)
  | [], _, _, h, _, _ => by simp at h
set_option maxRecDepth 100000 in
theorem sized_cfg {H : Type} {ts : List TypeId} {ds : List (DataW H)} (h : (DataW.weightsEach Try.prog ts ds).all (· ≤ reachBytes) = true) {j : Nat} {ys : List (DataW H)} (ht : ts[j]? = some 26) (hd : ds[j]? = some (.agg ys)) (c : Cfg)
    (s5 : c.delays = [] ∨ ∃ es sp, ys[5]? = some (.slice es sp) ∧ c.delays.length = es.length ∧ ∀ (i : Nat) (r : List Int), c.delays[i]? = some r → r = [] ∨ ∃ fs sq, es[i]? = some (.slice fs sq) ∧ r.length = fs.length)
    (s6 : c.entries = [] ∨ ∃ es sp, ys[6]? = some (.slice es sp) ∧ c.entries.length = es.length) (s7 : c.links = [] ∨ ∃ es sp, ys[7]? = some (.slice es sp) ∧ c.links.length = es.length) :
    c.delays.length * 24 ≤ 140737488355328 ∧ (∀ r ∈ c.delays, r.length * 8 ≤ 140737488355328) ∧ c.entries.length * 32 ≤ 140737488355328 ∧ c.links.length * 32 ≤ 140737488355328 := by
  have hu := Try.underlying26
  have hall : ∀ n ∈ (DataW.agg ys).weights Try.prog 26, n ≤ reachBytes := fun n hn => by
    have := List.all_eq_true.1 h _ (DataW.weights_mem_each ht hd n hn)
    simpa using this
  simp only [DataW.weights, hu] at hall
  have hk : ∀ {i : Nat} {t : TypeId} {x : DataW H}, (List.map (fun f : Field => f.type) (Try.prog.fieldsOf 26).toList)[i]? = some t → ys[i]? = some x → ∀ n ∈ x.weights Try.prog t, n ≤ 140737488351232 := fun {i t x} h1 h2 n hn => by
    have h3 := hall n (DataW.weights_mem_each (ts := List.map (fun f : Field => f.type) (Try.prog.fieldsOf 26).toList) h1 h2 n hn)
    exact h3
  refine ⟨?_, ?_, ?_, ?_⟩
  · rcases s5 with h0 | ⟨es, sp, h1, h2, -⟩
    · rw [h0]; simp
    · have h3 := hk (t := 22) (by kernel_rfl) h1 ((es.length + sp.length) * Try.prog.bytesOf 53) (by simp [DataW.weights, Try.underlying22])
      rw [show Try.prog.bytesOf 53 = 24 by kernel_rfl] at h3
      omega
  · intro r hr
    obtain ⟨i, hi⟩ := List.getElem?_of_mem hr
    rcases s5 with h0 | ⟨es, sp, h1, h2, h4⟩
    · rw [h0] at hi; simp at hi
    · rcases h4 i r hi with h5 | ⟨fs, sq, h5, h6⟩
      · rw [h5]; simp
      · have hm : (fs.length + sq.length) * Try.prog.bytesOf 2 ∈ DataW.weightsAll Try.prog 53 es := weights_all_mem h5 _ (by simp [DataW.weights, Try.underlying53])
        have h3 := hk (t := 22) (by kernel_rfl) h1 ((fs.length + sq.length) * Try.prog.bytesOf 2) (by
          simp only [DataW.weights, Try.underlying22, List.mem_cons, List.mem_append]
          exact Or.inr (Or.inl hm))
        rw [show Try.prog.bytesOf 2 = 8 by kernel_rfl] at h3
        omega
  · rcases s6 with h0 | ⟨es, sp, h1, h2⟩
    · rw [h0]; simp
    · have h3 := hk (t := 23) (by kernel_rfl) h1 ((es.length + sp.length) * Try.prog.bytesOf 58) (by simp [DataW.weights, Try.underlying23])
      rw [show Try.prog.bytesOf 58 = 32 by kernel_rfl] at h3
      omega
  · rcases s7 with h0 | ⟨es, sp, h1, h2⟩
    · rw [h0]; simp
    · have h3 := hk (t := 24) (by kernel_rfl) h1 ((es.length + sp.length) * Try.prog.bytesOf 52) (by simp [DataW.weights, Try.underlying24])
      rw [show Try.prog.bytesOf 52 = 32 by kernel_rfl] at h3
      omega
end Go.Proofs.Ytecgpibidcifpaa.ConfW

