/- A drop whose function pops another queue. -/
import Derived.Test.YtniemmnmiefgeaaQueueI
namespace Go.Proofs.Ytniemmnmiefgeaa.QueueW
open Go.RowKit
abbrev ordBox : Obj := .cells #[.bool true] 4
abbrev lowBox (lo : Int) : Obj := .cells #[.int .i64 lo] 3
abbrev ptrBox (k : Nat) : Obj := .cells #[.pointer (some ⟨k, 0, none⟩)] 37
set_option maxHeartbeats 1000000 in
set_option maxRecDepth 100000 in
theorem asks (k : Nat) (n : Int) (v : Value) (x : It) (S : List It) (cb ob bb : Nat) (lo : Int) (W : World) (h : QSI W k 65536 n v (x :: S)) (hx : x.thing = .int .i64 x.num) (hc : W.heap[cb]? = some (ptrBox k)) (ho : W.heap[ob]? = some ordBox) (hb : W.heap[bb]? = some (lowBox lo))
    (no : ¬ (ob = k ∨ v.ownBlock = some ob)) (nb : ¬ (bb = k ∨ v.ownBlock = some bb)) (hob : ¬ bb = ob) :
    Calls Try.prog 18 #[x.thing, .pointer (some ⟨cb, 0, none⟩), .pointer (some ⟨ob, 0, none⟩), .pointer (some ⟨bb, 0, none⟩)] W fun e w' => e = .returned (.bool (kpt lo x)) ∧ (∃ v', v'.ownBlock = v.ownBlock ∧ QSI w' k 65536 n v' S) ∧ Chg (fun j => (j = k ∨ v.ownBlock = some j) ∨ j = ob) W w' ∧ w'.heap[ob]? = some ordBox := by
  have c0 : W.cell? ⟨cb, 0, none⟩ = some (.pointer (some ⟨k, 0, none⟩)) := cell_of_row W cb 0 _ _ _ hc
  have P := popI_some k 65536 n v x S W h
  rw [hx] at P
  have HP := Lib.hid P
  have HO := Lib.hid ho
  have HB := Lib.hid hb
  have HNO := Lib.hid no
  have HNB := Lib.hid nb
  rw [hx]
  unfold kpt
  generalize x.num = u at *
  clear P h hx hc ho hb no nb
  go_enter Try.func18, Try.ntmps18
  go_wp2_with fail
  refine HP.out.mono ?_
  rintro e w1 ⟨rfl, v', q1, o1, g1⟩
  have ho1 := g1.heap HO.out HNO.out
  have c1 : w1.cell? ⟨ob, 0, none⟩ = some (.bool true) := cell_of_row w1 ob 0 _ _ _ ho1
  have f1 := frozen_of_row w1 ob 0 _ _ ho1
  have c2 : w1.cell? ⟨bb, 0, none⟩ = some (.int .i64 lo) := cell_of_row w1 bb 0 _ _ _ (g1.heap HB.out HNB.out)
  have n1 : ¬ ob = bb := fun e => hob e.symm
  have HO1 := Lib.hid ho1
  have Q1 := Lib.hid q1
  have O1 := Lib.hid o1
  have G1 := Lib.hid g1
  clear ho1 q1 o1 g1 HP
  go_wp2
  go_ret
  have c3 : Chg (fun j => j = ob) w1 (w1.setCell ⟨ob, 0, none⟩ (.bool true)) := (Chg.refl (fun j => j = ob) w1).setCell (p := ⟨ob, 0, none⟩) rfl _
  refine ⟨rfl, ⟨v', O1.out, Q1.out.frame c3 (fun e => HNO.out (Or.inl e.symm)) (fun j hj e => HNO.out (Or.inr (by rw [← O1.out, hj, e])))⟩, ?_, Go.heap_setCell_same w1 ob 0 _ _ _ HO1.out⟩
  exact (G1.out.mono (Y := fun j => (j = k ∨ v.ownBlock = some j) ∨ j = ob) (fun _ _ e => Or.inl e)).trans c3 (fun _ _ e => Or.inr e)
theorem ent_asks : ∀ (args : Array Value) (w : World), Sem.run Try.prog (callFunc 18 args) w = .ok (.enter 18 args) w := enters_of Try.func18 (by kernel_rfl) rfl
theorem Fam.drop {w wr : World} {ka kc cb ob bb : Nat} {na nc lo : Int} {va vc : Value} {S : List It} {b : Qd} (h : Fam w wr [(ob, ordBox), (cb, ptrBox kc)] [⟨ka, na, va, S⟩, ⟨kc, nc, vc, S⟩, b]) (hb : w.heap[bb]? = some (lowBox lo)) (hf : Fine S) (hn : na < 4611686018427387904) :
    Calls Try.prog 17 #[.pointer (some ⟨ka, 0, none⟩), .func (.func 18) #[] #[.pointer (some ⟨cb, 0, none⟩), .pointer (some ⟨ob, 0, none⟩), .pointer (some ⟨bb, 0, none⟩)]] wr fun e w' => e = .returned (.int .i64 ((S.length : Int) - (S.filter (kpt lo)).length)) ∧
      ∃ va' vc', Fam w w' [(ob, ordBox), (cb, ptrBox kc)] [⟨ka, na, va', S.filter (kpt lo)⟩, ⟨kc, nc, vc', []⟩, b] := by
  have ma : (⟨ka, na, va, S⟩ : Qd) ∈ [(⟨ka, na, va, S⟩ : Qd), ⟨kc, nc, vc, S⟩, b] := List.mem_cons_self
  have mc : (⟨kc, nc, vc, S⟩ : Qd) ∈ [(⟨ka, na, va, S⟩ : Qd), ⟨kc, nc, vc, S⟩, b] := List.mem_cons_of_mem _ List.mem_cons_self
  have mb : b ∈ [(⟨ka, na, va, S⟩ : Qd), ⟨kc, nc, vc, S⟩, b] := List.mem_cons_of_mem _ (List.mem_cons_of_mem _ List.mem_cons_self)
  have qa := h.q _ ma
  have qc := h.q _ mc
  have qb := h.q _ mb
  have d1 := List.pairwise_cons.1 h.dj
  have d2 := List.pairwise_cons.1 d1.2
  have dac := d1.1 _ List.mem_cons_self
  have dab := d1.1 _ (List.mem_cons_of_mem _ List.mem_cons_self)
  have dcb := d2.1 _ List.mem_cons_self
  obtain ⟨ho, ho0, hox⟩ := h.keep (ob, ordBox) List.mem_cons_self
  obtain ⟨hc, hc0, hcx⟩ := h.keep (cb, ptrBox kc) (List.mem_cons_of_mem _ List.mem_cons_self)
  dsimp only at ho ho0 hox hc hc0 hcx qa qc
  have hbl := lt_heap hb
  have ws := h.b.size
  have hbr : wr.heap[bb]? = some (lowBox lo) := (h.b.block bb hbl).trans hb
  have lob := lt_heap ho
  have lcb := lt_heap hc
  have cob : ¬ cb = ob := fun e => by
    rw [e, ho] at hc
    injection hc with hc
    cases hc
  have fa := h.f _ ma
  have fc := h.f _ mc
  have K : KC wr ka va 18 #[.pointer (some ⟨cb, 0, none⟩), .pointer (some ⟨ob, 0, none⟩), .pointer (some ⟨bb, 0, none⟩)] S (kpt lo) (fun j => (j = kc ∨ vc.ownBlock = some j) ∨ j = ob)
      (fun j W => (∃ v', v'.ownBlock = vc.ownBlock ∧ QSI W kc 65536 nc v' (S.drop j)) ∧ W.heap[ob]? = some ordBox ∧ W.heap[cb]? = some (ptrBox kc) ∧ W.heap[bb]? = some (lowBox lo)) := by
    refine ⟨fun j hj => ?_, ent_asks, ⟨⟨vc, rfl, qc⟩, ho, hc, hbr⟩, fun j x W hx hW hI => ?_, fun j W W' hI hW hg => ?_⟩
    · rcases hj with hj | rfl
      · exact ⟨foot_lt (x := ⟨kc, nc, vc, S⟩) qc hj, fun e => dac j (Or.inl e) hj, fun e => dac j (Or.inr e) hj⟩
      · exact ⟨lob, fun e => hox _ ma (Or.inl e), fun e => hox _ ma (Or.inr e)⟩
    · obtain ⟨⟨v', o', q'⟩, h1, h2, h3⟩ := hI
      obtain ⟨hj, ex⟩ := List.getElem?_eq_some_iff.1 hx
      rw [List.drop_eq_getElem_cons hj, ex] at q'
      refine (asks kc nc v' x (S.drop (j + 1)) cb ob bb lo W q' (hf.ints x (List.mem_of_getElem? hx)) h2 h1 h3 (fun e => hox _ mc (by rw [o'] at e; exact e)) (fun e => ?_) (by omega)).mono ?_
      · rw [o'] at e
        have : w.heap.size ≤ bb := fc bb e
        omega
      · rintro e w' ⟨rfl, ⟨v2, o2, q2⟩, g2, h4⟩
        rw [o'] at g2 o2
        refine ⟨rfl, ⟨⟨v2, o2, q2⟩, h4, g2.heap h2 (fun e => e.elim (fun e => hcx _ mc e) cob), g2.heap h3 (fun e => e.elim (fun e => ?_) (by omega))⟩, g2⟩
        have : w.heap.size ≤ bb := fc bb e
        omega
    · obtain ⟨⟨v', o', q'⟩, h1, h2, h3⟩ := hI
      have nx : ∀ j, (j = kc ∨ vc.ownBlock = some j) → ¬ (wr.heap.size ≤ j ∨ j = ka ∨ va.ownBlock = some j) := fun j hj e => by
        rcases e with e | e
        · have := foot_lt (x := ⟨kc, nc, vc, S⟩) qc hj
          omega
        · exact dac j e hj
      refine ⟨⟨v', o', q'.frame hg (nx kc (Or.inl rfl)) (fun j hj => nx j (Or.inr (o' ▸ hj)))⟩, hg.heap h1 (fun e => ?_), hg.heap h2 (fun e => ?_), hg.heap h3 (fun e => ?_)⟩
      · rcases e with e | e
        · omega
        · exact hox _ ma e
      · rcases e with e | e
        · omega
        · exact hcx _ ma e
      · rcases e with e | e
        · omega
        · have : w.heap.size ≤ bb := fa bb e
          omega
  refine (dropI ka 65536 na va S _ _ (kpt lo) _ _ wr qa hf.plc hf.dis hn K).mono ?_
  rintro e w1 ⟨rfl, va', q1, o1, ⟨⟨vc', oc, qc'⟩, h1, h2, h3⟩, g1⟩
  rw [List.drop_length] at qc'
  have na' : ∀ j, (⟨ka, na, va', S.filter (kpt lo)⟩ : Qd).foot j → (⟨ka, na, va, S⟩ : Qd).foot j := fun j hj => hj.imp id (fun e => o1 ▸ e)
  have nc' : ∀ j, (⟨kc, nc, vc', []⟩ : Qd).foot j → (⟨kc, nc, vc, S⟩ : Qd).foot j := fun j hj => hj.imp id (fun e => oc ▸ e)
  have nb : ∀ j, b.foot j → ¬ (((j = kc ∨ vc.ownBlock = some j) ∨ j = ob) ∨ j = ka ∨ va.ownBlock = some j) := fun j hj e => by
    rcases e with (e | e) | e
    · exact dcb j e hj
    · exact hox _ mb (e ▸ hj)
    · exact dab j e hj
  refine ⟨rfl, va', vc', fun x hx => ?_, fun x hx j hj => ?_, ?_, h.b.trans (g1.below (B := w.heap.size) (fun j hj e => ?_) ws), fun p hp => ?_⟩
  · simp only [List.mem_cons, List.not_mem_nil, or_false] at hx
    rcases hx with rfl | rfl | rfl
    · exact q1
    · exact qc'
    · exact qb.frame g1 (nb _ (Or.inl rfl)) (fun j hj => nb j (Or.inr hj))
  · simp only [List.mem_cons, List.not_mem_nil, or_false] at hx
    rcases hx with rfl | rfl | rfl
    · exact fa j (na' j hj)
    · exact fc j (nc' j hj)
    · exact h.f _ mb j hj
  · refine List.pairwise_cons.2 ⟨fun y hy j hj hf => ?_, List.pairwise_cons.2 ⟨fun y hy j hj hf => ?_, d2.2⟩⟩
    · simp only [List.mem_cons, List.not_mem_nil, or_false] at hy
      rcases hy with rfl | rfl
      · exact dac j (na' j hj) (nc' j hf)
      · exact dab j (na' j hj) hf
    · simp only [List.mem_cons, List.not_mem_nil, or_false] at hy
      subst hy
      exact dcb j (nc' j hj) hf
  · rcases e with (e | e) | e
    · have : w.heap.size ≤ j := fc j e
      omega
    · omega
    · have : w.heap.size ≤ j := fa j e
      omega
  · simp only [List.mem_cons, List.not_mem_nil, or_false] at hp
    rcases hp with rfl | rfl
    · refine ⟨h1, ho0, fun x hx hf => ?_⟩
      simp only [List.mem_cons, List.not_mem_nil, or_false] at hx
      rcases hx with rfl | rfl | rfl
      · exact hox _ ma (na' _ hf)
      · exact hox _ mc (nc' _ hf)
      · exact hox _ mb hf
    · refine ⟨h2, hc0, fun x hx hf => ?_⟩
      simp only [List.mem_cons, List.not_mem_nil, or_false] at hx
      rcases hx with rfl | rfl | rfl
      · exact hcx _ ma (na' _ hf)
      · exact hcx _ mc (nc' _ hf)
      · exact hcx _ mb hf
end Go.Proofs.Ytniemmnmiefgeaa.QueueW
