/- Drop. -/
import Derived.Test.YtniemmnmiefgeaaQueueZ
import Derived.Test.YtniemmnmiefgeaaQueueN
namespace Go.Proofs.Ytniemmnmiefgeaa.QueueW
open Go.RowKit
def Dis (S : List It) : Prop := S.Pairwise (fun a b => a.place ≠ b.place)
theorem stays_gone {S : List It} {kp : It → Bool} (hd : Dis S) {x : It} (hx : x ∈ S) : stays (gone kp S) x = kp x := by
  unfold stays gone
  cases hk : kp x with
  | false =>
    refine decide_eq_false (fun h => h ?_)
    exact List.mem_map.2 ⟨x, List.mem_filter.2 ⟨hx, by simp [hk]⟩, rfl⟩
  | true =>
    refine decide_eq_true (fun h => ?_)
    obtain ⟨y, hy, e⟩ := List.mem_map.1 h
    obtain ⟨hy, hky⟩ := List.mem_filter.1 hy
    have : x = y := by
      obtain ⟨i, hi, rfl⟩ := List.getElem_of_mem hx
      obtain ⟨j, hj, rfl⟩ := List.getElem_of_mem hy
      rcases Nat.lt_trichotomy i j with h | h | h
      · exact absurd e.symm (List.pairwise_iff_getElem.1 hd i j hi hj h)
      · subst h; rfl
      · exact absurd e (List.pairwise_iff_getElem.1 hd j i hj hi h)
    subst this
    simp [hk] at hky
theorem own_len (A : Option Addr) (n m c : Nat) : (Value.slice A n c).ownBlock = (Value.slice A m c).ownBlock := by cases A <;> rfl
theorem filter_gone {S L : List It} {kp : It → Bool} (hd : Dis S) (p : L.Perm S) : L.filter (stays (gone kp S)) = L.filter kp :=
  List.filter_congr (fun _ hx => stays_gone hd (p.mem_iff.1 hx))
theorem unkeptI_any (k : Nat) (m n : Int) (v : Value) (S : List It) (kf : Nat) (lb : Array Value) (kp : It → Bool) (X : Nat → Prop) (I : Nat → World → Prop) (w0 : World) (h : QSI w0 k m n v S) (hi : ∀ x ∈ S, 0 ≤ x.place) (hn : n < 4611686018427387904) (K : KC w0 k v kf lb S kp X I) :
    Calls Try.prog 30 #[.pointer (some ⟨k, 0, none⟩), .func (.func kf) #[] lb] w0 fun e w' => ∃ b, e = .returned (.map (some b)) ∧ w0.heap.size ≤ b ∧ PS w' b (gone kp S) ∧ I S.length w' ∧ Chg X w0 w' := by
  match S, h, hi, K with
  | [], h, _, K =>
    refine (unkeptI_none k m n v _ w0 h).mono ?_
    rintro e w' ⟨b, rfl, h1, h2, h3⟩
    exact ⟨b, rfl, h1, h2, K.stay 0 w0 w' K.start (Nat.le_refl _) (Chg.of h3), Chg.of h3⟩
  | x :: S, h, hi, K => exact unkeptI_some k m n v (x :: S) kf lb kp X I w0 h hi hn K (by simp)
set_option maxHeartbeats 4000000 in
set_option maxRecDepth 100000 in
theorem dropI (k : Nat) (m n : Int) (v : Value) (S : List It) (kf : Nat) (lb : Array Value) (kp : It → Bool) (X : Nat → Prop) (I : Nat → World → Prop) (w0 : World) (h : QSI w0 k m n v S) (hi : ∀ x ∈ S, 0 ≤ x.place) (hdis : Dis S) (hn : n < 4611686018427387904) (K : KC w0 k v kf lb S kp X I) :
    Calls Try.prog 17 #[.pointer (some ⟨k, 0, none⟩), .func (.func kf) #[] lb] w0 fun e w' => e = .returned (.int .i64 ((S.length : Int) - (S.filter kp).length)) ∧
      ∃ v', QSI w' k m n v' (S.filter kp) ∧ v'.ownBlock = v.ownBlock ∧ I S.length w' ∧ Chg (fun j => X j ∨ j = k ∨ v.ownBlock = some j) w0 w' := by
  have U := Lib.hid (unkeptI_any k m n v S kf lb kp X I w0 h hi hn K)
  have HS := Lib.hid h
  have HK := Lib.hid K
  have HI := Lib.hid hi
  have HD := Lib.hid hdis
  clear h hi hdis K
  have fq : ∀ w, Sem.run Try.prog (binOp .eql 47 (.func (.func kf) #[] lb) .nilFunc) w = .ok (.bool false) w := fun w => by kernel_rfl
  go_enter Try.func17, Try.ntmps17
  go_wp2_with fail
  refine U.out.mono ?_
  rintro e w1 ⟨b, rfl, hb, p1, i1, g1⟩
  have q1 := HS.out.frame g1 (fun e => (HK.out.x0 _ e).2.1 rfl) (fun j hj e => (HK.out.x0 _ e).2.2 hj)
  obtain ⟨L, r, p, o⟩ := q1.row
  obtain ⟨A, c, hv⟩ := RowI.form r
  subst hv
  have c2 : w1.cell? ⟨k, 2, none⟩ = some (.slice A L.length c) := cell_of_row w1 k 2 _ _ _ q1.blk
  have f2 := frozen_of_row w1 k 2 _ _ q1.blk
  have few := q1.few
  have lL : L.length = S.length := p.length_eq
  have lk := q1.lt.1
  have hx : ∀ x ∈ L, (Lit.int .i64 x.place).wf = true := fun x hx => by
    have h1 := HI.out x (p.mem_iff.1 hx)
    have h2 := HS.out.old x (p.mem_iff.1 hx)
    simp only [Lit.wf, Bool.and_eq_true, decide_eq_true_eq]
    have e1 : IntKind.i64.min = -9223372036854775808 := rfl
    have e2 : IntKind.i64.max = 9223372036854775807 := rfl
    omega
  have hb1 : b < w1.heap.size := p1.lt
  have DF := delFuncI w1.heap.size b (gone kp S) A c L (w1.alloc (.cells #[.map (some b)] 66)) (Row.of_block r (fun g hg => heap_alloc_old _ _ (r.lt hg))) ⟨cell_of_row _ _ 0 _ _ _ (heap_alloc_new w1 _), p1.of_heap (heap_alloc_old _ _ hb1)⟩ hx (by omega) (fun e => by have := r.lt e; omega) (fun e => by have := HS.out.lt.2 b e; omega)
  rw [filter_gone HD.out p] at DF
  have HDF := Lib.hid DF
  have Q1 := Lib.hid q1
  have I1 := Lib.hid i1
  have G1 := Lib.hid g1
  have R1 := Lib.hid r
  have P1 := Lib.hid p
  have LL := Lib.hid lL
  clear DF p1 i1 g1 q1 r p o hx U few lL
  go_wp2_with fail
  refine HDF.out.mono ?_
  rintro e w2 ⟨rfl, r2, g2⟩
  have kx : ¬ (Value.slice A L.length c).ownBlock = some k := Q1.out.own
  have b2 : w2.heap[k]? = some (qI m n (.slice A L.length c)) := g2.heap ((heap_alloc_old _ _ lk).trans Q1.out.blk) (fun e => kx e)
  have d2 : w2.cell? ⟨k, 2, none⟩ = some (.slice A L.length c) := cell_of_row w2 k 2 _ _ _ b2
  have e2 := frozen_of_row w2 k 2 _ _ b2
  have b3 : (w2.setCell ⟨k, 2, none⟩ (.slice A (L.filter kp).length c)).heap[k]? = some (qI m n (.slice A (L.filter kp).length c)) := Go.heap_setCell_same w2 k 2 _ _ _ b2
  have r3 : Row (w2.setCell ⟨k, 2, none⟩ (.slice A (L.filter kp).length c)) 64 0 (.slice A (L.filter kp).length c) (L.filter kp) := Row.of_block r2 (fun j hj => Go.heap_setCell_other w2 ⟨k, 2, none⟩ j _ (fun e => kx ((own_len A _ _ c).trans (hj.trans (congrArg some e)))))
  have g3 : Chg (fun j => w0.heap.size ≤ j ∨ j = k ∨ (Value.slice A L.length c).ownBlock = some j) w1 (w2.setCell ⟨k, 2, none⟩ (.slice A (L.filter kp).length c)) :=
    (((Chg.refl (fun j => w0.heap.size ≤ j ∨ j = k ∨ (Value.slice A L.length c).ownBlock = some j) w1).alloc (.cells #[.map (some b)] 66)).trans g2 (fun _ _ e => Or.inr (Or.inr e))).setCell (p := ⟨k, 2, none⟩) (Or.inr (Or.inl rfl)) _
  have gx : Chg (fun j => j = k ∨ (Value.slice A L.length c).ownBlock = some j) w1 (w2.setCell ⟨k, 2, none⟩ (.slice A (L.filter kp).length c)) :=
    (((Chg.refl (fun j => j = k ∨ (Value.slice A L.length c).ownBlock = some j) w1).alloc (.cells #[.map (some b)] 66)).trans g2 (fun _ _ e => Or.inr e)).setCell (p := ⟨k, 2, none⟩) (Or.inl rfl) _
  have fl : (L.filter kp).length ≤ L.length := List.length_filter_le _ _
  have lw : L.length ≤ 65536 := by rw [LL.out]; exact Q1.out.few
  have IN : Calls Try.prog 33 #[.iface 62 (.pointer (some ⟨k, 2, none⟩))] (w2.setCell ⟨k, 2, none⟩ (.slice A (L.filter kp).length c)) fun e w' => e = .returned (.tuple #[]) ∧ ∃ M, Row w' 64 0 (.slice A (L.filter kp).length c) M ∧ M.Perm (L.filter kp) ∧ HO 0 M.length M ∧ Chg (fun j => (Value.slice A L.length c).ownBlock = some j) (w2.setCell ⟨k, 2, none⟩ (.slice A (L.filter kp).length c)) w' := by
    rcases R1.out.nil_form with ⟨e, e0⟩ | ⟨g, c', e, _⟩
    · subst e0
      refine (initI0 k A c _ (cell_of_row _ k 2 _ _ _ b3)).mono ?_
      rintro e w' ⟨rfl, rfl⟩
      exact ⟨rfl, [], r3, List.Perm.refl _, fun c hc => by simp at hc, Chg.refl _ _⟩
    · obtain rfl : A = some ⟨g, 0, none⟩ := by injection e
      have kg : ¬ k = g := fun e => kx (by subst e; rfl)
      refine (initI k g c m n (L.filter kp) _ b3 r3 kg (by omega)).mono ?_
      rintro e w' ⟨rfl, M, hM, oM⟩
      exact ⟨rfl, M, hM.row, hM.perm, by rw [hM.len]; exact oM, hM.chg.mono (fun j _ e => by subst e; rfl)⟩
  have HIN := Lib.hid IN
  have B3 := Lib.hid b3
  have GG3 := Lib.hid g3
  have GX := Lib.hid gx
  have KX := Lib.hid kx
  have fi : ((L.filter kp).length : Int) ≤ (L.length : Int) := by omega
  clear r2 g2 b2 b3 r3 g3 gx IN HDF c2 f2 kx
  go_wp2_with fail
  refine HIN.out.mono ?_
  rintro e w4 ⟨rfl, M, rM, pM, oM, gM⟩
  have b4 := gM.heap B3.out (fun e => KX.out e)
  have d4 : w4.cell? ⟨k, 2, none⟩ = some (.slice A (L.filter kp).length c) := cell_of_row w4 k 2 _ _ _ b4
  have B4 := Lib.hid b4
  clear b4
  go_wp2
  go_ret
  have pf : (L.filter kp).Perm (S.filter kp) := P1.out.filter kp
  refine ⟨by rw [← LL.out, ← pf.length_eq]; rfl, .slice A (L.filter kp).length c, ⟨⟨M, rM, pM.trans pf, oM⟩, B4.out, fun e => KX.out ((own_len A _ _ c).trans e), HS.out.up.filter _, fun x hx => HS.out.old x (List.mem_filter.1 hx).1, Nat.le_trans (List.length_filter_le _ _) HS.out.few⟩, own_len A _ _ c, ?_, ?_⟩
  · exact HK.out.stay _ _ _ I1.out G1.out.size (GG3.out.trans gM (fun _ _ e => Or.inr (Or.inr e)))
  · exact ((G1.out.mono (Y := fun j => X j ∨ j = k ∨ (Value.slice A L.length c).ownBlock = some j) (fun _ _ e => Or.inl e)).trans GX.out (fun _ _ e => Or.inr e)).trans gM (fun _ _ e => Or.inr (Or.inr e))
end Go.Proofs.Ytniemmnmiefgeaa.QueueW
