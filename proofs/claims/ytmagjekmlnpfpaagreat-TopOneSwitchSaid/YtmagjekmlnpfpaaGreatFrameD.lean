/- Rows of bytes of our own that grow: put, lay. -/
import Derived.Test.YtmagjekmlnpfpaaGreatFrameC
import Derived.Deep.DeepAppendRoom
import Derived.Laws.Shifts
namespace Go.Proofs.YtmagjekmlnpfpaaGreat.FrameW
open Go.RowKit
def u8s (l : List Int) : List Value := l.map (Value.int .u8)
theorem u8s_len (l : List Int) : (u8s l).length = l.length := by simp [u8s]
theorem u8s_app (a b : List Int) : u8s (a ++ b) = u8s a ++ u8s b := by simp [u8s]
theorem u8_info : ∃ i0 : TypeInfo, Tryz.prog.info? 5 = some i0 ∧ i0.zero = some (.int .u8 0) ∧ i0.size = 1 ∧ i0.bytes = 1 :=
  info_parts (show (Tryz.prog.info? 5).map (fun i => (i.zero, i.size, i.bytes)) = some (some (.int .u8 0), 1, 1) by kernel_rfl)
theorem u8s_one {l : List Int} : ∀ u ∈ u8s l, u.oneCell' = true := by
  intro u hu
  obtain ⟨x, _, rfl⟩ := List.mem_map.1 hu
  rfl
/-- A row of bytes of our own. -/
def OB (w : World) (base : Nat) (v : Value) (xs : List Int) : Prop := w.ownsRow base 5 1 v xs.length (u8s xs) ∧ By xs
theorem OB.form {w : World} {base : Nat} {v : Value} {xs : List Int} (h : OB w base v xs) : ∃ A c, v = .slice A xs.length c ∧ BL w A xs ∧ xs.length ≤ c ∧ (A = none → c = 0) := by
  obtain ⟨h, hb⟩ := h
  rcases h.2 with ⟨hv, h0⟩ | ⟨g, cap, cur, hv, _, hg, h5, h6, h7, htake⟩
  · have hd : xs = [] := List.eq_nil_of_length_eq_zero h0
    subst hd
    exact ⟨none, 0, hv, fun k d hk => by simp at hk, Nat.le_refl _, fun _ => rfl⟩
  · refine ⟨_, cap, hv, fun j y hy => ⟨_, rfl, ?_, hb.get hy⟩, h5, fun h => by cases h⟩
    have hj : j < xs.length := by
      rcases Nat.lt_or_ge j xs.length with h4 | h4
      · exact h4
      · rw [List.getElem?_eq_none h4] at hy; cases hy
    have ha : (⟨g, 0, none⟩ : Addr).add j = ⟨g, j, none⟩ := by unfold Addr.add; split <;> simp_all
    have h5 : (u8s xs)[j]? = some (.int .u8 y) := by unfold u8s; rw [List.getElem?_map, hy]; rfl
    rw [← htake, List.getElem?_take_of_lt (by omega), Array.getElem?_toList] at h5
    rw [ha]
    unfold World.cell?
    simp only [hg]
    exact h5
theorem OB.lt {w : World} {base : Nat} {v : Value} {xs : List Int} (h : OB w base v xs) : ∀ k, v.ownBlock = some k → base ≤ k ∧ k < w.heap.size := h.1.lt
theorem OB.alloc {w : World} {base : Nat} {v : Value} {xs : List Int} (h : OB w base v xs) (o : Obj) : OB (w.alloc o) base v xs := ⟨h.1.alloc o, h.2⟩
theorem OB.below {w w1 : World} {base : Nat} {v : Value} {xs : List Int} (h : OB w base v xs) (b : Below w.heap.size w w1) : OB w1 base v xs :=
  ⟨h.1.kept (row := none) ⟨b.os, b.tape, b.output, b.size, fun k hk _ => b.block k hk⟩ (by
    cases hv : v.ownBlock with
    | none => exact Or.inl rfl
    | some k => exact Or.inr (by simp)), h.2⟩
/-- Where an append's answer lies: in the block that it had, or in a new one. -/
def Moved (w : World) (v v' : Value) : Prop := v'.ownBlock = v.ownBlock ∨ ∃ k, v'.ownBlock = some k ∧ w.heap.size ≤ k
/-- From w and the row v to w' and the row v': nothing else has turned. -/
structure Step (w : World) (v : Value) (w' : World) (v' : Value) : Prop where
  g : w.grownBy w' v.ownBlock
  m : Moved w v v'
theorem Step.refl (w : World) (v : Value) : Step w v w v := ⟨World.grownBy.refl w _, Or.inl rfl⟩
theorem Step.trans {a b c : World} {u v x : Value} (h : Step a u b v) (k : Step b v c x) : Step a u c x := by
  refine ⟨h.g.andThen k.g (fun j hj => ?_), ?_⟩
  · rcases h.m with h1 | ⟨i, h1, h2⟩
    · exact Or.inr (h1.symm.trans hj)
    · rw [h1] at hj; cases hj; exact Or.inl h2
  · rcases k.m with h1 | ⟨i, h1, h2⟩
    · rcases h.m with h3 | ⟨j, h3, h4⟩
      · exact Or.inl (h1.trans h3)
      · exact Or.inr ⟨j, h1.trans h3, h4⟩
    · exact Or.inr ⟨i, h1, Nat.le_trans h.g.size h2⟩
theorem Step.alloc (w : World) (v : Value) (o : Obj) : Step w v (w.alloc o) v := ⟨World.grownBy_alloc w o _, Or.inl rfl⟩
theorem Step.drew (w : World) (v : Value) : Step w v w.drew v := ⟨⟨rfl, rfl, rfl, Nat.le_refl _, fun _ _ _ => rfl⟩, Or.inl rfl⟩
theorem Step.of {w w1 : World} (b : Below w.heap.size w w1) (v : Value) : Step w v w1 v := ⟨⟨b.os, b.tape, b.output, b.size, fun k hk _ => b.block k hk⟩, Or.inl rfl⟩
theorem Step.below {w w' : World} {v v' : Value} {base : Nat} {xs : List Int} (h : Step w v w' v') (o : OB w base v xs) (hb : base ≤ w.heap.size) : Below base w w' :=
  ⟨h.g.os, h.g.tape, h.g.output, h.g.size, fun k hk => h.g.block k (by omega) (fun e => by have := (o.lt k e.symm).1; omega)⟩
/-- Bytes that lie in no block of the row's. -/
def Far (v : Value) (A : Option Addr) : Prop := ∀ a, A = some a → Option.some a.block ≠ v.ownBlock
theorem BL.step {w w' : World} {v v' : Value} {A : Option Addr} {xs : List Int} (h : BL w A xs) (s : Step w v w' v') (f : Far v A) : BL w' A xs := by
  intro k x hx
  obtain ⟨a, ha, hc, hb⟩ := h k x hx
  have hne : Option.some (a.add k).block ≠ v.ownBlock := by
    have : (a.add k).block = a.block := by unfold Addr.add; split <;> rfl
    rw [this]; exact f a ha
  exact ⟨a, ha, s.g.cell hc hne, hb⟩
theorem run_append_moved {P : Program} (w : World) (base : Nat) (t ty e : TypeId) (i : TypeInfo) (z : Value) (size bytes : Nat) (ht : P.underlying t = some (.slice e)) (hi : P.info? e = some i) (hz : i.zero = some z)
    (hsize : i.size = size) (hby : i.bytes = bytes) (hzs : z.cells.size = size) (hsz : 0 < size)
    (v : Value) (n : Nat) (xs : List Value) (hown : w.ownsRow base e size v n xs)
    (a : Addr) (m c : Nat) (news : List Value) (hl : news.length = m * size) (hnews : ∀ j u, news[j]? = some u → w.cell? (a.add j) = some u) (h1 : ∀ u ∈ news, u.oneCell' = true)
    (h63 : n + m ≤ maxLen) (hbytes : (n + m) * bytes ≤ 140737488355328) (hbase : base ≤ w.heap.size) :
    ∃ v' w', (Builtin.append_ #[t, t] ty #[v, .slice (some a) m c]).run P w = .ok v' w' ∧ w'.ownsRow base e size v' (n + m) (xs ++ news) ∧ w.grownBy w' v.ownBlock ∧ Moved w v v' := by
  obtain ⟨v', w', hr, h2, h3, h4⟩ := run_append_own (P := P) w base t ty e i z size bytes ht hi hz hsize hby hzs hsz v n xs hown a m c news hl hnews h1 h63 hbytes hbase
  refine ⟨v', w', hr, h2, h3, ?_⟩
  rcases hown.2 with ⟨hv, hn⟩ | ⟨g, cap, cur, hv, hbg, hg, hnc, hcm, hcs, htake⟩
  · subst hv; subst hn
    have hx : xs = [] := List.eq_nil_of_length_eq_zero (by simpa using hown.1)
    subst hx
    obtain ⟨v2, w2, hr2, o2, _⟩ := run_append_own (P := P) w w.heap.size t ty e i z size bytes ht hi hz hsize hby hzs hsz (.slice none 0 0) 0 [] (World.ownsRow_nil _ _ _ _) a m c news hl hnews h1 h63 hbytes (Nat.le_refl _)
    rw [hr] at hr2
    cases hr2
    cases hb : v'.ownBlock with
    | none => exact Or.inl (by rw [hb]; rfl)
    | some k => exact Or.inr ⟨k, hb, (o2.lt k hb).1⟩
  · subst hv
    by_cases hroom : n + m ≤ cap
    · obtain ⟨w2, hr2, _, _⟩ := run_append_own_spare (P := P) w base t ty e i size ht hi hsize g n cap xs hown a m c news hl hnews h1 hroom
      rw [hr] at hr2
      cases hr2
      exact Or.inl rfl
    · subst hsize
      subst hby
      have hsmall : n + m ≤ 9223372036854775807 := by simp only [maxLen] at h63; omega
      have holds : ∀ j u, xs[j]? = some u → w.cell? ((⟨g, 0, none⟩ : Addr).add j) = some u := hown.cells (g := g) rfl
      have hr2 := run_append_grow (P := P) w t ty e i z ht hi hz ⟨g, 0, none⟩ n cap xs hown.1 holds a m c news hl hnews (by omega) (by omega) (growslice_fits (by omega) hbytes)
      rw [hr] at hr2
      cases hr2
      exact Or.inr ⟨_, rfl, Nat.le_refl _⟩
/-- append to a row of bytes of our own. -/
theorem wpList_append_ob (w : World) {ops : Array Oper} {rest : List Oper} {o : Oper} {a : Act} {Q : Exit → Act → World → Prop} (hgd : o.guard = none) (s x : Operand)
    (ho : o.op = .call { callee := .builtin .append, args := #[s, x], argTypes := #[236, 236] })
    (base : Nat) (v : Value) (xs : List Int) (hs : a.eval s = v) (hown : OB w base v xs)
    (ad : Addr) (m c : Nat) (ys : List Int) (hx : a.eval x = .slice (some ad) m c) (hl : ys.length = m) (hb : BL w (some ad) ys)
    (h63 : xs.length + m ≤ 140737488355328) (hbase : base ≤ w.heap.size)
    (h : ∀ v' w', OB w' base v' (xs ++ ys) → Step w v w' v' → wpList Tryz.prog ops Q rest (a.put o.dst v') w') : wpList Tryz.prog ops Q (o :: rest) a w := by
  obtain ⟨i0, hi, hz0, hz1, hz2⟩ := u8_info
  obtain ⟨v', w', hr, h2, h3, h4⟩ := run_append_moved (P := Tryz.prog) w base 236 o.type 5 i0 (.int .u8 0) 1 1 Tryz.underlying236 hi hz0 hz1 hz2 rfl (by decide) v xs.length (u8s xs) hown.1 ad m c (u8s ys) (by rw [u8s_len, hl, Nat.mul_one])
    (fun j u hj => by
      unfold u8s at hj
      rw [List.getElem?_map] at hj
      cases hy : ys[j]? with
      | none => rw [hy] at hj; cases hj
      | some y =>
        rw [hy] at hj
        obtain ⟨b, hb, hc, -⟩ := hb j y hy
        cases hb
        cases hj
        exact hc) u8s_one (by simp only [maxLen]; omega) (by omega) hbase
  refine wpList_plain hgd fun _ hK => ?_
  unfold Oper.wp execOp
  simp only [ho, resolve, invoke, builtin, Sem.run_bind, Sem.run_pure, Result.andThen_ok, List.map_toArray, List.map_cons, List.map_nil, hs, hx, hr]
  refine hK _ _ (h v' w' ⟨?_, hown.2.append hb.by⟩ ⟨h3, h4⟩)
  rw [List.length_append, hl, u8s_app]
  exact h2
theorem one_bl (w : World) (x : Int) (h0 : 0 ≤ x) (h1 : x < 256) (t : TypeId) : BL (w.alloc (.cells #[.int .u8 x] t)) (some ⟨w.heap.size, 0, none⟩) [x] := by
  intro k y hk
  match k, hk with
  | 0, hk =>
    simp at hk
    subst hk
    exact ⟨_, rfl, cell_one_new w (.int .u8 x) t 0 _ rfl, h0, h1⟩
theorem be_get {size k n : Nat} (h : k < size) : (be size n)[k]? = some ((n / 256 ^ (size - 1 - k) % 256 : Nat) : Int) := by
  unfold be
  rw [List.getElem?_map, List.getElem?_range h]
  rfl
theorem be_take {size k n : Nat} (h : k < size) : (be size n).take (k + 1) = (be size n).take k ++ [((n / 256 ^ (size - 1 - k) % 256 : Nat) : Int)] := by
  rw [List.take_add_one, be_get h]
  rfl
theorem shr_run (n j : Nat) (y : Int) (h : n < 18446744073709551616) (hy : y = ((8 * j : Nat) : Int)) (w : World) : (Op.shift .shr .u64 (n : Int) .i64 y).run Tryz.prog w = .ok (.int .u64 ((n / 256 ^ j : Nat) : Int)) w := by
  rw [shift_shr_any .u64 .i64 _ _ (by omega), Sem.run_pure]
  congr 2
  have e : (256 : Nat) ^ j = 2 ^ (8 * j) := by rw [Nat.pow_mul]
  show (n : Int) / 2 ^ min y.toNat 64 = _
  by_cases hj : 8 * j ≤ 64
  · rw [show min y.toNat 64 = 8 * j by omega, e, Int.natCast_ediv, Int.natCast_pow]
    rfl
  · rw [show min y.toNat 64 = 64 by omega]
    have h2 : n / 256 ^ j = 0 := by
      apply Nat.div_eq_of_lt
      rw [e]
      exact Nat.lt_of_lt_of_le h (by have := Nat.pow_le_pow_right (n := 2) (by decide) (show 64 ≤ 8 * j by omega); omega)
    rw [h2]
    omega
set_option maxHeartbeats 2000000 in
theorem put_any (v : Value) (xs : List Int) (n size base : Nat) (w : World) (h : OB w base v xs) (hn : n < 18446744073709551616) (hs : size ≤ 4096) (hx : xs.length ≤ 70368744177664) (hb : base ≤ w.heap.size) :
    Calls Tryz.prog 202 #[v, .int .u64 n, .int .i64 size] w fun e w' => ∃ v', e = .returned v' ∧ OB w' base v' (xs ++ be size n) ∧ Step w v w' v' := by
  have H := Lib.hid h
  have HN := Lib.hid hn
  have HX := Lib.hid hx
  have HB := Lib.hid hb
  obtain ⟨A, c, rfl, -⟩ := h.form
  clear h hn hx hb
  go_enter Tryz.func202, Tryz.ntmps202
  go_wp2
  go_loopw [0, 9] (fun v1 iv wr => ∃ (k : Nat), k ≤ size ∧ iv = .int .i64 k ∧ Hid (OB wr base v1 (xs ++ (be size n).take k)) ∧ Hid (Step w (.slice A xs.length c) wr v1)) (fun _ iv _ => size - (intOf iv).toNat)
  case atStart => exact ⟨0, Nat.zero_le _, rfl, by rw [List.take_zero, List.append_nil]; exact H, Lib.hid (Step.refl _ _)⟩
  case round =>
    obtain ⟨k, hk, rfl, HO, HS⟩ := hrel
    by_cases hlt : k < size
    · have HR := fun W => shr_run n (size - 1 - k) (8 * ((size : Int) - 1 - (k : Int))) HN.out (by omega) W
      have HT := Lib.hid (be_take (n := n) hlt)
      generalize n / 256 ^ (size - 1 - k) = q at *
      have hLn : (xs ++ (be size n).take k).length ≤ xs.length + 4096 := by rw [List.length_append, List.length_take, be_len]; omega
      have HT2 := Lib.hid (show xs ++ (be size n).take (k + 1) = (xs ++ (be size n).take k) ++ [(q : Int) % 256] by
        rw [HT.out, ← List.append_assoc, show ((q % 256 : Nat) : Int) = (q : Int) % 256 by omega])
      have HLn := Lib.hid hLn
      clear HT hLn
      generalize xs ++ (be size n).take k = L at *
      obtain ⟨A1, c1, rfl, -⟩ := HO.out.form
      have hk2 : (k : Int) < (size : Int) := by omega
      have HK := Lib.hid hlt
      go_wp2_with (at_builtin; refine wpList_append_ob _ rfl _ _ rfl base _ _ rfl (HO.out.alloc _) ⟨wr.heap.size, 0, none⟩ 1 1 [(q : Int) % 256] rfl rfl ?c1 ?c2 ?c3 ?_)
      case c1 => exact one_bl _ _ (by omega) (by omega) _
      case c2 => have := HX.out; have := HLn.out; omega
      case c3 => rw [World.size_alloc]; have := HS.out.g.size; have := HB.out; omega
      intro v2 w2 o2 s2
      have HO2 := Lib.hid (show OB w2 base v2 (xs ++ (be size n).take (k + 1)) by rw [HT2.out]; exact o2)
      have HS2 := Lib.hid ((HS.out.trans (Step.alloc _ _ _)).trans s2)
      clear o2 s2 HR
      go_wp2
      go_roundw
      case rel => exact ⟨k + 1, by have := HK.out; omega, by go_num, HO2, HS2⟩
      case measure => have := HK.out; simp [intOf]; omega
    · obtain rfl : k = size := by omega
      have ho := HO.out
      rw [List.take_of_length_le (by rw [be_len]; omega)] at ho
      have HO2 := Lib.hid ho
      clear ho
      go_wp2
      go_ret
      exact ⟨_, rfl, HO2.out, HS.out⟩
end Go.Proofs.YtmagjekmlnpfpaaGreat.FrameW


