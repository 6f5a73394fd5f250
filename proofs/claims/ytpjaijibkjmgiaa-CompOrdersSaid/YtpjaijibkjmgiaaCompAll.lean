/- A collection of frames of the hosts 0, 1, 2, .. at given local times, compressed. -/
import Derived.Test.YtpjaijibkjmgiaaCompFixed
namespace Go.Proofs.Ytpjaijibkjmgiaa.CompW
open Go.RowKit Shell
open FrameW (CV rightC)
open MeanW (halfAt tolK srt)
theorem or_kept {w w1 : World} {base g : Nat} {e : TypeId} {q : IntKind} {v : Value} {xs : List Int} (h : OR w base e q v xs) (k : Kept g w w1) (hv : v.ownBlock ≠ some g) : OR w1 base e q v xs := by
  rcases h.1.2 with e | ⟨i, cap, cur, e, hb, hg, hr⟩
  · exact ⟨⟨h.1.1, Or.inl e⟩, h.2⟩
  · refine ⟨⟨h.1.1, Or.inr ⟨i, cap, cur, e, hb, ?_, hr⟩⟩, h.2⟩
    have hi : i ≠ g := fun e2 => hv (by rw [e, ← e2]; rfl)
    exact (k.block i hi (lt_of_heap hg)).trans hg
def SA (b : Int) (xs : List Int) (i : Nat) : List Fr := ⟨b, 0, 3, 0, 0⟩ :: (List.range i).map fun k => ⟨b + xs.getD k 0, k + 1, 3, 0, 0⟩
theorem SA_succ (b : Int) (xs : List Int) (i : Nat) : SA b xs (i + 1) = SA b xs i ++ [⟨b + xs.getD i 0, i + 1, 3, 0, 0⟩] := by
  unfold SA
  rw [List.range_succ, List.map_append]
  rfl
theorem SA_f {b : Int} {xs : List Int} {i : Nat} {z : Fr} (h : z ∈ SA b xs i) : z.f < i + 1 := by
  rcases List.mem_cons.1 h with rfl | h
  · exact Nat.succ_pos _
  · obtain ⟨k, hk, rfl⟩ := List.mem_map.1 h
    have := List.mem_range.1 hk
    show k + 1 < i + 1
    omega
theorem SA_len (b : Int) (xs : List Int) (i : Nat) : (SA b xs i).length = i + 1 := by unfold SA; simp
theorem ts_snoc (S : List Fr) (x : Fr) : ts (S ++ [x]) = ts S ++ [x.t] := by unfold ts; rw [List.map_append]; rfl
theorem ret_3 {fn : Func} {R : Ending → World → Prop} {p u v : Tmp} (h : fn.results = #[.cell p 39, .tmp u, .tmp v]) {tmps : Array Value} {w : World} {g : Nat} {x1 x2 x3 : Value} {t : TypeId} {fr : Nat × Nat}
    (hp : tmps.getD p undef = .pointer (some ⟨g, 0, none⟩)) (hg : w.heap[g]? = some (.cells #[x1, x2, x3] t fr)) (hR : R (.returned (.tuple #[.agg #[x1, x2, x3], tmps.getD u undef, tmps.getD v undef])) w) :
    bodyPost Try.prog fn R .ret { tmps := tmps, defers := [] } w :=
  bodyPost_ret (by
    have hp' : tmps[p]?.getD undef = .pointer (some ⟨g, 0, none⟩) := by simpa using hp
    simp [results, h, hp', asAddr, run_loadVar_row w g t 39 #[x1, x2, x3] fr _ hg Try.underlying39 rfl (by kernel_rfl)]) rfl hR
/-- What the loop keeps: the collection, the result's box, and a row of the call's own. -/
structure LA (w0 : World) (r g B : Nat) (S : List Fr) (v : Value) (w : World) : Prop where
  p : PC w0 [(r, rbx 0 0 0)] g 1000 S w
  o : OR w B 2 .i64 v (ts S)
  gB : g < B
  rB : r < B
  w0B : w0.heap.size ≤ r
  Bw : B ≤ w.heap.size
section
variable {w0 w w1 : World} {r g B : Nat} {S : List Fr} {v : Value}
theorem LA.next (h : LA w0 r g B S v w) (b : Below w.heap.size w w1) : LA w0 r g B S v w1 := ⟨h.p.next b, h.o.below b, h.gB, h.rB, h.w0B, Nat.le_trans h.Bw b.size⟩
theorem LA.ng (h : LA w0 r g B S v w) : v.ownBlock ≠ some g := fun e => by have := (h.o.lt g e).1; have := h.gB; omega
theorem LA.b (h : LA w0 r g B S v w) : Below w0.heap.size w0 w := h.p.st.b
theorem LA.row {v' : Value} {S' : List Fr} (h : PC w0 [(r, rbx 0 0 0)] g 1000 S' w) (o : OR w B 2 .i64 v (ts S)) (gB : g < B) (rB : r < B) (w0B : w0.heap.size ≤ r) (Bw : B ≤ w.heap.size) (s : Step w v w1 v') (o' : OR w1 B 2 .i64 v' (ts S')) : LA w0 r g B S' v' w1 :=
  ⟨h.rest s (fun e => by have := (o.lt g e).1; omega) (fun k e => by have := (o.lt k e).1; omega) (fun x hx e => by
    rcases List.mem_singleton.1 hx with rfl
    have := (o.lt r e).1
    omega), o', gB, rB, w0B, Nat.le_trans Bw s.g.size⟩
end
theorem getD_at {xs : List Int} {j : Nat} {x : Int} (h : xs[j]? = some x) : xs.getD j 0 = x := by rw [List.getD_eq_getElem?_getD, h]; rfl
set_option maxHeartbeats 4000000 in
set_option maxRecDepth 100000 in
theorem all_any (b : Int) (A : Option Addr) (xs : List Int) (n cp m : Nat) (hn : xs.length = n) (hm : min n 5 = m) (hb : -1099511627776 ≤ b ∧ b ≤ 1099511627776) (w : World) (hA : CL w .u8 A xs) (hc : n ≤ cp) :
    Calls Try.prog 17 #[.int .i64 b, .slice A n cp] w fun e w' => ∃ v, e = .returned (.tuple #[.agg #[.int .i64 (pt (SA b xs m)), .int .u32 ((sS (SA b xs m) : Nat) : Int), .int .i64 (cy (SA b xs m))], v, .bool true]) ∧ OR w' w.heap.size 2 .i64 v (ts (SA b xs m)) ∧ Below w.heap.size w w' ∧ Ok 1000 (SA b xs m) := by
  have HA := Lib.hid hA
  have HM := Lib.hid (show m ≤ n ∧ m ≤ 5 by omega)
  have HN := Lib.hid hn
  have q1 : min (n : Int) 5 = (m : Int) := by omega
  have q2 : (if (5 : Int) < (n : Int) then (5 : Int) else (n : Int)) = (m : Int) := by split <;> omega
  have q3 : (if 5 < n then (5 : Int) else (n : Int)) = (m : Int) := by split <;> omega
  have q4 : (m : Int) ≤ (cp : Int) := by omega
  have q5 : (m : Int) ≤ (n : Int) := by omega
  have m5 : (m : Int) ≤ 5 := by omega
  have HB := Lib.hid hb
  have F := Lib.hid (fun h W => from_any h W)
  clear hA hn hm hc hb
  have X := Lib.hid ((Stay.start w).alloc (rbx 0 0 0))
  go_enter Try.func17, Try.ntmps17
  go_wp2_with fail
  generalize w.alloc (rbx 0 0 0) = w1 at *
  refine (new_ok 1000 (by decide) _).mono ?_
  rintro e w2 ⟨rfl, h2, b2⟩
  have GX := Lib.hid (lt_of_heap (X.out.at 0 rfl))
  have P := Lib.hid (pc_new X.out (by decide) h2 b2)
  have GL := Lib.hid (lt_of_heap h2)
  generalize w1.heap.size = g at *
  clear h2 b2 X
  have hb := HB.out
  go_wp2_with fail
  have P2 := Lib.hid ((P.out.alloc (.cells (nums .i64 [b]).toArray 2)).sub (M := [(w.heap.size, rbx 0 0 0)]) (by simp))
  have O2 : OR (w2.alloc (.cells (nums .i64 [b]).toArray 2)) w2.heap.size 2 .i64 (.slice (some ⟨w2.heap.size, 0, none⟩) 1 1) [b] := OR.new w2 2 .i64 [b] (Nat.le_refl _) (Wf.one (i64_in (by omega) (by omega))) (by simp [maxLen])
  have O2 := Lib.hid O2
  have W2 := Lib.hid (show w2.heap.size ≤ (w2.alloc (.cells (nums .i64 [b]).toArray 2)).heap.size by simp)
  have GX2 := Lib.hid (show w.heap.size < w2.heap.size by have := GX.out; have := GL.out; omega)
  clear GX
  generalize hw3 : w2.alloc (.cells (nums .i64 [b]).toArray 2) = w3 at *
  rw [show w2.alloc (.cells #[.int .i64 b] 2) = w3 from hw3]
  clear hw3 P
  generalize w2.heap.size = B at *
  refine (F.out _ _).mono ?_
  rintro e w4 ⟨rfl, b4⟩
  have P4 := Lib.hid (P2.out.next b4)
  have O4 := Lib.hid (O2.out.below b4)
  have W4 := Lib.hid (Nat.le_trans W2.out b4.size)
  clear b4 P2 O2 W2
  have Q : Calls Try.prog 11 #[.pointer (some ⟨g, 0, none⟩), .int .i64 b, CV 1 0 3 0 0] w4 fun e w' => e = .returned (.tuple #[.int .i64 (b + 1000), .int .i64 0]) ∧ PC w [(w.heap.size, rbx 0 0 0)] g 1000 (SA b xs 0) w' ∧ Kept g w4 w' := P4.out.put b 0 3 0 0 (by decide) (by decide) (by omega) (Or.inl rfl) (by decide)
  have Q := Lib.hid Q
  go_wp2_with fail
  refine Q.out.mono ?_
  rintro e w5 ⟨rfl, p5, k5⟩
  have L5 := Lib.hid (⟨p5, or_kept O4.out k5 (fun e => by have := (O4.out.lt g e).1; have := GL.out; omega), GL.out, GX2.out, Nat.le_refl _, Nat.le_trans W4.out k5.size⟩ : LA w w.heap.size g B (SA b xs 0) (.slice (some ⟨B, 0, none⟩) 1 1) w5)
  clear p5 k5 Q P4 O4 W4
  go_wp2
  go_loopw [9, 12, 41] (fun lv ov iv wr => ∃ (i : Nat), i ≤ m ∧ iv = .int .i64 i ∧ ov = .bool true ∧ Hid (LA w w.heap.size g B (SA b xs i) lv wr)) (fun _ _ iv _ => m - (intOf iv).toNat)
  case atStart => exact ⟨0, Nat.zero_le _, rfl, rfl, L5⟩
  case round =>
    clear L5
    obtain ⟨i, hi, rfl, rfl, P⟩ := hrel
    have ib : (i : Int) ≤ 5 := by omega
    have hb := HB.out
    obtain ⟨A3, d3, rfl, -⟩ := P.out.o.form
    have hln : (ts (SA b xs i)).length = i + 1 := by unfold ts; rw [List.length_map, SA_len]
    rw [hln] at P ⊢
    by_cases hlt : (i : Int) < (m : Int)
    · obtain ⟨x, hx⟩ : ∃ x, xs[i]? = some x := ⟨_, List.getElem?_eq_getElem (by have := HN.out; have := HM.out; omega)⟩
      obtain ⟨ad, rfl, hcell, hwf⟩ := (HA.out.below P.out.b) i x hx
      have xw := u8_wf hwf
      have e1 : IntKind.i64.wrap x = x := by rw [IntKind.wrap_i64]; omega
      have e2 : IntKind.i64.wrap (b + x) = b + x := by rw [IntKind.wrap_i64]; omega
      have hgx := getD_at hx
      have HL := Lib.hid (show ts (SA b xs (i + 1)) = ts (SA b xs i) ++ [b + x] by rw [SA_succ, ts_snoc, hgx])
      clear hx hwf
      go_wp2_with fail
      refine (F.out _ _).mono ?_
      rintro e w6 ⟨rfl, b6⟩
      have P6 := Lib.hid (P.out.next b6)
      have Q := P6.out.p.put (b + x) (i + 1) 3 0 0 (by unfold rightC; omega) (by omega) (by omega) (Or.inr ⟨by show b ≤ b + x; omega, by show b + x ≤ b + 1000; omega⟩) (fun ⟨z, hz, e⟩ => by have := SA_f hz; omega)
      rw [show SA b xs i ++ [(⟨b + x, i + 1, 3, 0, 0⟩ : Fr)] = SA b xs (i + 1) by rw [SA_succ, hgx]] at Q
      rw [show ((i + 1 : Nat) : Int) = (i : Int) + 1 by omega] at Q
      generalize sB (SA b xs (i + 1)) + 1000 = z at *
      have Q := Lib.hid Q
      clear b6 P hcell hgx
      go_wp2_with fail
      refine Q.out.mono ?_
      rintro e w7 ⟨rfl, p7, k7⟩
      have P7 := Lib.hid p7
      have O7 := Lib.hid (or_kept P6.out.o k7 P6.out.ng)
      have W7 := Lib.hid (Nat.le_trans P6.out.Bw k7.size)
      have U := Lib.hid (show Hid (g < B) ∧ Hid (w.heap.size < B) from ⟨Lib.hid P6.out.gB, Lib.hid P6.out.rB⟩)
      have LN := Lib.hid hln
      clear p7 k7 Q P6 hln
      go_wp2_with (at_builtin; refine wpList_append_or i64_one _ rfl _ _ rfl B _ _ rfl (O7.out.alloc _) (some ⟨w7.heap.size, 0, none⟩) 1 1 [b + x] rfl rfl ?c1 (fun h => by cases h) ?c2 (by decide) ?c3 ?_)
      case c1 => exact cl_one _ _ (by omega) (by omega) _
      case c2 => have := LN.out; omega
      case c3 => rw [World.size_alloc]; have := W7.out; omega
      intro v8 w8 o8 s8
      have L8 := Lib.hid (LA.row P7.out O7.out U.out.1.out U.out.2.out (Nat.le_refl _) W7.out ((Step.alloc _ _ _).trans s8) (by rw [HL.out]; exact o8))
      clear o8 s8 P7 O7 W7 U LN
      go_wp2
      go_roundw
      case rel => exact ⟨i + 1, by omega, by go_num, rfl, L8⟩
      case measure => simp only [intOf]; omega
    · obtain rfl : i = m := by omega
      have OKK := Lib.hid P.out.p.ok
      have C := P.out.p.shut (by unfold SA; simp) (b + 1000) (Int.le_refl _)
      have OO := Lib.hid P.out.o
      have NG := Lib.hid P.out.ng
      have BB := Lib.hid (show w.heap.size ≤ B by have := P.out.rB; omega)
      have e3 : IntKind.i64.wrap (b + 1000) = b + 1000 := by rw [IntKind.wrap_i64]; omega
      obtain ⟨pz, hp⟩ : ∃ pz, pt (SA b xs i) = pz := ⟨_, rfl⟩
      obtain ⟨sz, hs⟩ : ∃ sz, sS (SA b xs i) = sz := ⟨_, rfl⟩
      obtain ⟨cz, hcz⟩ : ∃ cz, cy (SA b xs i) = cz := ⟨_, rfl⟩
      rw [hp, hs, hcz] at C
      have HP := Lib.hid hp
      have HS := Lib.hid hs
      have HC := Lib.hid hcz
      have C := Lib.hid C
      clear hp hs hcz
      go_wp2_with fail
      refine C.out.mono ?_
      rintro e w6 ⟨rfl, p6, k6⟩
      have P6 := Lib.hid (p6.alloc (rbx pz sz cz))
      have O6 := Lib.hid ((or_kept OO.out k6 NG.out).alloc (rbx pz sz cz))
      clear p6 k6 C OO NG P
      go_upto_region 14 with (fail)
      generalize w6.alloc (rbx pz sz cz) = w7 at *
      generalize w6.heap.size = q at *
      obtain ⟨c0, c1, c2⟩ := cells3 (P6.out.st.at 0 rfl)
      obtain ⟨z0, z1, z2⟩ := cells3 (P6.out.st.at 1 rfl)
      obtain ⟨f0, f1, f2⟩ := frozen3 (P6.out.st.at 1 rfl)
      go_wp2
      refine ret_3 rfl rfl (put3 (P6.out.st.at 1 rfl) _ _ _) ?_
      have K := kept3 w7 w.heap.size (.int .i64 pz) (.int .u32 (sz : Int)) (.int .i64 cz)
      refine ⟨_, by rw [HP.out, HS.out, HC.out]; rfl, (or_kept O6.out K (fun e => by have := (O6.out.lt _ e).1; have := GX2.out; omega)).base BB.out, P6.out.st.b.trans (K.below (Nat.le_refl _) P6.out.st.b.size), OKK.out⟩
end Go.Proofs.Ytpjaijibkjmgiaa.CompW
