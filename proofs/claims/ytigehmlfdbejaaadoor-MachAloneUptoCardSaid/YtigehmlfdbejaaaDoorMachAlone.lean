/- tocsinlaw13.MachAlone answers true at every input of small bulk (its second form): a host that listens and hears nothing is synchronized by itself when as many cycles have passed as its number and two, and not ahead. Conditions: the table deBruijn32tab of math/bits is as its initialiser lays it (tied by the card); the noise is of small bulk (with so much of it that its events fit into no memory the growing row of events cannot be laid). -/
import Derived.Test.YtigehmlfdbejaaaDoorMachQ
namespace Go.Proofs.YtigehmlfdbejaaaDoor.MachW.MachAlone
open Go.ChangeShapes Go.WideShapes Go.ChangeAt Go.RowKit Shell
open CrewW (Tz)
theorem host_in (host : Nat) : hostB ((host % 6 : Nat) : Int) = true := by
  rw [hostB_iff]
  omega
set_option maxHeartbeats 16000000 in
set_option maxRecDepth 100000 in
theorem walk (host : Nat) (A : Option Addr) (xs : List Int) (n cp : Nat) (w : World) (_hh : host < 256) (hA : CL w .u8 A xs) (hx : n = xs.length) (hn : n ≤ 1048576) (hT : Tz w) :
    Calls Tryd.prog 4 #[.int .u8 (host : Int), .slice A n cp] w fun e w' => e = .returned (.bool true) ∧ Below w.heap.size w w' := by
  have HT := Lib.hid hT
  have HA := Lib.hid hA
  have HN := Lib.hid hn
  have HX := Lib.hid hx
  have hR : (host : Int) % 6 = ((host % 6 : Nat) : Int) := by omega
  have HI := Lib.hid (host_in host)
  have HL := Lib.hid (Nat.mod_lt host (show 6 > 0 by decide))
  obtain ⟨i0, hi, hz0, hz1, hz2⟩ := info_parts (show (Tryd.prog.info? 32).map (fun i => (i.zero, i.size, i.bytes)) = some (some (.agg #[.int .i64 0, .int .u32 0]), 2, 16) by kernel_rfl)
  have HI0 := Lib.hid hi
  have HZ0 := Lib.hid hz0
  have HZ1 := Lib.hid hz1
  have HZ2 := Lib.hid hz2
  clear hA hT hn hx hi hz0 hz1 hz2
  generalize host % 6 = h at *
  obtain ⟨K, hK⟩ : ∃ K, K = kinds xs := ⟨_, rfl⟩
  have HK0 := Lib.hid (show K 0 = 1 by rw [hK]; rfl)
  have HKS := Lib.hid (show ∀ k x, xs[k]? = some x → K (k + 1) = pick x from fun k x hx => by rw [hK]; exact kinds_succ hx)
  have HKI := Lib.hid (show ∀ i, K i = 1 ∨ K i = 3 ∨ K i = 4 from fun i => by rw [hK]; exact kinds_in xs i)
  clear hK
  go_enter Tryd.func4, Tryd.ntmps4
  go_wp2_with (go_at_call 8; (refine (fixed_any _ HT.out).mono ?_); rintro r w1 ⟨rfl, b1⟩; have B1 := Lib.hid b1; clear b1)
  have HO1 := Lib.hid (show ER (w1.alloc (.cells #[.int .i64 1, .int .u32 0] 32)) w.heap.size (.slice (some ⟨w1.heap.size, 0, none⟩) 1 1) 1 K by
    have := World.ownsRow_lit (base := w.heap.size) (e := 32) (size := 2) w1 #[.int .i64 1, .int .u32 0] 1 B1.out.size (by decide) rfl
    unfold ER
    rw [show ecs K 1 = [.int .i64 1, .int .u32 0] by unfold ecs ecs; rw [HK0.out]; rfl]
    exact this)
  have B2 := Lib.hid (al B1.out (Obj.cells #[.int .i64 1, .int .u32 0] 32))
  generalize w1.alloc _ = w2 at *
  generalize w1.heap.size = g1 at *
  clear B1
  rw [hR]
  clear hR
  go_loopw [6, 21] (fun lv iv wr => ∃ (k : Nat), k ≤ n ∧ iv = .int .i64 k ∧ Hid (ER wr w.heap.size lv (k + 1) K) ∧ Hid (Below w.heap.size w wr)) (fun _ iv _ => n - (intOf iv).toNat)
  case atStart => exact ⟨0, Nat.zero_le _, rfl, HO1, B2⟩
  case round =>
    clear HO1 B2
    obtain ⟨k, hk, rfl, HO, HB⟩ := hrel
    by_cases hlt : k < n
    · obtain ⟨x, hx⟩ : ∃ x, xs[k]? = some x := ⟨_, List.getElem?_eq_getElem (by rw [← HX.out]; exact hlt)⟩
      obtain ⟨ad, rfl, hcell, hwf⟩ := (HA.out.below HB.out) k x hx
      have HKK := Lib.hid (HKS.out k x hx)
      obtain ⟨x, rfl, hx8⟩ := u8_nat hwf
      have HP := Lib.hid (fun W => pick_any x W)
      clear hx hwf hx8
      rw [← HKK.out] at HP
      generalize hq : K (k + 1) = q at *
      have HQ := Lib.hid hq
      clear hq
      have hnn := HN.out
      obtain ⟨g, cap, rfl, -⟩ := HO.out.form (by omega)
      have hlt' : (k : Int) < (n : Int) := by omega
      go_wp2_with (first
        | (go_at_call 13; (refine (HP.out _).mono ?_); rintro r w9 ⟨rfl, hw⟩; obtain rfl := hw.symm)
        | (at_builtin; refine wpList_append_own _ rfl _ _ 22 rfl w.heap.size 32 i0 (.agg #[.int .i64 0, .int .u32 0]) 2 16 Tryd.underlying22 HI0.out HZ0.out HZ1.out HZ2.out rfl (by decide) _ _ _ rfl (World.ownsRow.alloc HO.out _) ⟨wr.heap.size, 0, none⟩ 1 1 [.int .i64 q, .int .u32 0] rfl rfl ?c1 ?c2 ?c3 ?c4 ?c5 ?_))
      case c1 => exact ev_news (heap_at rfl _)
      case c2 => exact ev_one q 0
      case c3 => unfold maxLen; omega
      case c4 => omega
      case c5 => rw [World.size_alloc]; have := HB.out.size; omega
      intro v' w3 hown hgrow _
      have HO2 := Lib.hid (show ER w3 w.heap.size v' (k + 1 + 1) K by
        unfold ER ecs
        rw [HQ.out]
        exact hown)
      have HB2 := Lib.hid (show Below w.heap.size w w3 from (HB.out.alloc (by have := HB.out.size; omega) _).grown hgrow (by rw [World.size_alloc]; have := HB.out.size; omega) (fun j hj => (World.ownsRow.lt HO.out j hj).1))
      clear hown hgrow
      go_wp2
      go_roundw
      case rel => exact ⟨k + 1, by omega, by go_num, HO2, HB2⟩
      case measure => simp [intOf]; omega
    · obtain rfl : k = n := by omega
      obtain ⟨g, cap, rfl, hev⟩ := HO.out.form (by omega)
      have HE := Lib.hid hev
      have HNN := Lib.hid (show k + 1 ≤ 1048577 by have := HN.out; omega)
      clear hev hlt hk
      generalize k + 1 = N at *
      have HF := Lib.hid (first_any (h : Int) (some ⟨g, 0, none⟩) N cap (fun i => (K i, 0)) wr HI.out HE.out (by have := HNN.out; omega) (HT.out.below HB.out))
      go_wp2_with fail
      refine HF.out.mono ?_
      rintro r w3 ⟨G, rfl, hg, b3⟩
      have S3 := Lib.hid (((Stay.start w).next HB.out).next b3 |>.add hg)
      have E3 := Lib.hid (HE.out.below b3)
      clear b3 hg HF HE HO HB
      go_wp2_with fail
      go_loopw [9, 36] (fun cv iv wr => ∃ (i : Nat), i ≤ N ∧ iv = .int .i64 i ∧ cv = .int .i64 (cyc K i : Nat) ∧ Hid (Stay w [(G, mrow (mcs (h : Int) (fun i => (K i, 0)) N N))] wr) ∧ Hid (EV wr (some ⟨g, 0, none⟩) N (fun i => (K i, 0)))) (fun _ iv _ => N - (intOf iv).toNat)
      case atStart => exact ⟨0, Nat.zero_le _, rfl, rfl, S3, E3⟩
      case round =>
        clear S3 E3
        obtain ⟨i, hi, rfl, rfl, HS, HE⟩ := hrel
        by_cases hlt : i < N
        · have hlt' : (i : Int) < (N : Int) := by omega
          have HA1 := Lib.hid (mcs_get (h : Int) (fun i => (K i, 0)) (n := N) (i := N) (j := i) hlt hlt)
          have HAL := Lib.hid (al_all HL.out K HK0.out HKI.out i)
          have HCL := Lib.hid (cyc_le K i)
          have HCE := Lib.hid (show cyc K (i + 1) = if K i = 3 then cyc K i + 1 else cyc K i from rfl)
          obtain ⟨b, off, hb, hc1, -, -⟩ := HE.out i hlt
          cases hb
          rw [Nat.zero_add] at hc1
          dsimp only at hc1
          obtain ⟨a, ha⟩ : ∃ a, a = mc (h : Int) (fun i => (K i, 0)) (i + 1) := ⟨_, rfl⟩
          rw [← ha] at HA1 HAL
          clear ha
          obtain ⟨zs, zc, zm, zx⟩ := a
          obtain ⟨y0, y1, y2, y3⟩ := mrow_get (HS.out.at 0 rfl) HA1.out
          have hc2 : (wr.alloc (mb4 zs zc zm zx)).cell? ⟨g, i * 2, none⟩ = some (.int .i64 (K i)) := cell_keep hc1 (al (Below.refl _ _) _)
          obtain ⟨C', hC'⟩ : ∃ C', C' = cyc K (i + 1) := ⟨_, rfl⟩
          rw [← hC'] at HAL HCE
          have HC' := Lib.hid hC'
          clear hC'
          have S2 := Lib.hid (HS.out.next (al (Below.refl _ _) (mb4 zs zc zm zx)))
          have E2 := Lib.hid (HE.out.below (al (Below.refl _ _) (mb4 zs zc zm zx)))
          generalize cyc K i = C at *
          generalize K i = q at *
          have hnn := HNN.out
          have hl6 := HL.out
          have hcl := HCL.out
          have w4 : IntKind.i64.wrap ((h : Int) + 4) = (h : Int) + 4 := by rw [IntKind.wrap_i64]; omega
          have w2' : IntKind.i64.wrap ((h : Int) + 2) = (h : Int) + 2 := by rw [IntKind.wrap_i64]; omega
          by_cases h3 : q = 3
          · subst h3
            have hce : C' = C + 1 := by have := HCE.out; rw [if_pos rfl] at this; exact this
            have hcs : (C : Int) + 1 = (C' : Int) := by omega
            have hcb : (C' : Int) ≤ 1048577 := by omega
            clear hce
            by_cases h4 : (C' : Int) < (h : Int) + 4
            · have HAK := Lib.hid (al_ask (HAL.out (by omega)) (by omega))
              dsimp only at HAK
              generalize hb1 : (zs == 3) = b1 at *
              have hb2 : decide ((h : Int) + 2 ≤ (C' : Int)) = b1 := HAK.out.symm
              clear HAK HAL HCE hcl
              cases b1
              · go_wp2
                go_roundw
                case rel => exact ⟨i + 1, by omega, by go_num, by rw [← HC'.out], S2, E2⟩
                case measure => simp [intOf]; omega
                
              · go_wp2
                go_roundw
                case rel => exact ⟨i + 1, by omega, by go_num, by rw [← HC'.out], S2, E2⟩
                case measure => simp [intOf]; omega
                
            · have h5 : decide ((C' : Int) < (h : Int) + 4) = false := decide_eq_false h4
              clear HAL HCE hcl
              go_wp2
              go_roundw
              case rel => exact ⟨i + 1, by omega, by go_num, by rw [← HC'.out], S2, E2⟩
              case measure => simp [intOf]; omega
          · have e3 : (q == 3) = false := by rw [beq_eq_false_iff_ne]; exact h3
            have hce : C' = C := by have := HCE.out; rw [if_neg h3] at this; exact this
            subst hce
            clear h3
            by_cases h4 : (C' : Int) < (h : Int) + 4
            · have HAK := Lib.hid (al_ask (HAL.out (by omega)) (by omega))
              dsimp only at HAK
              generalize hb1 : (zs == 3) = b1 at *
              have hb2 : decide ((h : Int) + 2 ≤ (C' : Int)) = b1 := HAK.out.symm
              clear HAK HAL HCE hcl
              cases b1
              · go_wp2
                go_roundw
                case rel => exact ⟨i + 1, by omega, by go_num, by rw [← HC'.out], S2, E2⟩
                case measure => simp [intOf]; omega
                
              · go_wp2
                go_roundw
                case rel => exact ⟨i + 1, by omega, by go_num, by rw [← HC'.out], S2, E2⟩
                case measure => simp [intOf]; omega
                
            · have h5 : decide ((C' : Int) < (h : Int) + 4) = false := decide_eq_false h4
              clear HAL HCE hcl
              go_wp2
              go_roundw
              case rel => exact ⟨i + 1, by omega, by go_num, by rw [← HC'.out], S2, E2⟩
              case measure => simp [intOf]; omega
        · obtain rfl : i = N := by omega
          go_wp2
          go_ret
          exact ⟨rfl, HS.out.b⟩
theorem walkI (host : Int) (A : Option Addr) (xs : List Int) (cp : Nat) (w : World) (wh : (Lit.int .u8 host).wf = true) (hA : CL w .u8 A xs) (hn : xs.length ≤ 1048576) (hT : Tz w) :
    Calls Tryd.prog 4 #[.int .u8 host, .slice A xs.length cp] w fun e w' => e = .returned (.bool true) ∧ Below w.heap.size w w' := by
  obtain ⟨host, rfl, hh⟩ := u8_nat wh
  exact walk host A xs xs.length cp w hh hA rfl hn hT
theorem short {H : Type} {l : Lit} {d : DataW H} {xs : List Int} (hk : Rows.uptoSmall H [.lit l, d] = true) (hs : xs = [] ∨ ∃ es sp, d = .slice es sp ∧ xs.length = es.length) : xs.length ≤ 1048576 := by
  have h : Rows.uptoBulkAll [DataW.lit l, d] ≤ 1048576 := of_decide_eq_true hk
  have h2 : ∀ l : List (DataW H), l.length ≤ Rows.uptoBulkAll l := by
    intro l
    induction l with
    | nil => simp [Rows.uptoBulkAll]
    | cons x l ih =>
      have h1 : 1 ≤ Rows.uptoBulk x := by
        cases x with
        | lit l => cases l <;> simp [Rows.uptoBulk]
        | nil => simp [Rows.uptoBulk]
        | ptr d => simp [Rows.uptoBulk]
        | slice elems spare => simp [Rows.uptoBulk]
        | agg parts => simp [Rows.uptoBulk]
        | iface t d => simp [Rows.uptoBulk]
        | map entries => simp [Rows.uptoBulk]
        | held h => simp [Rows.uptoBulk]
      simp only [Rows.uptoBulkAll, List.length_cons]; omega
  rcases hs with rfl | ⟨es, sp, rfl, hl⟩
  · decide
  · have h3 := h2 es
    simp only [Rows.uptoBulkAll, Rows.uptoBulk] at h
    omega
set_option maxRecDepth 100000 in
/-- What the walk gives, for every argument and every world. -/
theorem contract (H : Type) (enc : TypeId × Value → H) (W : World) (base : Nat) (args : Array Value) (ds gs : List (DataW H)) (before : List MemPlace)
    (hval : ∀ (j : Nat) t v, Tryd.f4.params[j]? = some t → args[j]? = some v → Value.okWide Tryd.prog W .any base t v)
    (hW : DataW.Whole enc Tryd.prog Tryd.f4.params.toList Rows.machAloneSpec.vars false W args.toList ds gs before) (hL : laidMetH Tryd.prog Rows.machAloneRow.laid W) (hk : Rows.uptoSmall H (ds ++ gs) = true) : 
    Calls Tryd.prog 4 args W fun e W' => ∃ v, e = .returned v ∧ Rows.machAloneSpec.post enc Tryd.prog Tryd.f4 false true false false W args v W' := by
  have hW' := hW
  obtain ⟨p, q, hA0, hV, rfl, hfz, hnd⟩ := hW
  have hA : DataW.TrodAll enc Tryd.prog W 0 (fun _ => true) true Tryd.f4.params.toList args.toList ds p := hA0
  rw [Tryd.params4] at hA hval
  obtain ⟨v0, vs0, d0, ds0, p0, q0, hargs, rfl, rfl, h0, r0⟩ := trodAll_cons hA
  obtain ⟨v1, vs1, d1, ds1, p1, q1, rfl, rfl, rfl, h1, r1⟩ := trodAll_cons r0
  obtain ⟨rfl, rfl, rfl⟩ := trodAll_nil r1
  obtain rfl : args = #[v0, v1] := by cases args; simp_all
  obtain ⟨rfl, rfl⟩ := trodVars_none hV
  simp only [List.append_nil] at hk
  obtain ⟨host, rfl, rfl, rfl, w0⟩ := open_int Tryd.underlying5 (hval 0 5 v0 rfl rfl) h0
  obtain ⟨A1, noise, c1, rfl, f1, l1, lc1, sz1, nl1⟩ := open_nums Tryd.underlying39 Tryd.underlying5 (by kernel_rfl) (hval 1 39 v1 rfl rfl) h1
  refine (walkI host A1 noise c1 W w0 f1 (short hk sz1) (tz_of hL)).mono fun e W' ⟨he, hb⟩ => ?_
  exact ⟨_, he, Shell.post_law laidOut (by kernel_rfl) rfl Tryd.underlying4 rfl hW' rfl hb⟩
theorem reads (os : Os) {H : Type} (enc : TypeId × Value → H) : ∃ places, DataW.whole enc Tryd.prog ((laidWorld os).forCall (fun _ _ => 0) ⟨#[], #[.int .u8 0, .slice none 0 0], []⟩).memory Tryd.f4.params.toList Rows.machAloneSpec.vars false (#[Value.int .u8 0, Value.slice none 0 0]).toList 8 = some ([.lit (.int .u8 0), .nil], [], places) :=
  ⟨[], by kernel_rfl⟩
set_option maxRecDepth 100000 in
theorem lifted (os : Os) (started : os.Started) (H : Type) (enc : TypeId × Value → H) (F : Stop.Interp) :
    ReturnsInHanded {} Tryd.checked os 4 .any ((Rows.OpenSpec.upto Rows.machAloneSpec).preRow enc Tryd.prog Tryd.f4 Rows.machAloneUptoRow.domain false Rows.machAloneUptoRow.laid) (((Rows.OpenSpec.upto Rows.machAloneSpec).at F).post enc Tryd.prog Tryd.f4 false true false false) := by
  obtain ⟨places, hx⟩ := reads os enc
  refine returnsInHanded_of_row (C := Tryd.checked) (s := Rows.OpenSpec.upto Rows.machAloneSpec) own started (by kernel_rfl) Tryd.func4
    (witness_row_atRef (enc := enc) (C := Tryd.checked) false (laidWorld os) #[.int .u8 0, .slice none 0 0] rfl (by kernel_rfl) (by kernel_rfl) (by kernel_rfl)
      (OpenSpec.preRow_of_cond 8 hx (by kernel_rfl) (fun k hk => by cases hk; kernel_rfl) (by kernel_rfl) (laid_met os _))) ?_
  intro W base args ds gs before hval hW _ hcond _ hL _ _
  exact contract H enc W base args ds gs before hval hW hL (hcond _ rfl)
theorem saidUpto : Rows.MachAloneUptoSaid :=
  OpenClaim.holds_of_cond 4 Tryd.f4 rfl rfl rfl rfl rfl rfl rfl ⟨rfl, rfl, rfl, rfl, rfl⟩ rfl rfl rfl rfl rfl (by kernel_rfl) Tryd.func4 (by kernel_rfl)
    (of_decide_eq_true (by kernel_rfl)) (by unfold Func.isWrapper; first | (rw [if_pos (by decide +kernel)]; kernel_rfl) | (rw [if_neg (by decide +kernel)]; exact ⟨rfl, rfl⟩))
    (fun os started H enc _ F => by rw [OpenClaim.pre_eq_preRow]; exact lifted os started H enc F)
theorem plain (f : FuncId) (fn : Func) (hf : Tryd.pinned.checked.prog.funcNamed "tocsin/tocsinlaw13.MachAlone" = some f) (hfn : Tryd.pinned.checked.prog.funcs[f]? = some fn) :
    false = Tryd.pinned.checked.prog.looks [] ∧ ∀ (j : Nat) t, fn.params[j]? = some t → Tryd.pinned.checked.prog.wantsStandIn t = false := by
  obtain rfl : f = 4 := Option.some.inj ((show Tryd.prog.funcNamed "tocsin/tocsinlaw13.MachAlone" = some 4 by kernel_rfl).symm.trans hf) |>.symm
  obtain rfl : fn = Tryd.f4 := (Option.some.inj (Tryd.func4.symm.trans hfn)).symm
  refine ⟨by kernel_rfl, fun j t ht => ?_⟩
  rw [Tryd.params4] at ht
  have hall : ∀ t ∈ Tryd.f4.params.toList, Tryd.prog.wantsStandIn t = false := by
    rw [Tryd.params4]
    have h : ((#[5, 39] : Array TypeId).toList.all fun t => !Tryd.prog.wantsStandIn t) = true := by kernel_rfl
    intro t ht
    simpa using (List.all_eq_true.1 h) t ht
  exact hall t (by rw [Tryd.params4]; exact Array.mem_toList_iff.2 (Array.mem_of_getElem? ht))
theorem cardUpto : Rows.MachAloneUptoCardSaid :=
  Claim7.holds_tied_plain_at .later [] _ _ _ _ saidUpto (fun _ h => by cases h) (by kernel_rfl) (fun _ h => by cases h) machAloneUpto_row_tie rfl ⟨rfl, rfl⟩ (by kernel_rfl) rfl plain (by kernel_rfl)
end Go.Proofs.YtigehmlfdbejaaaDoor.MachW.MachAlone
