/- tocsinlaw13.MachStays answers true at every input: a synchronized host that hears a crew at least every other cycle, and nothing of a stronger one, stays synchronized. Conditions: the table deBruijn32tab of math/bits is as its initialiser lays it (tied by the card); what comes in fits into memory. -/
import Derived.Test.YtigehmlfdbejaaaDoorMachLay
namespace Go.Proofs.YtigehmlfdbejaaaDoor.MachW.MachStays
open Go.ChangeShapes Go.WideShapes Go.ChangeAt Go.RowKit Shell
open CrewW (Tz)
theorem stp_syn {h : Int} {c : Nat} {m : Int} (k : Int) (e : Nat) (hm : may h ⟨3, c, m, 0⟩ = true) (hk : k ≠ 2) : stp h ⟨3, c, m, 0⟩ k e = synM ⟨3, c, m, 0⟩ k e := by
  unfold stp
  rw [if_neg (by rw [hm]; decide)]
  dsimp only
  rw [if_neg (by decide), if_neg hk, if_neg (by decide)]
theorem syn_may {h : Int} {c : Nat} {m : Int} (hh : hostB h = true) (h0 : 0 < c) (h1 : c < 64) (m0 : 0 ≤ m) (m1 : m ≤ 1) : may h ⟨3, c, m, 0⟩ = true := by
  rw [may_iff]
  have := hostB_iff.1 hh
  dsimp only
  omega
theorem host_in (host : Nat) : hostB ((host % 6 : Nat) : Int) = true := by
  rw [hostB_iff]
  omega
/-- A machine in a box, turned. -/
theorem turn4 {w0 w : World} {p : Nat} {s s' m m' x x' : Int} {c c' : Nat} (H : Stay w0 [(p, mb4 s c m x)] w) (hp : w0.heap.size ≤ p) : Stay w0 [(p, mb4 s' c' m' x')] ((((w.setCell ⟨p, 0, none⟩ (.int .i64 s')).setCell ⟨p, 1, none⟩ (.int .u32 (c' : Int))).setCell ⟨p, 2, none⟩ (.int .i64 m')).setCell ⟨p, 3, none⟩ (.int .i64 x')) :=
  H.turn (kept40 w p _ _ _ _) (put4 (H.at 0 rfl) _ _ _ _) hp (fun x hx => by cases hx)
theorem may_syn3 {h : Int} {s : Int} {c : Nat} {m x : Int} (hm : may h ⟨s, c, m, x⟩ = true) (hs : s = 3) : 0 < c ∧ c < 64 ∧ 0 ≤ m ∧ m ≤ 1 ∧ x = 0 := by
  have := (may_iff.1 hm).2
  dsimp only at this
  omega
theorem syn4 (c : Nat) (m : Int) (e : Nat) : synM ⟨3, c, m, 0⟩ 4 e = if str e c then (⟨2, 0, 0, 0⟩, 4) else (⟨3, c, m, 0⟩, 0) := by
  unfold synM
  rw [if_neg (by decide), if_pos rfl]
theorem syn3 (c : Nat) (m : Int) (e : Nat) : synM ⟨3, c, m, 0⟩ 3 e = if e % 64 = 0 then (if m = 0 then (⟨3, c, 1, 0⟩, 0) else (⟨2, 0, 0, 0⟩, 4)) else (⟨3, e % 64, 0, 0⟩, 0) := by
  unfold synM
  rw [if_pos rfl]
theorem synO (c : Nat) (m : Int) (e : Nat) {k : Int} (h3 : k ≠ 3) (h4 : k ≠ 4) : synM ⟨3, c, m, 0⟩ k e = (⟨3, c, m, 0⟩, 0) := by
  unfold synM
  rw [if_neg h3, if_neg h4]
set_option maxHeartbeats 16000000 in
theorem walk (host : Nat) (s : Int) (c : Nat) (m x : Int) (A : Option Addr) (n cp : Nat) (E : Nat → Int × Nat) (w : World) (_hh : host < 256) (hc : c < 4294967296) (hE : EV w A n E) (hn : n ≤ 9223372036854775000) (hT : Tz w) :
    Calls Tryd.prog 5 #[.int .u8 (host : Int), mv4 s c m x, .slice A n cp] w fun e w' => e = .returned (.bool true) ∧ Below w.heap.size w w' := by
  have HT := Lib.hid hT
  have HE := Lib.hid hE
  have HN := Lib.hid hn
  have hR : (host : Int) % 6 = ((host % 6 : Nat) : Int) := by omega
  have HM := Lib.hid (fun W => may_any ((host % 6 : Nat) : Int) ⟨s, c, m, x⟩ W hc)
  have hI := host_in host
  have hS := may_syn3 (h := ((host % 6 : Nat) : Int)) (s := s) (c := c) (m := m) (x := x)
  have X := Lib.hid ((Stay.start w).alloc (mb4 s c m x))
  clear hc hT hE hn
  generalize host % 6 = h at *
  cases hm : may (h : Int) ⟨s, c, m, x⟩
  · rw [hm] at HM
    clear hS
    go_enter Tryd.func5, Tryd.ntmps5
    go_wp2_with (first
      | (go_at_call 8; (refine (fixed_any _ (HT.out.below X.out.b)).mono ?_); rintro r w1 ⟨rfl, b1⟩; have X1 := Lib.hid (X.out.next b1); clear b1; obtain ⟨t0, t1, t2, t3⟩ := cells4 (X1.out.at 0 rfl))
      | (go_at_call 12; (refine (HM.out _).mono ?_); rintro r w2 ⟨rfl, b2⟩; have X2 := Lib.hid (X1.out.next b2); clear b2; obtain ⟨u0, u1, u2, u3⟩ := cells4 (X2.out.at 0 rfl)))
    go_ret
    exact ⟨rfl, X2.out.b⟩
  · rw [hm] at HM
    by_cases s3 : s = 3
    · obtain ⟨c0, c1, m0, m1, rfl⟩ := hS hm s3
      subst s3
      have H0 := Lib.hid (And.intro c0 (And.intro c1 (And.intro m0 m1)))
      have HI := Lib.hid hI
      clear hS hm hI c0 c1 m0 m1
      go_enter Tryd.func5, Tryd.ntmps5
      go_wp2_with (first
        | (go_at_call 8; (refine (fixed_any _ (HT.out.below X.out.b)).mono ?_); rintro r w1 ⟨rfl, b1⟩; have X1 := Lib.hid (X.out.next b1); clear b1; obtain ⟨t0, t1, t2, t3⟩ := cells4 (X1.out.at 0 rfl))
        | (go_at_call 12; (refine (HM.out _).mono ?_); rintro r w2 ⟨rfl, b2⟩; have X2 := Lib.hid (X1.out.next b2); clear b2; obtain ⟨u0, u1, u2, u3⟩ := cells4 (X2.out.at 0 rfl)))
      clear HM X X1 t0 t1 t2 t3 u0 u1 u2 u3
      have hps : w.heap.size ≤ w.heap.size := Nat.le_refl _
      obtain ⟨p, hp⟩ : ∃ p, p = w.heap.size := ⟨_, rfl⟩
      rw [← hp] at X2
      have HP := Lib.hid (show w.heap.size ≤ p by omega)
      rw [← hp]
      clear hps hp
      go_loopw [28] (fun iv wr => ∃ (i c : Nat) (m : Int), i ≤ n ∧ iv = .int .i64 i ∧ Hid (0 < c ∧ c < 64 ∧ 0 ≤ m ∧ m ≤ 1) ∧ Hid (Stay w [(p, mb4 3 c m 0)] wr)) (fun iv _ => n - (intOf iv).toNat)
      case atStart => exact ⟨0, c, m, Nat.zero_le _, rfl, H0, X2⟩
      case round =>
        clear H0 X2
        obtain ⟨i, c, m, hi, rfl, HC, HX⟩ := hrel
        by_cases hlt : i < n
        · obtain ⟨b, off, rfl, hc1, hc2, he32⟩ := (HE.out.below HX.out.b) i hlt
          have hlt' : (i : Int) < (n : Int) := by omega
          have HMay := Lib.hid (syn_may HI.out HC.out.1 HC.out.2.1 HC.out.2.2.1 HC.out.2.2.2)
          have HSt := Lib.hid (fun k (hk : k ≠ 2) W T => (stp_syn (h := (h : Int)) k ((E i).2 % 64) HMay.out hk) ▸ step_any (h : Int) ⟨3, c, m, 0⟩ k ((E i).2 % 64) W (by have := Nat.mod_lt (E i).2 (show 64 > 0 by decide); omega) (by have := HC.out.2.1; show c < 4294967296; omega) T)
          have HG := Lib.hid (fun W => refStronger_any ((E i).2 % 64) c W (by have := Nat.mod_lt (E i).2 (show 64 > 0 by decide); omega) (by have := HC.out.2.1; omega))
          have hQ : ((E i).2 : Int) % 64 = (((E i).2 % 64 : Nat) : Int) := by omega
          have HR64 := Lib.hid (Nat.mod_lt (E i).2 (show 64 > 0 by decide))
          have HMM := Lib.hid (Nat.mod_mod (E i).2 64)
          generalize (E i).1 = k at *
          generalize (E i).2 = ee at *
          generalize ee % 64 = r at *
          obtain ⟨x0, x1, x2, x3⟩ := cells4 (HX.out.at 0 rfl)
          have HXa := Lib.hid (HX.out.alloc (eb k r))
          have HQP := Lib.hid (show wr.heap.size ≠ p by have := lt_of_heap (HX.out.at 0 rfl); omega)
          go_upto_region 10 with (fail)
          generalize wr.alloc (eb k r) = w3 at *
          generalize wr.heap.size = q at *
          clear hc1 hc2 x0 x1 x2 x3 HX hQ he32 HE
          obtain ⟨y0, y1⟩ := cells2 (HXa.out.at 0 rfl)
          obtain ⟨x0, x1, x2, x3⟩ := cells4 (HXa.out.at 1 rfl)
          have hnn := HN.out
          by_cases k2 : k = 2
          · subst k2
            clear HSt
            go_wp2
            go_roundw
            case rel => exact ⟨i + 1, c, _, by omega, by go_num, HC, Lib.hid (HXa.out.sub (fun x hx => List.mem_cons_of_mem _ hx))⟩
            case measure => simp [intOf]; omega
          · have ek2 : (k == 2) = false := by rw [beq_eq_false_iff_ne]; exact k2
            have HK2 := Lib.hid k2
            clear k2
            by_cases k4 : k = 4
            · subst k4
              have HS4 := Lib.hid (HSt.out 4 HK2.out)
              clear HSt
              have HV := Lib.hid (syn4 c m r)
              rw [HV.out] at HS4
              cases hg : str r c
              · rw [hg] at HG HS4
                rw [if_neg (by decide)] at HS4
                clear hg HV
                go_upto_region 12 with (first
                  | (go_at_call 15; (refine (HG.out _).mono ?_); rintro r w4 ⟨rfl, b4⟩; have X4 := Lib.hid (HXa.out.next b4); clear b4; obtain ⟨z0, z1⟩ := cells2 (X4.out.at 0 rfl); obtain ⟨t0, t1, t2, t3⟩ := cells4 (X4.out.at 1 rfl))
                  | (go_at_call 16; (refine (HS4.out _ (HT.out.below X4.out.b)).mono ?_); rintro r w5 ⟨rfl, b5⟩; have X5 := Lib.hid (X4.out.next b5); clear b5))
                have X6 := Lib.hid (X5.out.alloc (mb4 3 c m 0))
                have HPN := Lib.hid (show w5.heap.size ≠ p by have := lt_of_heap (X5.out.at 1 rfl); omega)
                generalize w5.alloc (mb4 3 c m 0) = w6 at *
                generalize w5.heap.size = n1 at *
                obtain ⟨n0, n1c, n2, n3⟩ := cells4 (X6.out.at 0 rfl)
                obtain ⟨o0, o1, o2, o3⟩ := cells4 (X6.out.at 2 rfl)
                obtain ⟨f0, f1, f2, f3⟩ := frozen4 (X6.out.at 2 rfl)
                have hC0 : (0 : Int) < (c : Int) := by have := HC.out.1; omega
                have hC1 : ((c : Int) == 0) = false := by rw [beq_eq_false_iff_ne]; omega
                have XE := Lib.hid (turn4 (s' := 3) (c' := c) (m' := m) (x' := 0) (X6.out.sub (M := [(p, mb4 3 c m 0)]) (fun x hx => List.mem_cons_of_mem _ (List.mem_cons_of_mem _ hx))) HP.out)
                have HE2 := Lib.hid (show 0 < c ∧ c < 64 ∧ 0 ≤ (m : Int) ∧ (m : Int) ≤ 1 by exact HC.out)
                go_wp2
                go_roundw
                case rel => exact ⟨i + 1, c, m, by omega, by go_num, HE2, XE⟩
                case measure => simp [intOf]; omega
              · rw [hg] at HG
                clear hg HV HS4
                go_wp2_with (first
                  | (go_at_call 15; (refine (HG.out _).mono ?_); rintro r w4 ⟨rfl, b4⟩; have X4 := Lib.hid (HXa.out.next b4); clear b4; obtain ⟨z0, z1⟩ := cells2 (X4.out.at 0 rfl); obtain ⟨t0, t1, t2, t3⟩ := cells4 (X4.out.at 1 rfl)))
                go_roundw
                case rel => exact ⟨i + 1, c, _, by omega, by go_num, HC, Lib.hid (X4.out.sub (fun x hx => List.mem_cons_of_mem _ hx))⟩
                case measure => simp [intOf]; omega
            · have ek4 : (k == 4) = false := by rw [beq_eq_false_iff_ne]; exact k4
              by_cases k3 : k = 3
              · subst k3
                clear k4 HG
                have HS3 := Lib.hid (HSt.out 3 HK2.out)
                clear HSt
                have HV := Lib.hid (syn3 c m r)
                rw [HV.out, HMM.out] at HS3
                by_cases hr : r = 0
                · subst hr
                  rw [if_pos rfl] at HS3
                  by_cases hm : m = 1
                  · subst hm
                    clear HS3 HV
                    go_wp2
                    go_roundw
                    case rel => exact ⟨i + 1, c, _, by omega, by go_num, HC, Lib.hid (HXa.out.sub (fun x hx => List.mem_cons_of_mem _ hx))⟩
                    case measure => simp [intOf]; omega
                  · have hm0 : m = 0 := by have := HC.out; omega
                    subst hm0
                    rw [if_pos rfl] at HS3
                    clear HV hm
                    go_upto_region 12 with (first
                      | (go_at_call 16; (refine (HS3.out _ (HT.out.below HXa.out.b)).mono ?_); rintro r w5 ⟨rfl, b5⟩; have X5 := Lib.hid (HXa.out.next b5); clear b5))
                    have X6 := Lib.hid (X5.out.alloc (mb4 3 c 1 0))
                    have HPN := Lib.hid (show w5.heap.size ≠ p by have := lt_of_heap (X5.out.at 1 rfl); omega)
                    generalize w5.alloc (mb4 3 c 1 0) = w6 at *
                    generalize w5.heap.size = n1 at *
                    obtain ⟨n0, n1c, n2, n3⟩ := cells4 (X6.out.at 0 rfl)
                    obtain ⟨o0, o1, o2, o3⟩ := cells4 (X6.out.at 2 rfl)
                    obtain ⟨f0, f1, f2, f3⟩ := frozen4 (X6.out.at 2 rfl)
                    have hC0 : (0 : Int) < (c : Int) := by have := HC.out.1; omega
                    have hC1 : ((c : Int) == 0) = false := by rw [beq_eq_false_iff_ne]; omega
                    have XE := Lib.hid (turn4 (s' := 3) (c' := c) (m' := 1) (x' := 0) (X6.out.sub (M := [(p, mb4 3 c 0 0)]) (fun x hx => List.mem_cons_of_mem _ (List.mem_cons_of_mem _ hx))) HP.out)
                    have HE2 := Lib.hid (show 0 < c ∧ c < 64 ∧ 0 ≤ (1 : Int) ∧ (1 : Int) ≤ 1 by have := HC.out; omega)
                    go_wp2
                    go_roundw
                    case rel => exact ⟨i + 1, c, 1, by omega, by go_num, HE2, XE⟩
                    case measure => simp [intOf]; omega
                · rw [if_neg hr] at HS3
                  have hr1 : ((r : Int) == 0) = false := by rw [beq_eq_false_iff_ne]; omega
                  have HRP := Lib.hid (show 0 < r by omega)
                  clear HV hr
                  go_upto_region 12 with (first
                    | (go_at_call 16; (refine (HS3.out _ (HT.out.below HXa.out.b)).mono ?_); rintro r w5 ⟨rfl, b5⟩; have X5 := Lib.hid (HXa.out.next b5); clear b5))
                  have X6 := Lib.hid (X5.out.alloc (mb4 3 r 0 0))
                  have HPN := Lib.hid (show w5.heap.size ≠ p by have := lt_of_heap (X5.out.at 1 rfl); omega)
                  generalize w5.alloc (mb4 3 r 0 0) = w6 at *
                  generalize w5.heap.size = n1 at *
                  obtain ⟨n0, n1c, n2, n3⟩ := cells4 (X6.out.at 0 rfl)
                  obtain ⟨o0, o1, o2, o3⟩ := cells4 (X6.out.at 2 rfl)
                  obtain ⟨f0, f1, f2, f3⟩ := frozen4 (X6.out.at 2 rfl)
                  have hC0 : (0 : Int) < (r : Int) := by have := HRP.out; omega
                  have hC1 : ((r : Int) == 0) = false := by rw [beq_eq_false_iff_ne]; omega
                  have XE := Lib.hid (turn4 (s' := 3) (c' := r) (m' := 0) (x' := 0) (X6.out.sub (M := [(p, mb4 3 c m 0)]) (fun x hx => List.mem_cons_of_mem _ (List.mem_cons_of_mem _ hx))) HP.out)
                  have HE2 := Lib.hid (show 0 < r ∧ r < 64 ∧ 0 ≤ (0 : Int) ∧ (0 : Int) ≤ 1 by have := HRP.out; have := HR64.out; omega)
                  go_wp2
                  go_roundw
                  case rel => exact ⟨i + 1, r, 0, by omega, by go_num, HE2, XE⟩
                  case measure => simp [intOf]; omega
              · have ek3 : (k == 3) = false := by rw [beq_eq_false_iff_ne]; exact k3
                have HSO := Lib.hid (HSt.out k HK2.out)
                clear HSt HG
                rw [synO c m r k3 k4] at HSO
                clear k3 k4
                go_upto_region 12 with (first
                  | (go_at_call 16; (refine (HSO.out _ (HT.out.below HXa.out.b)).mono ?_); rintro r w5 ⟨rfl, b5⟩; have X5 := Lib.hid (HXa.out.next b5); clear b5))
                have X6 := Lib.hid (X5.out.alloc (mb4 3 c m 0))
                have HPN := Lib.hid (show w5.heap.size ≠ p by have := lt_of_heap (X5.out.at 1 rfl); omega)
                generalize w5.alloc (mb4 3 c m 0) = w6 at *
                generalize w5.heap.size = n1 at *
                obtain ⟨n0, n1c, n2, n3⟩ := cells4 (X6.out.at 0 rfl)
                obtain ⟨o0, o1, o2, o3⟩ := cells4 (X6.out.at 2 rfl)
                obtain ⟨f0, f1, f2, f3⟩ := frozen4 (X6.out.at 2 rfl)
                have hC0 : (0 : Int) < (c : Int) := by have := HC.out.1; omega
                have hC1 : ((c : Int) == 0) = false := by rw [beq_eq_false_iff_ne]; omega
                have XE := Lib.hid (turn4 (s' := 3) (c' := c) (m' := m) (x' := 0) (X6.out.sub (M := [(p, mb4 3 c m 0)]) (fun x hx => List.mem_cons_of_mem _ (List.mem_cons_of_mem _ hx))) HP.out)
                have HE2 := Lib.hid (show 0 < c ∧ c < 64 ∧ 0 ≤ (m : Int) ∧ (m : Int) ≤ 1 by exact HC.out)
                go_wp2
                go_roundw
                case rel => exact ⟨i + 1, c, m, by omega, by go_num, HE2, XE⟩
                case measure => simp [intOf]; omega
        · obtain rfl : i = n := by omega
          go_wp2
          go_ret
          exact ⟨rfl, HX.out.b⟩
    · have e3 : (s != 3) = true := by rw [bne_iff_ne]; exact s3
      clear hS s3
      go_enter Tryd.func5, Tryd.ntmps5
      go_wp2_with (first
        | (go_at_call 8; (refine (fixed_any _ (HT.out.below X.out.b)).mono ?_); rintro r w1 ⟨rfl, b1⟩; have X1 := Lib.hid (X.out.next b1); clear b1; obtain ⟨t0, t1, t2, t3⟩ := cells4 (X1.out.at 0 rfl))
        | (go_at_call 12; (refine (HM.out _).mono ?_); rintro r w2 ⟨rfl, b2⟩; have X2 := Lib.hid (X1.out.next b2); clear b2; obtain ⟨u0, u1, u2, u3⟩ := cells4 (X2.out.at 0 rfl)))
      go_ret
      exact ⟨rfl, X2.out.b⟩
theorem walkI (host : Int) (a : Mc) (A : Option Addr) (rows : List (List Int)) (cp : Nat) (w : World) (wh : (Lit.int .u8 host).wf = true) (ha : a.c < 4294967296) (hl : RL w [.i64, .u32] A rows) (hn : rows.length ≤ 9223372036854775000) (hT : Tz w) :
    Calls Tryd.prog 5 #[.int .u8 host, mv a, .slice A rows.length cp] w fun e w' => e = .returned (.bool true) ∧ Below w.heap.size w w' := by
  obtain ⟨host, rfl, hh⟩ := u8_nat wh
  obtain ⟨s, c, m, x⟩ := a
  exact walk host s c m x A rows.length cp (evs rows) w hh ha (ev_of hl) hn hT
set_option maxRecDepth 100000 in
/-- What the walk gives, for every argument and every world. -/
theorem contract (H : Type) (enc : TypeId × Value → H) (W : World) (base : Nat) (args : Array Value) (ds gs : List (DataW H)) (before : List MemPlace)
    (hval : ∀ (j : Nat) t v, Tryd.f5.params[j]? = some t → args[j]? = some v → Value.okWide Tryd.prog W .any base t v)
    (hW : DataW.Whole enc Tryd.prog Tryd.f5.params.toList Rows.machStaysSpec.vars false W args.toList ds gs before) (hL : laidMetH Tryd.prog Rows.machStaysRow.laid W) (hz : (DataW.weightsEach Tryd.prog (Tryd.f5.params.toList ++ (OpenSpec.ofChange Rows.machStaysSpec).bare.plain.varTypes Tryd.prog) (ds ++ gs)).all (· ≤ reachBytes) = true) : 
    Calls Tryd.prog 5 args W fun e W' => ∃ v, e = .returned v ∧ Rows.machStaysSpec.post enc Tryd.prog Tryd.f5 false true false false W args v W' := by
  have hW' := hW
  obtain ⟨p, q, hA0, hV, rfl, hfz, hnd⟩ := hW
  have hA : DataW.TrodAll enc Tryd.prog W 0 (fun _ => true) true Tryd.f5.params.toList args.toList ds p := hA0
  rw [Tryd.params5] at hA hval
  obtain ⟨v0, vs0, d0, ds0, p0, q0, hargs, rfl, rfl, h0, r0⟩ := trodAll_cons hA
  obtain ⟨v1, vs1, d1, ds1, p1, q1, rfl, rfl, rfl, h1, r1⟩ := trodAll_cons r0
  obtain ⟨v2, vs2, d2, ds2, p2, q2, rfl, rfl, rfl, h2, r2⟩ := trodAll_cons r1
  obtain ⟨rfl, rfl, rfl⟩ := trodAll_nil r2
  obtain rfl : args = #[v0, v1, v2] := by cases args; simp_all
  obtain ⟨rfl, rfl⟩ := trodVars_none hV
  obtain ⟨host, rfl, rfl, rfl, w0⟩ := open_int Tryd.underlying5 (hval 0 5 v0 rfl rfl) h0
  obtain ⟨a, rfl, hc1, hm01, hm11⟩ := open_mach (hval 1 36 v1 rfl rfl) h1
  obtain ⟨A2, l, c2, rfl, f2, l2, lc2, sz2, nl2⟩ := open_rows (qs := [.i64, .u32]) Tryd.underlying22 Tryd.underlying32 (by kernel_rfl) (by decide) (fun i f q hf hq => by
    match i, hf, hq with
    | 0, hf, hq => cases hf; cases hq; exact ⟨rfl, by kernel_rfl, Tryd.underlying3⟩
    | 1, hf, hq => cases hf; cases hq; exact ⟨rfl, by kernel_rfl, Tryd.underlying28⟩) (hval 2 22 v2 rfl rfl) h2
  have z2 : l.length * 16 ≤ 140737488351232 := by
    rcases sz2 with h | ⟨es, sp, hd, hl⟩
    · rw [h]; decide
    · have := sized_slice hz (j := 2) (t := 22) (e := 32) (elems := es) (spare := sp) (by rw [Tryd.params5]; rfl) (by rw [hd]; rfl) Tryd.underlying22
      rw [show Tryd.prog.bytesOf 32 = 16 by kernel_rfl, show reachBytes = 140737488351232 from rfl] at this
      omega
  refine (walkI host a A2 l c2 W w0 hc1 f2 (by omega) (tz_of hL)).mono fun e W' ⟨he, hb⟩ => ?_
  exact ⟨_, he, Shell.post_law laidOut (by kernel_rfl) rfl Tryd.underlying4 rfl hW' rfl hb⟩
theorem reads (os : Os) {H : Type} (enc : TypeId × Value → H) : ∃ places, DataW.whole enc Tryd.prog ((laidWorld os).forCall (fun _ _ => 0) ⟨#[], #[.int .u8 0, .agg #[.int .i64 0, .int .u32 0, .int .i64 0, .int .i64 0], .slice none 0 0], []⟩).memory Tryd.f5.params.toList Rows.machStaysSpec.vars false (#[Value.int .u8 0, Value.agg #[.int .i64 0, .int .u32 0, .int .i64 0, .int .i64 0], Value.slice none 0 0]).toList 8 = some ([.lit (.int .u8 0), .agg [.lit (.int .i64 0), .lit (.int .u32 0), .lit (.int .i64 0), .lit (.int .i64 0)], .nil], [], places) :=
  ⟨[], by kernel_rfl⟩
set_option maxRecDepth 100000 in
theorem lifted (os : Os) (started : os.Started) (H : Type) (enc : TypeId × Value → H) (F : Stop.Interp) :
    ReturnsInHanded {} Tryd.checked os 5 .any ((OpenSpec.ofChange Rows.machStaysSpec).preRow enc Tryd.prog Tryd.f5 Rows.machStaysRow.domain false Rows.machStaysRow.laid) (((OpenSpec.ofChange Rows.machStaysSpec).at F).post enc Tryd.prog Tryd.f5 false true false false) := by
  obtain ⟨places, hx⟩ := reads os enc
  refine returnsInHanded_of_row (C := Tryd.checked) (s := OpenSpec.ofChange Rows.machStaysSpec) own started (by kernel_rfl) Tryd.func5
    (witness_row_atRef (enc := enc) (C := Tryd.checked) false (laidWorld os) #[.int .u8 0, .agg #[.int .i64 0, .int .u32 0, .int .i64 0, .int .i64 0], .slice none 0 0] rfl (by kernel_rfl) (by kernel_rfl) (by kernel_rfl)
      (OpenSpec.preRow_of_cond 8 hx (by kernel_rfl) (fun k hk => by cases hk) (by kernel_rfl) (laid_met os _))) ?_
  intro W base args ds gs before hval hW _ _ hz hL _ _
  exact contract H enc W base args ds gs before hval hW hL hz
theorem said : Rows.MachStaysSaid :=
  OpenClaim.holds_of_cond 5 Tryd.f5 rfl rfl rfl rfl rfl rfl rfl ⟨rfl, rfl, rfl, rfl, rfl⟩ rfl rfl rfl rfl rfl (by kernel_rfl) Tryd.func5 (by kernel_rfl)
    (of_decide_eq_true (by kernel_rfl)) (by unfold Func.isWrapper; first | (rw [if_pos (by decide +kernel)]; kernel_rfl) | (rw [if_neg (by decide +kernel)]; exact ⟨rfl, rfl⟩))
    (fun os started H enc _ F => by rw [OpenClaim.pre_eq_preRow]; exact lifted os started H enc F)
theorem plain (f : FuncId) (fn : Func) (hf : Tryd.pinned.checked.prog.funcNamed "tocsin/tocsinlaw13.MachStays" = some f) (hfn : Tryd.pinned.checked.prog.funcs[f]? = some fn) :
    false = Tryd.pinned.checked.prog.looks [] ∧ ∀ (j : Nat) t, fn.params[j]? = some t → Tryd.pinned.checked.prog.wantsStandIn t = false := by
  obtain rfl : f = 5 := Option.some.inj ((show Tryd.prog.funcNamed "tocsin/tocsinlaw13.MachStays" = some 5 by kernel_rfl).symm.trans hf) |>.symm
  obtain rfl : fn = Tryd.f5 := (Option.some.inj (Tryd.func5.symm.trans hfn)).symm
  refine ⟨by kernel_rfl, fun j t ht => ?_⟩
  rw [Tryd.params5] at ht
  have hall : ∀ t ∈ Tryd.f5.params.toList, Tryd.prog.wantsStandIn t = false := by
    rw [Tryd.params5]
    have h : ((#[5, 36, 22] : Array TypeId).toList.all fun t => !Tryd.prog.wantsStandIn t) = true := by kernel_rfl
    intro t ht
    simpa using (List.all_eq_true.1 h) t ht
  exact hall t (by rw [Tryd.params5]; exact Array.mem_toList_iff.2 (Array.mem_of_getElem? ht))
theorem card : Rows.MachStaysCardSaid :=
  Claim7.holds_tied_plain_at .later [] _ _ _ _ said (fun _ h => by cases h) (by kernel_rfl) (fun _ h => by cases h) machStays_row_tie rfl ⟨rfl, rfl⟩ (by kernel_rfl) rfl plain (by kernel_rfl)
end Go.Proofs.YtigehmlfdbejaaaDoor.MachW.MachStays
