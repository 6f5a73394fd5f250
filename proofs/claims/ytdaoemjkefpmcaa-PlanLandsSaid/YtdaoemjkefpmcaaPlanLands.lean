/- The law PlanLands: a frame that an entry sends in time may be at a switch, and, forwarded when it should be, at a host, in its own cycle: for every configuration, entry and four distances. No condition. -/
import Derived.Test.YtdaoemjkefpmcaaPlanLandsB
namespace Go.Proofs.Ytdaoemjkefpmcaa.PlanW.PlanLands
open Go.ChangeShapes Go.WideShapes Go.ChangeAt Go.RowKit PlanW Shell
open ConfW (Cfg R4 CM chk tim fwd ear lat at0 at1 open_cfg time_any refCheck_any)
theorem wr_of {x z : Int} (h : x = z) (hz : -4503599627370496 ≤ z ∧ z ≤ 4503599627370496) : IntKind.i64.wrap x = z ∧ wrap64 x = z := by
  subst h
  constructor
  · rw [IntKind.wrap_i64]; omega
  · unfold wrap64; omega
theorem len4 {l : List Int} (h : l.length = 4) : ∃ a b c d, l = [a, b, c, d] := by
  match l, h with
  | [a, b, c, d], _ => exact ⟨a, b, c, d, rfl⟩
theorem div_at {C f k : Int} (hf : 0 ≤ f ∧ f < C) : (k * C + f) / C = k := by
  rw [Int.add_comm, Int.add_mul_ediv_right _ _ (by omega), Int.ediv_eq_zero_of_lt hf.1 hf.2]
  omega
section
variable {c : Cfg} {n : Nat} {e : R4}
theorem got_at (hz : chk c = 0) (hn : n < c.entries.length) {a : Int} (h0 : 0 ≤ a ∧ a ≤ 1125899906842624) : got c n a = true := got_iff.2 ⟨god_iff.2 ⟨h0, hz⟩, by omega, by omega⟩
theorem ent_at (hn : c.entries[n]? = some e) : entA c n = e := by
  unfold entA
  rw [Int.toNat_natCast, hn]
  rfl
theorem len_at (hn : c.entries[n]? = some e) : n < c.entries.length := by
  rcases Nat.lt_or_ge n c.entries.length with g | g
  · exact g
  · rw [List.getElem?_eq_none g] at hn; cases hn
theorem send_at (hz : chk c = 0) (hn : c.entries[n]? = some e) : sendV c n (3 * c.cycle) = (3 * c.cycle + e.c, true) := by
  have s := chk_span hz
  have ok := ent_ok hz (List.mem_of_getElem? hn)
  have h1 := ok.lo
  have h2 := ok.hi
  have h3 := ok.tp
  rw [send_yes (got_at hz (len_at hn) (by omega)) (ent_at hn), snd_of (k := 3) (by omega) (by omega) (by omega) (by omega)]
theorem relay_at (hz : chk c = 0) (hn : c.entries[n]? = some e) {a : Int} (h0 : at0 c e ≤ a - 3 * c.cycle) (h1 : a - 3 * c.cycle ≤ at1 c e) : relayV c n a = (3 * c.cycle + fwd c e, true) := by
  have s := chk_span hz
  have ok := ent_ok hz (List.mem_of_getElem? hn)
  have i := ent_in ok
  have g0 := i.a0
  have g1 := i.a1
  have g2 := ok.lo
  have g3 := ok.hi
  have g4 := ok.tp
  obtain ⟨p, hp⟩ : ∃ p, a - 3 * c.cycle = p := ⟨_, rfl⟩
  rw [hp] at h0 h1
  have ha : a = 3 * c.cycle + p := by omega
  have hb : 0 ≤ p ∧ p < c.cycle := by omega
  rw [relay_yes (got_at hz (len_at hn) (by omega)) (ent_at hn), ha, div_at hb, mul_mod hb, if_pos ⟨h0, h1⟩]
theorem land_at (hz : chk c = 0) (hn : c.entries[n]? = some e) {a : Int} (h0 : ear c e ≤ a - 3 * c.cycle) (h1 : a - 3 * c.cycle ≤ lat c e) : landV c n a = (3, true) := by
  have s := chk_span hz
  have ok := ent_ok hz (List.mem_of_getElem? hn)
  have i := ent_in ok
  have g0 := i.er
  have g1 := i.la
  have g2 := ok.lo
  have g3 := ok.hi
  have g4 := ok.tp
  obtain ⟨p, hp⟩ : ∃ p, a - 3 * c.cycle = p := ⟨_, rfl⟩
  rw [hp] at h0 h1
  have ha : a = 3 * c.cycle + p := by omega
  have hb : 0 ≤ p ∧ p < c.cycle := by omega
  rw [land_yes (got_at hz (len_at hn) (by omega)) (ent_at hn), ha, div_at hb, mul_mod hb, if_pos ⟨h0, h1⟩]
end
theorem idx2 (x0 x1 x2 x3 x4 : Value) (w : World) : Sem.run Try.prog (Instr.index 47 (.agg #[x0, x1, x2, x3, x4]) (.int .i64 2)) w = .ok x2 w := rfl
set_option maxHeartbeats 16000000 in
set_option maxRecDepth 100000 in
theorem walk (c : Cfg) (D E L : Option Addr) (nd cd ne ce nl cl : Nat) (k : Int) (xs : List Int) (w : World) (m : CM w c D E L nd cd ne ce nl cl) (hx : xs.length = 4) (_hw : ∀ x ∈ xs, (Lit.int .i32 x).wf = true) : Calls Try.prog 6 #[.agg #[.int .i64 c.hosts, .int .i64 c.cycle, .int .i64 c.delay, .int .i64 c.window, .int .i64 c.precision, .slice D nd cd, .slice E ne ce, .slice L nl cl, .int .i64 c.queue], .int .i64 k, .agg (xs.map (Value.int .i32)).toArray] w fun r w' => r = .returned (.bool true) ∧ Below w.heap.size w w' := by
  obtain ⟨o0, o1, o2, o3, rfl⟩ := len4 hx
  show Calls Try.prog 6 #[.agg #[.int .i64 c.hosts, .int .i64 c.cycle, .int .i64 c.delay, .int .i64 c.window, .int .i64 c.precision, .slice D nd cd, .slice E ne ce, .slice L nl cl, .int .i64 c.queue], .int .i64 k, .agg #[.int .i32 o0, .int .i32 o1, .int .i32 o2, .int .i32 o3]] w fun r w' => r = .returned (.bool true) ∧ Below w.heap.size w w'
  have HM := Lib.hid m
  have S0 := Lib.hid (show Stay w [(w.heap.size + 1, .cells #[.int .i32 o0, .int .i32 o1, .int .i32 o2, .int .i32 o3] 42), (w.heap.size, Obj.cells #[.int .i64 c.hosts, .int .i64 c.cycle, .int .i64 c.delay, .int .i64 c.window, .int .i64 c.precision, .slice D nd cd, .slice E ne ce, .slice L nl cl, .int .i64 c.queue] 26)] ((w.alloc (Obj.cells #[.int .i64 c.hosts, .int .i64 c.cycle, .int .i64 c.delay, .int .i64 c.window, .int .i64 c.precision, .slice D nd cd, .slice E ne ce, .slice L nl cl, .int .i64 c.queue] 26)).alloc (.cells #[.int .i32 o0, .int .i32 o1, .int .i32 o2, .int .i32 o3] 42)) by
    have := ((Stay.start w).alloc (Obj.cells #[.int .i64 c.hosts, .int .i64 c.cycle, .int .i64 c.delay, .int .i64 c.window, .int .i64 c.precision, .slice D nd cd, .slice E ne ce, .slice L nl cl, .int .i64 c.queue] 26)).alloc (.cells #[.int .i32 o0, .int .i32 o1, .int .i32 o2, .int .i32 o3] 42)
    rwa [World.size_alloc] at this)
  have KC := Lib.hid (fun W (g : CM W c D E L nd cd ne ce nl cl) => refCheck_any c D E L nd cd ne ce nl cl W g)
  have hne := m.nE
  by_cases hz : chk c = 0
  case neg =>
    have z1 : (chk c != 0) = true := by rw [bne_iff_ne]; exact hz
    generalize chk c = z at *
    clear m hx _hw hz hne
    go_enter Try.func6, Try.ntmps6
    go_wp2_with fail
    refine (fixed_any _).mono ?_
    rintro r w1 ⟨rfl, b1⟩
    have S1 := Lib.hid (S0.out.next b1)
    clear b1 S0
    obtain ⟨a0, a1, a2, a3, a4, a5, a6, a7, a8⟩ := cells9 (S1.out.at 1 rfl)
    go_wp2_with fail
    refine (KC.out _ (HM.out.below S1.out.b)).mono ?_
    rintro r w2 ⟨rfl, b2⟩
    have S2 := Lib.hid (S1.out.next b2)
    clear b2 S1 a0 a1 a2 a3 a4 a5 a6 a7 a8
    obtain ⟨a0, a1, a2, a3, a4, a5, a6, a7, a8⟩ := cells9 (S2.out.at 1 rfl)
    go_wp2
    go_ret
    exact ⟨rfl, S2.out.b⟩
  rw [hz] at KC
  by_cases k0 : k < 0
  · clear m hx _hw hz hne
    go_enter Try.func6, Try.ntmps6
    go_wp2_with fail
    refine (fixed_any _).mono ?_
    rintro r w1 ⟨rfl, b1⟩
    have S1 := Lib.hid (S0.out.next b1)
    clear b1 S0
    obtain ⟨a0, a1, a2, a3, a4, a5, a6, a7, a8⟩ := cells9 (S1.out.at 1 rfl)
    go_wp2_with fail
    refine (KC.out _ (HM.out.below S1.out.b)).mono ?_
    rintro r w2 ⟨rfl, b2⟩
    have S2 := Lib.hid (S1.out.next b2)
    clear b2 S1 a0 a1 a2 a3 a4 a5 a6 a7 a8
    obtain ⟨a0, a1, a2, a3, a4, a5, a6, a7, a8⟩ := cells9 (S2.out.at 1 rfl)
    go_wp2
    go_ret
    exact ⟨rfl, S2.out.b⟩
  by_cases k1 : (ne : Int) ≤ k
  · clear m hx _hw hz hne
    go_enter Try.func6, Try.ntmps6
    go_wp2_with fail
    refine (fixed_any _).mono ?_
    rintro r w1 ⟨rfl, b1⟩
    have S1 := Lib.hid (S0.out.next b1)
    clear b1 S0
    obtain ⟨a0, a1, a2, a3, a4, a5, a6, a7, a8⟩ := cells9 (S1.out.at 1 rfl)
    go_wp2_with fail
    refine (KC.out _ (HM.out.below S1.out.b)).mono ?_
    rintro r w2 ⟨rfl, b2⟩
    have S2 := Lib.hid (S1.out.next b2)
    clear b2 S1 a0 a1 a2 a3 a4 a5 a6 a7 a8
    obtain ⟨a0, a1, a2, a3, a4, a5, a6, a7, a8⟩ := cells9 (S2.out.at 1 rfl)
    go_wp2
    go_ret
    exact ⟨rfl, S2.out.b⟩
  obtain ⟨n, rfl⟩ := Int.eq_ofNat_of_zero_le (show 0 ≤ k by omega)
  have hnl : n < c.entries.length := by omega
  obtain ⟨e, he⟩ : ∃ e, c.entries[n]? = some e := ⟨_, List.getElem?_eq_getElem hnl⟩
  obtain ⟨b, off, rfl, -⟩ := m.he n e he
  have OK := Lib.hid (ent_ok hz (List.mem_of_getElem? he))
  have ME := Lib.hid (fun W (hW : CM W c D (some ⟨b, off, none⟩) L nd cd ne ce nl cl) => hW.he n e he)
  have KTm := Lib.hid (fun W => time_any e.d W)
  have KTs := Lib.hid (fun W => times_ok c D (some ⟨b, off, none⟩) L nd cd ne ce nl cl e W OK.out)
  have KS := Lib.hid (fun W (g : CM W c D (some ⟨b, off, none⟩) L nd cd ne ce nl cl) => by have := send_any c D (some ⟨b, off, none⟩) L nd cd ne ce nl cl n (3 * c.cycle) W g; rw [send_at hz he] at this; exact this)
  have KR := Lib.hid (fun a W (g : CM W c D (some ⟨b, off, none⟩) L nd cd ne ce nl cl) => relay_any c D (some ⟨b, off, none⟩) L nd cd ne ce nl cl n a W g)
  have KL := Lib.hid (fun a W (g : CM W c D (some ⟨b, off, none⟩) L nd cd ne ce nl cl) => land_any c D (some ⟨b, off, none⟩) L nd cd ne ce nl cl n a W g)
  have RA := Lib.hid (fun a => relay_at (a := a) hz he)
  have LA := Lib.hid (fun a => land_at (a := a) hz he)
  have s := chk_span hz
  have KW := Lib.hid (fun o W => within_any o c.delay W (by omega) (by omega))
  have KK := Lib.hid (fun o (w0 W : World) (gw gc : Nat) (S : Stay w0 [(gw, FB), (gc, Obj.cells #[.int .i64 c.hosts, .int .i64 c.cycle, .int .i64 c.delay, .int .i64 c.window, .int .i64 c.precision, .slice D nd cd, .slice (some ⟨b, off, none⟩) ne ce, .slice L nl cl, .int .i64 c.queue] 26)] W) => skew_any c D (some ⟨b, off, none⟩) L nd cd ne ce nl cl o S s.2.2.2)
  have hw0 := wv_in o0 s.2.1.1
  have hw1 := wv_in o1 (show 0 ≤ 2 * c.precision by omega)
  have hw2 := wv_in o2 s.2.1.1
  have hw3 := wv_in o3 (show 0 ≤ 2 * c.precision by omega)
  replace KW := Lib.hid (show (∀ W, _) ∧ (∀ W, _) from ⟨fun W => KW.out o0 W, fun W => KW.out o2 W⟩)
  have KK1 := Lib.hid (fun (w0 W : World) (gw gc : Nat) (S : Stay w0 [(gw, FB), (gc, Obj.cells #[.int .i64 c.hosts, .int .i64 c.cycle, .int .i64 c.delay, .int .i64 c.window, .int .i64 c.precision, .slice D nd cd, .slice (some ⟨b, off, none⟩) ne ce, .slice L nl cl, .int .i64 c.queue] 26)] W) => KK.out o1 w0 W gw gc S)
  have KK3 := Lib.hid (fun (w0 W : World) (gw gc : Nat) (S : Stay w0 [(gw, FB), (gc, Obj.cells #[.int .i64 c.hosts, .int .i64 c.cycle, .int .i64 c.delay, .int .i64 c.window, .int .i64 c.precision, .slice D nd cd, .slice (some ⟨b, off, none⟩) ne ce, .slice L nl cl, .int .i64 c.queue] 26)] W) => KK.out o3 w0 W gw gc S)
  clear KK
  generalize wv o0 c.delay = v0 at *
  generalize wv o1 (2 * c.precision) = v1 at *
  generalize wv o2 c.delay = v2 at *
  generalize wv o3 (2 * c.precision) = v3 at *
  obtain ⟨q1, hq1⟩ : ∃ q, v1 - c.precision = q := ⟨_, rfl⟩
  obtain ⟨q3, hq3⟩ : ∃ q, v3 - c.precision = q := ⟨_, rfl⟩
  rw [hq1] at KK1
  rw [hq3] at KK3
  have i := ent_in OK.out
  have ia0 := i.a0
  have ia1 := i.a1
  have if1 := i.f
  have ier := i.er
  have ila := i.la
  have g1 := OK.out.lo
  have g2 := OK.out.hi
  have g3 := OK.out.tp
  generalize at0 c e = y0 at *
  generalize at1 c e = y1 at *
  generalize fwd c e = y2 at *
  generalize ear c e = y3 at *
  generalize lat c e = y4 at *
  generalize tim e.d = ln at *
  obtain ⟨T, hT⟩ : ∃ T, 3 * c.cycle = T := ⟨_, rfl⟩
  rw [hT] at KS RA LA
  obtain ⟨A0, hA0⟩ : ∃ A, T + e.c = A := ⟨_, rfl⟩
  rw [hA0] at KS
  obtain ⟨A1, hA1⟩ : ∃ A, A0 + ln = A := ⟨_, rfl⟩
  obtain ⟨A2, hA2⟩ : ∃ A, A1 + v0 = A := ⟨_, rfl⟩
  obtain ⟨A3, hA3⟩ : ∃ A, A2 + q1 = A := ⟨_, rfl⟩
  obtain ⟨F, hF⟩ : ∃ A, T + y2 = A := ⟨_, rfl⟩
  rw [hF] at RA
  obtain ⟨B1, hB1⟩ : ∃ A, F + ln = A := ⟨_, rfl⟩
  obtain ⟨B2, hB2⟩ : ∃ A, B1 + v2 = A := ⟨_, rfl⟩
  obtain ⟨B3, hB3⟩ : ∃ A, B2 + q3 = A := ⟨_, rfl⟩
  replace KR := Lib.hid (fun W (g : CM W c D (some ⟨b, off, none⟩) L nd cd ne ce nl cl) => by have := KR.out A3 W g; rw [RA.out A3 (by omega) (by omega)] at this; exact this)
  replace KL := Lib.hid (fun W (g : CM W c D (some ⟨b, off, none⟩) L nd cd ne ce nl cl) => by have := KL.out B3 W g; rw [LA.out B3 (by omega) (by omega)] at this; exact this)
  obtain ⟨t0, r0⟩ := wr_of (show 3 * c.cycle = T from by assumption) (by omega)
  obtain ⟨t1, r1⟩ := wr_of (show A0 + ln = A1 from by assumption) (by omega)
  obtain ⟨t2, r2⟩ := wr_of (show A1 + v0 = A2 from by assumption) (by omega)
  obtain ⟨t3, r3⟩ := wr_of (show A2 + q1 = A3 from by assumption) (by omega)
  obtain ⟨t4, r4⟩ := wr_of (show T + y2 = F from by assumption) (by omega)
  obtain ⟨t5, r5⟩ := wr_of (show F + ln = B1 from by assumption) (by omega)
  obtain ⟨t6, r6⟩ := wr_of (show B1 + v2 = B2 from by assumption) (by omega)
  obtain ⟨t7, r7⟩ := wr_of (show B2 + q3 = B3 from by assumption) (by omega)
  have h1 : (n : Int) < (ne : Int) := by omega
  have HN := Lib.hid m.mE
  have ENT := ent_within
  have ENS := ent_skew
  have hmf : ∀ (fn : Fn) (first cap : Array Value) (w : World), (Instr.makeFunc fn first cap).run Try.prog w = .ok (.func fn first cap) w := fun _ _ _ _ => rfl
  have sx : ∀ (W : World) (a : Addr) (m : Mode), Sem.run Try.prog (store a (.func (.func 23) #[] #[]) m) W = stored Try.prog W a (.func (.func 23) #[] #[]) m := fun W a m => run_store _ W a _ m rfl
  have ix := idx2 (.int .i64 y0) (.int .i64 y1) (.int .i64 y2) (.int .i64 y3) (.int .i64 y4)
  clear m hx _hw hz hne k0 k1 hnl he s hw0 hw1 hw2 hw3 hq1 hq3 i ia0 ia1 if1 ier ila g1 g2 g3 hT hA0 hA1 hA2 hA3 hF hB1 hB2 hB3 RA LA
  go_enter Try.func6, Try.ntmps6
  go_wp2_with fail
  refine (fixed_any _).mono ?_
  rintro r w1 ⟨rfl, b1⟩
  have S1 := Lib.hid (S0.out.next b1)
  clear b1 S0
  obtain ⟨a0, a1, a2, a3, a4, a5, a6, a7, a8⟩ := cells9 (S1.out.at 1 rfl)
  go_wp2_with fail
  refine (KC.out _ (HM.out.below S1.out.b)).mono ?_
  rintro r w2 ⟨rfl, b2⟩
  have S2 := Lib.hid (S1.out.next b2)
  clear b2 S1 a0 a1 a2 a3 a4 a5 a6 a7 a8
  obtain ⟨a0, a1, a2, a3, a4, a5, a6, a7, a8⟩ := cells9 (S2.out.at 1 rfl)
  obtain ⟨a0, a1, a2, a3, a4, a5, a6, a7, a8⟩ := cells9 (S2.out.at 1 rfl)
  obtain ⟨b', off', hb', ⟨x0, x1, x2, x3⟩, -⟩ := ME.out _ (HM.out.below S2.out.b)
  cases hb'
  have S3 := Lib.hid (show Stay w [(w2.heap.size + 1, FB), (w2.heap.size, eb e), (w.heap.size + 1, .cells #[.int .i32 o0, .int .i32 o1, .int .i32 o2, .int .i32 o3] 42), (w.heap.size, Obj.cells #[.int .i64 c.hosts, .int .i64 c.cycle, .int .i64 c.delay, .int .i64 c.window, .int .i64 c.precision, .slice D nd cd, .slice (some ⟨b, off, none⟩) ne ce, .slice L nl cl, .int .i64 c.queue] 26)] ((w2.alloc (eb e)).alloc FB) by
    have := (S2.out.alloc (eb e)).alloc FB
    rwa [World.size_alloc] at this)
  obtain ⟨d0, d1, d2, d3, d4, d5, d6, d7, d8⟩ := cells9 (S3.out.at 3 rfl)
  go_wp2_with fail
  refine (KS.out _ (HM.out.below S3.out.b)).mono ?_
  rintro r w4 ⟨rfl, b4⟩
  have S4 := Lib.hid (S3.out.next b4)
  clear b4 S3 S2 a0 a1 a2 a3 a4 a5 a6 a7 a8 d0 d1 d2 d3 d4 d5 d6 d7 d8 x0 x1 x2 x3
  generalize w2.heap.size = g at *
  go_wp2_with fail
  refine wp_region_held_drew (S := fun W : World => Stay w [(g + 1, FB), (g, eb e), (w.heap.size + 1, .cells #[.int .i32 o0, .int .i32 o1, .int .i32 o2, .int .i32 o3] 42), (w.heap.size, Obj.cells #[.int .i64 c.hosts, .int .i64 c.cycle, .int .i64 c.delay, .int .i64 c.window, .int .i64 c.precision, .slice D nd cd, .slice (some ⟨b, off, none⟩) ne ce, .slice L nl cl, .int .i64 c.queue] 26)] W) (by kernel_rfl) (S4.out.drew) (fun hHeld => ?_)
  refine wpAnyH_take (i := 0) (oi := ⟨some 50, _, _, _, _, _⟩) (v := ?_) rfl (by kernel_rfl) (by kernel_rfl) (by kernel_rfl) (fun _ _ _ h => h) (Or.inl ⟨by kernel_rfl, ?_⟩) (by assumption) ?_; rotate_left; (focus (intro w hSw; (try dsimp only at hSw); go_simp; (try with_reducible rfl)))
  simp only [Act.put, List.setIfInBounds_toArray, List.set_cons_zero, List.set_cons_succ]
  refine wpAnyH_take (i := 1) (oi := ⟨some 51, _, _, _, _, _⟩) (v := ?_) rfl (by kernel_rfl) (by kernel_rfl) (by kernel_rfl) (fun _ _ _ h => h) (Or.inl ⟨by kernel_rfl, ?_⟩) (by assumption) ?_; rotate_left; (focus (intro w hSw; (try dsimp only at hSw); go_simp; (try with_reducible rfl)))
  simp only [Act.put, List.setIfInBounds_toArray, List.set_cons_zero, List.set_cons_succ]
  refine wpAnyH_take (i := 2) (oi := ⟨some 52, _, _, _, _, _⟩) (v := ?_) rfl (by kernel_rfl) (by kernel_rfl) (by kernel_rfl) (fun _ _ _ h => h) (Or.inl ⟨by kernel_rfl, ?_⟩) (by assumption) ?_; rotate_left; (focus (intro w hSw; (try dsimp only at hSw); obtain ⟨a0, a1, a2, a3, a4, a5, a6, a7, a8⟩ := cells9 (Stay.at hSw 3 rfl); obtain ⟨e0, e1, e2, e3⟩ := cells4 (Stay.at hSw 1 rfl); obtain ⟨c0, c1, c2, c3⟩ := cells4 (Stay.at hSw 2 rfl); have y9 := cell_of_row _ (g + 1) 0 _ _ _ (Stay.at hSw 0 rfl); go_simp; (try with_reducible rfl)))
  simp only [Act.put, List.setIfInBounds_toArray, List.set_cons_zero, List.set_cons_succ]
  refine wpAnyH_take (i := 5) (oi := ⟨some 55, _, _, _, _, _⟩) (v := ?_) rfl (by kernel_rfl) (by kernel_rfl) (by kernel_rfl) (fun _ _ _ h => h) (Or.inl ⟨by kernel_rfl, ?_⟩) (by assumption) ?_; rotate_left; (focus (intro w hSw; (try dsimp only at hSw); obtain ⟨a0, a1, a2, a3, a4, a5, a6, a7, a8⟩ := cells9 (Stay.at hSw 3 rfl); obtain ⟨e0, e1, e2, e3⟩ := cells4 (Stay.at hSw 1 rfl); obtain ⟨c0, c1, c2, c3⟩ := cells4 (Stay.at hSw 2 rfl); have y9 := cell_of_row _ (g + 1) 0 _ _ _ (Stay.at hSw 0 rfl); go_simp; (try with_reducible rfl)))
  simp only [Act.put, List.setIfInBounds_toArray, List.set_cons_zero, List.set_cons_succ]
  refine wpAnyH_take (i := 6) (oi := ⟨some 56, _, _, _, _, _⟩) (v := ?_) rfl (by kernel_rfl) (by kernel_rfl) (by kernel_rfl) (fun _ _ _ h => h) (Or.inl ⟨by kernel_rfl, ?_⟩) (by assumption) ?_; rotate_left; (focus (intro w hSw; (try dsimp only at hSw); go_simp; (try with_reducible rfl)))
  simp only [Act.put, List.setIfInBounds_toArray, List.set_cons_zero, List.set_cons_succ]
  refine wpAnyH_take (i := 7) (oi := ⟨some 57, _, _, _, _, _⟩) (v := ?_) rfl (by kernel_rfl) (by kernel_rfl) (by kernel_rfl) (fun _ _ _ h => h) (Or.inl ⟨by kernel_rfl, ?_⟩) (by assumption) ?_; rotate_left; (focus (intro w hSw; (try dsimp only at hSw); obtain ⟨a0, a1, a2, a3, a4, a5, a6, a7, a8⟩ := cells9 (Stay.at hSw 3 rfl); obtain ⟨e0, e1, e2, e3⟩ := cells4 (Stay.at hSw 1 rfl); obtain ⟨c0, c1, c2, c3⟩ := cells4 (Stay.at hSw 2 rfl); have y9 := cell_of_row _ (g + 1) 0 _ _ _ (Stay.at hSw 0 rfl); go_simp; (try with_reducible rfl)))
  simp only [Act.put, List.setIfInBounds_toArray, List.set_cons_zero, List.set_cons_succ]
  refine wpAnyH_take (i := 8) (oi := ⟨some 58, _, _, _, _, _⟩) (v := ?_) rfl (by kernel_rfl) (by kernel_rfl) (by kernel_rfl) (fun _ _ _ h => h) (Or.inl ⟨by kernel_rfl, ?_⟩) (by assumption) ?_; rotate_left; (focus (intro w hSw; (try dsimp only at hSw); go_simp; (try with_reducible rfl)))
  simp only [Act.put, List.setIfInBounds_toArray, List.set_cons_zero, List.set_cons_succ]
  refine wpAnyH_take (i := 9) (oi := ⟨some 59, _, _, _, _, _⟩) (v := ?_) rfl (by kernel_rfl) (by kernel_rfl) (by kernel_rfl) (fun _ _ _ h => h) (Or.inl ⟨by kernel_rfl, ?_⟩) (by assumption) ?_; rotate_left; (focus (intro w hSw; (try dsimp only at hSw); obtain ⟨a0, a1, a2, a3, a4, a5, a6, a7, a8⟩ := cells9 (Stay.at hSw 3 rfl); obtain ⟨e0, e1, e2, e3⟩ := cells4 (Stay.at hSw 1 rfl); obtain ⟨c0, c1, c2, c3⟩ := cells4 (Stay.at hSw 2 rfl); have y9 := cell_of_row _ (g + 1) 0 _ _ _ (Stay.at hSw 0 rfl); go_simp; (try with_reducible rfl)))
  simp only [Act.put, List.setIfInBounds_toArray, List.set_cons_zero, List.set_cons_succ]
  refine wpAnyH_take (i := 12) (oi := ⟨some 62, _, _, _, _, _⟩) (v := ?_) rfl (by kernel_rfl) (by kernel_rfl) (by kernel_rfl) (fun _ _ _ h => h) (Or.inl ⟨by kernel_rfl, ?_⟩) (by assumption) ?_; rotate_left; (focus (intro w hSw; (try dsimp only at hSw); go_simp; (try with_reducible rfl)))
  simp only [Act.put, List.setIfInBounds_toArray, List.set_cons_zero, List.set_cons_succ]
  refine wpAnyH_take (i := 13) (oi := ⟨some 63, _, _, _, _, _⟩) (v := ?_) rfl (by kernel_rfl) (by kernel_rfl) (by kernel_rfl) (fun _ _ _ h => h) (Or.inl ⟨by kernel_rfl, ?_⟩) (by assumption) ?_; rotate_left; (focus (intro w hSw; (try dsimp only at hSw); go_simp; (try with_reducible rfl)))
  simp only [Act.put, List.setIfInBounds_toArray, List.set_cons_zero, List.set_cons_succ]
  refine wpAnyH_take (i := 14) (oi := ⟨some 64, _, _, _, _, _⟩) (v := ?_) rfl (by kernel_rfl) (by kernel_rfl) (by kernel_rfl) (fun _ _ _ h => h) (Or.inl ⟨by kernel_rfl, ?_⟩) (by assumption) ?_; rotate_left; (focus (intro w hSw; (try dsimp only at hSw); obtain ⟨a0, a1, a2, a3, a4, a5, a6, a7, a8⟩ := cells9 (Stay.at hSw 3 rfl); obtain ⟨e0, e1, e2, e3⟩ := cells4 (Stay.at hSw 1 rfl); obtain ⟨c0, c1, c2, c3⟩ := cells4 (Stay.at hSw 2 rfl); have y9 := cell_of_row _ (g + 1) 0 _ _ _ (Stay.at hSw 0 rfl); go_simp; (try with_reducible rfl)))
  simp only [Act.put, List.setIfInBounds_toArray, List.set_cons_zero, List.set_cons_succ]
  refine wpAnyH_ready (rs := [3]) (by kernel_rfl) (by simp) ?_
  refine AllReadyH.cons (o := ⟨some 53, _, _, _, _, _⟩) rfl (fun K hK => ?_) AllReadyH.nil
  rw [if_pos (by kernel_rfl)]
  go_simp
  refine (KTm.out _).mono ?_
  rintro r w9 ⟨rfl, hw⟩
  obtain rfl := hw.symm
  go_simp
  refine hK.out _ _ (by assumption) (fun hHeld => ?_)
  clear hK K
  refine wpAnyH_take (i := 4) (oi := ⟨some 54, _, _, _, _, _⟩) (v := ?_) rfl (by kernel_rfl) (by kernel_rfl) (by kernel_rfl) (fun _ _ _ h => h) (Or.inl ⟨by kernel_rfl, ?_⟩) (by assumption) ?_; rotate_left; (focus (intro w hSw; (try dsimp only at hSw); go_simp; (try with_reducible rfl)))
  simp only [Act.put, List.setIfInBounds_toArray, List.set_cons_zero, List.set_cons_succ]
  refine wpAnyH_ready (rs := [10]) (by kernel_rfl) (by simp) ?_
  refine AllReadyH.cons (o := ⟨some 60, _, _, _, _, _⟩) rfl (fun K hK => ?_) AllReadyH.nil
  rw [if_pos (by kernel_rfl)]
  go_simp
  refine (KW.out.1 _).mono ?_
  rintro r w9 ⟨rfl, hw⟩
  obtain rfl := hw
  go_simp
  refine hK.out _ _ (by assumption) (fun hHeld => ?_)
  clear hK K
  refine wpAnyH_take (i := 11) (oi := ⟨some 61, _, _, _, _, _⟩) (v := ?_) rfl (by kernel_rfl) (by kernel_rfl) (by kernel_rfl) (fun _ _ _ h => h) (Or.inl ⟨by kernel_rfl, ?_⟩) (by assumption) ?_; rotate_left; (focus (intro w hSw; (try dsimp only at hSw); go_simp; (try with_reducible rfl)))
  simp only [Act.put, List.setIfInBounds_toArray, List.set_cons_zero, List.set_cons_succ]
  refine wpAnyH_ready (rs := [15]) (by kernel_rfl) (by simp) ?_
  refine AllReadyH.cons (o := ⟨some 65, _, _, _, _, _⟩) rfl (fun K hK => ?_) AllReadyH.nil
  rw [if_pos (by kernel_rfl)]
  go_simp
  refine (KK1.out w _ (g + 1) w.heap.size (Stay.sub hHeld (fun x hx => by simp only [List.mem_cons, List.not_mem_nil, or_false] at hx ⊢; rcases hx with rfl | rfl <;> simp))).mono ?_
  rintro r w9 ⟨rfl, b9⟩
  have hS9 := Stay.next hHeld b9
  clear b9
  go_simp
  refine hK.out _ _ (by assumption) (fun hHeld => ?_)
  clear hK K
  refine wpAnyH_take (i := 16) (oi := ⟨some 66, _, _, _, _, _⟩) (v := ?_) rfl (by kernel_rfl) (by kernel_rfl) (by kernel_rfl) (fun _ _ _ h => h) (Or.inl ⟨by kernel_rfl, ?_⟩) (by assumption) ?_; rotate_left; (focus (intro w hSw; (try dsimp only at hSw); go_simp; (try with_reducible rfl)))
  simp only [Act.put, List.setIfInBounds_toArray, List.set_cons_zero, List.set_cons_succ]
  refine wpAnyH_take (i := 17) (oi := ⟨some 13, _, _, _, _, _⟩) (v := ?_) rfl (by kernel_rfl) (by kernel_rfl) (by kernel_rfl) (fun _ _ _ h => h) (Or.inl ⟨by kernel_rfl, ?_⟩) (by assumption) ?_; rotate_left; (focus (intro w hSw; (try dsimp only at hSw); go_simp; (try with_reducible rfl)))
  simp only [Act.put, List.setIfInBounds_toArray, List.set_cons_zero, List.set_cons_succ]
  refine wpAnyH_done (by kernel_rfl) ?_ _
  
  have S5 := Lib.hid hHeld
  clear hHeld S4
  obtain ⟨a0, a1, a2, a3, a4, a5, a6, a7, a8⟩ := cells9 (S5.out.at 3 rfl)
  go_wp2_with fail
  refine (KR.out _ (HM.out.below S5.out.b)).mono ?_
  rintro r w6 ⟨rfl, b6⟩
  have S6 := Lib.hid (S5.out.next b6)
  clear b6 S5 a0 a1 a2 a3 a4 a5 a6 a7 a8
  go_wp2_with fail
  refine wp_region_held_drew (S := fun W : World => Stay w [(g + 1, FB), (g, eb e), (w.heap.size + 1, .cells #[.int .i32 o0, .int .i32 o1, .int .i32 o2, .int .i32 o3] 42), (w.heap.size, Obj.cells #[.int .i64 c.hosts, .int .i64 c.cycle, .int .i64 c.delay, .int .i64 c.window, .int .i64 c.precision, .slice D nd cd, .slice (some ⟨b, off, none⟩) ne ce, .slice L nl cl, .int .i64 c.queue] 26)] W) (by kernel_rfl) (S6.out.drew) (fun hHeld => ?_)
  refine wpAnyH_take (i := 0) (oi := ⟨some 74, _, _, _, _, _⟩) (v := ?_) rfl (by kernel_rfl) (by kernel_rfl) (by kernel_rfl) (fun _ _ _ h => h) (Or.inl ⟨by kernel_rfl, ?_⟩) (by assumption) ?_; rotate_left; (focus (intro w hSw; (try dsimp only at hSw); go_simp; (try with_reducible rfl)))
  simp only [Act.put, List.setIfInBounds_toArray, List.set_cons_zero, List.set_cons_succ]
  refine wpAnyH_take (i := 1) (oi := ⟨some 75, _, _, _, _, _⟩) (v := ?_) rfl (by kernel_rfl) (by kernel_rfl) (by kernel_rfl) (fun _ _ _ h => h) (Or.inl ⟨by kernel_rfl, ?_⟩) (by assumption) ?_; rotate_left; (focus (intro w hSw; (try dsimp only at hSw); go_simp; (try with_reducible rfl)))
  simp only [Act.put, List.setIfInBounds_toArray, List.set_cons_zero, List.set_cons_succ]
  refine wpAnyH_take (i := 2) (oi := ⟨some 76, _, _, _, _, _⟩) (v := ?_) rfl (by kernel_rfl) (by kernel_rfl) (by kernel_rfl) (fun _ _ _ h => h) (Or.inl ⟨by kernel_rfl, ?_⟩) (by assumption) ?_; rotate_left; (focus (intro w hSw; (try dsimp only at hSw); go_simp; (try with_reducible rfl)))
  simp only [Act.put, List.setIfInBounds_toArray, List.set_cons_zero, List.set_cons_succ]
  refine wpAnyH_take (i := 3) (oi := ⟨some 77, _, _, _, _, _⟩) (v := ?_) rfl (by kernel_rfl) (by kernel_rfl) (by kernel_rfl) (fun _ _ _ h => h) (Or.inl ⟨by kernel_rfl, ?_⟩) (by assumption) ?_; rotate_left; (focus (intro w hSw; (try dsimp only at hSw); go_simp; (try with_reducible rfl)))
  simp only [Act.put, List.setIfInBounds_toArray, List.set_cons_zero, List.set_cons_succ]
  refine wpAnyH_take (i := 4) (oi := ⟨some 78, _, _, _, _, _⟩) (v := ?_) rfl (by kernel_rfl) (by kernel_rfl) (by kernel_rfl) (fun _ _ _ h => h) (Or.inl ⟨by kernel_rfl, ?_⟩) (by assumption) ?_; rotate_left; (focus (intro w hSw; (try dsimp only at hSw); go_simp; (try with_reducible rfl)))
  simp only [Act.put, List.setIfInBounds_toArray, List.set_cons_zero, List.set_cons_succ]
  refine wpAnyH_take (i := 5) (oi := ⟨some 79, _, _, _, _, _⟩) (v := ?_) rfl (by kernel_rfl) (by kernel_rfl) (by kernel_rfl) (fun _ _ _ h => h) (Or.inl ⟨by kernel_rfl, ?_⟩) (by assumption) ?_; rotate_left; (focus (intro w hSw; (try dsimp only at hSw); go_simp; (try with_reducible rfl)))
  simp only [Act.put, List.setIfInBounds_toArray, List.set_cons_zero, List.set_cons_succ]
  refine wpAnyH_take (i := 6) (oi := ⟨some 80, _, _, _, _, _⟩) (v := ?_) rfl (by kernel_rfl) (by kernel_rfl) (by kernel_rfl) (fun _ _ _ h => h) (Or.inl ⟨by kernel_rfl, ?_⟩) (by assumption) ?_; rotate_left; (focus (intro w hSw; (try dsimp only at hSw); obtain ⟨a0, a1, a2, a3, a4, a5, a6, a7, a8⟩ := cells9 (Stay.at hSw 3 rfl); obtain ⟨e0, e1, e2, e3⟩ := cells4 (Stay.at hSw 1 rfl); obtain ⟨c0, c1, c2, c3⟩ := cells4 (Stay.at hSw 2 rfl); have y9 := cell_of_row _ (g + 1) 0 _ _ _ (Stay.at hSw 0 rfl); go_simp; (try with_reducible rfl)))
  simp only [Act.put, List.setIfInBounds_toArray, List.set_cons_zero, List.set_cons_succ]
  refine wpAnyH_take (i := 7) (oi := ⟨some 81, _, _, _, _, _⟩) (v := ?_) rfl (by kernel_rfl) (by kernel_rfl) (by kernel_rfl) (fun _ _ _ h => h) (Or.inl ⟨by kernel_rfl, ?_⟩) (by assumption) ?_; rotate_left; (focus (intro w hSw; (try dsimp only at hSw); go_simp; (try with_reducible rfl)))
  simp only [Act.put, List.setIfInBounds_toArray, List.set_cons_zero, List.set_cons_succ]
  refine wpAnyH_take (i := 8) (oi := ⟨some 82, _, _, _, _, _⟩) (v := ?_) rfl (by kernel_rfl) (by kernel_rfl) (by kernel_rfl) (fun _ _ _ h => h) (Or.inl ⟨by kernel_rfl, ?_⟩) (by assumption) ?_; rotate_left; (focus (intro w hSw; (try dsimp only at hSw); obtain ⟨a0, a1, a2, a3, a4, a5, a6, a7, a8⟩ := cells9 (Stay.at hSw 3 rfl); obtain ⟨e0, e1, e2, e3⟩ := cells4 (Stay.at hSw 1 rfl); obtain ⟨c0, c1, c2, c3⟩ := cells4 (Stay.at hSw 2 rfl); have y9 := cell_of_row _ (g + 1) 0 _ _ _ (Stay.at hSw 0 rfl); go_simp; (try with_reducible rfl)))
  simp only [Act.put, List.setIfInBounds_toArray, List.set_cons_zero, List.set_cons_succ]
  refine wpAnyH_take (i := 9) (oi := ⟨some 83, _, _, _, _, _⟩) (v := ?_) rfl (by kernel_rfl) (by kernel_rfl) (by kernel_rfl) (fun _ _ _ h => h) (Or.inl ⟨by kernel_rfl, ?_⟩) (by assumption) ?_; rotate_left; (focus (intro w hSw; (try dsimp only at hSw); obtain ⟨a0, a1, a2, a3, a4, a5, a6, a7, a8⟩ := cells9 (Stay.at hSw 3 rfl); obtain ⟨e0, e1, e2, e3⟩ := cells4 (Stay.at hSw 1 rfl); obtain ⟨c0, c1, c2, c3⟩ := cells4 (Stay.at hSw 2 rfl); have y9 := cell_of_row _ (g + 1) 0 _ _ _ (Stay.at hSw 0 rfl); go_simp; (try with_reducible rfl)))
  simp only [Act.put, List.setIfInBounds_toArray, List.set_cons_zero, List.set_cons_succ]
  refine wpAnyH_ready (rs := [10]) (by kernel_rfl) (by simp) ?_
  refine AllReadyH.cons (o := ⟨some 84, _, _, _, _, _⟩) rfl (fun K hK => ?_) AllReadyH.nil
  rw [if_pos (by kernel_rfl)]
  go_simp
  refine (KTs.out _).mono ?_
  rintro r w9 ⟨rfl, b9⟩
  have hS9 := Stay.next hHeld b9
  clear b9
  go_simp
  refine hK.out _ _ (by assumption) (fun hHeld => ?_)
  clear hK K
  refine wpAnyH_take (i := 11) (oi := ⟨some 85, _, _, _, _, _⟩) (v := ?_) rfl (by kernel_rfl) (by kernel_rfl) (by kernel_rfl) (fun _ _ _ h => h) (Or.inl ⟨by kernel_rfl, ?_⟩) (by assumption) ?_; rotate_left; (focus (intro w hSw; (try dsimp only at hSw); obtain ⟨a0, a1, a2, a3, a4, a5, a6, a7, a8⟩ := cells9 (Stay.at hSw 3 rfl); obtain ⟨e0, e1, e2, e3⟩ := cells4 (Stay.at hSw 1 rfl); obtain ⟨c0, c1, c2, c3⟩ := cells4 (Stay.at hSw 2 rfl); have y9 := cell_of_row _ (g + 1) 0 _ _ _ (Stay.at hSw 0 rfl); go_simp; (try with_reducible rfl)))
  simp only [Act.put, List.setIfInBounds_toArray, List.set_cons_zero, List.set_cons_succ]
  refine wpAnyH_take (i := 12) (oi := ⟨some 86, _, _, _, _, _⟩) (v := ?_) rfl (by kernel_rfl) (by kernel_rfl) (by kernel_rfl) (fun _ _ _ h => h) (Or.inl ⟨by kernel_rfl, ?_⟩) (by assumption) ?_; rotate_left; (focus (intro w hSw; (try dsimp only at hSw); go_simp; (try with_reducible rfl)))
  simp only [Act.put, List.setIfInBounds_toArray, List.set_cons_zero, List.set_cons_succ]
  refine wpAnyH_take (i := 13) (oi := ⟨some 87, _, _, _, _, _⟩) (v := ?_) rfl (by kernel_rfl) (by kernel_rfl) (by kernel_rfl) (fun _ _ _ h => h) (Or.inl ⟨by kernel_rfl, ?_⟩) (by assumption) ?_; rotate_left; (focus (intro w hSw; (try dsimp only at hSw); go_simp; (try with_reducible rfl)))
  simp only [Act.put, List.setIfInBounds_toArray, List.set_cons_zero, List.set_cons_succ]
  refine wpAnyH_take (i := 14) (oi := ⟨some 88, _, _, _, _, _⟩) (v := ?_) rfl (by kernel_rfl) (by kernel_rfl) (by kernel_rfl) (fun _ _ _ h => h) (Or.inl ⟨by kernel_rfl, ?_⟩) (by assumption) ?_; rotate_left; (focus (intro w hSw; (try dsimp only at hSw); go_simp; (try with_reducible rfl)))
  simp only [Act.put, List.setIfInBounds_toArray, List.set_cons_zero, List.set_cons_succ]
  refine wpAnyH_done (by kernel_rfl) ?_ _
  
  have S7 := Lib.hid hHeld
  clear hHeld S6
  go_wp2_with fail
  refine wp_region_held_drew (S := fun W : World => Stay w [(g + 1, FB), (g, eb e), (w.heap.size + 1, .cells #[.int .i32 o0, .int .i32 o1, .int .i32 o2, .int .i32 o3] 42), (w.heap.size, Obj.cells #[.int .i64 c.hosts, .int .i64 c.cycle, .int .i64 c.delay, .int .i64 c.window, .int .i64 c.precision, .slice D nd cd, .slice (some ⟨b, off, none⟩) ne ce, .slice L nl cl, .int .i64 c.queue] 26)] W) (by kernel_rfl) (S7.out.drew) (fun hHeld => ?_)
  refine wpAnyH_take (i := 0) (oi := ⟨some 90, _, _, _, _, _⟩) (v := ?_) rfl (by kernel_rfl) (by kernel_rfl) (by kernel_rfl) (fun _ _ _ h => h) (Or.inl ⟨by kernel_rfl, ?_⟩) (by assumption) ?_; rotate_left; (focus (intro w hSw; (try dsimp only at hSw); obtain ⟨a0, a1, a2, a3, a4, a5, a6, a7, a8⟩ := cells9 (Stay.at hSw 3 rfl); obtain ⟨e0, e1, e2, e3⟩ := cells4 (Stay.at hSw 1 rfl); obtain ⟨c0, c1, c2, c3⟩ := cells4 (Stay.at hSw 2 rfl); have y9 := cell_of_row _ (g + 1) 0 _ _ _ (Stay.at hSw 0 rfl); go_simp; (try with_reducible rfl)))
  simp only [Act.put, List.setIfInBounds_toArray, List.set_cons_zero, List.set_cons_succ]
  refine wpAnyH_take (i := 1) (oi := ⟨some 91, _, _, _, _, _⟩) (v := ?_) rfl (by kernel_rfl) (by kernel_rfl) (by kernel_rfl) (fun _ _ _ h => h) (Or.inl ⟨by kernel_rfl, ?_⟩) (by assumption) ?_; rotate_left; (focus (intro w hSw; (try dsimp only at hSw); go_simp; (try with_reducible rfl)))
  simp only [Act.put, List.setIfInBounds_toArray, List.set_cons_zero, List.set_cons_succ]
  refine wpAnyH_take (i := 2) (oi := ⟨some 92, _, _, _, _, _⟩) (v := ?_) rfl (by kernel_rfl) (by kernel_rfl) (by kernel_rfl) (fun _ _ _ h => h) (Or.inl ⟨by kernel_rfl, ?_⟩) (by assumption) ?_; rotate_left; (focus (intro w hSw; (try dsimp only at hSw); go_simp; (try with_reducible rfl)))
  simp only [Act.put, List.setIfInBounds_toArray, List.set_cons_zero, List.set_cons_succ]
  refine wpAnyH_take (i := 3) (oi := ⟨some 93, _, _, _, _, _⟩) (v := ?_) rfl (by kernel_rfl) (by kernel_rfl) (by kernel_rfl) (fun _ _ _ h => h) (Or.inl ⟨by kernel_rfl, ?_⟩) (by assumption) ?_; rotate_left; (focus (intro w hSw; (try dsimp only at hSw); go_simp; (try with_reducible rfl)))
  simp only [Act.put, List.setIfInBounds_toArray, List.set_cons_zero, List.set_cons_succ]
  refine wpAnyH_take (i := 4) (oi := ⟨some 94, _, _, _, _, _⟩) (v := ?_) rfl (by kernel_rfl) (by kernel_rfl) (by kernel_rfl) (fun _ _ _ h => h) (Or.inl ⟨by kernel_rfl, ?_⟩) (by assumption) ?_; rotate_left; (focus (intro w hSw; (try dsimp only at hSw); obtain ⟨a0, a1, a2, a3, a4, a5, a6, a7, a8⟩ := cells9 (Stay.at hSw 3 rfl); obtain ⟨e0, e1, e2, e3⟩ := cells4 (Stay.at hSw 1 rfl); obtain ⟨c0, c1, c2, c3⟩ := cells4 (Stay.at hSw 2 rfl); have y9 := cell_of_row _ (g + 1) 0 _ _ _ (Stay.at hSw 0 rfl); go_simp; (try with_reducible rfl)))
  simp only [Act.put, List.setIfInBounds_toArray, List.set_cons_zero, List.set_cons_succ]
  refine wpAnyH_take (i := 7) (oi := ⟨some 97, _, _, _, _, _⟩) (v := ?_) rfl (by kernel_rfl) (by kernel_rfl) (by kernel_rfl) (fun _ _ _ h => h) (Or.inl ⟨by kernel_rfl, ?_⟩) (by assumption) ?_; rotate_left; (focus (intro w hSw; (try dsimp only at hSw); obtain ⟨a0, a1, a2, a3, a4, a5, a6, a7, a8⟩ := cells9 (Stay.at hSw 3 rfl); obtain ⟨e0, e1, e2, e3⟩ := cells4 (Stay.at hSw 1 rfl); obtain ⟨c0, c1, c2, c3⟩ := cells4 (Stay.at hSw 2 rfl); have y9 := cell_of_row _ (g + 1) 0 _ _ _ (Stay.at hSw 0 rfl); go_simp; (try with_reducible rfl)))
  simp only [Act.put, List.setIfInBounds_toArray, List.set_cons_zero, List.set_cons_succ]
  refine wpAnyH_take (i := 8) (oi := ⟨some 98, _, _, _, _, _⟩) (v := ?_) rfl (by kernel_rfl) (by kernel_rfl) (by kernel_rfl) (fun _ _ _ h => h) (Or.inl ⟨by kernel_rfl, ?_⟩) (by assumption) ?_; rotate_left; (focus (intro w hSw; (try dsimp only at hSw); go_simp; (try with_reducible rfl)))
  simp only [Act.put, List.setIfInBounds_toArray, List.set_cons_zero, List.set_cons_succ]
  refine wpAnyH_take (i := 9) (oi := ⟨some 99, _, _, _, _, _⟩) (v := ?_) rfl (by kernel_rfl) (by kernel_rfl) (by kernel_rfl) (fun _ _ _ h => h) (Or.inl ⟨by kernel_rfl, ?_⟩) (by assumption) ?_; rotate_left; (focus (intro w hSw; (try dsimp only at hSw); obtain ⟨a0, a1, a2, a3, a4, a5, a6, a7, a8⟩ := cells9 (Stay.at hSw 3 rfl); obtain ⟨e0, e1, e2, e3⟩ := cells4 (Stay.at hSw 1 rfl); obtain ⟨c0, c1, c2, c3⟩ := cells4 (Stay.at hSw 2 rfl); have y9 := cell_of_row _ (g + 1) 0 _ _ _ (Stay.at hSw 0 rfl); go_simp; (try with_reducible rfl)))
  simp only [Act.put, List.setIfInBounds_toArray, List.set_cons_zero, List.set_cons_succ]
  refine wpAnyH_take (i := 10) (oi := ⟨some 100, _, _, _, _, _⟩) (v := ?_) rfl (by kernel_rfl) (by kernel_rfl) (by kernel_rfl) (fun _ _ _ h => h) (Or.inl ⟨by kernel_rfl, ?_⟩) (by assumption) ?_; rotate_left; (focus (intro w hSw; (try dsimp only at hSw); go_simp; (try with_reducible rfl)))
  simp only [Act.put, List.setIfInBounds_toArray, List.set_cons_zero, List.set_cons_succ]
  refine wpAnyH_take (i := 11) (oi := ⟨some 101, _, _, _, _, _⟩) (v := ?_) rfl (by kernel_rfl) (by kernel_rfl) (by kernel_rfl) (fun _ _ _ h => h) (Or.inl ⟨by kernel_rfl, ?_⟩) (by assumption) ?_; rotate_left; (focus (intro w hSw; (try dsimp only at hSw); obtain ⟨a0, a1, a2, a3, a4, a5, a6, a7, a8⟩ := cells9 (Stay.at hSw 3 rfl); obtain ⟨e0, e1, e2, e3⟩ := cells4 (Stay.at hSw 1 rfl); obtain ⟨c0, c1, c2, c3⟩ := cells4 (Stay.at hSw 2 rfl); have y9 := cell_of_row _ (g + 1) 0 _ _ _ (Stay.at hSw 0 rfl); go_simp; (try with_reducible rfl)))
  simp only [Act.put, List.setIfInBounds_toArray, List.set_cons_zero, List.set_cons_succ]
  refine wpAnyH_take (i := 14) (oi := ⟨some 104, _, _, _, _, _⟩) (v := ?_) rfl (by kernel_rfl) (by kernel_rfl) (by kernel_rfl) (fun _ _ _ h => h) (Or.inl ⟨by kernel_rfl, ?_⟩) (by assumption) ?_; rotate_left; (focus (intro w hSw; (try dsimp only at hSw); go_simp; (try with_reducible rfl)))
  simp only [Act.put, List.setIfInBounds_toArray, List.set_cons_zero, List.set_cons_succ]
  refine wpAnyH_take (i := 15) (oi := ⟨some 105, _, _, _, _, _⟩) (v := ?_) rfl (by kernel_rfl) (by kernel_rfl) (by kernel_rfl) (fun _ _ _ h => h) (Or.inl ⟨by kernel_rfl, ?_⟩) (by assumption) ?_; rotate_left; (focus (intro w hSw; (try dsimp only at hSw); go_simp; (try with_reducible rfl)))
  simp only [Act.put, List.setIfInBounds_toArray, List.set_cons_zero, List.set_cons_succ]
  refine wpAnyH_take (i := 16) (oi := ⟨some 106, _, _, _, _, _⟩) (v := ?_) rfl (by kernel_rfl) (by kernel_rfl) (by kernel_rfl) (fun _ _ _ h => h) (Or.inl ⟨by kernel_rfl, ?_⟩) (by assumption) ?_; rotate_left; (focus (intro w hSw; (try dsimp only at hSw); obtain ⟨a0, a1, a2, a3, a4, a5, a6, a7, a8⟩ := cells9 (Stay.at hSw 3 rfl); obtain ⟨e0, e1, e2, e3⟩ := cells4 (Stay.at hSw 1 rfl); obtain ⟨c0, c1, c2, c3⟩ := cells4 (Stay.at hSw 2 rfl); have y9 := cell_of_row _ (g + 1) 0 _ _ _ (Stay.at hSw 0 rfl); go_simp; (try with_reducible rfl)))
  simp only [Act.put, List.setIfInBounds_toArray, List.set_cons_zero, List.set_cons_succ]
  refine wpAnyH_ready (rs := [5]) (by kernel_rfl) (by simp) ?_
  refine AllReadyH.cons (o := ⟨some 95, _, _, _, _, _⟩) rfl (fun K hK => ?_) AllReadyH.nil
  rw [if_pos (by kernel_rfl)]
  go_simp
  refine (KTm.out _).mono ?_
  rintro r w9 ⟨rfl, hw⟩
  obtain rfl := hw.symm
  go_simp
  refine hK.out _ _ (by assumption) (fun hHeld => ?_)
  clear hK K
  refine wpAnyH_take (i := 6) (oi := ⟨some 96, _, _, _, _, _⟩) (v := ?_) rfl (by kernel_rfl) (by kernel_rfl) (by kernel_rfl) (fun _ _ _ h => h) (Or.inl ⟨by kernel_rfl, ?_⟩) (by assumption) ?_; rotate_left; (focus (intro w hSw; (try dsimp only at hSw); go_simp; (try with_reducible rfl)))
  simp only [Act.put, List.setIfInBounds_toArray, List.set_cons_zero, List.set_cons_succ]
  refine wpAnyH_ready (rs := [12]) (by kernel_rfl) (by simp) ?_
  refine AllReadyH.cons (o := ⟨some 102, _, _, _, _, _⟩) rfl (fun K hK => ?_) AllReadyH.nil
  rw [if_pos (by kernel_rfl)]
  go_simp
  refine (KW.out.2 _).mono ?_
  rintro r w9 ⟨rfl, hw⟩
  obtain rfl := hw
  go_simp
  refine hK.out _ _ (by assumption) (fun hHeld => ?_)
  clear hK K
  refine wpAnyH_take (i := 13) (oi := ⟨some 103, _, _, _, _, _⟩) (v := ?_) rfl (by kernel_rfl) (by kernel_rfl) (by kernel_rfl) (fun _ _ _ h => h) (Or.inl ⟨by kernel_rfl, ?_⟩) (by assumption) ?_; rotate_left; (focus (intro w hSw; (try dsimp only at hSw); go_simp; (try with_reducible rfl)))
  simp only [Act.put, List.setIfInBounds_toArray, List.set_cons_zero, List.set_cons_succ]
  refine wpAnyH_ready (rs := [17]) (by kernel_rfl) (by simp) ?_
  refine AllReadyH.cons (o := ⟨some 107, _, _, _, _, _⟩) rfl (fun K hK => ?_) AllReadyH.nil
  rw [if_pos (by kernel_rfl)]
  go_simp
  refine (KK3.out w _ (g + 1) w.heap.size (Stay.sub hHeld (fun x hx => by simp only [List.mem_cons, List.not_mem_nil, or_false] at hx ⊢; rcases hx with rfl | rfl <;> simp))).mono ?_
  rintro r w9 ⟨rfl, b9⟩
  have hS9 := Stay.next hHeld b9
  clear b9
  go_simp
  refine hK.out _ _ (by assumption) (fun hHeld => ?_)
  clear hK K
  refine wpAnyH_take (i := 18) (oi := ⟨some 108, _, _, _, _, _⟩) (v := ?_) rfl (by kernel_rfl) (by kernel_rfl) (by kernel_rfl) (fun _ _ _ h => h) (Or.inl ⟨by kernel_rfl, ?_⟩) (by assumption) ?_; rotate_left; (focus (intro w hSw; (try dsimp only at hSw); go_simp; (try with_reducible rfl)))
  simp only [Act.put, List.setIfInBounds_toArray, List.set_cons_zero, List.set_cons_succ]
  refine wpAnyH_ready (rs := [19]) (by kernel_rfl) (by simp) ?_
  refine AllReadyH.cons (o := ⟨some 109, _, _, _, _, _⟩) rfl (fun K hK => ?_) AllReadyH.nil
  rw [if_pos (by kernel_rfl)]
  go_simp
  refine (KL.out _ (HM.out.below (Stay.b hHeld))).mono ?_
  rintro r w9 ⟨rfl, b9⟩
  have hS10 := Stay.next hHeld b9
  clear b9
  go_simp
  refine hK.out _ _ (by assumption) (fun hHeld => ?_)
  clear hK K
  refine wpAnyH_take (i := 20) (oi := ⟨some 89, _, _, _, _, _⟩) (v := ?_) rfl (by kernel_rfl) (by kernel_rfl) (by kernel_rfl) (fun _ _ _ h => h) (Or.inl ⟨by kernel_rfl, ?_⟩) (by assumption) ?_; rotate_left; (focus (intro w hSw; (try dsimp only at hSw); go_simp; (try with_reducible rfl)))
  simp only [Act.put, List.setIfInBounds_toArray, List.set_cons_zero, List.set_cons_succ]
  refine wpAnyH_take (i := 21) (oi := ⟨some 110, _, _, _, _, _⟩) (v := ?_) rfl (by kernel_rfl) (by kernel_rfl) (by kernel_rfl) (fun _ _ _ h => h) (Or.inl ⟨by kernel_rfl, ?_⟩) (by assumption) ?_; rotate_left; (focus (intro w hSw; (try dsimp only at hSw); go_simp; (try with_reducible rfl)))
  simp only [Act.put, List.setIfInBounds_toArray, List.set_cons_zero, List.set_cons_succ]
  refine wpAnyH_take (i := 23) (oi := ⟨some 16, _, _, _, _, _⟩) (v := ?_) rfl (by kernel_rfl) (by kernel_rfl) (by kernel_rfl) (fun _ _ _ h => h) (Or.inl ⟨by kernel_rfl, ?_⟩) (by assumption) ?_; rotate_left; (focus (intro w hSw; (try dsimp only at hSw); go_simp; (try with_reducible rfl)))
  simp only [Act.put, List.setIfInBounds_toArray, List.set_cons_zero, List.set_cons_succ]
  refine wpAnyH_take (i := 22) (oi := ⟨some 111, _, _, _, _, _⟩) (v := ?_) rfl (by kernel_rfl) (by kernel_rfl) (by kernel_rfl) (fun _ _ _ h => h) (Or.inl ⟨by kernel_rfl, ?_⟩) (by assumption) ?_; rotate_left; (focus (intro w hSw; (try dsimp only at hSw); go_simp; (try with_reducible rfl)))
  simp only [Act.put, List.setIfInBounds_toArray, List.set_cons_zero, List.set_cons_succ]
  refine wpAnyH_take (i := 24) (oi := ⟨some 17, _, _, _, _, _⟩) (v := ?_) rfl (by kernel_rfl) (by kernel_rfl) (by kernel_rfl) (fun _ _ _ h => h) (Or.inl ⟨by kernel_rfl, ?_⟩) (by assumption) ?_; rotate_left; (focus (intro w hSw; (try dsimp only at hSw); go_simp; (try with_reducible rfl)))
  simp only [Act.put, List.setIfInBounds_toArray, List.set_cons_zero, List.set_cons_succ]
  refine wpAnyH_done (by kernel_rfl) ?_ _
  
  go_wp2
  go_ret
  exact ⟨by first | rfl | (simp; done), hHeld.b⟩
set_option maxRecDepth 100000 in
/-- What the walk gives, for every argument and every world. -/
theorem contract (H : Type) (enc : TypeId × Value → H) (W : World) (base : Nat) (args : Array Value) (ds gs : List (DataW H)) (before : List MemPlace)
    (hval : ∀ (j : Nat) t v, Try.f6.params[j]? = some t → args[j]? = some v → Value.okWide Try.prog W .any base t v)
    (hW : DataW.Whole enc Try.prog Try.f6.params.toList Rows.planLandsSpec.vars false W args.toList ds gs before) : 
    Calls Try.prog 6 args W fun e W' => ∃ v, e = .returned v ∧ Rows.planLandsSpec.post enc Try.prog Try.f6 false true false false W args v W' := by
  have hW' := hW
  obtain ⟨p, q, hA0, hV, rfl, hfz, hnd⟩ := hW
  have hA : DataW.TrodAll enc Try.prog W 0 (fun _ => true) true Try.f6.params.toList args.toList ds p := hA0
  rw [Try.params6] at hA hval
  obtain ⟨v0, vs0, d0, ds0, p0, q0, hargs, rfl, rfl, h0, r0⟩ := trodAll_cons hA
  obtain ⟨v1, vs1, d1, ds1, p1, q1, rfl, rfl, rfl, h1, r1⟩ := trodAll_cons r0
  obtain ⟨v2, vs2, d2, ds2, p2, q2, rfl, rfl, rfl, h2, r2⟩ := trodAll_cons r1
  obtain ⟨rfl, rfl, rfl⟩ := trodAll_nil r2
  obtain rfl : args = #[v0, v1, v2] := by cases args; simp_all
  obtain ⟨rfl, rfl⟩ := trodVars_none hV
  obtain ⟨c0, D0, E0, L0, nd0, cd0, ne0, ce0, nl0, cl0, rfl, m0, s0⟩ := open_cfg (hval 0 26 v0 rfl rfl) h0
  obtain ⟨k, rfl, rfl, rfl, w1⟩ := open_int Try.underlying3 (hval 1 3 v1 rfl rfl) h1
  obtain ⟨xs2, rfl, l2, w2⟩ := open_array Try.underlying42 Try.underlying21 (by kernel_rfl) (by kernel_rfl) (hval 2 42 v2 rfl rfl) h2
  refine (walk c0 D0 E0 L0 nd0 cd0 ne0 ce0 nl0 cl0 k xs2 W m0 l2 w2).mono fun e W' ⟨he, hb⟩ => ?_
  exact ⟨_, he, Shell.post_law ConfW.laidOut (by kernel_rfl) rfl Try.underlying4 rfl hW' rfl hb⟩
theorem reads (os : Os) {H : Type} (enc : TypeId × Value → H) : ∃ places, DataW.whole enc Try.prog ((World.holding Try.prog os ⟨#[], #[], []⟩).forCall (fun _ _ => 0) ⟨#[], #[.agg #[.int .i64 0, .int .i64 0, .int .i64 0, .int .i64 0, .int .i64 0, .slice none 0 0, .slice none 0 0, .slice none 0 0, .int .i64 0], .int .i64 0, .agg #[.int .i32 0, .int .i32 0, .int .i32 0, .int .i32 0]], []⟩).memory Try.f6.params.toList Rows.planLandsSpec.vars false (#[Value.agg #[.int .i64 0, .int .i64 0, .int .i64 0, .int .i64 0, .int .i64 0, .slice none 0 0, .slice none 0 0, .slice none 0 0, .int .i64 0], Value.int .i64 0, Value.agg #[.int .i32 0, .int .i32 0, .int .i32 0, .int .i32 0]]).toList 8 = some ([.agg [.lit (.int .i64 0), .lit (.int .i64 0), .lit (.int .i64 0), .lit (.int .i64 0), .lit (.int .i64 0), .nil, .nil, .nil, .lit (.int .i64 0)], .lit (.int .i64 0), .agg [.lit (.int .i32 0), .lit (.int .i32 0), .lit (.int .i32 0), .lit (.int .i32 0)]], [], places) :=
  ⟨[], by kernel_rfl⟩
set_option maxRecDepth 100000 in
theorem lifted (os : Os) (started : os.Started) (H : Type) (enc : TypeId × Value → H) (F : Stop.Interp) :
    ReturnsInHanded {} Try.checked os 6 .any ((OpenSpec.ofChange Rows.planLandsSpec).preRow enc Try.prog Try.f6 Rows.planLandsRow.domain false Rows.planLandsRow.laid) (((OpenSpec.ofChange Rows.planLandsSpec).at F).post enc Try.prog Try.f6 false true false false) := by
  obtain ⟨places, hx⟩ := reads os enc
  refine returnsInHanded_of_row (C := Try.checked) (s := OpenSpec.ofChange Rows.planLandsSpec) ConfW.own started (by kernel_rfl) Try.func6
    (witness_row_atRef (enc := enc) (C := Try.checked) false (World.holding Try.prog os ⟨#[], #[], []⟩) #[.agg #[.int .i64 0, .int .i64 0, .int .i64 0, .int .i64 0, .int .i64 0, .slice none 0 0, .slice none 0 0, .slice none 0 0, .int .i64 0], .int .i64 0, .agg #[.int .i32 0, .int .i32 0, .int .i32 0, .int .i32 0]] rfl (by kernel_rfl) (by kernel_rfl) (by kernel_rfl)
      (OpenSpec.preRow_of_cond 8 hx (by kernel_rfl) (fun k hk => by cases hk) (by kernel_rfl) (ConfW.laid_met os _))) ?_
  intro W base args ds gs before hval hW _ _ _ hL _ _
  exact contract H enc W base args ds gs before hval hW
theorem said : Rows.PlanLandsSaid :=
  OpenClaim.holds_of_cond 6 Try.f6 rfl rfl rfl rfl rfl rfl rfl ⟨rfl, rfl, rfl, rfl, rfl⟩ rfl rfl rfl rfl rfl (by kernel_rfl) Try.func6 (by kernel_rfl)
    (of_decide_eq_true (by kernel_rfl)) (by unfold Func.isWrapper; first | (rw [if_pos (by decide +kernel)]; kernel_rfl) | (rw [if_neg (by decide +kernel)]; exact ⟨rfl, rfl⟩))
    (fun os started H enc _ F => by rw [OpenClaim.pre_eq_preRow]; exact lifted os started H enc F)
end Go.Proofs.Ytdaoemjkefpmcaa.PlanW.PlanLands
