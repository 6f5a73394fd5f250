/- A relay: what becomes of a frame, and of the buckets. Plain mathematics. -/
import Derived.Test.YtecgpibidcifpaaPlanQJa
import Derived.Test.YtecgpibidcifpaaFrameEJa
import Derived.Test.YtecgpibidcifpaaBucketAJa
import Derived.Test.YtecgpibidcifpaaCrewP
import Derived.Test.YtecgpibidcifpaaRowG
import Derived.Test.YtecgpibidcifpaaSmallJa
import Derived.Test.YtecgpibidcifpaaBucketBJa
import Derived.Laws.Cover2
import Derived.Laws.NewBlocks
import Derived.Test.YtecgpibidcifpaaTake
import Derived.Deep.RegionHeld3
import Derived.Deep.RegionLaw
import Derived.Deep.RegionWith
import Derived.Deep.AppendLies
import Derived.Deep.DeepCutAuto
import Derived.Deep.CutBlock
import Derived.Test.YtecgpibidcifpaaFrameLayJa
import Derived.Test.YtecgpibidcifpaaCrewAJa
namespace Go.Proofs.Ytecgpibidcifpaa.RelayW
open ConfW (Cfg R4)
open BucketW (Bk pas tk b0)
open FrameW (cOf lOf nOf pOf rdE rdV okD)
open PlanW (relayV)
/-- A frame's fields. -/
structure Dt where
  c : Int
  l : Int
  n : Int
  p : ByteArray
  s : Int
/-- The frame that bytes are; all noughts where they are none. -/
def dt (l : List Int) : Dt := if rdE l = 0 then ⟨cOf l, lOf l, nOf l, strOfNums (pOf l), l.length⟩ else ⟨0, 0, 0, ⟨#[]⟩, 0⟩
/-- What becomes of a frame: why it goes no further (0 where it does), to whom, when. -/
structure Vd where
  w : Int
  u : Nat
  a : Int
def entAt (c : Cfg) (k : Int) : Option R4 := c.entries[k.toNat]?
def lnkAt (c : Cfg) (k : Int) : Option R4 := c.links[k.toNat]?
/-- A timed frame. -/
def vT (c : Cfg) (lo fr : Int) (d : Dt) : Vd :=
  match entAt c d.l with
  | none => ⟨1, 0, 0⟩
  | some e => if e.a = fr ∧ e.d = d.s then if (relayV c d.l lo).2 then ⟨0, e.b, (relayV c d.l lo).1⟩ else ⟨2, 0, 0⟩ else ⟨1, 0, 0⟩
/-- One of effort. -/
def vE (c : Cfg) (fr : Int) (d : Dt) : Vd := if d.l < c.hosts ∧ d.l ≠ fr then ⟨0, CrewW.of [d.l], 0⟩ else ⟨1, 0, 0⟩
/-- The link whose bucket a rated frame asks. -/
def asks (c : Cfg) (fr : Int) (d : Dt) : Option R4 :=
  match lnkAt c d.l with
  | none => none
  | some k => if k.a = fr ∧ d.s ≤ k.d then some k else none
def bkt (bs : List Bk) (d : Dt) : Bk := (bs[d.l.toNat]?).getD b0
/-- A rated one. -/
def vR (c : Cfg) (bs : List Bk) (t fr : Int) (d : Dt) : Vd :=
  match asks c fr d with
  | none => ⟨1, 0, 0⟩
  | some k => if pas c.delay (bkt bs d) t then ⟨0, k.b, 0⟩ else ⟨4, 0, 0⟩
/-- What becomes of a frame that is read with e (0: right). -/
def jv (c : Cfg) (bs : List Bk) (t lo fr e : Int) (d : Dt) : Vd :=
  if e = 0 then if d.c = 1 then vT c lo fr d else if d.c = 3 then vE c fr d else vR c bs t fr d else ⟨1, 0, 0⟩
/-- What becomes of bytes. -/
def jd (c : Cfg) (bs : List Bk) (t lo fr : Int) (l : List Int) : Vd := jv c bs t lo fr (rdE l) (dt l)
/-- The link whose bucket is asked. -/
def askv (c : Cfg) (fr e : Int) (d : Dt) : Option R4 := if e = 0 then if d.c = 1 then none else if d.c = 3 then none else asks c fr d else none
/-- The buckets behind a frame. -/
def jbv (c : Cfg) (bs : List Bk) (t fr e : Int) (d : Dt) : List Bk :=
  match askv c fr e d with
  | none => bs
  | some k => bs.set d.l.toNat (tk k.c c.delay (bkt bs d) t)
def jb (c : Cfg) (bs : List Bk) (t fr : Int) (l : List Int) : List Bk := jbv c bs t fr (rdE l) (dt l)
theorem rdV_dt (l : List Int) : rdV l = .agg #[.int .i64 (dt l).c, .int .i64 (dt l).l, .int .i64 (dt l).n, .string (dt l).p, .int .i64 (dt l).s] := by
  by_cases h : okD l
  · obtain ⟨h1, h2⟩ := FrameW.rd_ok h
    unfold dt
    rw [h2, if_pos h1]
  · have h2 : rdE l ≠ 0 ∧ rdV l = FrameW.DZ := by
      by_cases hc : FrameW.chk l 2 64 1518 = 0
      · obtain ⟨a, b⟩ := FrameW.rd_bad hc h
        exact ⟨by omega, b⟩
      · obtain ⟨a, b⟩ := FrameW.rd_no hc
        exact ⟨by omega, b⟩
    unfold dt
    rw [h2.2, if_neg h2.1]
    rfl
/-- A right frame's fields. -/
structure DOk (d : Dt) : Prop where
  c : d.c = 1 ∨ d.c = 2 ∨ d.c = 3
  l : 0 ≤ d.l ∧ d.l ≤ 255
  s : 64 ≤ d.s ∧ d.s ≤ 1518
theorem dt_ok {l : List Int} (h : rdE l = 0) : DOk (dt l) := by
  have h2 : okD l := by
    by_cases h2 : okD l
    · exact h2
    · by_cases hc : FrameW.chk l 2 64 1518 = 0
      · have := (FrameW.rd_bad hc h2).1; omega
      · have := (FrameW.rd_no hc).1; omega
  obtain ⟨a, b1, b2, _, _, s1, s2, _⟩ := h2.2.2.2
  unfold dt
  rw [if_pos h]
  exact ⟨a, ⟨b1, b2⟩, s1, s2⟩
/-- A bucket for each link. -/
def bs0 (c : Cfg) : List Bk := c.links.map fun _ => b0
theorem bs0_len (c : Cfg) : (bs0 c).length = c.links.length := by simp [bs0]
theorem jb_len (c : Cfg) (bs : List Bk) (t fr : Int) (l : List Int) : (jb c bs t fr l).length = bs.length := by
  unfold jb jbv
  split <;> simp
/-- How often each reason was told. -/
def tally (ds : List Int) (w : Int) : List Int := ds.set w.toNat ((ds[w.toNat]?).getD 0 + 1)
theorem tally_len (ds : List Int) (w : Int) : (tally ds w).length = ds.length := by simp [tally]
/-- What Dropped tells. -/
def drp (ds : List Int) (w : Int) : Int := if 1 ≤ w ∧ w ≤ 8 then (ds[w.toNat]?).getD 0 else 0
def ds0 : List Int := [0, 0, 0, 0, 0, 0, 0, 0, 0]
theorem jd_why (c : Cfg) (bs : List Bk) (t lo fr : Int) (l : List Int) : (jd c bs t lo fr l).w = 0 ∨ (jd c bs t lo fr l).w = 1 ∨ (jd c bs t lo fr l).w = 2 ∨ (jd c bs t lo fr l).w = 4 := by
  unfold jd jv vT vE vR
  (repeat' split) <;> simp
end Go.Proofs.Ytecgpibidcifpaa.RelayW

/- The document's own buckets of a relay, in memory; how they are laid. -/
namespace Go.Proofs.Ytecgpibidcifpaa.RelayW
open Go.RowKit Shell
open ConfW (Cfg R4 CM ML chk)
open BucketW (Bk pas tk b0 fit)
/-- One of the document's own buckets: its cells. -/
structure TB where
  A : Option Addr
  n : Nat
  r : Nat
  g : Int
  j : Int
  m : Int
def TB.v (e : TB) : Value := .slice e.A e.n e.r
def F14 : Flat TB where
  n := 4
  cs e := [.int .i64 e.g, .int .i64 e.j, .slice e.A e.n e.r, .int .i64 e.m]
  len _ := rfl
  one x u hu := by
    simp only [List.mem_cons, List.not_mem_nil, or_false] at hu
    rcases hu with rfl | rfl | rfl | rfl <;> rfl
  pos := by decide
theorem one14 : OneG Try.prog 34 76 F14.n 48 := oneG_of Try.underlying34 (by kernel_rfl)
/-- A bucket of the document's own stands for a bucket. -/
structure Std (base : Nat) (c : Cfg) (k : R4) (s : Bk) (e : TB) (w : World) : Prop where
  g : e.g = k.c
  j : e.j = c.delay
  m : e.m = s.m
  row : ∃ xs, OR w base 2 .i64 e.v xs ∧ xs.length = s.n ∧ (0 < s.n → xs.getLast? = some s.l)
theorem or_block {w w1 : World} {base : Nat} {e : TypeId} {q : IntKind} {v : Value} {xs : List Int} (h : OR w base e q v xs) (b : ∀ k, v.ownBlock = some k → w1.heap[k]? = w.heap[k]?) : OR w1 base e q v xs := by
  refine ⟨⟨h.1.1, ?_⟩, h.2⟩
  rcases h.1.2 with h1 | ⟨g, cap, cur, rfl, h2, h3, h4⟩
  · exact Or.inl h1
  · exact Or.inr ⟨g, cap, cur, rfl, h2, (b g rfl).trans h3, h4⟩
theorem Std.block {base : Nat} {c : Cfg} {k : R4} {s : Bk} {e : TB} {w w1 : World} (h : Std base c k s e w) (b : ∀ j, e.v.ownBlock = some j → w1.heap[j]? = w.heap[j]?) : Std base c k s e w1 := by
  obtain ⟨xs, h1, h2⟩ := h.row
  exact ⟨h.g, h.j, h.m, xs, or_block h1 b, h2⟩
/-- The document's own list of buckets, at vl. -/
structure RB (base : Nat) (X : Nat → Prop) (c : Cfg) (bs : List Bk) (es : List TB) (vl : Value) (w : World) : Prop where
  og : OG F14 w base 76 vl es
  len : es.length = bs.length
  std : ∀ (i : Nat) (k : R4) (s : Bk) (e : TB), c.links[i]? = some k → bs[i]? = some s → es[i]? = some e → Std base c k s e w
  ap : ∀ (i j : Nat) (e f : TB) (b : Nat), es[i]? = some e → es[j]? = some f → i ≠ j → e.v.ownBlock = some b → f.v.ownBlock ≠ some b
  rw : ∀ (i : Nat) (e : TB) (b : Nat), es[i]? = some e → e.v.ownBlock = some b → vl.ownBlock ≠ some b
  ft : ∀ (i : Nat) (e : TB) (b : Nat), es[i]? = some e → e.v.ownBlock = some b → X b
  fr : ∀ b, vl.ownBlock = some b → X b
  bx : ∀ b, X b → base ≤ b ∧ b < w.heap.size
theorem RB.frame {base : Nat} {X : Nat → Prop} {c : Cfg} {bs : List Bk} {es : List TB} {vl : Value} {w w1 : World} (h : RB base X c bs es vl w) (hs : w.heap.size ≤ w1.heap.size) (b : ∀ j, X j → w1.heap[j]? = w.heap[j]?) : RB base X c bs es vl w1 :=
  ⟨h.og.block (fun k hk => b k (h.fr k hk)), h.len, fun i k s e h1 h2 h3 => (h.std i k s e h1 h2 h3).block (fun j hj => b j (h.ft i e j h3 hj)), h.ap, h.rw, h.ft, h.fr, fun j hj => ⟨(h.bx j hj).1, Nat.lt_of_lt_of_le (h.bx j hj).2 hs⟩⟩
theorem RB.below {base : Nat} {X : Nat → Prop} {c : Cfg} {bs : List Bk} {es : List TB} {vl : Value} {w w1 : World} (h : RB base X c bs es vl w) (b : Below w.heap.size w w1) : RB base X c bs es vl w1 := h.frame b.size (fun j hj => b.block j (h.bx j hj).2)
/-- The list as it is made. -/
def e0 (c : Cfg) (k : R4) : TB := ⟨none, 0, 0, k.c, c.delay, 0⟩
def es0 (c : Cfg) : List TB := c.links.map (e0 c)
theorem rb_new {base : Nat} {c : Cfg} {vl : Value} {w : World} (h : OG F14 w base 76 vl (es0 c)) : RB base (fun b => vl.ownBlock = some b) c (bs0 c) (es0 c) vl w := by
  have nob : ∀ (i : Nat) (e : TB), (es0 c)[i]? = some e → e.v.ownBlock = none := by
    intro i e he
    unfold es0 at he
    rw [List.getElem?_map, Option.map_eq_some_iff] at he
    obtain ⟨k, -, rfl⟩ := he
    rfl
  refine ⟨h, by simp [es0, bs0], fun i k s e h1 h2 h3 => ?_, fun i j e f b h1 h2 _ h4 => (by rw [nob i e h1] at h4; cases h4), fun i e b h1 h4 => (by rw [nob i e h1] at h4; cases h4), fun i e b h1 h4 => (by rw [nob i e h1] at h4; cases h4), fun b hb => hb, fun b hb => h.lt b hb⟩
  unfold es0 at h3
  unfold bs0 at h2
  rw [List.getElem?_map, h1] at h2 h3
  simp only [Option.map_some, Option.some.injEq] at h2 h3
  subst h2; subst h3
  exact ⟨rfl, rfl, rfl, [], OR.nil _ _ _ _, rfl, fun h => absurd h (Nat.lt_irrefl 0)⟩
/-- The configuration's box. -/
abbrev cbx (c : Cfg) (D E L : Option Addr) (nd cd ne ce nl cl : Nat) : Obj := .cells #[.int .i64 c.hosts, .int .i64 c.cycle, .int .i64 c.delay, .int .i64 c.window, .int .i64 c.precision, .slice D nd cd, .slice E ne ce, .slice L nl cl, .int .i64 c.queue] 26 (0, 0)
end Go.Proofs.Ytecgpibidcifpaa.RelayW

/- The document's own Buckets. -/
namespace Go.Proofs.Ytecgpibidcifpaa.RelayW
open Shell (takeR skipR aput lset)
open Go.RowKit Shell
open ConfW (Cfg R4 CM ML chk)
open BucketW (Bk pas tk b0 fit)
/-- What is held behind the first i links. -/
structure BQ (w0 : World) (c : Cfg) (D E L : Option Addr) (nd cd ne ce nl cl : Nat) (i : Nat) (v : Value) (w : World) : Prop where
  st : Stay w0 [(w0.heap.size, cbx c D E L nd cd ne ce nl cl)] w
  og : OG F14 w (w0.heap.size + 1) 76 v ((es0 c).take i)
theorem ml_at {w : World} {L : Option Addr} {l : List R4} (h : ML w L l) {i : Nat} {k : R4} (hi : l[i]? = some k) : ∃ b off, L = some ⟨b, off, none⟩ ∧ w.cell? ⟨b, off + i * 4, none⟩ = some (.int .i64 k.a) ∧ w.cell? ⟨b, off + i * 4 + 1, none⟩ = some (.int .u32 (k.b : Int)) ∧ w.cell? ⟨b, off + i * 4 + 2, none⟩ = some (.int .i64 k.c) ∧ w.cell? ⟨b, off + i * 4 + 3, none⟩ = some (.int .i64 k.d) := by
  obtain ⟨b, off, hA, ⟨h0, h1, h2, h3⟩, -⟩ := h i k hi
  exact ⟨b, off, hA, h0, h1, h2, h3⟩
theorem es0_snoc (c : Cfg) {i : Nat} {k : R4} (hi : c.links[i]? = some k) : (es0 c).take (i + 1) = (es0 c).take i ++ [e0 c k] := by
  have h : (es0 c)[i]? = some (e0 c k) := by unfold es0; rw [List.getElem?_map, hi]; rfl
  rw [List.take_add_one, h]
  rfl
/-- A stretch of code whose ways out meet, but for one value and the world. -/
theorem wp_v {P : Program} {c : Code} {Q : Exit → Act → World → Prop} {a : Act} {w : World} (A2 : Value → Act) (S : Value → World → Prop) (h : c.wp P (fun e a' w' => ∃ v, e = Exit.normal ∧ a' = A2 v ∧ S v w') a w) (hm : ∀ v W, S v W → Q .normal (A2 v) W) : c.wp P Q a w :=
  Code.wp_mono (fun _ _ _ ⟨v, h1, h2, h3⟩ => by subst h1; subst h2; exact hm v _ h3) h
set_option maxHeartbeats 4000000 in
set_option maxRecDepth 100000 in
theorem refBuckets_any (c : Cfg) (D E L : Option Addr) (nd cd ne ce nl cl : Nat) (w : World) (h : CM w c D E L nd cd ne ce nl cl) (hz : nl * 48 ≤ 140737488351232) : Calls Try.prog 11 #[.agg #[.int .i64 c.hosts, .int .i64 c.cycle, .int .i64 c.delay, .int .i64 c.window, .int .i64 c.precision, .slice D nd cd, .slice E ne ce, .slice L nl cl, .int .i64 c.queue]] w fun e w' => ∃ vl, e = .returned vl ∧ OG F14 w' w.heap.size 76 vl (es0 c) ∧ Below w.heap.size w w' := by
  have HM := Lib.hid h
  have HL := Lib.hid h.nL
  have HZ := Lib.hid hz
  have Q0 := Lib.hid (show BQ w c D E L nd cd ne ce nl cl 0 (.slice none 0 0) (w.alloc (cbx c D E L nd cd ne ce nl cl)) from ⟨(Stay.start w).alloc _, OG.nil _ _ _⟩)
  clear h hz
  go_enter Try.func11, Try.ntmps11
  go_wp2
  generalize w.alloc (cbx c D E L nd cd ne ce nl cl) = w1 at *
  go_loopw [3, 4] (fun lv iv wr => ∃ (i : Nat), i ≤ nl ∧ iv = .int .i64 i ∧ Hid (BQ w c D E L nd cd ne ce nl cl i lv wr)) (fun _ iv _ => nl - (intOf iv).toNat)
  case atStart => exact ⟨0, Nat.zero_le _, rfl, Q0⟩
  case round =>
    obtain ⟨i, hi, rfl, HQ⟩ := hrel
    have hnl : nl ≤ 9223372036854775807 := by have := HM.out.mL; unfold maxLen at this; omega
    obtain ⟨a0, a1, a2, a3, a4, a5, a6, a7, a8⟩ := PlanW.cells9 (HQ.out.st.at 0 rfl)
    by_cases hlt : i < nl
    · have hlt' : (i : Int) < (nl : Int) := by omega
      obtain ⟨k, hk⟩ : ∃ k, c.links[i]? = some k := ⟨_, List.getElem?_eq_getElem (by rw [← HL.out]; exact hlt)⟩
      have hml := ml_at HM.out.hl hk
      obtain ⟨b, off, rfl, l0, l1, l2, l3⟩ := hml
      have LC := Lib.hid l2
      replace l2 := cell_keep l2 HQ.out.st.b
      have HX := Lib.hid (show ((wr.alloc (.cells #[.int .i64 k.c, .int .i64 c.delay, .slice none 0 0, .int .i64 0] 76)).drew.heap[w.heap.size]? = some (cbx c D E (some ⟨b, off, none⟩) nd cd ne ce nl cl : Obj) ∧ (wr.alloc (.cells #[.int .i64 k.c, .int .i64 c.delay, .slice none 0 0, .int .i64 0] 76)).drew.cell? ⟨b, off + i * 4 + 2, none⟩ = some (.int .i64 k.c)) from ⟨(HQ.out.st.next (al (Below.refl _ _) _)).drew.at 0 rfl, cell_keep l2 ((al (Below.refl _ _) _).drew)⟩)
      have OX := Lib.hid (show OG F14 (wr.alloc (.cells #[.int .i64 k.c, .int .i64 c.delay, .slice none 0 0, .int .i64 0] 76)).drew (w.heap.size + 1) 76 u3 ((es0 c).take i) from (HQ.out.og.alloc _).drew)
      have SX := Lib.hid (show Stay w [(w.heap.size, cbx c D E (some ⟨b, off, none⟩) nd cd ne ce nl cl)] (wr.alloc (.cells #[.int .i64 k.c, .int .i64 c.delay, .slice none 0 0, .int .i64 0] 76)).drew from (HQ.out.st.next (al (Below.refl _ _) _)).drew)
      have GX := Lib.hid (show SG F14 (wr.alloc (.cells #[.int .i64 k.c, .int .i64 c.delay, .slice none 0 0, .int .i64 0] 76)).drew (some ⟨wr.heap.size, 0, none⟩) [e0 c k] from SG.one (fr := (0, 0)) (t := 76) (heap_alloc_new wr _))
      have LX := Lib.hid (show (((es0 c).take i).length + 1) * 48 ≤ 140737488355328 by
        have := HZ.out
        rw [List.length_take]
        omega)
      have BX := Lib.hid (show w.heap.size + 1 ≤ ((wr.alloc (.cells #[.int .i64 k.c, .int .i64 c.delay, .slice none 0 0, .int .i64 0] 76)).drew).heap.size by
        have := lt_of_heap (HQ.out.st.at 0 rfl)
        show w.heap.size + 1 ≤ (wr.alloc _).heap.size
        rw [World.size_alloc]; omega)
      have HS := Lib.hid (es0_snoc c hk)
      have S0 := Lib.hid (show (wr.drew.heap[w.heap.size]? = some (cbx c D E (some ⟨b, off, none⟩) nd cd ne ce nl cl : Obj) ∧ wr.drew.cell? ⟨b, off + i * 4 + 2, none⟩ = some (.int .i64 k.c)) from ⟨HQ.out.st.drew.at 0 rfl, l2⟩)
      have HLV := Lib.hid HQ.out.og.lt
      clear l0 l1 l3 hk
      go_wp2
      apply wp_v (S := fun v' W => BQ w c D E (some ⟨b, off, none⟩) nd cd ne ce nl cl (i + 1) v' W)
      case h =>
        refine wp_region_noPanic ?_
        refine wp_region_held_drew (S := fun Z : World => Z.heap[w.heap.size]? = some (cbx c D E (some ⟨b, off, none⟩) nd cd ne ce nl cl : Obj) ∧ Z.cell? ⟨b, off + i * 4 + 2, none⟩ = some (.int .i64 k.c)) (by kernel_rfl) S0.out (fun hHeld => ?_)
        refine takeR 0 (some 12) ?_ ?_ ?_; rotate_left; (focus (intros; go_simp; (try with_reducible rfl)))
        simp only [aput, lset]
        refine takeR 1 (some 13) ?_ ?_ ?_; rotate_left; (focus (intros; go_simp; (try with_reducible rfl)))
        simp only [aput, lset]
        refine takeR 2 (some 14) ?_ ?_ ?_; rotate_left; (focus (intro w hSw; (try dsimp only at hSw); obtain ⟨y0, y1, y2, y3, y4, y5, y6, y7, y8⟩ := PlanW.cells9 hSw.1; have y9 := hSw.2; go_simp; (try with_reducible rfl)))
        simp only [aput, lset]
        refine takeR 3 (some 15) ?_ ?_ ?_; rotate_left; (focus (intros; go_simp; (try with_reducible rfl)))
        simp only [aput, lset]
        refine takeR 4 (some 16) ?_ ?_ ?_; rotate_left; (focus (intros; go_simp; (try with_reducible rfl)))
        simp only [aput, lset]
        refine takeR 5 (some 17) ?_ ?_ ?_; rotate_left; (focus (intros; go_simp; (try with_reducible rfl)))
        simp only [aput, lset]
        refine takeR 6 (some 18) ?_ ?_ ?_; rotate_left; (focus (intro w hSw; (try dsimp only at hSw); obtain ⟨y0, y1, y2, y3, y4, y5, y6, y7, y8⟩ := PlanW.cells9 hSw.1; have y9 := hSw.2; go_simp; (try with_reducible rfl)))
        simp only [aput, lset]
        refine takeR 7 (some 19) ?_ ?_ ?_; rotate_left; (focus (intros; go_simp; (try with_reducible rfl)))
        simp only [aput, lset]
        refine takeR 8 (some 20) ?_ ?_ ?_; rotate_left; (focus (intro w hSw; (try dsimp only at hSw); obtain ⟨y0, y1, y2, y3, y4, y5, y6, y7, y8⟩ := PlanW.cells9 hSw.1; have y9 := hSw.2; go_simp; (try with_reducible rfl)))
        simp only [aput, lset]
        refine takeR 9 (some 21) ?_ ?_ ?_; rotate_left; (focus (intros; go_simp; (try with_reducible rfl)))
        simp only [aput, lset]
        refine wpAnyH_ready (rs := [10]) (by kernel_rfl) (by simp) ?_
        refine AllReadyH.cons (o := ⟨some 22, _, _, _, _, _⟩) rfl (fun K hK => ?_) AllReadyH.nil
        rw [if_pos (by kernel_rfl)]
        go_simp
        refine hK.out _ _ HX.out (fun hHeld => ?_)
        clear hK K
        refine wpAnyH_ready (rs := [11]) (by kernel_rfl) (by simp) ?_
        refine AllReadyH.cons (o := ⟨some 23, _, _, _, _, _⟩) rfl (fun K hK => ?_) AllReadyH.nil
        refine step_append_og one14 rfl _ _ rfl (w.heap.size + 1) u3 ((es0 c).take i) rfl OX.out wr.heap.size 0 1 1 [e0 c k] rfl rfl GX.out LX.out (by decide) BX.out ?_
        intro v3 w3 o3 s3
        rw [← HS.out] at o3
        have X3 := Lib.hid (OX.out.stay SX.out s3 (Nat.le_succ _) (fun x hx => by
          rw [List.mem_singleton] at hx
          subst hx
          exact fun e => by have := (HLV.out _ e).1; omega))
        have Q3 := Lib.hid (show BQ w c D E (some ⟨b, off, none⟩) nd cd ne ce nl cl (i + 1) v3 w3 from ⟨X3.out, o3⟩)
        have Y3 := Lib.hid (show (w3.heap[w.heap.size]? = some (cbx c D E (some ⟨b, off, none⟩) nd cd ne ce nl cl : Obj) ∧ w3.cell? ⟨b, off + i * 4 + 2, none⟩ = some (.int .i64 k.c)) from ⟨X3.out.at 0 rfl, cell_keep LC.out X3.out.b⟩)
        clear o3 s3
        refine hK.out _ _ Y3.out (fun hHeld => ?_)
        clear hK K
        refine takeR 12 (some 3) ?_ ?_ ?_; rotate_left; (focus (intros; go_simp; (try with_reducible rfl)))
        simp only [aput, lset]
        refine wpAnyH_done (by kernel_rfl) ?_ _
        exact NoPanic.normal ⟨v3, rfl, rfl, Q3.out⟩
      case hm =>
        rintro v3 w3 Q3
        have Q4 := Lib.hid Q3
        clear Q3
        go_wp2
        go_roundw
        case rel => exact ⟨i + 1, by omega, by go_num, Q4⟩
        case measure => simp [intOf]; omega
    · obtain rfl : i = nl := by omega
      go_wp2
      go_ret
      have h1 := HQ.out.og
      rw [List.take_of_length_le (by simp [es0, HL.out])] at h1
      exact ⟨_, rfl, h1.base (Nat.le_succ _), HQ.out.st.b⟩
end Go.Proofs.Ytecgpibidcifpaa.RelayW

/- The document's own Judge: where nothing passes a bucket. -/
namespace Go.Proofs.Ytecgpibidcifpaa.RelayW
open Shell (takeR skipR aput lset)
open Go.RowKit Shell
open ConfW (Cfg R4 CM ML chk)
open BucketW (Bk pas tk b0 fit)
open FrameW (BL rdE rdV)
open PlanW (relayV)
abbrev vbx (v : Vd) (d : Dt) : Obj := .cells #[.int .i64 v.w, .int .i64 d.c, .int .i64 d.l, .int .i64 d.n, .string d.p, .int .i64 d.s, .int .u32 (v.u : Int), .int .i64 v.a] 46 (0, 0)
abbrev dbx (d : Dt) : Obj := .cells #[.int .i64 d.c, .int .i64 d.l, .int .i64 d.n, .string d.p, .int .i64 d.s] 41 (0, 0)
abbrev vv (d : Dt) (v : Vd) : Value := .agg #[.int .i64 v.w, .int .i64 d.c, .int .i64 d.l, .int .i64 d.n, .string d.p, .int .i64 d.s, .int .u32 (v.u : Int), .int .i64 v.a]
def v0 : Vd := ⟨0, 0, 0⟩
def d0 : Dt := ⟨0, 0, 0, ⟨#[]⟩, 0⟩
theorem cells5 {w : World} {j : Nat} {x0 x1 x2 x3 x4 : Value} {t : TypeId} {fr : Nat × Nat} (h : w.heap[j]? = some (.cells #[x0, x1, x2, x3, x4] t fr)) : w.cell? ⟨j, 0, none⟩ = some x0 ∧ w.cell? ⟨j, 1, none⟩ = some x1 ∧ w.cell? ⟨j, 2, none⟩ = some x2 ∧ w.cell? ⟨j, 3, none⟩ = some x3 ∧ w.cell? ⟨j, 4, none⟩ = some x4 :=
  ⟨cell_of_row w j 0 _ _ _ h, cell_of_row w j 1 _ _ _ h, cell_of_row w j 2 _ _ _ h, cell_of_row w j 3 _ _ _ h, cell_of_row w j 4 _ _ _ h⟩
theorem cells8 {w : World} {j : Nat} {x0 x1 x2 x3 x4 x5 x6 x7 : Value} {t : TypeId} {fr : Nat × Nat} (h : w.heap[j]? = some (.cells #[x0, x1, x2, x3, x4, x5, x6, x7] t fr)) : w.cell? ⟨j, 0, none⟩ = some x0 ∧ w.cell? ⟨j, 1, none⟩ = some x1 ∧ w.cell? ⟨j, 2, none⟩ = some x2 ∧ w.cell? ⟨j, 3, none⟩ = some x3 ∧ w.cell? ⟨j, 4, none⟩ = some x4 ∧ w.cell? ⟨j, 5, none⟩ = some x5 ∧ w.cell? ⟨j, 6, none⟩ = some x6 ∧ w.cell? ⟨j, 7, none⟩ = some x7 :=
  ⟨cell_of_row w j 0 _ _ _ h, cell_of_row w j 1 _ _ _ h, cell_of_row w j 2 _ _ _ h, cell_of_row w j 3 _ _ _ h, cell_of_row w j 4 _ _ _ h, cell_of_row w j 5 _ _ _ h, cell_of_row w j 6 _ _ _ h, cell_of_row w j 7 _ _ _ h⟩
theorem frozen8 {w : World} {j : Nat} {x0 x1 x2 x3 x4 x5 x6 x7 : Value} {t : TypeId} (h : w.heap[j]? = some (.cells #[x0, x1, x2, x3, x4, x5, x6, x7] t (0, 0))) : w.frozen? ⟨j, 0, none⟩ = false ∧ w.frozen? ⟨j, 1, none⟩ = false ∧ w.frozen? ⟨j, 2, none⟩ = false ∧ w.frozen? ⟨j, 3, none⟩ = false ∧ w.frozen? ⟨j, 4, none⟩ = false ∧ w.frozen? ⟨j, 5, none⟩ = false ∧ w.frozen? ⟨j, 6, none⟩ = false ∧ w.frozen? ⟨j, 7, none⟩ = false :=
  ⟨frozen_of_row w j 0 _ _ h, frozen_of_row w j 1 _ _ h, frozen_of_row w j 2 _ _ h, frozen_of_row w j 3 _ _ h, frozen_of_row w j 4 _ _ h, frozen_of_row w j 5 _ _ h, frozen_of_row w j 6 _ _ h, frozen_of_row w j 7 _ _ h⟩
/-- Eight cells of a block written over. -/
abbrev set8 (w : World) (k : Nat) (x0 x1 x2 x3 x4 x5 x6 x7 : Value) : World := (((((((w.setCell ⟨k, 0, none⟩ x0).setCell ⟨k, 1, none⟩ x1).setCell ⟨k, 2, none⟩ x2).setCell ⟨k, 3, none⟩ x3).setCell ⟨k, 4, none⟩ x4).setCell ⟨k, 5, none⟩ x5).setCell ⟨k, 6, none⟩ x6).setCell ⟨k, 7, none⟩ x7
theorem put8 {w : World} {k : Nat} {y0 y1 y2 y3 y4 y5 y6 y7 : Value} {t : TypeId} (h : w.heap[k]? = some (.cells #[y0, y1, y2, y3, y4, y5, y6, y7] t (0, 0))) (x0 x1 x2 x3 x4 x5 x6 x7 : Value) : (set8 w k x0 x1 x2 x3 x4 x5 x6 x7).heap[k]? = some (.cells #[x0, x1, x2, x3, x4, x5, x6, x7] t (0, 0)) := by
  have h0 : (w.setCell ⟨k, 0, none⟩ x0).heap[k]? = some (.cells #[x0, y1, y2, y3, y4, y5, y6, y7] t (0, 0)) := heap_setCell_same _ k 0 _ _ x0 h
  have h1 : ((w.setCell ⟨k, 0, none⟩ x0).setCell ⟨k, 1, none⟩ x1).heap[k]? = some (.cells #[x0, x1, y2, y3, y4, y5, y6, y7] t (0, 0)) := heap_setCell_same _ k 1 _ _ x1 h0
  have h2 : (((w.setCell ⟨k, 0, none⟩ x0).setCell ⟨k, 1, none⟩ x1).setCell ⟨k, 2, none⟩ x2).heap[k]? = some (.cells #[x0, x1, x2, y3, y4, y5, y6, y7] t (0, 0)) := heap_setCell_same _ k 2 _ _ x2 h1
  have h3 : ((((w.setCell ⟨k, 0, none⟩ x0).setCell ⟨k, 1, none⟩ x1).setCell ⟨k, 2, none⟩ x2).setCell ⟨k, 3, none⟩ x3).heap[k]? = some (.cells #[x0, x1, x2, x3, y4, y5, y6, y7] t (0, 0)) := heap_setCell_same _ k 3 _ _ x3 h2
  have h4 : (((((w.setCell ⟨k, 0, none⟩ x0).setCell ⟨k, 1, none⟩ x1).setCell ⟨k, 2, none⟩ x2).setCell ⟨k, 3, none⟩ x3).setCell ⟨k, 4, none⟩ x4).heap[k]? = some (.cells #[x0, x1, x2, x3, x4, y5, y6, y7] t (0, 0)) := heap_setCell_same _ k 4 _ _ x4 h3
  have h5 : ((((((w.setCell ⟨k, 0, none⟩ x0).setCell ⟨k, 1, none⟩ x1).setCell ⟨k, 2, none⟩ x2).setCell ⟨k, 3, none⟩ x3).setCell ⟨k, 4, none⟩ x4).setCell ⟨k, 5, none⟩ x5).heap[k]? = some (.cells #[x0, x1, x2, x3, x4, x5, y6, y7] t (0, 0)) := heap_setCell_same _ k 5 _ _ x5 h4
  have h6 : (((((((w.setCell ⟨k, 0, none⟩ x0).setCell ⟨k, 1, none⟩ x1).setCell ⟨k, 2, none⟩ x2).setCell ⟨k, 3, none⟩ x3).setCell ⟨k, 4, none⟩ x4).setCell ⟨k, 5, none⟩ x5).setCell ⟨k, 6, none⟩ x6).heap[k]? = some (.cells #[x0, x1, x2, x3, x4, x5, x6, y7] t (0, 0)) := heap_setCell_same _ k 6 _ _ x6 h5
  have h7 : ((((((((w.setCell ⟨k, 0, none⟩ x0).setCell ⟨k, 1, none⟩ x1).setCell ⟨k, 2, none⟩ x2).setCell ⟨k, 3, none⟩ x3).setCell ⟨k, 4, none⟩ x4).setCell ⟨k, 5, none⟩ x5).setCell ⟨k, 6, none⟩ x6).setCell ⟨k, 7, none⟩ x7).heap[k]? = some (.cells #[x0, x1, x2, x3, x4, x5, x6, x7] t (0, 0)) := heap_setCell_same _ k 7 _ _ x7 h6
  exact h7
theorem at_drew {w : World} {j : Nat} {o : Obj} (h : w.heap[j]? = some o) : w.drew.heap[j]? = some o := h
theorem kept8 (w : World) (k : Nat) (x0 x1 x2 x3 x4 x5 x6 x7 : Value) : Kept k w (set8 w k x0 x1 x2 x3 x4 x5 x6 x7) :=
  (((((((kept1 w k 0 x0).trans (kept1 _ k 1 x1)).trans (kept1 _ k 2 x2)).trans (kept1 _ k 3 x3)).trans (kept1 _ k 4 x4)).trans (kept1 _ k 5 x5)).trans (kept1 _ k 6 x6)).trans (kept1 _ k 7 x7)
/-- A list and a struct in a cell: what Judge tells. -/
theorem results_v {fn : Func} {p u : Tmp} (h : fn.results = #[.tmp u, .cell p 46]) (tmps : Array Value) (w : World) (g : Nat) (t : TypeId) (x0 x1 x2 x3 x4 x5 x6 x7 : Value) (fr : Nat × Nat)
    (hp : tmps.getD p undef = .pointer (some ⟨g, 0, none⟩)) (hg : w.heap[g]? = some (.cells #[x0, x1, x2, x3, x4, x5, x6, x7] t fr)) :
    (results fn tmps).run Try.prog w = .ok (.tuple #[tmps.getD u undef, .agg #[x0, x1, x2, x3, x4, x5, x6, x7]]) w := by
  have hp' : tmps[p]?.getD undef = .pointer (some ⟨g, 0, none⟩) := by simpa using hp
  simp [results, h, hp', asAddr, run_loadVar_row w g t 46 #[x0, x1, x2, x3, x4, x5, x6, x7] fr _ hg Try.underlying46 rfl (by kernel_rfl)]
theorem ret_v {fn : Func} {R : Ending → World → Prop} {p u : Tmp} (h : fn.results = #[.tmp u, .cell p 46]) {tmps : Array Value} {w : World} {g : Nat} {x0 x1 x2 x3 x4 x5 x6 x7 : Value} {t : TypeId} {fr : Nat × Nat}
    (hp : tmps.getD p undef = .pointer (some ⟨g, 0, none⟩)) (hg : w.heap[g]? = some (.cells #[x0, x1, x2, x3, x4, x5, x6, x7] t fr)) (hR : R (.returned (.tuple #[tmps.getD u undef, .agg #[x0, x1, x2, x3, x4, x5, x6, x7]])) w) :
    bodyPost Try.prog fn R .ret { tmps := tmps, defers := [] } w :=
  bodyPost_ret (results_v h tmps w g t x0 x1 x2 x3 x4 x5 x6 x7 fr hp hg) rfl hR
set_option maxHeartbeats 4000000 in
set_option maxRecDepth 100000 in
theorem rj_bad (c : Cfg) (D E L : Option Addr) (nd cd ne ce nl cl : Nat) (t lo fr : Int) (vl : Value) (A : Option Addr) (l : List Int) (cp : Nat) (w : World) (hb : BL w A l) (hl : l.length ≤ 9223372036854775807) (hc : l.length ≤ cp) (he : rdE l ≠ 0) :
    Calls Try.prog 13 #[.agg #[.int .i64 c.hosts, .int .i64 c.cycle, .int .i64 c.delay, .int .i64 c.window, .int .i64 c.precision, .slice D nd cd, .slice E ne ce, .slice L nl cl, .int .i64 c.queue], vl, .int .i64 t, .int .i64 lo, .int .i64 fr, .slice A l.length cp] w fun r w' => r = .returned (.tuple #[vl, vv d0 ⟨1, 0, 0⟩]) ∧ Below w.heap.size w w' := by
  have S0 := ((Stay.start w).alloc (cbx c D E L nd cd ne ce nl cl)).alloc (vbx v0 d0)
  rw [World.size_alloc] at S0
  have S1 := Lib.hid S0
  have HR := Lib.hid (FrameW.refReadData_any A cp l _ (hb.below S0.b) hl hc)
  rw [rdV_dt] at HR
  have hz : dt l = d0 := by unfold dt; rw [if_neg he]; rfl
  rw [hz] at HR
  have q1 : (rdE l != 0) = true := by rw [bne_iff_ne]; exact he
  clear S0 hb hl hc hz
  generalize rdE l = e at *
  go_enter Try.func13, Try.ntmps13
  go_wp2_with fail
  refine HR.out.mono ?_
  rintro r w1 ⟨rfl, b1⟩
  have S2 := Lib.hid ((S1.out.next b1).alloc (dbx d0))
  clear b1 S1 HR
  obtain ⟨y0, y1, y2, y3, y4, y5, y6, y7⟩ := cells8 (S2.out.at 1 rfl)
  obtain ⟨f0, f1, f2, f3, f4, f5, f6, f7⟩ := frozen8 (S2.out.at 1 rfl)
  go_wp2
  exact ret_v rfl rfl (put8 (S2.out.at 1 rfl) _ _ _ _ _ _ _ _) ⟨rfl, S2.out.b.trans ((kept8 _ _ _ _ _ _ _ _ _ _).below (Nat.le_succ _) S2.out.b.size)⟩
theorem ml_cell {w W : World} {b off : Nat} {l : List R4} (h : ML w (some ⟨b, off, none⟩) l) {i : Nat} {k : R4} (hi : l[i]? = some k) (hB : Below w.heap.size w W) : W.cell? ⟨b, off + i * 4 + 1, none⟩ = some (.int .u32 (k.b : Int)) := by
  obtain ⟨b', off', hA, _, h1, _, _⟩ := ml_at (h.below hB) hi
  cases hA
  exact h1
/-- The verdict's box written over. -/
theorem rj_facts {w w2 : World} {q : Nat} {d : Dt} {M : List (Nat × Obj)} (S : Stay w ((q, dbx d) :: (w.heap.size + 1, vbx v0 d0) :: M) w2) (hq : w.heap.size + 1 ≠ q) (v : Vd) :
    (set8 w2 (w.heap.size + 1) (.int .i64 v.w) (.int .i64 d.c) (.int .i64 d.l) (.int .i64 d.n) (.string d.p) (.int .i64 d.s) (.int .u32 (v.u : Int)) (.int .i64 v.a)).heap[q]? = some (dbx d) ∧ Below w.heap.size w (set8 w2 (w.heap.size + 1) (.int .i64 v.w) (.int .i64 d.c) (.int .i64 d.l) (.int .i64 d.n) (.string d.p) (.int .i64 d.s) (.int .u32 (v.u : Int)) (.int .i64 v.a)) ∧ (set8 w2 (w.heap.size + 1) (.int .i64 v.w) (.int .i64 d.c) (.int .i64 d.l) (.int .i64 d.n) (.string d.p) (.int .i64 d.s) (.int .u32 (v.u : Int)) (.int .i64 v.a)).heap[w.heap.size + 1]? = some (vbx v d) :=
  ⟨((kept8 w2 (w.heap.size + 1) (.int .i64 v.w) (.int .i64 d.c) (.int .i64 d.l) (.int .i64 d.n) (.string d.p) (.int .i64 d.s) (.int .u32 (v.u : Int)) (.int .i64 v.a)).block q (fun e => hq e.symm) (lt_of_heap (S.at 0 rfl))).trans (S.at 0 rfl), S.b.trans ((kept8 w2 (w.heap.size + 1) (.int .i64 v.w) (.int .i64 d.c) (.int .i64 d.l) (.int .i64 d.n) (.string d.p) (.int .i64 d.s) (.int .u32 (v.u : Int)) (.int .i64 v.a)).below (Nat.le_succ _) S.b.size), put8 (S.at 1 rfl) (.int .i64 v.w) (.int .i64 d.c) (.int .i64 d.l) (.int .i64 d.n) (.string d.p) (.int .i64 d.s) (.int .u32 (v.u : Int)) (.int .i64 v.a)⟩
/-- A right frame, up to where its class is asked. -/
theorem ent_at {c : Cfg} {k : Int} {e : R4} (h : entAt c k = some e) (h0 : 0 ≤ k) : ∃ n : Nat, k = (n : Int) ∧ c.entries[n]? = some e ∧ n < c.entries.length := by
  obtain ⟨n, rfl⟩ := Int.eq_ofNat_of_zero_le h0
  unfold entAt at h
  rw [Int.toNat_natCast] at h
  exact ⟨n, rfl, h, lt_of_get h⟩
theorem ent_no {c : Cfg} {k : Int} (h : entAt c k = none) (h0 : 0 ≤ k) : (c.entries.length : Int) ≤ k := by
  unfold entAt at h
  have := List.getElem?_eq_none_iff.1 h
  omega
theorem lnk_at {c : Cfg} {k : Int} {e : R4} (h : lnkAt c k = some e) (h0 : 0 ≤ k) : ∃ n : Nat, k = (n : Int) ∧ c.links[n]? = some e ∧ n < c.links.length := by
  obtain ⟨n, rfl⟩ := Int.eq_ofNat_of_zero_le h0
  unfold lnkAt at h
  rw [Int.toNat_natCast] at h
  exact ⟨n, rfl, h, lt_of_get h⟩
theorem lnk_no {c : Cfg} {k : Int} (h : lnkAt c k = none) (h0 : 0 ≤ k) : (c.links.length : Int) ≤ k := by
  unfold lnkAt at h
  have := List.getElem?_eq_none_iff.1 h
  omega
set_option maxHeartbeats 4000000 in
set_option maxRecDepth 100000 in
theorem rj_t0 (c : Cfg) (D E L : Option Addr) (nd cd ne ce nl cl : Nat) (t lo fr : Int) (vl : Value) (A : Option Addr) (l : List Int) (cp : Nat) (w : World) (h : CM w c D E L nd cd ne ce nl cl) (hb : BL w A l) (hl : l.length ≤ 9223372036854775807) (hc : l.length ≤ cp) (d : Dt) (hd : dt l = d) (he : rdE l = 0) (h1 : d.c = 1) (h2 : entAt c d.l = none) :
    Calls Try.prog 13 #[.agg #[.int .i64 c.hosts, .int .i64 c.cycle, .int .i64 c.delay, .int .i64 c.window, .int .i64 c.precision, .slice D nd cd, .slice E ne ce, .slice L nl cl, .int .i64 c.queue], vl, .int .i64 t, .int .i64 lo, .int .i64 fr, .slice A l.length cp] w fun r w' => r = .returned (.tuple #[vl, vv d ⟨1, 0, 0⟩]) ∧ Below w.heap.size w w' := by
  have S0 := ((Stay.start w).alloc (cbx c D E L nd cd ne ce nl cl)).alloc (vbx v0 d0)
  rw [World.size_alloc] at S0
  have S1 := Lib.hid S0
  have HR := Lib.hid (FrameW.refReadData_any A cp l _ (hb.below S0.b) hl hc)
  have ok := dt_ok he
  rw [rdV_dt, he, hd] at HR
  rw [hd] at ok
  have HM := Lib.hid h
  have hnE : ne ≤ 9223372036854775807 := by have := h.mE; unfold maxLen at this; omega
  have hnL : nl ≤ 9223372036854775807 := by have := h.mL; unfold maxLen at this; omega
  have g1 := ent_no h2 ok.l.1
  rw [← h.nE] at g1
  clear h2
  obtain ⟨dc, dl, dn, dp, ds⟩ := d
  obtain rfl : dc = 1 := h1
  replace g1 : dl ≥ (ne : Int) := g1
  clear S0 hb hl hc hd he h ok
  go_enter Try.func13, Try.ntmps13
  go_wp2_with fail
  refine HR.out.mono ?_
  rintro r w1 ⟨rfl, b1⟩
  have HPQ := Lib.hid (show w.heap.size + 1 ≠ w1.heap.size ∧ w.heap.size ≠ w1.heap.size by
    have := lt_of_heap (S1.out.at 0 rfl)
    have := b1.size
    omega)
  have S2 := Lib.hid ((S1.out.next b1).alloc (dbx ⟨1, dl, dn, dp, ds⟩))
  clear b1 S1 HR
  obtain ⟨z0, z1, z2, z3, z4⟩ := cells5 (S2.out.at 0 rfl)
  obtain ⟨a0, a1, a2, a3, a4, a5, a6, a7, a8⟩ := PlanW.cells9 (S2.out.at 2 rfl)
  go_wp2
  generalize w1.alloc (dbx ⟨1, dl, dn, dp, ds⟩) = w2 at *
  generalize w1.heap.size = q at *
  go_region
  go_wp2
  obtain ⟨hn, he, hv⟩ := rj_facts S2.out HPQ.out.1 ⟨1, 0, 0⟩
  have HN := Lib.hid (at_drew (at_drew hn))
  have HE := Lib.hid he.drew.drew
  have HV := Lib.hid (at_drew (at_drew hv))
  clear hn he hv
  apply wp_one
  case h =>
    refine wp_region_noPanic ?_
    refine wp_region_held_drew (S := fun Z : World => Z.heap[q]? = some (dbx ⟨1, dl, dn, dp, ds⟩)) (by kernel_rfl) (S2.out.drew.at 0 rfl) (fun hHeld => ?_)
    refine takeR 0 (some 63) ?_ ?_ ?_; rotate_left; (focus (intros; go_simp; (try with_reducible rfl)))
    simp only [aput, lset]
    refine takeR 3 (some 12) ?_ ?_ ?_; rotate_left; (focus (intros; go_simp; (try with_reducible rfl)))
    simp only [aput, lset]
    refine takeR 1 (some 64) ?_ ?_ ?_; rotate_left; (focus (intro w hSw; (try dsimp only at hSw); obtain ⟨x0, x1, x2, x3, x4⟩ := cells5 hSw; go_simp; (try with_reducible rfl)))
    simp only [aput, lset]
    refine takeR 2 (some 65) ?_ ?_ ?_; rotate_left; (focus (intros; go_simp; (try with_reducible rfl)))
    simp only [aput, lset]
    obtain ⟨y0, y1, y2, y3, y4, y5, y6, y7⟩ := cells8 (S2.out.at 1 rfl)
    obtain ⟨f0, f1, f2, f3, f4, f5, f6, f7⟩ := frozen8 (S2.out.at 1 rfl)
    refine wpAnyH_ready (rs := [4]) (by kernel_rfl) (by simp) ?_
    refine AllReadyH.cons (o := ⟨none, _, _, _, _, _⟩) rfl (fun K hK => ?_) AllReadyH.nil
    rw [if_pos (by kernel_rfl)]
    go_simp
    refine hK.out _ _ (by exact HN.out) (fun hHeld => ?_)
    clear hK K
    refine wpAnyH_done (by kernel_rfl) ?_ _
    exact NoPanic.normal ⟨rfl, rfl, rfl⟩
  case hm =>
    go_wp2
    exact ret_v rfl rfl HV.out ⟨rfl, HE.out⟩
set_option maxHeartbeats 4000000 in
set_option maxRecDepth 100000 in
theorem rj_t1 (c : Cfg) (D E L : Option Addr) (nd cd ne ce nl cl : Nat) (t lo fr : Int) (vl : Value) (A : Option Addr) (l : List Int) (cp : Nat) (w : World) (h : CM w c D E L nd cd ne ce nl cl) (hb : BL w A l) (hl : l.length ≤ 9223372036854775807) (hc : l.length ≤ cp) (d : Dt) (hd : dt l = d) (he : rdE l = 0) (e : R4) (h1 : d.c = 1) (h2 : entAt c d.l = some e) (h3 : e.a ≠ fr) :
    Calls Try.prog 13 #[.agg #[.int .i64 c.hosts, .int .i64 c.cycle, .int .i64 c.delay, .int .i64 c.window, .int .i64 c.precision, .slice D nd cd, .slice E ne ce, .slice L nl cl, .int .i64 c.queue], vl, .int .i64 t, .int .i64 lo, .int .i64 fr, .slice A l.length cp] w fun r w' => r = .returned (.tuple #[vl, vv d ⟨1, 0, 0⟩]) ∧ Below w.heap.size w w' := by
  have S0 := ((Stay.start w).alloc (cbx c D E L nd cd ne ce nl cl)).alloc (vbx v0 d0)
  rw [World.size_alloc] at S0
  have S1 := Lib.hid S0
  have HR := Lib.hid (FrameW.refReadData_any A cp l _ (hb.below S0.b) hl hc)
  have ok := dt_ok he
  rw [rdV_dt, he, hd] at HR
  rw [hd] at ok
  have HM := Lib.hid h
  have hnE : ne ≤ 9223372036854775807 := by have := h.mE; unfold maxLen at this; omega
  have hnL : nl ≤ 9223372036854775807 := by have := h.mL; unfold maxLen at this; omega
  obtain ⟨n, hn, hk, hlt⟩ := ent_at h2 ok.l.1
  rw [← h.nE] at hlt
  obtain ⟨dc, dl, dn, dp, ds⟩ := d
  obtain rfl : dc = 1 := h1
  obtain rfl : dl = (n : Int) := hn
  have g1 : (n : Int) < (ne : Int) := by omega
  have g4 : decide (ne ≤ n) = false := decide_eq_false (by omega)
  clear h2
  have g2 : (e.a != fr) = true := by rw [bne_iff_ne]; exact h3
  clear h3
  clear S0 hb hl hc hd he h ok
  go_enter Try.func13, Try.ntmps13
  go_wp2_with fail
  refine HR.out.mono ?_
  rintro r w1 ⟨rfl, b1⟩
  have HPQ := Lib.hid (show w.heap.size + 1 ≠ w1.heap.size ∧ w.heap.size ≠ w1.heap.size by
    have := lt_of_heap (S1.out.at 0 rfl)
    have := b1.size
    omega)
  have S2 := Lib.hid ((S1.out.next b1).alloc (dbx ⟨1, (n : Int), dn, dp, ds⟩))
  clear b1 S1 HR
  obtain ⟨z0, z1, z2, z3, z4⟩ := cells5 (S2.out.at 0 rfl)
  obtain ⟨a0, a1, a2, a3, a4, a5, a6, a7, a8⟩ := PlanW.cells9 (S2.out.at 2 rfl)
  obtain ⟨b, off, rfl, l0, l1, l2, l3⟩ := ml_at (HM.out.he.below S2.out.b) hk
  go_wp2
  generalize w1.alloc (dbx ⟨1, (n : Int), dn, dp, ds⟩) = w2 at *
  generalize w1.heap.size = q at *
  apply wp_one
  case h =>
    refine wp_region_noPanic ?_
    refine wp_region_held_drew (S := fun Z : World => Z.heap[w.heap.size]? = some (cbx c D (some ⟨b, off, none⟩) L nd cd ne ce nl cl : Obj) ∧ Z.heap[q]? = some (dbx ⟨1, (n : Int), dn, dp, ds⟩) ∧ Z.cell? ⟨b, off + n * 4, none⟩ = some (.int .i64 e.a) ∧ Z.cell? ⟨b, off + n * 4 + 3, none⟩ = some (.int .i64 e.d)) (by kernel_rfl) (⟨S2.out.drew.at 2 rfl, S2.out.drew.at 0 rfl, l0, l3⟩) (fun hHeld => ?_)
    refine takeR 0 (some 34) ?_ ?_ ?_; rotate_left; (focus (intros; go_simp; (try with_reducible rfl)))
    simp only [aput, lset]
    refine takeR 1 (some 35) ?_ ?_ ?_; rotate_left; (focus (intro w hSw; (try dsimp only at hSw); obtain ⟨a0, a1, a2, a3, a4, a5, a6, a7, a8⟩ := PlanW.cells9 hSw.1; obtain ⟨z0, z1, z2, z3, z4⟩ := cells5 hSw.2.1; have l0 := hSw.2.2.1; have l3 := hSw.2.2.2; go_simp; (try with_reducible rfl)))
    simp only [aput, lset]
    refine takeR 2 (some 36) ?_ ?_ ?_; rotate_left; (focus (intros; go_simp; (try with_reducible rfl)))
    simp only [aput, lset]
    refine takeR 3 (some 37) ?_ ?_ ?_; rotate_left; (focus (intro w hSw; (try dsimp only at hSw); obtain ⟨a0, a1, a2, a3, a4, a5, a6, a7, a8⟩ := PlanW.cells9 hSw.1; obtain ⟨z0, z1, z2, z3, z4⟩ := cells5 hSw.2.1; have l0 := hSw.2.2.1; have l3 := hSw.2.2.2; go_simp; (try with_reducible rfl)))
    simp only [aput, lset]
    refine takeR 4 (some 38) ?_ ?_ ?_; rotate_left; (focus (intros; go_simp; (try with_reducible rfl)))
    simp only [aput, lset]
    refine takeR 5 (some 39) ?_ ?_ ?_; rotate_left; (focus (intros; go_simp; (try with_reducible rfl)))
    simp only [aput, lset]
    refine takeR 6 (some 40) ?_ ?_ ?_; rotate_left; (focus (intros; go_simp; (try with_reducible rfl)))
    simp only [aput, lset]
    refine takeR 7 (some 41) ?_ ?_ ?_; rotate_left; (focus (intros; go_simp; (try with_reducible rfl)))
    simp only [aput, lset]
    refine takeR 8 (some 42) ?_ ?_ ?_; rotate_left; (focus (intro w hSw; (try dsimp only at hSw); obtain ⟨a0, a1, a2, a3, a4, a5, a6, a7, a8⟩ := PlanW.cells9 hSw.1; obtain ⟨z0, z1, z2, z3, z4⟩ := cells5 hSw.2.1; have l0 := hSw.2.2.1; have l3 := hSw.2.2.2; go_simp; (try with_reducible rfl)))
    simp only [aput, lset]
    refine takeR 9 (some 43) ?_ ?_ ?_; rotate_left; (focus (intros; go_simp; (try with_reducible rfl)))
    simp only [aput, lset]
    refine takeR 10 (some 44) ?_ ?_ ?_; rotate_left; (focus (intro w hSw; (try dsimp only at hSw); obtain ⟨a0, a1, a2, a3, a4, a5, a6, a7, a8⟩ := PlanW.cells9 hSw.1; obtain ⟨z0, z1, z2, z3, z4⟩ := cells5 hSw.2.1; have l0 := hSw.2.2.1; have l3 := hSw.2.2.2; go_simp; (try with_reducible rfl)))
    simp only [aput, lset]
    refine takeR 11 (some 45) ?_ ?_ ?_; rotate_left; (focus (intros; go_simp; (try with_reducible rfl)))
    simp only [aput, lset]
    refine takeR 12 (some 46) ?_ ?_ ?_; rotate_left; (focus (intros; go_simp; (try with_reducible rfl)))
    simp only [aput, lset]
    refine takeR 13 (some 47) ?_ ?_ ?_; rotate_left; (focus (intro w hSw; (try dsimp only at hSw); obtain ⟨a0, a1, a2, a3, a4, a5, a6, a7, a8⟩ := PlanW.cells9 hSw.1; obtain ⟨z0, z1, z2, z3, z4⟩ := cells5 hSw.2.1; have l0 := hSw.2.2.1; have l3 := hSw.2.2.2; go_simp; (try with_reducible rfl)))
    simp only [aput, lset]
    refine takeR 14 (some 48) ?_ ?_ ?_; rotate_left; (focus (intros; go_simp; (try with_reducible rfl)))
    simp only [aput, lset]
    refine takeR 15 (some 49) ?_ ?_ ?_; rotate_left; (focus (intros; go_simp; (try with_reducible rfl)))
    simp only [aput, lset]
    refine takeR 16 (some 50) ?_ ?_ ?_; rotate_left; (focus (intros; go_simp; (try with_reducible rfl)))
    simp only [aput, lset]
    refine takeR 17 (some 51) ?_ ?_ ?_; rotate_left; (focus (intros; go_simp; (try with_reducible rfl)))
    simp only [aput, lset]
    refine skipR 18 (some 52) ?_
    simp only [aput, lset]
    refine skipR 19 (some 53) ?_
    simp only [aput, lset]
    refine skipR 20 (some 54) ?_
    simp only [aput, lset]
    refine skipR 21 (some 55) ?_
    simp only [aput, lset]
    refine skipR 22 (some 56) ?_
    simp only [aput, lset]
    refine skipR 23 (some 57) ?_
    simp only [aput, lset]
    refine skipR 24 (some 58) ?_
    simp only [aput, lset]
    refine skipR 25 (some 59) ?_
    simp only [aput, lset]
    refine skipR 26 (some 60) ?_
    simp only [aput, lset]
    refine skipR 27 (some 61) ?_
    simp only [aput, lset]
    refine takeR 28 (some 62) ?_ ?_ ?_; rotate_left; (focus (intros; go_simp; (try with_reducible rfl)))
    simp only [aput, lset]
    refine wpAnyH_done (by kernel_rfl) ?_ _
    exact NoPanic.normal ⟨rfl, rfl, rfl⟩
  case hm =>
    go_wp2
    obtain ⟨hn, he, hv⟩ := rj_facts S2.out HPQ.out.1 ⟨1, 0, 0⟩
    have HN := Lib.hid (at_drew (at_drew hn))
    have HE := Lib.hid he.drew.drew
    have HV := Lib.hid (at_drew (at_drew hv))
    clear hn he hv
    apply wp_one
    case h =>
      refine wp_region_noPanic ?_
      refine wp_region_held_drew (S := fun Z : World => Z.heap[q]? = some (dbx ⟨1, (n : Int), dn, dp, ds⟩)) (by kernel_rfl) (S2.out.drew.at 0 rfl) (fun hHeld => ?_)
      refine takeR 0 (some 63) ?_ ?_ ?_; rotate_left; (focus (intros; go_simp; (try with_reducible rfl)))
      simp only [aput, lset]
      refine takeR 3 (some 12) ?_ ?_ ?_; rotate_left; (focus (intros; go_simp; (try with_reducible rfl)))
      simp only [aput, lset]
      refine takeR 1 (some 64) ?_ ?_ ?_; rotate_left; (focus (intro w hSw; (try dsimp only at hSw); obtain ⟨x0, x1, x2, x3, x4⟩ := cells5 hSw; go_simp; (try with_reducible rfl)))
      simp only [aput, lset]
      refine takeR 2 (some 65) ?_ ?_ ?_; rotate_left; (focus (intros; go_simp; (try with_reducible rfl)))
      simp only [aput, lset]
      obtain ⟨y0, y1, y2, y3, y4, y5, y6, y7⟩ := cells8 (S2.out.at 1 rfl)
      obtain ⟨f0, f1, f2, f3, f4, f5, f6, f7⟩ := frozen8 (S2.out.at 1 rfl)
      refine wpAnyH_ready (rs := [4]) (by kernel_rfl) (by simp) ?_
      refine AllReadyH.cons (o := ⟨none, _, _, _, _, _⟩) rfl (fun K hK => ?_) AllReadyH.nil
      rw [if_pos (by kernel_rfl)]
      go_simp
      refine hK.out _ _ (by exact HN.out) (fun hHeld => ?_)
      clear hK K
      refine wpAnyH_done (by kernel_rfl) ?_ _
      exact NoPanic.normal ⟨rfl, rfl, rfl⟩
    case hm =>
      go_wp2
      exact ret_v rfl rfl HV.out ⟨rfl, HE.out⟩
set_option maxHeartbeats 4000000 in
set_option maxRecDepth 100000 in
theorem rj_t2 (c : Cfg) (D E L : Option Addr) (nd cd ne ce nl cl : Nat) (t lo fr : Int) (vl : Value) (A : Option Addr) (l : List Int) (cp : Nat) (w : World) (h : CM w c D E L nd cd ne ce nl cl) (hb : BL w A l) (hl : l.length ≤ 9223372036854775807) (hc : l.length ≤ cp) (d : Dt) (hd : dt l = d) (he : rdE l = 0) (e : R4) (h1 : d.c = 1) (h2 : entAt c d.l = some e) (h3 : e.a = fr) (h4 : e.d ≠ d.s) :
    Calls Try.prog 13 #[.agg #[.int .i64 c.hosts, .int .i64 c.cycle, .int .i64 c.delay, .int .i64 c.window, .int .i64 c.precision, .slice D nd cd, .slice E ne ce, .slice L nl cl, .int .i64 c.queue], vl, .int .i64 t, .int .i64 lo, .int .i64 fr, .slice A l.length cp] w fun r w' => r = .returned (.tuple #[vl, vv d ⟨1, 0, 0⟩]) ∧ Below w.heap.size w w' := by
  have S0 := ((Stay.start w).alloc (cbx c D E L nd cd ne ce nl cl)).alloc (vbx v0 d0)
  rw [World.size_alloc] at S0
  have S1 := Lib.hid S0
  have HR := Lib.hid (FrameW.refReadData_any A cp l _ (hb.below S0.b) hl hc)
  have ok := dt_ok he
  rw [rdV_dt, he, hd] at HR
  rw [hd] at ok
  have HM := Lib.hid h
  have hnE : ne ≤ 9223372036854775807 := by have := h.mE; unfold maxLen at this; omega
  have hnL : nl ≤ 9223372036854775807 := by have := h.mL; unfold maxLen at this; omega
  obtain ⟨n, hn, hk, hlt⟩ := ent_at h2 ok.l.1
  rw [← h.nE] at hlt
  obtain ⟨dc, dl, dn, dp, ds⟩ := d
  obtain rfl : dc = 1 := h1
  obtain rfl : dl = (n : Int) := hn
  have g1 : (n : Int) < (ne : Int) := by omega
  have g4 : decide (ne ≤ n) = false := decide_eq_false (by omega)
  clear h2
  have g2 : (e.a != fr) = false := by rw [bne_eq_false_iff_eq]; exact h3
  have g3 : (e.d != ds) = true := by rw [bne_iff_ne]; exact h4
  clear h3 h4
  clear S0 hb hl hc hd he h ok
  go_enter Try.func13, Try.ntmps13
  go_wp2_with fail
  refine HR.out.mono ?_
  rintro r w1 ⟨rfl, b1⟩
  have HPQ := Lib.hid (show w.heap.size + 1 ≠ w1.heap.size ∧ w.heap.size ≠ w1.heap.size by
    have := lt_of_heap (S1.out.at 0 rfl)
    have := b1.size
    omega)
  have S2 := Lib.hid ((S1.out.next b1).alloc (dbx ⟨1, (n : Int), dn, dp, ds⟩))
  clear b1 S1 HR
  obtain ⟨z0, z1, z2, z3, z4⟩ := cells5 (S2.out.at 0 rfl)
  obtain ⟨a0, a1, a2, a3, a4, a5, a6, a7, a8⟩ := PlanW.cells9 (S2.out.at 2 rfl)
  obtain ⟨b, off, rfl, l0, l1, l2, l3⟩ := ml_at (HM.out.he.below S2.out.b) hk
  go_wp2
  generalize w1.alloc (dbx ⟨1, (n : Int), dn, dp, ds⟩) = w2 at *
  generalize w1.heap.size = q at *
  apply wp_one
  case h =>
    refine wp_region_noPanic ?_
    refine wp_region_held_drew (S := fun Z : World => Z.heap[w.heap.size]? = some (cbx c D (some ⟨b, off, none⟩) L nd cd ne ce nl cl : Obj) ∧ Z.heap[q]? = some (dbx ⟨1, (n : Int), dn, dp, ds⟩) ∧ Z.cell? ⟨b, off + n * 4, none⟩ = some (.int .i64 e.a) ∧ Z.cell? ⟨b, off + n * 4 + 3, none⟩ = some (.int .i64 e.d)) (by kernel_rfl) (⟨S2.out.drew.at 2 rfl, S2.out.drew.at 0 rfl, l0, l3⟩) (fun hHeld => ?_)
    refine takeR 0 (some 34) ?_ ?_ ?_; rotate_left; (focus (intros; go_simp; (try with_reducible rfl)))
    simp only [aput, lset]
    refine takeR 1 (some 35) ?_ ?_ ?_; rotate_left; (focus (intro w hSw; (try dsimp only at hSw); obtain ⟨a0, a1, a2, a3, a4, a5, a6, a7, a8⟩ := PlanW.cells9 hSw.1; obtain ⟨z0, z1, z2, z3, z4⟩ := cells5 hSw.2.1; have l0 := hSw.2.2.1; have l3 := hSw.2.2.2; go_simp; (try with_reducible rfl)))
    simp only [aput, lset]
    refine takeR 2 (some 36) ?_ ?_ ?_; rotate_left; (focus (intros; go_simp; (try with_reducible rfl)))
    simp only [aput, lset]
    refine takeR 3 (some 37) ?_ ?_ ?_; rotate_left; (focus (intro w hSw; (try dsimp only at hSw); obtain ⟨a0, a1, a2, a3, a4, a5, a6, a7, a8⟩ := PlanW.cells9 hSw.1; obtain ⟨z0, z1, z2, z3, z4⟩ := cells5 hSw.2.1; have l0 := hSw.2.2.1; have l3 := hSw.2.2.2; go_simp; (try with_reducible rfl)))
    simp only [aput, lset]
    refine takeR 4 (some 38) ?_ ?_ ?_; rotate_left; (focus (intros; go_simp; (try with_reducible rfl)))
    simp only [aput, lset]
    refine takeR 5 (some 39) ?_ ?_ ?_; rotate_left; (focus (intros; go_simp; (try with_reducible rfl)))
    simp only [aput, lset]
    refine takeR 6 (some 40) ?_ ?_ ?_; rotate_left; (focus (intros; go_simp; (try with_reducible rfl)))
    simp only [aput, lset]
    refine takeR 7 (some 41) ?_ ?_ ?_; rotate_left; (focus (intros; go_simp; (try with_reducible rfl)))
    simp only [aput, lset]
    refine takeR 8 (some 42) ?_ ?_ ?_; rotate_left; (focus (intro w hSw; (try dsimp only at hSw); obtain ⟨a0, a1, a2, a3, a4, a5, a6, a7, a8⟩ := PlanW.cells9 hSw.1; obtain ⟨z0, z1, z2, z3, z4⟩ := cells5 hSw.2.1; have l0 := hSw.2.2.1; have l3 := hSw.2.2.2; go_simp; (try with_reducible rfl)))
    simp only [aput, lset]
    refine takeR 9 (some 43) ?_ ?_ ?_; rotate_left; (focus (intros; go_simp; (try with_reducible rfl)))
    simp only [aput, lset]
    refine takeR 10 (some 44) ?_ ?_ ?_; rotate_left; (focus (intro w hSw; (try dsimp only at hSw); obtain ⟨a0, a1, a2, a3, a4, a5, a6, a7, a8⟩ := PlanW.cells9 hSw.1; obtain ⟨z0, z1, z2, z3, z4⟩ := cells5 hSw.2.1; have l0 := hSw.2.2.1; have l3 := hSw.2.2.2; go_simp; (try with_reducible rfl)))
    simp only [aput, lset]
    refine takeR 11 (some 45) ?_ ?_ ?_; rotate_left; (focus (intros; go_simp; (try with_reducible rfl)))
    simp only [aput, lset]
    refine takeR 12 (some 46) ?_ ?_ ?_; rotate_left; (focus (intros; go_simp; (try with_reducible rfl)))
    simp only [aput, lset]
    refine takeR 13 (some 47) ?_ ?_ ?_; rotate_left; (focus (intro w hSw; (try dsimp only at hSw); obtain ⟨a0, a1, a2, a3, a4, a5, a6, a7, a8⟩ := PlanW.cells9 hSw.1; obtain ⟨z0, z1, z2, z3, z4⟩ := cells5 hSw.2.1; have l0 := hSw.2.2.1; have l3 := hSw.2.2.2; go_simp; (try with_reducible rfl)))
    simp only [aput, lset]
    refine takeR 14 (some 48) ?_ ?_ ?_; rotate_left; (focus (intros; go_simp; (try with_reducible rfl)))
    simp only [aput, lset]
    refine takeR 15 (some 49) ?_ ?_ ?_; rotate_left; (focus (intros; go_simp; (try with_reducible rfl)))
    simp only [aput, lset]
    refine takeR 16 (some 50) ?_ ?_ ?_; rotate_left; (focus (intros; go_simp; (try with_reducible rfl)))
    simp only [aput, lset]
    refine takeR 17 (some 51) ?_ ?_ ?_; rotate_left; (focus (intros; go_simp; (try with_reducible rfl)))
    simp only [aput, lset]
    refine takeR 18 (some 52) ?_ ?_ ?_; rotate_left; (focus (intros; go_simp; (try with_reducible rfl)))
    simp only [aput, lset]
    refine takeR 19 (some 53) ?_ ?_ ?_; rotate_left; (focus (intro w hSw; (try dsimp only at hSw); obtain ⟨a0, a1, a2, a3, a4, a5, a6, a7, a8⟩ := PlanW.cells9 hSw.1; obtain ⟨z0, z1, z2, z3, z4⟩ := cells5 hSw.2.1; have l0 := hSw.2.2.1; have l3 := hSw.2.2.2; go_simp; (try with_reducible rfl)))
    simp only [aput, lset]
    refine takeR 20 (some 54) ?_ ?_ ?_; rotate_left; (focus (intros; go_simp; (try with_reducible rfl)))
    simp only [aput, lset]
    refine takeR 21 (some 55) ?_ ?_ ?_; rotate_left; (focus (intro w hSw; (try dsimp only at hSw); obtain ⟨a0, a1, a2, a3, a4, a5, a6, a7, a8⟩ := PlanW.cells9 hSw.1; obtain ⟨z0, z1, z2, z3, z4⟩ := cells5 hSw.2.1; have l0 := hSw.2.2.1; have l3 := hSw.2.2.2; go_simp; (try with_reducible rfl)))
    simp only [aput, lset]
    refine takeR 22 (some 56) ?_ ?_ ?_; rotate_left; (focus (intros; go_simp; (try with_reducible rfl)))
    simp only [aput, lset]
    refine takeR 23 (some 57) ?_ ?_ ?_; rotate_left; (focus (intros; go_simp; (try with_reducible rfl)))
    simp only [aput, lset]
    refine takeR 24 (some 58) ?_ ?_ ?_; rotate_left; (focus (intro w hSw; (try dsimp only at hSw); obtain ⟨a0, a1, a2, a3, a4, a5, a6, a7, a8⟩ := PlanW.cells9 hSw.1; obtain ⟨z0, z1, z2, z3, z4⟩ := cells5 hSw.2.1; have l0 := hSw.2.2.1; have l3 := hSw.2.2.2; go_simp; (try with_reducible rfl)))
    simp only [aput, lset]
    refine takeR 25 (some 59) ?_ ?_ ?_; rotate_left; (focus (intros; go_simp; (try with_reducible rfl)))
    simp only [aput, lset]
    refine takeR 26 (some 60) ?_ ?_ ?_; rotate_left; (focus (intro w hSw; (try dsimp only at hSw); obtain ⟨a0, a1, a2, a3, a4, a5, a6, a7, a8⟩ := PlanW.cells9 hSw.1; obtain ⟨z0, z1, z2, z3, z4⟩ := cells5 hSw.2.1; have l0 := hSw.2.2.1; have l3 := hSw.2.2.2; go_simp; (try with_reducible rfl)))
    simp only [aput, lset]
    refine takeR 27 (some 61) ?_ ?_ ?_; rotate_left; (focus (intros; go_simp; (try with_reducible rfl)))
    simp only [aput, lset]
    refine takeR 28 (some 62) ?_ ?_ ?_; rotate_left; (focus (intros; go_simp; (try with_reducible rfl)))
    simp only [aput, lset]
    refine wpAnyH_done (by kernel_rfl) ?_ _
    exact NoPanic.normal ⟨rfl, rfl, rfl⟩
  case hm =>
    go_wp2
    obtain ⟨hn, he, hv⟩ := rj_facts S2.out HPQ.out.1 ⟨1, 0, 0⟩
    have HN := Lib.hid (at_drew (at_drew hn))
    have HE := Lib.hid he.drew.drew
    have HV := Lib.hid (at_drew (at_drew hv))
    clear hn he hv
    apply wp_one
    case h =>
      refine wp_region_noPanic ?_
      refine wp_region_held_drew (S := fun Z : World => Z.heap[q]? = some (dbx ⟨1, (n : Int), dn, dp, ds⟩)) (by kernel_rfl) (S2.out.drew.at 0 rfl) (fun hHeld => ?_)
      refine takeR 0 (some 63) ?_ ?_ ?_; rotate_left; (focus (intros; go_simp; (try with_reducible rfl)))
      simp only [aput, lset]
      refine takeR 3 (some 12) ?_ ?_ ?_; rotate_left; (focus (intros; go_simp; (try with_reducible rfl)))
      simp only [aput, lset]
      refine takeR 1 (some 64) ?_ ?_ ?_; rotate_left; (focus (intro w hSw; (try dsimp only at hSw); obtain ⟨x0, x1, x2, x3, x4⟩ := cells5 hSw; go_simp; (try with_reducible rfl)))
      simp only [aput, lset]
      refine takeR 2 (some 65) ?_ ?_ ?_; rotate_left; (focus (intros; go_simp; (try with_reducible rfl)))
      simp only [aput, lset]
      obtain ⟨y0, y1, y2, y3, y4, y5, y6, y7⟩ := cells8 (S2.out.at 1 rfl)
      obtain ⟨f0, f1, f2, f3, f4, f5, f6, f7⟩ := frozen8 (S2.out.at 1 rfl)
      refine wpAnyH_ready (rs := [4]) (by kernel_rfl) (by simp) ?_
      refine AllReadyH.cons (o := ⟨none, _, _, _, _, _⟩) rfl (fun K hK => ?_) AllReadyH.nil
      rw [if_pos (by kernel_rfl)]
      go_simp
      refine hK.out _ _ (by exact HN.out) (fun hHeld => ?_)
      clear hK K
      refine wpAnyH_done (by kernel_rfl) ?_ _
      exact NoPanic.normal ⟨rfl, rfl, rfl⟩
    case hm =>
      go_wp2
      exact ret_v rfl rfl HV.out ⟨rfl, HE.out⟩
set_option maxHeartbeats 4000000 in
set_option maxRecDepth 100000 in
theorem rj_t3 (c : Cfg) (D E L : Option Addr) (nd cd ne ce nl cl : Nat) (t lo fr : Int) (vl : Value) (A : Option Addr) (l : List Int) (cp : Nat) (w : World) (h : CM w c D E L nd cd ne ce nl cl) (hb : BL w A l) (hl : l.length ≤ 9223372036854775807) (hc : l.length ≤ cp) (d : Dt) (hd : dt l = d) (he : rdE l = 0) (e : R4) (x : Int) (h1 : d.c = 1) (h2 : entAt c d.l = some e) (h3 : e.a = fr) (h4 : e.d = d.s) (h5 : relayV c d.l lo = (x, false)) :
    Calls Try.prog 13 #[.agg #[.int .i64 c.hosts, .int .i64 c.cycle, .int .i64 c.delay, .int .i64 c.window, .int .i64 c.precision, .slice D nd cd, .slice E ne ce, .slice L nl cl, .int .i64 c.queue], vl, .int .i64 t, .int .i64 lo, .int .i64 fr, .slice A l.length cp] w fun r w' => r = .returned (.tuple #[vl, vv d ⟨2, 0, 0⟩]) ∧ Below w.heap.size w w' := by
  have S0 := ((Stay.start w).alloc (cbx c D E L nd cd ne ce nl cl)).alloc (vbx v0 d0)
  rw [World.size_alloc] at S0
  have S1 := Lib.hid S0
  have HR := Lib.hid (FrameW.refReadData_any A cp l _ (hb.below S0.b) hl hc)
  have ok := dt_ok he
  rw [rdV_dt, he, hd] at HR
  rw [hd] at ok
  have HM := Lib.hid h
  have hnE : ne ≤ 9223372036854775807 := by have := h.mE; unfold maxLen at this; omega
  have hnL : nl ≤ 9223372036854775807 := by have := h.mL; unfold maxLen at this; omega
  obtain ⟨n, hn, hk, hlt⟩ := ent_at h2 ok.l.1
  rw [← h.nE] at hlt
  obtain ⟨dc, dl, dn, dp, ds⟩ := d
  obtain rfl : dc = 1 := h1
  obtain rfl : dl = (n : Int) := hn
  have g1 : (n : Int) < (ne : Int) := by omega
  have g4 : decide (ne ≤ n) = false := decide_eq_false (by omega)
  clear h2
  have g2 : (e.a != fr) = false := by rw [bne_eq_false_iff_eq]; exact h3
  have g3 : (e.d != ds) = false := by rw [bne_eq_false_iff_eq]; exact h4
  have H5 := Lib.hid (show relayV c (n : Int) lo = (x, false) from h5)
  clear h3 h4 h5
  clear S0 hb hl hc hd he h ok
  go_enter Try.func13, Try.ntmps13
  go_wp2_with fail
  refine HR.out.mono ?_
  rintro r w1 ⟨rfl, b1⟩
  have HPQ := Lib.hid (show w.heap.size + 1 ≠ w1.heap.size ∧ w.heap.size ≠ w1.heap.size by
    have := lt_of_heap (S1.out.at 0 rfl)
    have := b1.size
    omega)
  have S2 := Lib.hid ((S1.out.next b1).alloc (dbx ⟨1, (n : Int), dn, dp, ds⟩))
  clear b1 S1 HR
  obtain ⟨z0, z1, z2, z3, z4⟩ := cells5 (S2.out.at 0 rfl)
  obtain ⟨a0, a1, a2, a3, a4, a5, a6, a7, a8⟩ := PlanW.cells9 (S2.out.at 2 rfl)
  obtain ⟨b, off, rfl, l0, l1, l2, l3⟩ := ml_at (HM.out.he.below S2.out.b) hk
  go_wp2
  generalize w1.alloc (dbx ⟨1, (n : Int), dn, dp, ds⟩) = w2 at *
  generalize w1.heap.size = q at *
  apply wp_one
  case h =>
    refine wp_region_noPanic ?_
    refine wp_region_held_drew (S := fun Z : World => Z.heap[w.heap.size]? = some (cbx c D (some ⟨b, off, none⟩) L nd cd ne ce nl cl : Obj) ∧ Z.heap[q]? = some (dbx ⟨1, (n : Int), dn, dp, ds⟩) ∧ Z.cell? ⟨b, off + n * 4, none⟩ = some (.int .i64 e.a) ∧ Z.cell? ⟨b, off + n * 4 + 3, none⟩ = some (.int .i64 e.d)) (by kernel_rfl) (⟨S2.out.drew.at 2 rfl, S2.out.drew.at 0 rfl, l0, l3⟩) (fun hHeld => ?_)
    refine takeR 0 (some 34) ?_ ?_ ?_; rotate_left; (focus (intros; go_simp; (try with_reducible rfl)))
    simp only [aput, lset]
    refine takeR 1 (some 35) ?_ ?_ ?_; rotate_left; (focus (intro w hSw; (try dsimp only at hSw); obtain ⟨a0, a1, a2, a3, a4, a5, a6, a7, a8⟩ := PlanW.cells9 hSw.1; obtain ⟨z0, z1, z2, z3, z4⟩ := cells5 hSw.2.1; have l0 := hSw.2.2.1; have l3 := hSw.2.2.2; go_simp; (try with_reducible rfl)))
    simp only [aput, lset]
    refine takeR 2 (some 36) ?_ ?_ ?_; rotate_left; (focus (intros; go_simp; (try with_reducible rfl)))
    simp only [aput, lset]
    refine takeR 3 (some 37) ?_ ?_ ?_; rotate_left; (focus (intro w hSw; (try dsimp only at hSw); obtain ⟨a0, a1, a2, a3, a4, a5, a6, a7, a8⟩ := PlanW.cells9 hSw.1; obtain ⟨z0, z1, z2, z3, z4⟩ := cells5 hSw.2.1; have l0 := hSw.2.2.1; have l3 := hSw.2.2.2; go_simp; (try with_reducible rfl)))
    simp only [aput, lset]
    refine takeR 4 (some 38) ?_ ?_ ?_; rotate_left; (focus (intros; go_simp; (try with_reducible rfl)))
    simp only [aput, lset]
    refine takeR 5 (some 39) ?_ ?_ ?_; rotate_left; (focus (intros; go_simp; (try with_reducible rfl)))
    simp only [aput, lset]
    refine takeR 6 (some 40) ?_ ?_ ?_; rotate_left; (focus (intros; go_simp; (try with_reducible rfl)))
    simp only [aput, lset]
    refine takeR 7 (some 41) ?_ ?_ ?_; rotate_left; (focus (intros; go_simp; (try with_reducible rfl)))
    simp only [aput, lset]
    refine takeR 8 (some 42) ?_ ?_ ?_; rotate_left; (focus (intro w hSw; (try dsimp only at hSw); obtain ⟨a0, a1, a2, a3, a4, a5, a6, a7, a8⟩ := PlanW.cells9 hSw.1; obtain ⟨z0, z1, z2, z3, z4⟩ := cells5 hSw.2.1; have l0 := hSw.2.2.1; have l3 := hSw.2.2.2; go_simp; (try with_reducible rfl)))
    simp only [aput, lset]
    refine takeR 9 (some 43) ?_ ?_ ?_; rotate_left; (focus (intros; go_simp; (try with_reducible rfl)))
    simp only [aput, lset]
    refine takeR 10 (some 44) ?_ ?_ ?_; rotate_left; (focus (intro w hSw; (try dsimp only at hSw); obtain ⟨a0, a1, a2, a3, a4, a5, a6, a7, a8⟩ := PlanW.cells9 hSw.1; obtain ⟨z0, z1, z2, z3, z4⟩ := cells5 hSw.2.1; have l0 := hSw.2.2.1; have l3 := hSw.2.2.2; go_simp; (try with_reducible rfl)))
    simp only [aput, lset]
    refine takeR 11 (some 45) ?_ ?_ ?_; rotate_left; (focus (intros; go_simp; (try with_reducible rfl)))
    simp only [aput, lset]
    refine takeR 12 (some 46) ?_ ?_ ?_; rotate_left; (focus (intros; go_simp; (try with_reducible rfl)))
    simp only [aput, lset]
    refine takeR 13 (some 47) ?_ ?_ ?_; rotate_left; (focus (intro w hSw; (try dsimp only at hSw); obtain ⟨a0, a1, a2, a3, a4, a5, a6, a7, a8⟩ := PlanW.cells9 hSw.1; obtain ⟨z0, z1, z2, z3, z4⟩ := cells5 hSw.2.1; have l0 := hSw.2.2.1; have l3 := hSw.2.2.2; go_simp; (try with_reducible rfl)))
    simp only [aput, lset]
    refine takeR 14 (some 48) ?_ ?_ ?_; rotate_left; (focus (intros; go_simp; (try with_reducible rfl)))
    simp only [aput, lset]
    refine takeR 15 (some 49) ?_ ?_ ?_; rotate_left; (focus (intros; go_simp; (try with_reducible rfl)))
    simp only [aput, lset]
    refine takeR 16 (some 50) ?_ ?_ ?_; rotate_left; (focus (intros; go_simp; (try with_reducible rfl)))
    simp only [aput, lset]
    refine takeR 17 (some 51) ?_ ?_ ?_; rotate_left; (focus (intros; go_simp; (try with_reducible rfl)))
    simp only [aput, lset]
    refine takeR 18 (some 52) ?_ ?_ ?_; rotate_left; (focus (intros; go_simp; (try with_reducible rfl)))
    simp only [aput, lset]
    refine takeR 19 (some 53) ?_ ?_ ?_; rotate_left; (focus (intro w hSw; (try dsimp only at hSw); obtain ⟨a0, a1, a2, a3, a4, a5, a6, a7, a8⟩ := PlanW.cells9 hSw.1; obtain ⟨z0, z1, z2, z3, z4⟩ := cells5 hSw.2.1; have l0 := hSw.2.2.1; have l3 := hSw.2.2.2; go_simp; (try with_reducible rfl)))
    simp only [aput, lset]
    refine takeR 20 (some 54) ?_ ?_ ?_; rotate_left; (focus (intros; go_simp; (try with_reducible rfl)))
    simp only [aput, lset]
    refine takeR 21 (some 55) ?_ ?_ ?_; rotate_left; (focus (intro w hSw; (try dsimp only at hSw); obtain ⟨a0, a1, a2, a3, a4, a5, a6, a7, a8⟩ := PlanW.cells9 hSw.1; obtain ⟨z0, z1, z2, z3, z4⟩ := cells5 hSw.2.1; have l0 := hSw.2.2.1; have l3 := hSw.2.2.2; go_simp; (try with_reducible rfl)))
    simp only [aput, lset]
    refine takeR 22 (some 56) ?_ ?_ ?_; rotate_left; (focus (intros; go_simp; (try with_reducible rfl)))
    simp only [aput, lset]
    refine takeR 23 (some 57) ?_ ?_ ?_; rotate_left; (focus (intros; go_simp; (try with_reducible rfl)))
    simp only [aput, lset]
    refine takeR 24 (some 58) ?_ ?_ ?_; rotate_left; (focus (intro w hSw; (try dsimp only at hSw); obtain ⟨a0, a1, a2, a3, a4, a5, a6, a7, a8⟩ := PlanW.cells9 hSw.1; obtain ⟨z0, z1, z2, z3, z4⟩ := cells5 hSw.2.1; have l0 := hSw.2.2.1; have l3 := hSw.2.2.2; go_simp; (try with_reducible rfl)))
    simp only [aput, lset]
    refine takeR 25 (some 59) ?_ ?_ ?_; rotate_left; (focus (intros; go_simp; (try with_reducible rfl)))
    simp only [aput, lset]
    refine takeR 26 (some 60) ?_ ?_ ?_; rotate_left; (focus (intro w hSw; (try dsimp only at hSw); obtain ⟨a0, a1, a2, a3, a4, a5, a6, a7, a8⟩ := PlanW.cells9 hSw.1; obtain ⟨z0, z1, z2, z3, z4⟩ := cells5 hSw.2.1; have l0 := hSw.2.2.1; have l3 := hSw.2.2.2; go_simp; (try with_reducible rfl)))
    simp only [aput, lset]
    refine takeR 27 (some 61) ?_ ?_ ?_; rotate_left; (focus (intros; go_simp; (try with_reducible rfl)))
    simp only [aput, lset]
    refine takeR 28 (some 62) ?_ ?_ ?_; rotate_left; (focus (intros; go_simp; (try with_reducible rfl)))
    simp only [aput, lset]
    refine wpAnyH_done (by kernel_rfl) ?_ _
    exact NoPanic.normal ⟨rfl, rfl, rfl⟩
  case hm =>
    have HP := Lib.hid (PlanW.refRelay_any c D (some ⟨b, off, none⟩) L nd cd ne ce nl cl n lo _ (HM.out.below S2.out.drew.b))
    rw [H5.out] at HP
    go_wp2_with fail
    refine HP.out.mono ?_
    rintro r w3 ⟨rfl, b3⟩
    have S3 := Lib.hid (S2.out.drew.next b3)
    have l1 := (HM.out.he.below S3.out.b)
    clear b3 HP S2 z0 z1 z2 z3 z4 a0 a1 a2 a3 a4 a5 a6 a7 a8 l0 l2 l3
    obtain ⟨z0, z1, z2, z3, z4⟩ := cells5 (S3.out.at 0 rfl)
    obtain ⟨a0, a1, a2, a3, a4, a5, a6, a7, a8⟩ := PlanW.cells9 (S3.out.at 2 rfl)
    obtain ⟨b', off', hE, m0, m1, m2, m3⟩ := ml_at l1 hk
    cases hE
    clear l1 m0 m2 m3
    go_wp2
    obtain ⟨hn, he, hv⟩ := rj_facts S3.out HPQ.out.1 ⟨2, 0, 0⟩
    have HN := Lib.hid (at_drew hn)
    have HE := Lib.hid he.drew
    have HV := Lib.hid (at_drew hv)
    clear hn he hv
    apply wp_one
    case h =>
      refine wp_region_noPanic ?_
      refine wp_region_held_drew (S := fun Z : World => Z.heap[q]? = some (dbx ⟨1, (n : Int), dn, dp, ds⟩)) (by kernel_rfl) (S3.out.drew.at 0 rfl) (fun hHeld => ?_)
      refine takeR 0 (some 76) ?_ ?_ ?_; rotate_left; (focus (intros; go_simp; (try with_reducible rfl)))
      simp only [aput, lset]
      refine takeR 3 (some 12) ?_ ?_ ?_; rotate_left; (focus (intros; go_simp; (try with_reducible rfl)))
      simp only [aput, lset]
      refine takeR 1 (some 77) ?_ ?_ ?_; rotate_left; (focus (intro w hSw; (try dsimp only at hSw); obtain ⟨x0, x1, x2, x3, x4⟩ := cells5 hSw; go_simp; (try with_reducible rfl)))
      simp only [aput, lset]
      refine takeR 2 (some 78) ?_ ?_ ?_; rotate_left; (focus (intros; go_simp; (try with_reducible rfl)))
      simp only [aput, lset]
      obtain ⟨y0, y1, y2, y3, y4, y5, y6, y7⟩ := cells8 (S3.out.at 1 rfl)
      obtain ⟨f0, f1, f2, f3, f4, f5, f6, f7⟩ := frozen8 (S3.out.at 1 rfl)
      refine wpAnyH_ready (rs := [4]) (by kernel_rfl) (by simp) ?_
      refine AllReadyH.cons (o := ⟨none, _, _, _, _, _⟩) rfl (fun K hK => ?_) AllReadyH.nil
      rw [if_pos (by kernel_rfl)]
      go_simp
      refine hK.out _ _ (by exact HN.out) (fun hHeld => ?_)
      clear hK K
      refine wpAnyH_done (by kernel_rfl) ?_ _
      exact NoPanic.normal ⟨rfl, rfl, rfl⟩
    case hm =>
      go_wp2
      exact ret_v rfl rfl HV.out ⟨rfl, HE.out⟩
set_option maxHeartbeats 4000000 in
set_option maxRecDepth 100000 in
theorem rj_t4 (c : Cfg) (D E L : Option Addr) (nd cd ne ce nl cl : Nat) (t lo fr : Int) (vl : Value) (A : Option Addr) (l : List Int) (cp : Nat) (w : World) (h : CM w c D E L nd cd ne ce nl cl) (hb : BL w A l) (hl : l.length ≤ 9223372036854775807) (hc : l.length ≤ cp) (d : Dt) (hd : dt l = d) (he : rdE l = 0) (e : R4) (x : Int) (h1 : d.c = 1) (h2 : entAt c d.l = some e) (h3 : e.a = fr) (h4 : e.d = d.s) (h5 : relayV c d.l lo = (x, true)) :
    Calls Try.prog 13 #[.agg #[.int .i64 c.hosts, .int .i64 c.cycle, .int .i64 c.delay, .int .i64 c.window, .int .i64 c.precision, .slice D nd cd, .slice E ne ce, .slice L nl cl, .int .i64 c.queue], vl, .int .i64 t, .int .i64 lo, .int .i64 fr, .slice A l.length cp] w fun r w' => r = .returned (.tuple #[vl, vv d ⟨0, e.b, x⟩]) ∧ Below w.heap.size w w' := by
  have S0 := ((Stay.start w).alloc (cbx c D E L nd cd ne ce nl cl)).alloc (vbx v0 d0)
  rw [World.size_alloc] at S0
  have S1 := Lib.hid S0
  have HR := Lib.hid (FrameW.refReadData_any A cp l _ (hb.below S0.b) hl hc)
  have ok := dt_ok he
  rw [rdV_dt, he, hd] at HR
  rw [hd] at ok
  have HM := Lib.hid h
  have hnE : ne ≤ 9223372036854775807 := by have := h.mE; unfold maxLen at this; omega
  have hnL : nl ≤ 9223372036854775807 := by have := h.mL; unfold maxLen at this; omega
  obtain ⟨n, hn, hk, hlt⟩ := ent_at h2 ok.l.1
  rw [← h.nE] at hlt
  obtain ⟨dc, dl, dn, dp, ds⟩ := d
  obtain rfl : dc = 1 := h1
  obtain rfl : dl = (n : Int) := hn
  have g1 : (n : Int) < (ne : Int) := by omega
  have g4 : decide (ne ≤ n) = false := decide_eq_false (by omega)
  clear h2
  have g2 : (e.a != fr) = false := by rw [bne_eq_false_iff_eq]; exact h3
  have g3 : (e.d != ds) = false := by rw [bne_eq_false_iff_eq]; exact h4
  have H5 := Lib.hid (show relayV c (n : Int) lo = (x, true) from h5)
  clear h3 h4 h5
  clear S0 hb hl hc hd he h ok
  go_enter Try.func13, Try.ntmps13
  go_wp2_with fail
  refine HR.out.mono ?_
  rintro r w1 ⟨rfl, b1⟩
  have HPQ := Lib.hid (show w.heap.size + 1 ≠ w1.heap.size ∧ w.heap.size ≠ w1.heap.size by
    have := lt_of_heap (S1.out.at 0 rfl)
    have := b1.size
    omega)
  have S2 := Lib.hid ((S1.out.next b1).alloc (dbx ⟨1, (n : Int), dn, dp, ds⟩))
  clear b1 S1 HR
  obtain ⟨z0, z1, z2, z3, z4⟩ := cells5 (S2.out.at 0 rfl)
  obtain ⟨a0, a1, a2, a3, a4, a5, a6, a7, a8⟩ := PlanW.cells9 (S2.out.at 2 rfl)
  obtain ⟨b, off, rfl, l0, l1, l2, l3⟩ := ml_at (HM.out.he.below S2.out.b) hk
  go_wp2
  generalize w1.alloc (dbx ⟨1, (n : Int), dn, dp, ds⟩) = w2 at *
  generalize w1.heap.size = q at *
  apply wp_one
  case h =>
    refine wp_region_noPanic ?_
    refine wp_region_held_drew (S := fun Z : World => Z.heap[w.heap.size]? = some (cbx c D (some ⟨b, off, none⟩) L nd cd ne ce nl cl : Obj) ∧ Z.heap[q]? = some (dbx ⟨1, (n : Int), dn, dp, ds⟩) ∧ Z.cell? ⟨b, off + n * 4, none⟩ = some (.int .i64 e.a) ∧ Z.cell? ⟨b, off + n * 4 + 3, none⟩ = some (.int .i64 e.d)) (by kernel_rfl) (⟨S2.out.drew.at 2 rfl, S2.out.drew.at 0 rfl, l0, l3⟩) (fun hHeld => ?_)
    refine takeR 0 (some 34) ?_ ?_ ?_; rotate_left; (focus (intros; go_simp; (try with_reducible rfl)))
    simp only [aput, lset]
    refine takeR 1 (some 35) ?_ ?_ ?_; rotate_left; (focus (intro w hSw; (try dsimp only at hSw); obtain ⟨a0, a1, a2, a3, a4, a5, a6, a7, a8⟩ := PlanW.cells9 hSw.1; obtain ⟨z0, z1, z2, z3, z4⟩ := cells5 hSw.2.1; have l0 := hSw.2.2.1; have l3 := hSw.2.2.2; go_simp; (try with_reducible rfl)))
    simp only [aput, lset]
    refine takeR 2 (some 36) ?_ ?_ ?_; rotate_left; (focus (intros; go_simp; (try with_reducible rfl)))
    simp only [aput, lset]
    refine takeR 3 (some 37) ?_ ?_ ?_; rotate_left; (focus (intro w hSw; (try dsimp only at hSw); obtain ⟨a0, a1, a2, a3, a4, a5, a6, a7, a8⟩ := PlanW.cells9 hSw.1; obtain ⟨z0, z1, z2, z3, z4⟩ := cells5 hSw.2.1; have l0 := hSw.2.2.1; have l3 := hSw.2.2.2; go_simp; (try with_reducible rfl)))
    simp only [aput, lset]
    refine takeR 4 (some 38) ?_ ?_ ?_; rotate_left; (focus (intros; go_simp; (try with_reducible rfl)))
    simp only [aput, lset]
    refine takeR 5 (some 39) ?_ ?_ ?_; rotate_left; (focus (intros; go_simp; (try with_reducible rfl)))
    simp only [aput, lset]
    refine takeR 6 (some 40) ?_ ?_ ?_; rotate_left; (focus (intros; go_simp; (try with_reducible rfl)))
    simp only [aput, lset]
    refine takeR 7 (some 41) ?_ ?_ ?_; rotate_left; (focus (intros; go_simp; (try with_reducible rfl)))
    simp only [aput, lset]
    refine takeR 8 (some 42) ?_ ?_ ?_; rotate_left; (focus (intro w hSw; (try dsimp only at hSw); obtain ⟨a0, a1, a2, a3, a4, a5, a6, a7, a8⟩ := PlanW.cells9 hSw.1; obtain ⟨z0, z1, z2, z3, z4⟩ := cells5 hSw.2.1; have l0 := hSw.2.2.1; have l3 := hSw.2.2.2; go_simp; (try with_reducible rfl)))
    simp only [aput, lset]
    refine takeR 9 (some 43) ?_ ?_ ?_; rotate_left; (focus (intros; go_simp; (try with_reducible rfl)))
    simp only [aput, lset]
    refine takeR 10 (some 44) ?_ ?_ ?_; rotate_left; (focus (intro w hSw; (try dsimp only at hSw); obtain ⟨a0, a1, a2, a3, a4, a5, a6, a7, a8⟩ := PlanW.cells9 hSw.1; obtain ⟨z0, z1, z2, z3, z4⟩ := cells5 hSw.2.1; have l0 := hSw.2.2.1; have l3 := hSw.2.2.2; go_simp; (try with_reducible rfl)))
    simp only [aput, lset]
    refine takeR 11 (some 45) ?_ ?_ ?_; rotate_left; (focus (intros; go_simp; (try with_reducible rfl)))
    simp only [aput, lset]
    refine takeR 12 (some 46) ?_ ?_ ?_; rotate_left; (focus (intros; go_simp; (try with_reducible rfl)))
    simp only [aput, lset]
    refine takeR 13 (some 47) ?_ ?_ ?_; rotate_left; (focus (intro w hSw; (try dsimp only at hSw); obtain ⟨a0, a1, a2, a3, a4, a5, a6, a7, a8⟩ := PlanW.cells9 hSw.1; obtain ⟨z0, z1, z2, z3, z4⟩ := cells5 hSw.2.1; have l0 := hSw.2.2.1; have l3 := hSw.2.2.2; go_simp; (try with_reducible rfl)))
    simp only [aput, lset]
    refine takeR 14 (some 48) ?_ ?_ ?_; rotate_left; (focus (intros; go_simp; (try with_reducible rfl)))
    simp only [aput, lset]
    refine takeR 15 (some 49) ?_ ?_ ?_; rotate_left; (focus (intros; go_simp; (try with_reducible rfl)))
    simp only [aput, lset]
    refine takeR 16 (some 50) ?_ ?_ ?_; rotate_left; (focus (intros; go_simp; (try with_reducible rfl)))
    simp only [aput, lset]
    refine takeR 17 (some 51) ?_ ?_ ?_; rotate_left; (focus (intros; go_simp; (try with_reducible rfl)))
    simp only [aput, lset]
    refine takeR 18 (some 52) ?_ ?_ ?_; rotate_left; (focus (intros; go_simp; (try with_reducible rfl)))
    simp only [aput, lset]
    refine takeR 19 (some 53) ?_ ?_ ?_; rotate_left; (focus (intro w hSw; (try dsimp only at hSw); obtain ⟨a0, a1, a2, a3, a4, a5, a6, a7, a8⟩ := PlanW.cells9 hSw.1; obtain ⟨z0, z1, z2, z3, z4⟩ := cells5 hSw.2.1; have l0 := hSw.2.2.1; have l3 := hSw.2.2.2; go_simp; (try with_reducible rfl)))
    simp only [aput, lset]
    refine takeR 20 (some 54) ?_ ?_ ?_; rotate_left; (focus (intros; go_simp; (try with_reducible rfl)))
    simp only [aput, lset]
    refine takeR 21 (some 55) ?_ ?_ ?_; rotate_left; (focus (intro w hSw; (try dsimp only at hSw); obtain ⟨a0, a1, a2, a3, a4, a5, a6, a7, a8⟩ := PlanW.cells9 hSw.1; obtain ⟨z0, z1, z2, z3, z4⟩ := cells5 hSw.2.1; have l0 := hSw.2.2.1; have l3 := hSw.2.2.2; go_simp; (try with_reducible rfl)))
    simp only [aput, lset]
    refine takeR 22 (some 56) ?_ ?_ ?_; rotate_left; (focus (intros; go_simp; (try with_reducible rfl)))
    simp only [aput, lset]
    refine takeR 23 (some 57) ?_ ?_ ?_; rotate_left; (focus (intros; go_simp; (try with_reducible rfl)))
    simp only [aput, lset]
    refine takeR 24 (some 58) ?_ ?_ ?_; rotate_left; (focus (intro w hSw; (try dsimp only at hSw); obtain ⟨a0, a1, a2, a3, a4, a5, a6, a7, a8⟩ := PlanW.cells9 hSw.1; obtain ⟨z0, z1, z2, z3, z4⟩ := cells5 hSw.2.1; have l0 := hSw.2.2.1; have l3 := hSw.2.2.2; go_simp; (try with_reducible rfl)))
    simp only [aput, lset]
    refine takeR 25 (some 59) ?_ ?_ ?_; rotate_left; (focus (intros; go_simp; (try with_reducible rfl)))
    simp only [aput, lset]
    refine takeR 26 (some 60) ?_ ?_ ?_; rotate_left; (focus (intro w hSw; (try dsimp only at hSw); obtain ⟨a0, a1, a2, a3, a4, a5, a6, a7, a8⟩ := PlanW.cells9 hSw.1; obtain ⟨z0, z1, z2, z3, z4⟩ := cells5 hSw.2.1; have l0 := hSw.2.2.1; have l3 := hSw.2.2.2; go_simp; (try with_reducible rfl)))
    simp only [aput, lset]
    refine takeR 27 (some 61) ?_ ?_ ?_; rotate_left; (focus (intros; go_simp; (try with_reducible rfl)))
    simp only [aput, lset]
    refine takeR 28 (some 62) ?_ ?_ ?_; rotate_left; (focus (intros; go_simp; (try with_reducible rfl)))
    simp only [aput, lset]
    refine wpAnyH_done (by kernel_rfl) ?_ _
    exact NoPanic.normal ⟨rfl, rfl, rfl⟩
  case hm =>
    have HP := Lib.hid (PlanW.refRelay_any c D (some ⟨b, off, none⟩) L nd cd ne ce nl cl n lo _ (HM.out.below S2.out.drew.b))
    rw [H5.out] at HP
    go_wp2_with fail
    refine HP.out.mono ?_
    rintro r w3 ⟨rfl, b3⟩
    have S3 := Lib.hid (S2.out.drew.next b3)
    have l1 := (HM.out.he.below S3.out.b)
    clear b3 HP S2 z0 z1 z2 z3 z4 a0 a1 a2 a3 a4 a5 a6 a7 a8 l0 l2 l3
    obtain ⟨z0, z1, z2, z3, z4⟩ := cells5 (S3.out.at 0 rfl)
    obtain ⟨a0, a1, a2, a3, a4, a5, a6, a7, a8⟩ := PlanW.cells9 (S3.out.at 2 rfl)
    obtain ⟨b', off', hE, m0, m1, m2, m3⟩ := ml_at l1 hk
    cases hE
    clear l1 m0 m2 m3
    go_wp2
    obtain ⟨hn, he, hv⟩ := rj_facts S3.out HPQ.out.1 ⟨0, e.b, x⟩
    have HN := Lib.hid (at_drew hn)
    have HE := Lib.hid he.drew
    have HV := Lib.hid (at_drew hv)
    have HC := Lib.hid (at_drew (((kept8 w3 (w.heap.size + 1) (.int .i64 0) (.int .i64 1) (.int .i64 (n : Int)) (.int .i64 dn) (.string dp) (.int .i64 ds) (.int .u32 (e.b : Int)) (.int .i64 x)).block w.heap.size (Nat.ne_of_lt (Nat.lt_succ_self _)) (lt_of_heap (S3.out.at 2 rfl))).trans (S3.out.at 2 rfl)))
    have HB := Lib.hid (ml_cell HM.out.he hk HE.out)
    replace HN := Lib.hid (And.intro HC.out (And.intro HN.out HB.out))
    clear hn he hv
    apply wp_one
    case h =>
      refine wp_region_noPanic ?_
      refine wp_region_held_drew (S := fun Z : World => Z.heap[w.heap.size]? = some (cbx c D (some ⟨b, off, none⟩) L nd cd ne ce nl cl : Obj) ∧ Z.heap[q]? = some (dbx ⟨1, (n : Int), dn, dp, ds⟩) ∧ Z.cell? ⟨b, off + n * 4 + 1, none⟩ = some (.int .u32 (e.b : Int))) (by kernel_rfl) (⟨S3.out.drew.at 2 rfl, S3.out.drew.at 0 rfl, m1⟩) (fun hHeld => ?_)
      refine takeR 0 (some 79) ?_ ?_ ?_; rotate_left; (focus (intros; go_simp; (try with_reducible rfl)))
      simp only [aput, lset]
      refine takeR 11 (some 12) ?_ ?_ ?_; rotate_left; (focus (intros; go_simp; (try with_reducible rfl)))
      simp only [aput, lset]
      refine takeR 1 (some 80) ?_ ?_ ?_; rotate_left; (focus (intro w hSw; (try dsimp only at hSw); obtain ⟨a0, a1, a2, a3, a4, a5, a6, a7, a8⟩ := PlanW.cells9 hSw.1; obtain ⟨z0, z1, z2, z3, z4⟩ := cells5 hSw.2.1; have m1 := hSw.2.2; go_simp; (try with_reducible rfl)))
      simp only [aput, lset]
      refine takeR 2 (some 81) ?_ ?_ ?_; rotate_left; (focus (intros; go_simp; (try with_reducible rfl)))
      simp only [aput, lset]
      refine takeR 3 (some 82) ?_ ?_ ?_; rotate_left; (focus (intro w hSw; (try dsimp only at hSw); obtain ⟨a0, a1, a2, a3, a4, a5, a6, a7, a8⟩ := PlanW.cells9 hSw.1; obtain ⟨z0, z1, z2, z3, z4⟩ := cells5 hSw.2.1; have m1 := hSw.2.2; go_simp; (try with_reducible rfl)))
      simp only [aput, lset]
      refine takeR 4 (some 83) ?_ ?_ ?_; rotate_left; (focus (intros; go_simp; (try with_reducible rfl)))
      simp only [aput, lset]
      refine takeR 5 (some 84) ?_ ?_ ?_; rotate_left; (focus (intro w hSw; (try dsimp only at hSw); obtain ⟨a0, a1, a2, a3, a4, a5, a6, a7, a8⟩ := PlanW.cells9 hSw.1; obtain ⟨z0, z1, z2, z3, z4⟩ := cells5 hSw.2.1; have m1 := hSw.2.2; go_simp; (try with_reducible rfl)))
      simp only [aput, lset]
      refine takeR 6 (some 85) ?_ ?_ ?_; rotate_left; (focus (intros; go_simp; (try with_reducible rfl)))
      simp only [aput, lset]
      refine takeR 7 (some 86) ?_ ?_ ?_; rotate_left; (focus (intros; go_simp; (try with_reducible rfl)))
      simp only [aput, lset]
      refine takeR 8 (some 87) ?_ ?_ ?_; rotate_left; (focus (intro w hSw; (try dsimp only at hSw); obtain ⟨a0, a1, a2, a3, a4, a5, a6, a7, a8⟩ := PlanW.cells9 hSw.1; obtain ⟨z0, z1, z2, z3, z4⟩ := cells5 hSw.2.1; have m1 := hSw.2.2; go_simp; (try with_reducible rfl)))
      simp only [aput, lset]
      refine takeR 9 (some 88) ?_ ?_ ?_; rotate_left; (focus (intros; go_simp; (try with_reducible rfl)))
      simp only [aput, lset]
      refine takeR 10 (some 89) ?_ ?_ ?_; rotate_left; (focus (intros; go_simp; (try with_reducible rfl)))
      simp only [aput, lset]
      obtain ⟨y0, y1, y2, y3, y4, y5, y6, y7⟩ := cells8 (S3.out.at 1 rfl)
      obtain ⟨f0, f1, f2, f3, f4, f5, f6, f7⟩ := frozen8 (S3.out.at 1 rfl)
      refine wpAnyH_ready (rs := [12]) (by kernel_rfl) (by simp) ?_
      refine AllReadyH.cons (o := ⟨none, _, _, _, _, _⟩) rfl (fun K hK => ?_) AllReadyH.nil
      rw [if_pos (by kernel_rfl)]
      go_simp
      refine hK.out _ _ (by exact HN.out) (fun hHeld => ?_)
      clear hK K
      refine wpAnyH_done (by kernel_rfl) ?_ _
      exact NoPanic.normal ⟨rfl, rfl, rfl⟩
    case hm =>
      go_wp2
      exact ret_v rfl rfl HV.out ⟨rfl, HE.out⟩
set_option maxHeartbeats 4000000 in
set_option maxRecDepth 100000 in
theorem rj_e0 (c : Cfg) (D E L : Option Addr) (nd cd ne ce nl cl : Nat) (t lo fr : Int) (vl : Value) (A : Option Addr) (l : List Int) (cp : Nat) (w : World) (h : CM w c D E L nd cd ne ce nl cl) (hb : BL w A l) (hl : l.length ≤ 9223372036854775807) (hc : l.length ≤ cp) (d : Dt) (hd : dt l = d) (he : rdE l = 0) (h1 : d.c = 3) (h2 : c.hosts ≤ d.l) :
    Calls Try.prog 13 #[.agg #[.int .i64 c.hosts, .int .i64 c.cycle, .int .i64 c.delay, .int .i64 c.window, .int .i64 c.precision, .slice D nd cd, .slice E ne ce, .slice L nl cl, .int .i64 c.queue], vl, .int .i64 t, .int .i64 lo, .int .i64 fr, .slice A l.length cp] w fun r w' => r = .returned (.tuple #[vl, vv d ⟨1, 0, 0⟩]) ∧ Below w.heap.size w w' := by
  have S0 := ((Stay.start w).alloc (cbx c D E L nd cd ne ce nl cl)).alloc (vbx v0 d0)
  rw [World.size_alloc] at S0
  have S1 := Lib.hid S0
  have HR := Lib.hid (FrameW.refReadData_any A cp l _ (hb.below S0.b) hl hc)
  have ok := dt_ok he
  rw [rdV_dt, he, hd] at HR
  rw [hd] at ok
  have HM := Lib.hid h
  have hnE : ne ≤ 9223372036854775807 := by have := h.mE; unfold maxLen at this; omega
  have hnL : nl ≤ 9223372036854775807 := by have := h.mL; unfold maxLen at this; omega
  obtain ⟨dc, dl, dn, dp, ds⟩ := d
  obtain rfl : dc = 3 := h1
  have g1 : dl ≥ c.hosts := h2
  clear h2
  clear S0 hb hl hc hd he h ok
  go_enter Try.func13, Try.ntmps13
  go_wp2_with fail
  refine HR.out.mono ?_
  rintro r w1 ⟨rfl, b1⟩
  have HPQ := Lib.hid (show w.heap.size + 1 ≠ w1.heap.size ∧ w.heap.size ≠ w1.heap.size by
    have := lt_of_heap (S1.out.at 0 rfl)
    have := b1.size
    omega)
  have S2 := Lib.hid ((S1.out.next b1).alloc (dbx ⟨3, dl, dn, dp, ds⟩))
  clear b1 S1 HR
  obtain ⟨z0, z1, z2, z3, z4⟩ := cells5 (S2.out.at 0 rfl)
  obtain ⟨a0, a1, a2, a3, a4, a5, a6, a7, a8⟩ := PlanW.cells9 (S2.out.at 2 rfl)
  go_wp2
  generalize w1.alloc (dbx ⟨3, dl, dn, dp, ds⟩) = w2 at *
  generalize w1.heap.size = q at *
  obtain ⟨hn, he, hv⟩ := rj_facts S2.out HPQ.out.1 ⟨1, 0, 0⟩
  have HN := Lib.hid (at_drew hn)
  have HE := Lib.hid he.drew
  have HV := Lib.hid (at_drew hv)
  clear hn he hv
  apply wp_one
  case h =>
    refine wp_region_noPanic ?_
    refine wp_region_held_drew (S := fun Z : World => Z.heap[q]? = some (dbx ⟨3, dl, dn, dp, ds⟩)) (by kernel_rfl) (S2.out.drew.at 0 rfl) (fun hHeld => ?_)
    refine takeR 0 (some 104) ?_ ?_ ?_; rotate_left; (focus (intros; go_simp; (try with_reducible rfl)))
    simp only [aput, lset]
    refine takeR 3 (some 12) ?_ ?_ ?_; rotate_left; (focus (intros; go_simp; (try with_reducible rfl)))
    simp only [aput, lset]
    refine takeR 1 (some 105) ?_ ?_ ?_; rotate_left; (focus (intro w hSw; (try dsimp only at hSw); obtain ⟨x0, x1, x2, x3, x4⟩ := cells5 hSw; go_simp; (try with_reducible rfl)))
    simp only [aput, lset]
    refine takeR 2 (some 106) ?_ ?_ ?_; rotate_left; (focus (intros; go_simp; (try with_reducible rfl)))
    simp only [aput, lset]
    obtain ⟨y0, y1, y2, y3, y4, y5, y6, y7⟩ := cells8 (S2.out.at 1 rfl)
    obtain ⟨f0, f1, f2, f3, f4, f5, f6, f7⟩ := frozen8 (S2.out.at 1 rfl)
    refine wpAnyH_ready (rs := [4]) (by kernel_rfl) (by simp) ?_
    refine AllReadyH.cons (o := ⟨none, _, _, _, _, _⟩) rfl (fun K hK => ?_) AllReadyH.nil
    rw [if_pos (by kernel_rfl)]
    go_simp
    refine hK.out _ _ (by exact HN.out) (fun hHeld => ?_)
    clear hK K
    refine wpAnyH_done (by kernel_rfl) ?_ _
    exact NoPanic.normal ⟨rfl, rfl, rfl⟩
  case hm =>
    go_wp2
    exact ret_v rfl rfl HV.out ⟨rfl, HE.out⟩
set_option maxHeartbeats 4000000 in
set_option maxRecDepth 100000 in
theorem rj_e1 (c : Cfg) (D E L : Option Addr) (nd cd ne ce nl cl : Nat) (t lo fr : Int) (vl : Value) (A : Option Addr) (l : List Int) (cp : Nat) (w : World) (h : CM w c D E L nd cd ne ce nl cl) (hb : BL w A l) (hl : l.length ≤ 9223372036854775807) (hc : l.length ≤ cp) (d : Dt) (hd : dt l = d) (he : rdE l = 0) (h1 : d.c = 3) (h2 : d.l < c.hosts) (h3 : d.l = fr) :
    Calls Try.prog 13 #[.agg #[.int .i64 c.hosts, .int .i64 c.cycle, .int .i64 c.delay, .int .i64 c.window, .int .i64 c.precision, .slice D nd cd, .slice E ne ce, .slice L nl cl, .int .i64 c.queue], vl, .int .i64 t, .int .i64 lo, .int .i64 fr, .slice A l.length cp] w fun r w' => r = .returned (.tuple #[vl, vv d ⟨1, 0, 0⟩]) ∧ Below w.heap.size w w' := by
  have S0 := ((Stay.start w).alloc (cbx c D E L nd cd ne ce nl cl)).alloc (vbx v0 d0)
  rw [World.size_alloc] at S0
  have S1 := Lib.hid S0
  have HR := Lib.hid (FrameW.refReadData_any A cp l _ (hb.below S0.b) hl hc)
  have ok := dt_ok he
  rw [rdV_dt, he, hd] at HR
  rw [hd] at ok
  have HM := Lib.hid h
  have hnE : ne ≤ 9223372036854775807 := by have := h.mE; unfold maxLen at this; omega
  have hnL : nl ≤ 9223372036854775807 := by have := h.mL; unfold maxLen at this; omega
  obtain ⟨dc, dl, dn, dp, ds⟩ := d
  obtain rfl : dc = 3 := h1
  have g1 : decide (c.hosts ≤ dl) = false := decide_eq_false (by show ¬ _; intro h; exact absurd h2 (by show ¬ dl < c.hosts; omega))
  have g2 : (dl == fr) = true := by rw [beq_iff_eq]; exact h3
  clear h2 h3
  clear S0 hb hl hc hd he h ok
  go_enter Try.func13, Try.ntmps13
  go_wp2_with fail
  refine HR.out.mono ?_
  rintro r w1 ⟨rfl, b1⟩
  have HPQ := Lib.hid (show w.heap.size + 1 ≠ w1.heap.size ∧ w.heap.size ≠ w1.heap.size by
    have := lt_of_heap (S1.out.at 0 rfl)
    have := b1.size
    omega)
  have S2 := Lib.hid ((S1.out.next b1).alloc (dbx ⟨3, dl, dn, dp, ds⟩))
  clear b1 S1 HR
  obtain ⟨z0, z1, z2, z3, z4⟩ := cells5 (S2.out.at 0 rfl)
  obtain ⟨a0, a1, a2, a3, a4, a5, a6, a7, a8⟩ := PlanW.cells9 (S2.out.at 2 rfl)
  go_wp2
  generalize w1.alloc (dbx ⟨3, dl, dn, dp, ds⟩) = w2 at *
  generalize w1.heap.size = q at *
  obtain ⟨hn, he, hv⟩ := rj_facts S2.out HPQ.out.1 ⟨1, 0, 0⟩
  have HN := Lib.hid (at_drew hn)
  have HE := Lib.hid he.drew
  have HV := Lib.hid (at_drew hv)
  clear hn he hv
  apply wp_one
  case h =>
    refine wp_region_noPanic ?_
    refine wp_region_held_drew (S := fun Z : World => Z.heap[q]? = some (dbx ⟨3, dl, dn, dp, ds⟩)) (by kernel_rfl) (S2.out.drew.at 0 rfl) (fun hHeld => ?_)
    refine takeR 0 (some 104) ?_ ?_ ?_; rotate_left; (focus (intros; go_simp; (try with_reducible rfl)))
    simp only [aput, lset]
    refine takeR 3 (some 12) ?_ ?_ ?_; rotate_left; (focus (intros; go_simp; (try with_reducible rfl)))
    simp only [aput, lset]
    refine takeR 1 (some 105) ?_ ?_ ?_; rotate_left; (focus (intro w hSw; (try dsimp only at hSw); obtain ⟨x0, x1, x2, x3, x4⟩ := cells5 hSw; go_simp; (try with_reducible rfl)))
    simp only [aput, lset]
    refine takeR 2 (some 106) ?_ ?_ ?_; rotate_left; (focus (intros; go_simp; (try with_reducible rfl)))
    simp only [aput, lset]
    obtain ⟨y0, y1, y2, y3, y4, y5, y6, y7⟩ := cells8 (S2.out.at 1 rfl)
    obtain ⟨f0, f1, f2, f3, f4, f5, f6, f7⟩ := frozen8 (S2.out.at 1 rfl)
    refine wpAnyH_ready (rs := [4]) (by kernel_rfl) (by simp) ?_
    refine AllReadyH.cons (o := ⟨none, _, _, _, _, _⟩) rfl (fun K hK => ?_) AllReadyH.nil
    rw [if_pos (by kernel_rfl)]
    go_simp
    refine hK.out _ _ (by exact HN.out) (fun hHeld => ?_)
    clear hK K
    refine wpAnyH_done (by kernel_rfl) ?_ _
    exact NoPanic.normal ⟨rfl, rfl, rfl⟩
  case hm =>
    go_wp2
    exact ret_v rfl rfl HV.out ⟨rfl, HE.out⟩
set_option maxHeartbeats 4000000 in
set_option maxRecDepth 100000 in
theorem rj_e2 (c : Cfg) (D E L : Option Addr) (nd cd ne ce nl cl : Nat) (t lo fr : Int) (vl : Value) (A : Option Addr) (l : List Int) (cp : Nat) (w : World) (h : CM w c D E L nd cd ne ce nl cl) (hb : BL w A l) (hl : l.length ≤ 9223372036854775807) (hc : l.length ≤ cp) (d : Dt) (hd : dt l = d) (he : rdE l = 0) (h1 : d.c = 3) (h2 : d.l < c.hosts) (h3 : d.l ≠ fr) :
    Calls Try.prog 13 #[.agg #[.int .i64 c.hosts, .int .i64 c.cycle, .int .i64 c.delay, .int .i64 c.window, .int .i64 c.precision, .slice D nd cd, .slice E ne ce, .slice L nl cl, .int .i64 c.queue], vl, .int .i64 t, .int .i64 lo, .int .i64 fr, .slice A l.length cp] w fun r w' => r = .returned (.tuple #[vl, vv d ⟨0, CrewW.of [d.l], 0⟩]) ∧ Below w.heap.size w w' := by
  have S0 := ((Stay.start w).alloc (cbx c D E L nd cd ne ce nl cl)).alloc (vbx v0 d0)
  rw [World.size_alloc] at S0
  have S1 := Lib.hid S0
  have HR := Lib.hid (FrameW.refReadData_any A cp l _ (hb.below S0.b) hl hc)
  have ok := dt_ok he
  rw [rdV_dt, he, hd] at HR
  rw [hd] at ok
  have HM := Lib.hid h
  have hnE : ne ≤ 9223372036854775807 := by have := h.mE; unfold maxLen at this; omega
  have hnL : nl ≤ 9223372036854775807 := by have := h.mL; unfold maxLen at this; omega
  obtain ⟨dc, dl, dn, dp, ds⟩ := d
  obtain rfl : dc = 3 := h1
  have g1 : decide (c.hosts ≤ dl) = false := decide_eq_false (by show ¬ _; intro h; exact absurd h2 (by show ¬ dl < c.hosts; omega))
  have g2 : (dl == fr) = false := by rw [beq_eq_false_iff_ne]; exact h3
  have HDL := Lib.hid (show 0 ≤ dl ∧ dl ≤ 255 from ok.l)
  clear h2 h3
  clear S0 hb hl hc hd he h ok
  go_enter Try.func13, Try.ntmps13
  go_wp2_with fail
  refine HR.out.mono ?_
  rintro r w1 ⟨rfl, b1⟩
  have HPQ := Lib.hid (show w.heap.size + 1 ≠ w1.heap.size ∧ w.heap.size ≠ w1.heap.size by
    have := lt_of_heap (S1.out.at 0 rfl)
    have := b1.size
    omega)
  have S2 := Lib.hid ((S1.out.next b1).alloc (dbx ⟨3, dl, dn, dp, ds⟩))
  clear b1 S1 HR
  obtain ⟨z0, z1, z2, z3, z4⟩ := cells5 (S2.out.at 0 rfl)
  obtain ⟨a0, a1, a2, a3, a4, a5, a6, a7, a8⟩ := PlanW.cells9 (S2.out.at 2 rfl)
  go_wp2
  generalize w1.alloc (dbx ⟨3, dl, dn, dp, ds⟩) = w2 at *
  generalize w1.heap.size = q at *
  have S3 := Lib.hid (((S2.out.alloc (.cells #[.int .i64 dl] 3)).sub (M := [(q, dbx ⟨3, dl, dn, dp, ds⟩), (w.heap.size + 1, vbx v0 d0), (w.heap.size, cbx c D E L nd cd ne ce nl cl)]) (fun x hx => List.mem_cons_of_mem _ hx)))
  have HCL := Lib.hid (show CL (w2.alloc (.cells #[.int .i64 dl] 3)).drew .i64 (some ⟨w2.heap.size, 0, none⟩) [dl] from new_cl w2 .i64 [dl] 3 (Wf.one (BucketW.i64_in (by have := HDL.out; omega) (by have := HDL.out; omega))))
  obtain ⟨hn, he, hv⟩ := rj_facts S3.out HPQ.out.1 ⟨0, CrewW.of [dl], 0⟩
  have HN := Lib.hid (at_drew hn)
  have HE := Lib.hid he.drew
  have HV := Lib.hid (at_drew hv)
  clear hn he hv
  apply wp_one
  case h =>
    refine wp_region_noPanic ?_
    refine wp_region_held_drew (S := fun Z : World => Z.heap[q]? = some (dbx ⟨3, dl, dn, dp, ds⟩)) (by kernel_rfl) (S2.out.drew.at 0 rfl) (fun hHeld => ?_)
    refine takeR 0 (some 107) ?_ ?_ ?_; rotate_left; (focus (intros; go_simp; (try with_reducible rfl)))
    simp only [aput, lset]
    refine takeR 1 (some 108) ?_ ?_ ?_; rotate_left; (focus (intro w hSw; (try dsimp only at hSw); obtain ⟨x0, x1, x2, x3, x4⟩ := cells5 hSw; go_simp; (try with_reducible rfl)))
    simp only [aput, lset]
    refine takeR 2 (some 109) ?_ ?_ ?_; rotate_left; (focus (intros; go_simp; (try with_reducible rfl)))
    simp only [aput, lset]
    refine takeR 3 (some 110) ?_ ?_ ?_; rotate_left; (focus (intro w hSw; (try dsimp only at hSw); obtain ⟨x0, x1, x2, x3, x4⟩ := cells5 hSw; go_simp; (try with_reducible rfl)))
    simp only [aput, lset]
    refine wpAnyH_ready (rs := [4]) (by kernel_rfl) (by simp) ?_
    refine AllReadyH.cons (o := ⟨some 111, _, _, _, _, _⟩) rfl (fun K hK => ?_) AllReadyH.nil
    rw [if_pos (by kernel_rfl)]
    go_simp
    refine hK.out _ _ (by exact S3.out.drew.at 0 rfl) (fun hHeld => ?_)
    clear hK K
    refine wpAnyH_ready (rs := [5]) (by kernel_rfl) (by simp) ?_
    refine AllReadyH.cons (o := ⟨some 112, _, _, _, _, _⟩) rfl (fun K hK => ?_) AllReadyH.nil
    rw [if_pos (by kernel_rfl)]
    go_simp
    refine (CrewW.refOf_any (some ⟨w2.heap.size, 0, none⟩) 1 1 [dl] _ HCL.out rfl (by decide)).mono ?_
    rintro r9 w9 ⟨rfl, hw9⟩
    obtain rfl := hw9.symm
    go_simp
    refine hK.out _ _ (by exact S3.out.drew.at 0 rfl) (fun hHeld => ?_)
    clear hK K
    refine takeR 6 (some 113) ?_ ?_ ?_; rotate_left; (focus (intros; go_simp; (try with_reducible rfl)))
    simp only [aput, lset]
    refine takeR 7 (some 12) ?_ ?_ ?_; rotate_left; (focus (intros; go_simp; (try with_reducible rfl)))
    simp only [aput, lset]
    obtain ⟨y0, y1, y2, y3, y4, y5, y6, y7⟩ := cells8 (S3.out.at 1 rfl)
    obtain ⟨f0, f1, f2, f3, f4, f5, f6, f7⟩ := frozen8 (S3.out.at 1 rfl)
    refine wpAnyH_ready (rs := [8]) (by kernel_rfl) (by simp) ?_
    refine AllReadyH.cons (o := ⟨none, _, _, _, _, _⟩) rfl (fun K hK => ?_) AllReadyH.nil
    rw [if_pos (by kernel_rfl)]
    go_simp
    refine hK.out _ _ (by exact HN.out) (fun hHeld => ?_)
    clear hK K
    refine wpAnyH_done (by kernel_rfl) ?_ _
    exact NoPanic.normal ⟨rfl, rfl, rfl⟩
  case hm =>
    go_wp2
    exact ret_v rfl rfl HV.out ⟨rfl, HE.out⟩
set_option maxHeartbeats 4000000 in
set_option maxRecDepth 100000 in
theorem rj_r0 (c : Cfg) (D E L : Option Addr) (nd cd ne ce nl cl : Nat) (t lo fr : Int) (vl : Value) (A : Option Addr) (l : List Int) (cp : Nat) (w : World) (h : CM w c D E L nd cd ne ce nl cl) (hb : BL w A l) (hl : l.length ≤ 9223372036854775807) (hc : l.length ≤ cp) (d : Dt) (hd : dt l = d) (he : rdE l = 0) (h1 : d.c = 2) (h2 : lnkAt c d.l = none) :
    Calls Try.prog 13 #[.agg #[.int .i64 c.hosts, .int .i64 c.cycle, .int .i64 c.delay, .int .i64 c.window, .int .i64 c.precision, .slice D nd cd, .slice E ne ce, .slice L nl cl, .int .i64 c.queue], vl, .int .i64 t, .int .i64 lo, .int .i64 fr, .slice A l.length cp] w fun r w' => r = .returned (.tuple #[vl, vv d ⟨1, 0, 0⟩]) ∧ Below w.heap.size w w' := by
  have S0 := ((Stay.start w).alloc (cbx c D E L nd cd ne ce nl cl)).alloc (vbx v0 d0)
  rw [World.size_alloc] at S0
  have S1 := Lib.hid S0
  have HR := Lib.hid (FrameW.refReadData_any A cp l _ (hb.below S0.b) hl hc)
  have ok := dt_ok he
  rw [rdV_dt, he, hd] at HR
  rw [hd] at ok
  have HM := Lib.hid h
  have hnE : ne ≤ 9223372036854775807 := by have := h.mE; unfold maxLen at this; omega
  have hnL : nl ≤ 9223372036854775807 := by have := h.mL; unfold maxLen at this; omega
  have g1 := lnk_no h2 ok.l.1
  rw [← h.nL] at g1
  clear h2
  obtain ⟨dc, dl, dn, dp, ds⟩ := d
  obtain rfl : dc = 2 := h1
  replace g1 : dl ≥ (nl : Int) := g1
  clear S0 hb hl hc hd he h ok
  go_enter Try.func13, Try.ntmps13
  go_wp2_with fail
  refine HR.out.mono ?_
  rintro r w1 ⟨rfl, b1⟩
  have HPQ := Lib.hid (show w.heap.size + 1 ≠ w1.heap.size ∧ w.heap.size ≠ w1.heap.size by
    have := lt_of_heap (S1.out.at 0 rfl)
    have := b1.size
    omega)
  have S2 := Lib.hid ((S1.out.next b1).alloc (dbx ⟨2, dl, dn, dp, ds⟩))
  clear b1 S1 HR
  obtain ⟨z0, z1, z2, z3, z4⟩ := cells5 (S2.out.at 0 rfl)
  obtain ⟨a0, a1, a2, a3, a4, a5, a6, a7, a8⟩ := PlanW.cells9 (S2.out.at 2 rfl)
  go_wp2
  generalize w1.alloc (dbx ⟨2, dl, dn, dp, ds⟩) = w2 at *
  generalize w1.heap.size = q at *
  go_region
  go_wp2
  obtain ⟨hn, he, hv⟩ := rj_facts S2.out HPQ.out.1 ⟨1, 0, 0⟩
  have HN := Lib.hid (at_drew (at_drew hn))
  have HE := Lib.hid he.drew.drew
  have HV := Lib.hid (at_drew (at_drew hv))
  clear hn he hv
  apply wp_one
  case h =>
    refine wp_region_noPanic ?_
    refine wp_region_held_drew (S := fun Z : World => Z.heap[q]? = some (dbx ⟨2, dl, dn, dp, ds⟩)) (by kernel_rfl) (S2.out.drew.at 0 rfl) (fun hHeld => ?_)
    refine takeR 0 (some 143) ?_ ?_ ?_; rotate_left; (focus (intros; go_simp; (try with_reducible rfl)))
    simp only [aput, lset]
    refine takeR 3 (some 12) ?_ ?_ ?_; rotate_left; (focus (intros; go_simp; (try with_reducible rfl)))
    simp only [aput, lset]
    refine takeR 1 (some 144) ?_ ?_ ?_; rotate_left; (focus (intro w hSw; (try dsimp only at hSw); obtain ⟨x0, x1, x2, x3, x4⟩ := cells5 hSw; go_simp; (try with_reducible rfl)))
    simp only [aput, lset]
    refine takeR 2 (some 145) ?_ ?_ ?_; rotate_left; (focus (intros; go_simp; (try with_reducible rfl)))
    simp only [aput, lset]
    obtain ⟨y0, y1, y2, y3, y4, y5, y6, y7⟩ := cells8 (S2.out.at 1 rfl)
    obtain ⟨f0, f1, f2, f3, f4, f5, f6, f7⟩ := frozen8 (S2.out.at 1 rfl)
    refine wpAnyH_ready (rs := [4]) (by kernel_rfl) (by simp) ?_
    refine AllReadyH.cons (o := ⟨none, _, _, _, _, _⟩) rfl (fun K hK => ?_) AllReadyH.nil
    rw [if_pos (by kernel_rfl)]
    go_simp
    refine hK.out _ _ (by exact HN.out) (fun hHeld => ?_)
    clear hK K
    refine wpAnyH_done (by kernel_rfl) ?_ _
    exact NoPanic.normal ⟨rfl, rfl, rfl⟩
  case hm =>
    go_wp2
    exact ret_v rfl rfl HV.out ⟨rfl, HE.out⟩
set_option maxHeartbeats 4000000 in
set_option maxRecDepth 100000 in
theorem rj_r1 (c : Cfg) (D E L : Option Addr) (nd cd ne ce nl cl : Nat) (t lo fr : Int) (vl : Value) (A : Option Addr) (l : List Int) (cp : Nat) (w : World) (h : CM w c D E L nd cd ne ce nl cl) (hb : BL w A l) (hl : l.length ≤ 9223372036854775807) (hc : l.length ≤ cp) (d : Dt) (hd : dt l = d) (he : rdE l = 0) (e : R4) (h1 : d.c = 2) (h2 : lnkAt c d.l = some e) (h3 : e.a ≠ fr) :
    Calls Try.prog 13 #[.agg #[.int .i64 c.hosts, .int .i64 c.cycle, .int .i64 c.delay, .int .i64 c.window, .int .i64 c.precision, .slice D nd cd, .slice E ne ce, .slice L nl cl, .int .i64 c.queue], vl, .int .i64 t, .int .i64 lo, .int .i64 fr, .slice A l.length cp] w fun r w' => r = .returned (.tuple #[vl, vv d ⟨1, 0, 0⟩]) ∧ Below w.heap.size w w' := by
  have S0 := ((Stay.start w).alloc (cbx c D E L nd cd ne ce nl cl)).alloc (vbx v0 d0)
  rw [World.size_alloc] at S0
  have S1 := Lib.hid S0
  have HR := Lib.hid (FrameW.refReadData_any A cp l _ (hb.below S0.b) hl hc)
  have ok := dt_ok he
  rw [rdV_dt, he, hd] at HR
  rw [hd] at ok
  have HM := Lib.hid h
  have hnE : ne ≤ 9223372036854775807 := by have := h.mE; unfold maxLen at this; omega
  have hnL : nl ≤ 9223372036854775807 := by have := h.mL; unfold maxLen at this; omega
  obtain ⟨n, hn, hk, hlt⟩ := lnk_at h2 ok.l.1
  rw [← h.nL] at hlt
  obtain ⟨dc, dl, dn, dp, ds⟩ := d
  obtain rfl : dc = 2 := h1
  obtain rfl : dl = (n : Int) := hn
  have g1 : (n : Int) < (nl : Int) := by omega
  have g4 : decide (nl ≤ n) = false := decide_eq_false (by omega)
  clear h2
  have g2 : (e.a != fr) = true := by rw [bne_iff_ne]; exact h3
  clear h3
  clear S0 hb hl hc hd he h ok
  go_enter Try.func13, Try.ntmps13
  go_wp2_with fail
  refine HR.out.mono ?_
  rintro r w1 ⟨rfl, b1⟩
  have HPQ := Lib.hid (show w.heap.size + 1 ≠ w1.heap.size ∧ w.heap.size ≠ w1.heap.size by
    have := lt_of_heap (S1.out.at 0 rfl)
    have := b1.size
    omega)
  have S2 := Lib.hid ((S1.out.next b1).alloc (dbx ⟨2, (n : Int), dn, dp, ds⟩))
  clear b1 S1 HR
  obtain ⟨z0, z1, z2, z3, z4⟩ := cells5 (S2.out.at 0 rfl)
  obtain ⟨a0, a1, a2, a3, a4, a5, a6, a7, a8⟩ := PlanW.cells9 (S2.out.at 2 rfl)
  obtain ⟨b, off, rfl, l0, l1, l2, l3⟩ := ml_at (HM.out.hl.below S2.out.b) hk
  go_wp2
  generalize w1.alloc (dbx ⟨2, (n : Int), dn, dp, ds⟩) = w2 at *
  generalize w1.heap.size = q at *
  apply wp_one
  case h =>
    refine wp_region_noPanic ?_
    refine wp_region_held_drew (S := fun Z : World => Z.heap[w.heap.size]? = some (cbx c D E (some ⟨b, off, none⟩) nd cd ne ce nl cl : Obj) ∧ Z.heap[q]? = some (dbx ⟨2, (n : Int), dn, dp, ds⟩) ∧ Z.cell? ⟨b, off + n * 4, none⟩ = some (.int .i64 e.a) ∧ Z.cell? ⟨b, off + n * 4 + 3, none⟩ = some (.int .i64 e.d)) (by kernel_rfl) (⟨S2.out.drew.at 2 rfl, S2.out.drew.at 0 rfl, l0, l3⟩) (fun hHeld => ?_)
    refine takeR 0 (some 114) ?_ ?_ ?_; rotate_left; (focus (intros; go_simp; (try with_reducible rfl)))
    simp only [aput, lset]
    refine takeR 1 (some 115) ?_ ?_ ?_; rotate_left; (focus (intro w hSw; (try dsimp only at hSw); obtain ⟨a0, a1, a2, a3, a4, a5, a6, a7, a8⟩ := PlanW.cells9 hSw.1; obtain ⟨z0, z1, z2, z3, z4⟩ := cells5 hSw.2.1; have l0 := hSw.2.2.1; have l3 := hSw.2.2.2; go_simp; (try with_reducible rfl)))
    simp only [aput, lset]
    refine takeR 2 (some 116) ?_ ?_ ?_; rotate_left; (focus (intros; go_simp; (try with_reducible rfl)))
    simp only [aput, lset]
    refine takeR 3 (some 117) ?_ ?_ ?_; rotate_left; (focus (intro w hSw; (try dsimp only at hSw); obtain ⟨a0, a1, a2, a3, a4, a5, a6, a7, a8⟩ := PlanW.cells9 hSw.1; obtain ⟨z0, z1, z2, z3, z4⟩ := cells5 hSw.2.1; have l0 := hSw.2.2.1; have l3 := hSw.2.2.2; go_simp; (try with_reducible rfl)))
    simp only [aput, lset]
    refine takeR 4 (some 118) ?_ ?_ ?_; rotate_left; (focus (intros; go_simp; (try with_reducible rfl)))
    simp only [aput, lset]
    refine takeR 5 (some 119) ?_ ?_ ?_; rotate_left; (focus (intros; go_simp; (try with_reducible rfl)))
    simp only [aput, lset]
    refine takeR 6 (some 120) ?_ ?_ ?_; rotate_left; (focus (intros; go_simp; (try with_reducible rfl)))
    simp only [aput, lset]
    refine takeR 7 (some 121) ?_ ?_ ?_; rotate_left; (focus (intros; go_simp; (try with_reducible rfl)))
    simp only [aput, lset]
    refine takeR 8 (some 122) ?_ ?_ ?_; rotate_left; (focus (intro w hSw; (try dsimp only at hSw); obtain ⟨a0, a1, a2, a3, a4, a5, a6, a7, a8⟩ := PlanW.cells9 hSw.1; obtain ⟨z0, z1, z2, z3, z4⟩ := cells5 hSw.2.1; have l0 := hSw.2.2.1; have l3 := hSw.2.2.2; go_simp; (try with_reducible rfl)))
    simp only [aput, lset]
    refine takeR 9 (some 123) ?_ ?_ ?_; rotate_left; (focus (intros; go_simp; (try with_reducible rfl)))
    simp only [aput, lset]
    refine takeR 10 (some 124) ?_ ?_ ?_; rotate_left; (focus (intro w hSw; (try dsimp only at hSw); obtain ⟨a0, a1, a2, a3, a4, a5, a6, a7, a8⟩ := PlanW.cells9 hSw.1; obtain ⟨z0, z1, z2, z3, z4⟩ := cells5 hSw.2.1; have l0 := hSw.2.2.1; have l3 := hSw.2.2.2; go_simp; (try with_reducible rfl)))
    simp only [aput, lset]
    refine takeR 11 (some 125) ?_ ?_ ?_; rotate_left; (focus (intros; go_simp; (try with_reducible rfl)))
    simp only [aput, lset]
    refine takeR 12 (some 126) ?_ ?_ ?_; rotate_left; (focus (intros; go_simp; (try with_reducible rfl)))
    simp only [aput, lset]
    refine takeR 13 (some 127) ?_ ?_ ?_; rotate_left; (focus (intro w hSw; (try dsimp only at hSw); obtain ⟨a0, a1, a2, a3, a4, a5, a6, a7, a8⟩ := PlanW.cells9 hSw.1; obtain ⟨z0, z1, z2, z3, z4⟩ := cells5 hSw.2.1; have l0 := hSw.2.2.1; have l3 := hSw.2.2.2; go_simp; (try with_reducible rfl)))
    simp only [aput, lset]
    refine takeR 14 (some 128) ?_ ?_ ?_; rotate_left; (focus (intros; go_simp; (try with_reducible rfl)))
    simp only [aput, lset]
    refine takeR 15 (some 129) ?_ ?_ ?_; rotate_left; (focus (intros; go_simp; (try with_reducible rfl)))
    simp only [aput, lset]
    refine takeR 16 (some 130) ?_ ?_ ?_; rotate_left; (focus (intros; go_simp; (try with_reducible rfl)))
    simp only [aput, lset]
    refine takeR 17 (some 131) ?_ ?_ ?_; rotate_left; (focus (intros; go_simp; (try with_reducible rfl)))
    simp only [aput, lset]
    refine skipR 18 (some 132) ?_
    simp only [aput, lset]
    refine skipR 19 (some 133) ?_
    simp only [aput, lset]
    refine skipR 20 (some 134) ?_
    simp only [aput, lset]
    refine skipR 21 (some 135) ?_
    simp only [aput, lset]
    refine skipR 22 (some 136) ?_
    simp only [aput, lset]
    refine skipR 23 (some 137) ?_
    simp only [aput, lset]
    refine skipR 24 (some 138) ?_
    simp only [aput, lset]
    refine skipR 25 (some 139) ?_
    simp only [aput, lset]
    refine skipR 26 (some 140) ?_
    simp only [aput, lset]
    refine skipR 27 (some 141) ?_
    simp only [aput, lset]
    refine takeR 28 (some 142) ?_ ?_ ?_; rotate_left; (focus (intros; go_simp; (try with_reducible rfl)))
    simp only [aput, lset]
    refine wpAnyH_done (by kernel_rfl) ?_ _
    exact NoPanic.normal ⟨rfl, rfl, rfl⟩
  case hm =>
    go_wp2
    obtain ⟨hn, he, hv⟩ := rj_facts S2.out HPQ.out.1 ⟨1, 0, 0⟩
    have HN := Lib.hid (at_drew (at_drew hn))
    have HE := Lib.hid he.drew.drew
    have HV := Lib.hid (at_drew (at_drew hv))
    clear hn he hv
    apply wp_one
    case h =>
      refine wp_region_noPanic ?_
      refine wp_region_held_drew (S := fun Z : World => Z.heap[q]? = some (dbx ⟨2, (n : Int), dn, dp, ds⟩)) (by kernel_rfl) (S2.out.drew.at 0 rfl) (fun hHeld => ?_)
      refine takeR 0 (some 143) ?_ ?_ ?_; rotate_left; (focus (intros; go_simp; (try with_reducible rfl)))
      simp only [aput, lset]
      refine takeR 3 (some 12) ?_ ?_ ?_; rotate_left; (focus (intros; go_simp; (try with_reducible rfl)))
      simp only [aput, lset]
      refine takeR 1 (some 144) ?_ ?_ ?_; rotate_left; (focus (intro w hSw; (try dsimp only at hSw); obtain ⟨x0, x1, x2, x3, x4⟩ := cells5 hSw; go_simp; (try with_reducible rfl)))
      simp only [aput, lset]
      refine takeR 2 (some 145) ?_ ?_ ?_; rotate_left; (focus (intros; go_simp; (try with_reducible rfl)))
      simp only [aput, lset]
      obtain ⟨y0, y1, y2, y3, y4, y5, y6, y7⟩ := cells8 (S2.out.at 1 rfl)
      obtain ⟨f0, f1, f2, f3, f4, f5, f6, f7⟩ := frozen8 (S2.out.at 1 rfl)
      refine wpAnyH_ready (rs := [4]) (by kernel_rfl) (by simp) ?_
      refine AllReadyH.cons (o := ⟨none, _, _, _, _, _⟩) rfl (fun K hK => ?_) AllReadyH.nil
      rw [if_pos (by kernel_rfl)]
      go_simp
      refine hK.out _ _ (by exact HN.out) (fun hHeld => ?_)
      clear hK K
      refine wpAnyH_done (by kernel_rfl) ?_ _
      exact NoPanic.normal ⟨rfl, rfl, rfl⟩
    case hm =>
      go_wp2
      exact ret_v rfl rfl HV.out ⟨rfl, HE.out⟩
set_option maxHeartbeats 4000000 in
set_option maxRecDepth 100000 in
theorem rj_r2 (c : Cfg) (D E L : Option Addr) (nd cd ne ce nl cl : Nat) (t lo fr : Int) (vl : Value) (A : Option Addr) (l : List Int) (cp : Nat) (w : World) (h : CM w c D E L nd cd ne ce nl cl) (hb : BL w A l) (hl : l.length ≤ 9223372036854775807) (hc : l.length ≤ cp) (d : Dt) (hd : dt l = d) (he : rdE l = 0) (e : R4) (h1 : d.c = 2) (h2 : lnkAt c d.l = some e) (h3 : e.a = fr) (h4 : e.d < d.s) :
    Calls Try.prog 13 #[.agg #[.int .i64 c.hosts, .int .i64 c.cycle, .int .i64 c.delay, .int .i64 c.window, .int .i64 c.precision, .slice D nd cd, .slice E ne ce, .slice L nl cl, .int .i64 c.queue], vl, .int .i64 t, .int .i64 lo, .int .i64 fr, .slice A l.length cp] w fun r w' => r = .returned (.tuple #[vl, vv d ⟨1, 0, 0⟩]) ∧ Below w.heap.size w w' := by
  have S0 := ((Stay.start w).alloc (cbx c D E L nd cd ne ce nl cl)).alloc (vbx v0 d0)
  rw [World.size_alloc] at S0
  have S1 := Lib.hid S0
  have HR := Lib.hid (FrameW.refReadData_any A cp l _ (hb.below S0.b) hl hc)
  have ok := dt_ok he
  rw [rdV_dt, he, hd] at HR
  rw [hd] at ok
  have HM := Lib.hid h
  have hnE : ne ≤ 9223372036854775807 := by have := h.mE; unfold maxLen at this; omega
  have hnL : nl ≤ 9223372036854775807 := by have := h.mL; unfold maxLen at this; omega
  obtain ⟨n, hn, hk, hlt⟩ := lnk_at h2 ok.l.1
  rw [← h.nL] at hlt
  obtain ⟨dc, dl, dn, dp, ds⟩ := d
  obtain rfl : dc = 2 := h1
  obtain rfl : dl = (n : Int) := hn
  have g1 : (n : Int) < (nl : Int) := by omega
  have g4 : decide (nl ≤ n) = false := decide_eq_false (by omega)
  clear h2
  have g2 : (e.a != fr) = false := by rw [bne_eq_false_iff_eq]; exact h3
  have g3 : decide (e.d < ds) = true := decide_eq_true h4
  clear h3 h4
  clear S0 hb hl hc hd he h ok
  go_enter Try.func13, Try.ntmps13
  go_wp2_with fail
  refine HR.out.mono ?_
  rintro r w1 ⟨rfl, b1⟩
  have HPQ := Lib.hid (show w.heap.size + 1 ≠ w1.heap.size ∧ w.heap.size ≠ w1.heap.size by
    have := lt_of_heap (S1.out.at 0 rfl)
    have := b1.size
    omega)
  have S2 := Lib.hid ((S1.out.next b1).alloc (dbx ⟨2, (n : Int), dn, dp, ds⟩))
  clear b1 S1 HR
  obtain ⟨z0, z1, z2, z3, z4⟩ := cells5 (S2.out.at 0 rfl)
  obtain ⟨a0, a1, a2, a3, a4, a5, a6, a7, a8⟩ := PlanW.cells9 (S2.out.at 2 rfl)
  obtain ⟨b, off, rfl, l0, l1, l2, l3⟩ := ml_at (HM.out.hl.below S2.out.b) hk
  go_wp2
  generalize w1.alloc (dbx ⟨2, (n : Int), dn, dp, ds⟩) = w2 at *
  generalize w1.heap.size = q at *
  apply wp_one
  case h =>
    refine wp_region_noPanic ?_
    refine wp_region_held_drew (S := fun Z : World => Z.heap[w.heap.size]? = some (cbx c D E (some ⟨b, off, none⟩) nd cd ne ce nl cl : Obj) ∧ Z.heap[q]? = some (dbx ⟨2, (n : Int), dn, dp, ds⟩) ∧ Z.cell? ⟨b, off + n * 4, none⟩ = some (.int .i64 e.a) ∧ Z.cell? ⟨b, off + n * 4 + 3, none⟩ = some (.int .i64 e.d)) (by kernel_rfl) (⟨S2.out.drew.at 2 rfl, S2.out.drew.at 0 rfl, l0, l3⟩) (fun hHeld => ?_)
    refine takeR 0 (some 114) ?_ ?_ ?_; rotate_left; (focus (intros; go_simp; (try with_reducible rfl)))
    simp only [aput, lset]
    refine takeR 1 (some 115) ?_ ?_ ?_; rotate_left; (focus (intro w hSw; (try dsimp only at hSw); obtain ⟨a0, a1, a2, a3, a4, a5, a6, a7, a8⟩ := PlanW.cells9 hSw.1; obtain ⟨z0, z1, z2, z3, z4⟩ := cells5 hSw.2.1; have l0 := hSw.2.2.1; have l3 := hSw.2.2.2; go_simp; (try with_reducible rfl)))
    simp only [aput, lset]
    refine takeR 2 (some 116) ?_ ?_ ?_; rotate_left; (focus (intros; go_simp; (try with_reducible rfl)))
    simp only [aput, lset]
    refine takeR 3 (some 117) ?_ ?_ ?_; rotate_left; (focus (intro w hSw; (try dsimp only at hSw); obtain ⟨a0, a1, a2, a3, a4, a5, a6, a7, a8⟩ := PlanW.cells9 hSw.1; obtain ⟨z0, z1, z2, z3, z4⟩ := cells5 hSw.2.1; have l0 := hSw.2.2.1; have l3 := hSw.2.2.2; go_simp; (try with_reducible rfl)))
    simp only [aput, lset]
    refine takeR 4 (some 118) ?_ ?_ ?_; rotate_left; (focus (intros; go_simp; (try with_reducible rfl)))
    simp only [aput, lset]
    refine takeR 5 (some 119) ?_ ?_ ?_; rotate_left; (focus (intros; go_simp; (try with_reducible rfl)))
    simp only [aput, lset]
    refine takeR 6 (some 120) ?_ ?_ ?_; rotate_left; (focus (intros; go_simp; (try with_reducible rfl)))
    simp only [aput, lset]
    refine takeR 7 (some 121) ?_ ?_ ?_; rotate_left; (focus (intros; go_simp; (try with_reducible rfl)))
    simp only [aput, lset]
    refine takeR 8 (some 122) ?_ ?_ ?_; rotate_left; (focus (intro w hSw; (try dsimp only at hSw); obtain ⟨a0, a1, a2, a3, a4, a5, a6, a7, a8⟩ := PlanW.cells9 hSw.1; obtain ⟨z0, z1, z2, z3, z4⟩ := cells5 hSw.2.1; have l0 := hSw.2.2.1; have l3 := hSw.2.2.2; go_simp; (try with_reducible rfl)))
    simp only [aput, lset]
    refine takeR 9 (some 123) ?_ ?_ ?_; rotate_left; (focus (intros; go_simp; (try with_reducible rfl)))
    simp only [aput, lset]
    refine takeR 10 (some 124) ?_ ?_ ?_; rotate_left; (focus (intro w hSw; (try dsimp only at hSw); obtain ⟨a0, a1, a2, a3, a4, a5, a6, a7, a8⟩ := PlanW.cells9 hSw.1; obtain ⟨z0, z1, z2, z3, z4⟩ := cells5 hSw.2.1; have l0 := hSw.2.2.1; have l3 := hSw.2.2.2; go_simp; (try with_reducible rfl)))
    simp only [aput, lset]
    refine takeR 11 (some 125) ?_ ?_ ?_; rotate_left; (focus (intros; go_simp; (try with_reducible rfl)))
    simp only [aput, lset]
    refine takeR 12 (some 126) ?_ ?_ ?_; rotate_left; (focus (intros; go_simp; (try with_reducible rfl)))
    simp only [aput, lset]
    refine takeR 13 (some 127) ?_ ?_ ?_; rotate_left; (focus (intro w hSw; (try dsimp only at hSw); obtain ⟨a0, a1, a2, a3, a4, a5, a6, a7, a8⟩ := PlanW.cells9 hSw.1; obtain ⟨z0, z1, z2, z3, z4⟩ := cells5 hSw.2.1; have l0 := hSw.2.2.1; have l3 := hSw.2.2.2; go_simp; (try with_reducible rfl)))
    simp only [aput, lset]
    refine takeR 14 (some 128) ?_ ?_ ?_; rotate_left; (focus (intros; go_simp; (try with_reducible rfl)))
    simp only [aput, lset]
    refine takeR 15 (some 129) ?_ ?_ ?_; rotate_left; (focus (intros; go_simp; (try with_reducible rfl)))
    simp only [aput, lset]
    refine takeR 16 (some 130) ?_ ?_ ?_; rotate_left; (focus (intros; go_simp; (try with_reducible rfl)))
    simp only [aput, lset]
    refine takeR 17 (some 131) ?_ ?_ ?_; rotate_left; (focus (intros; go_simp; (try with_reducible rfl)))
    simp only [aput, lset]
    refine takeR 18 (some 132) ?_ ?_ ?_; rotate_left; (focus (intros; go_simp; (try with_reducible rfl)))
    simp only [aput, lset]
    refine takeR 19 (some 133) ?_ ?_ ?_; rotate_left; (focus (intro w hSw; (try dsimp only at hSw); obtain ⟨a0, a1, a2, a3, a4, a5, a6, a7, a8⟩ := PlanW.cells9 hSw.1; obtain ⟨z0, z1, z2, z3, z4⟩ := cells5 hSw.2.1; have l0 := hSw.2.2.1; have l3 := hSw.2.2.2; go_simp; (try with_reducible rfl)))
    simp only [aput, lset]
    refine takeR 20 (some 134) ?_ ?_ ?_; rotate_left; (focus (intros; go_simp; (try with_reducible rfl)))
    simp only [aput, lset]
    refine takeR 21 (some 135) ?_ ?_ ?_; rotate_left; (focus (intro w hSw; (try dsimp only at hSw); obtain ⟨a0, a1, a2, a3, a4, a5, a6, a7, a8⟩ := PlanW.cells9 hSw.1; obtain ⟨z0, z1, z2, z3, z4⟩ := cells5 hSw.2.1; have l0 := hSw.2.2.1; have l3 := hSw.2.2.2; go_simp; (try with_reducible rfl)))
    simp only [aput, lset]
    refine takeR 22 (some 136) ?_ ?_ ?_; rotate_left; (focus (intros; go_simp; (try with_reducible rfl)))
    simp only [aput, lset]
    refine takeR 23 (some 137) ?_ ?_ ?_; rotate_left; (focus (intros; go_simp; (try with_reducible rfl)))
    simp only [aput, lset]
    refine takeR 24 (some 138) ?_ ?_ ?_; rotate_left; (focus (intro w hSw; (try dsimp only at hSw); obtain ⟨a0, a1, a2, a3, a4, a5, a6, a7, a8⟩ := PlanW.cells9 hSw.1; obtain ⟨z0, z1, z2, z3, z4⟩ := cells5 hSw.2.1; have l0 := hSw.2.2.1; have l3 := hSw.2.2.2; go_simp; (try with_reducible rfl)))
    simp only [aput, lset]
    refine takeR 25 (some 139) ?_ ?_ ?_; rotate_left; (focus (intros; go_simp; (try with_reducible rfl)))
    simp only [aput, lset]
    refine takeR 26 (some 140) ?_ ?_ ?_; rotate_left; (focus (intro w hSw; (try dsimp only at hSw); obtain ⟨a0, a1, a2, a3, a4, a5, a6, a7, a8⟩ := PlanW.cells9 hSw.1; obtain ⟨z0, z1, z2, z3, z4⟩ := cells5 hSw.2.1; have l0 := hSw.2.2.1; have l3 := hSw.2.2.2; go_simp; (try with_reducible rfl)))
    simp only [aput, lset]
    refine takeR 27 (some 141) ?_ ?_ ?_; rotate_left; (focus (intros; go_simp; (try with_reducible rfl)))
    simp only [aput, lset]
    refine takeR 28 (some 142) ?_ ?_ ?_; rotate_left; (focus (intros; go_simp; (try with_reducible rfl)))
    simp only [aput, lset]
    refine wpAnyH_done (by kernel_rfl) ?_ _
    exact NoPanic.normal ⟨rfl, rfl, rfl⟩
  case hm =>
    go_wp2
    obtain ⟨hn, he, hv⟩ := rj_facts S2.out HPQ.out.1 ⟨1, 0, 0⟩
    have HN := Lib.hid (at_drew (at_drew hn))
    have HE := Lib.hid he.drew.drew
    have HV := Lib.hid (at_drew (at_drew hv))
    clear hn he hv
    apply wp_one
    case h =>
      refine wp_region_noPanic ?_
      refine wp_region_held_drew (S := fun Z : World => Z.heap[q]? = some (dbx ⟨2, (n : Int), dn, dp, ds⟩)) (by kernel_rfl) (S2.out.drew.at 0 rfl) (fun hHeld => ?_)
      refine takeR 0 (some 143) ?_ ?_ ?_; rotate_left; (focus (intros; go_simp; (try with_reducible rfl)))
      simp only [aput, lset]
      refine takeR 3 (some 12) ?_ ?_ ?_; rotate_left; (focus (intros; go_simp; (try with_reducible rfl)))
      simp only [aput, lset]
      refine takeR 1 (some 144) ?_ ?_ ?_; rotate_left; (focus (intro w hSw; (try dsimp only at hSw); obtain ⟨x0, x1, x2, x3, x4⟩ := cells5 hSw; go_simp; (try with_reducible rfl)))
      simp only [aput, lset]
      refine takeR 2 (some 145) ?_ ?_ ?_; rotate_left; (focus (intros; go_simp; (try with_reducible rfl)))
      simp only [aput, lset]
      obtain ⟨y0, y1, y2, y3, y4, y5, y6, y7⟩ := cells8 (S2.out.at 1 rfl)
      obtain ⟨f0, f1, f2, f3, f4, f5, f6, f7⟩ := frozen8 (S2.out.at 1 rfl)
      refine wpAnyH_ready (rs := [4]) (by kernel_rfl) (by simp) ?_
      refine AllReadyH.cons (o := ⟨none, _, _, _, _, _⟩) rfl (fun K hK => ?_) AllReadyH.nil
      rw [if_pos (by kernel_rfl)]
      go_simp
      refine hK.out _ _ (by exact HN.out) (fun hHeld => ?_)
      clear hK K
      refine wpAnyH_done (by kernel_rfl) ?_ _
      exact NoPanic.normal ⟨rfl, rfl, rfl⟩
    case hm =>
      go_wp2
      exact ret_v rfl rfl HV.out ⟨rfl, HE.out⟩
end Go.Proofs.Ytecgpibidcifpaa.RelayW
