/- The landed station is what a law asks of one. -/
import Derived.Test.YtnlimdlmhfnkiaaStationLC
namespace Go.Proofs.Ytnlimdlmhfnkiaa.StationW
open Go.RowKit Shell
open ConfW (Cfg R4 CM ML chk)
open FrameW (BL rdE rdV)
theorem landed : Spec SI0 where
  frame := fun ⟨D, E, L, nd, cd, ne, ce, nl, cl, me, ml, Y, q, ha, hb⟩ hs hk => ⟨D, E, L, nd, cd, ne, ce, nl, cl, me, ml, Y, q.frame hs hk, ha, hb⟩
  foot := fun ⟨_, _, _, _, _, _, _, _, _, _, _, _, q, _, _⟩ => q.bx
  lower := fun ⟨D, E, L, nd, cd, ne, ce, nl, cl, me, ml, Y, q, ha, hb⟩ hl => ⟨D, E, L, nd, cd, ne, ce, nl, cl, me, ml, Y, { q with bx := fun j hj => ⟨Nat.le_trans hl (q.bx j hj).1, (q.bx j hj).2⟩ }, ha, hb⟩
  bad := fun c D E L nd cd ne ce nl cl h W m hz => new_no c D E L nd cd ne ce nl cl h W m hz
  new := fun c D E L nd cd ne ce nl cl h W m hz => new_yes c D E L nd cd ne ce nl cl h W m hz
  judge := by
    intro lo X g c h T a b N W t A l cp ⟨D, E, L, nd, cd, ne, ce, nl, cl, me, ml, Y, q, ha, hb⟩ hN hB hl hc
    obtain ⟨v, hv⟩ : ∃ v, gd c h T t l = v := ⟨_, rfl⟩
    rw [hv]
    obtain ⟨vw, vk⟩ := v
    by_cases hw : vw = 0
    · subst hw
      dsimp only
      rw [show cA a 0 = a + 1 from if_pos rfl, show cB b 0 = b from if_pos rfl]
      exact (judge0 t A l cp q hN hB hl hc ⟨ha.1, by omega⟩ vk hv).mono fun r W' ⟨r1, r2, r3⟩ => ⟨X, r1, ⟨D, E, L, nd, cd, ne, ce, nl, cl, me, ml, Y, r2, ⟨by omega, by omega⟩, hb.1, by omega⟩, r3⟩
    · have e1 : cA a vw = a := if_neg hw
      have e2 : cB b vw = b + 1 := if_neg hw
      dsimp only
      rw [e1, e2]
      exact (judge1 t A l cp q hN hB hl hc ⟨hb.1, by omega⟩ vw vk hw hv).mono fun r W' ⟨r1, r2, r3⟩ => ⟨X, r1, ⟨D, E, L, nd, cd, ne, ce, nl, cl, me, ml, Y, r2, ⟨ha.1, by omega⟩, by omega, by omega⟩, r3⟩
  count := by
    intro lo X g c h T a b N W ⟨D, E, L, nd, cd, ne, ce, nl, cl, me, ml, Y, q, ha, hb⟩
    exact (count_m c D E L nd cd ne ce nl cl h me ml a b g W q.box).mono fun r W' ⟨r1, r2⟩ => ⟨r1, X, ⟨D, E, L, nd, cd, ne, ce, nl, cl, me, ml, Y, q.next r2, ha, hb⟩, Turn.of r2⟩
  forget := by
    intro lo X g c h T a b N W ⟨D, E, L, nd, cd, ne, ce, nl, cl, me, ml, Y, q, ha, hb⟩
    exact (forget_m q).mono fun r W' ⟨r1, r2, r3⟩ => ⟨r1, X, ⟨D, E, L, nd, cd, ne, ce, nl, cl, me, ml, Y, r2, ha, hb⟩, r3⟩
  judge_nil := judge_nil0
  count_nil := count_nil0
  forget_nil := forget_nil0
end Go.Proofs.Ytnlimdlmhfnkiaa.StationW
