/- The document's numbers: Mul, of whole numbers. -/
import Derived.Test.YtelfbjldfdlpnaaTickRMulA
import Derived.Deep.RegionHeld3
import Derived.Deep.OwnRows
namespace Go.Proofs.Ytelfbjldfdlpnaa.TickW
open Go.RowKit
theorem dn_small {z : Int} (h0 : -9223372036854775808 ≤ z) (h1 : z ≤ 9223372036854775807) : dn z ≤ 4 := by
  refine dn_le ?_
  show z.natAbs < 18446744073709551616
  omega
theorem dn_add {a b : Int} {n : Nat} (ha : dn a ≤ n) (hb : dn b ≤ n) : dn (a + b) ≤ n + 1 := by
  have h := dl_len_add ha hb
  exact Nat.le_trans (dl_len_mono (by omega)) h
end Go.Proofs.Ytelfbjldfdlpnaa.TickW

