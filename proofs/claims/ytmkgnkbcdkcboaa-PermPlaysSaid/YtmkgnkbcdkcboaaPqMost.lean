/- How many things a queue takes. -/
import Derived.Test.YtmkgnkbcdkcboaaPqC
namespace Go.Proofs.Ytmkgnkbcdkcboaa.QueueW
def most (m : Int) : Int := if m < 0 then 0 else if 65536 < m then 65536 else m
end Go.Proofs.Ytmkgnkbcdkcboaa.QueueW
