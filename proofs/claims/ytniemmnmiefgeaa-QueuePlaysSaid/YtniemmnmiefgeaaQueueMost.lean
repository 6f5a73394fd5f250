/- How many things a queue takes. -/
import Derived.Test.YtniemmnmiefgeaaQueueC
namespace Go.Proofs.Ytniemmnmiefgeaa.QueueW
def most (m : Int) : Int := if m < 0 then 0 else if 65536 < m then 65536 else m
end Go.Proofs.Ytniemmnmiefgeaa.QueueW
