import Derived.Test.YtgdfmmfkdmhdgaaH40
import Derived.Test.YtgdfmmfkdmhdgaaH53
namespace Go.Proofs.Ytgdfmmfkdmhdgaa

theorem guarded_done : Rows.GuardedUptoSaid := guarded_if playGood

end Go.Proofs.Ytgdfmmfkdmhdgaa
