import Derived.Test.YtgdfmmfkdmhdgaaGreatH47
import Derived.Test.YtgdfmmfkdmhdgaaGreatH50
namespace Go.Proofs.YtgdfmmfkdmhdgaaGreat

theorem holds_done : Rows.HoldsUptoSaid := holds_if cellsGood

end Go.Proofs.YtgdfmmfkdmhdgaaGreat
