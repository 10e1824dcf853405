import Derived.Test.YtgdfmmfkdmhdgaaGreatH47
import Derived.Test.YtgdfmmfkdmhdgaaGreatH51
namespace Go.Proofs.YtgdfmmfkdmhdgaaGreat

theorem single_done : Rows.SingleUptoSaid := single_if playGood cellsGood

end Go.Proofs.YtgdfmmfkdmhdgaaGreat
