import Derived.Test.YtgdfmmfkdmhdgaaGreatH47
import Derived.Test.YtgdfmmfkdmhdgaaGreatH50
namespace Go.Proofs.YtgdfmmfkdmhdgaaGreat

theorem plays_done : Rows.PlaysUptoSaid := plays_if playGood

end Go.Proofs.YtgdfmmfkdmhdgaaGreat
