import Derived.Test.YtgdfmmfkdmhdgaaH40
import Derived.Test.YtgdfmmfkdmhdgaaH57
namespace Go.Proofs.Ytgdfmmfkdmhdgaa

theorem ranked_done : Rows.RankedUptoSaid := ranked_said playGood

end Go.Proofs.Ytgdfmmfkdmhdgaa
