import Derived.Test.YtgdfmmfkdmhdgaaG38
import Derived.Test.YtgdfmmfkdmhdgaaG47
namespace Go.Proofs.Ytgdfmmfkdmhdgaa

theorem shared_done : Rows.SharedUptoSaid := shared_if ⟨playGood, cellsGood⟩

end Go.Proofs.Ytgdfmmfkdmhdgaa
