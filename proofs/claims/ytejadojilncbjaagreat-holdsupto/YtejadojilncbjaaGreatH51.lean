import Derived.Test.YtejadojilncbjaaGreatH48
import Derived.Test.YtejadojilncbjaaGreatH50
namespace Go.Proofs.YtejadojilncbjaaGreat

theorem holds_done : Rows.HoldsUptoSaid := holds_if cellsGood

end Go.Proofs.YtejadojilncbjaaGreat
