import Derived.Test.YtejadojilncbjaaGreatH48
import Derived.Test.YtejadojilncbjaaGreatH52
namespace Go.Proofs.YtejadojilncbjaaGreat

theorem single_done : Rows.SingleUptoSaid := single_if playGood cellsGood

end Go.Proofs.YtejadojilncbjaaGreat
