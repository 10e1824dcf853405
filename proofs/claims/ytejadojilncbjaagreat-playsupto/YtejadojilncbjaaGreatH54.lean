import Derived.Test.YtejadojilncbjaaGreatH48
import Derived.Test.YtejadojilncbjaaGreatH50
namespace Go.Proofs.YtejadojilncbjaaGreat

theorem plays_done : Rows.PlaysUptoSaid := plays_if playGood

end Go.Proofs.YtejadojilncbjaaGreat
