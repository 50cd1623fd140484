import Derived.Test.YtphapknfkbgapabDoorBlockR
namespace Go.Proofs.YtphapknfkbgapabDoor
open Go.RowKit

end Go.Proofs.YtphapknfkbgapabDoor
