import Derived.Test.YtphapknfkbgapabDoorOpens
namespace Go.Proofs.YtphapknfkbgapabDoor
open Go.RowKit

end Go.Proofs.YtphapknfkbgapabDoor
