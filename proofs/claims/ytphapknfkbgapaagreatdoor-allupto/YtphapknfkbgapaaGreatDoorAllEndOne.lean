import Derived.Test.YtphapknfkbgapaaGreatDoorAllOne
import Derived.Test.YtphapknfkbgapaaGreatDoorPZToTelN
namespace Go.Proofs.YtphapknfkbgapaaGreatDoor
open Go.RowKit

theorem all_holds : Rows.AllUptoCardSaid := all_card sides4 new21
end Go.Proofs.YtphapknfkbgapaaGreatDoor
