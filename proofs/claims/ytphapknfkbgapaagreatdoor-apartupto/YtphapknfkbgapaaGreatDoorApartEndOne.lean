import Derived.Test.YtphapknfkbgapaaGreatDoorLawTToApart
import Derived.Test.YtphapknfkbgapaaGreatDoorPZToTelN
namespace Go.Proofs.YtphapknfkbgapaaGreatDoor
open Go.RowKit

theorem apart_holds : Rows.ApartUptoCardSaid := apart_card sides4 new21
end Go.Proofs.YtphapknfkbgapaaGreatDoor
