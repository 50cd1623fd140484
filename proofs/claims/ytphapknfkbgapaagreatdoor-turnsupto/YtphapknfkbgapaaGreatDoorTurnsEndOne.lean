import Derived.Test.YtphapknfkbgapaaGreatDoorTurnsOne
import Derived.Test.YtphapknfkbgapaaGreatDoorTelLOne
namespace Go.Proofs.YtphapknfkbgapaaGreatDoor
open Go.RowKit

theorem turns_holds : Rows.TurnsUptoCardSaid := turns_card (sides_of pturn) new21
end Go.Proofs.YtphapknfkbgapaaGreatDoor
