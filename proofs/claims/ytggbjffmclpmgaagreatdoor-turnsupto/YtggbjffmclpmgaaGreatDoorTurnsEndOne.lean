import Derived.Test.YtggbjffmclpmgaaGreatDoorTurnsToTelD
import Derived.Test.YtggbjffmclpmgaaGreatDoorPTToTelL
namespace Go.Proofs.YtggbjffmclpmgaaGreatDoor
open Go.RowKit

theorem turns_holds : Rows.TurnsUptoCardSaid := turns_card (sides_of pturn) new21
end Go.Proofs.YtggbjffmclpmgaaGreatDoor
