import Derived.Test.YtphapknfkbgapabDoorRows
import Derived.Test.YtphapknfkbgapabDoorPlainS
import Derived.WalkKit
import Derived.WalkSpells
import Derived.WalkLawsBesides
namespace Go.Proofs.YtphapknfkbgapabDoor
open Go.RowKit
set_option maxHeartbeats 400000 in
theorem turn32_any (k x : Int) (hk : k = 16 ∨ k = 12 ∨ k = 8 ∨ k = 7) (w : World) :
    Calls Tryd.prog 97 #[.int .u32 x, .int .u64 k] w fun e w' => e = .returned (.int .u32 (rot32 k x)) ∧ w' = w := by
  rcases hk with rfl | rfl | rfl | rfl
  all_goals
    go_enter Tryd.func97, Tryd.ntmps97
    go_wp2
    go_ret
    exact ⟨rfl, rfl⟩
end Go.Proofs.YtphapknfkbgapabDoor
