/- Layer 3: the sort of texts. -/
import Derived.Test.YtcabpidbdnlomaaGreatDoorVfsList
import Derived.Test.YtcabpidbdnlomaaGreatDoorSortShelf
namespace Go.Proofs.YtcabpidbdnlomaaGreatDoor
open Go.RowKit
theorem sorts_texts : SortsT := fun blk off cap ss w h1 h2 h3 => Any.slices_Sort_string Tryz.laysSortT blk off cap ss w h1 h2 h3
end Go.Proofs.YtcabpidbdnlomaaGreatDoor
