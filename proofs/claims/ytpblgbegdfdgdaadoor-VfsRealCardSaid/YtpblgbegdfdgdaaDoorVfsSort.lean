/- Layer 3: the sort of texts. -/
import Derived.Test.YtpblgbegdfdgdaaDoorVfsList
import Derived.Test.YtpblgbegdfdgdaaDoorSortShelf
namespace Go.Proofs.YtpblgbegdfdgdaaDoor
open Go.RowKit
theorem sorts_texts : SortsT := fun blk off cap ss w h1 h2 h3 => Any.slices_Sort_string Tryd.laysSortT blk off cap ss w h1 h2 h3
end Go.Proofs.YtpblgbegdfdgdaaDoor
