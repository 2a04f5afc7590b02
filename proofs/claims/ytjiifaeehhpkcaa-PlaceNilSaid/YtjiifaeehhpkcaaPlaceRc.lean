/- Layer 15: the document's answer, whether an object can be mapped: all cases. -/
import Derived.Test.YtjiifaeehhpkcaaPlaceRcb
import Derived.Test.YtjiifaeehhpkcaaPlaceRc2n
import Derived.Test.YtjiifaeehhpkcaaPlaceRc2z
import Derived.Test.YtjiifaeehhpkcaaPlaceRc3n
import Derived.Test.YtjiifaeehhpkcaaPlaceRc3z
namespace Go.Proofs.Ytjiifaeehhpkcaa
open Go.RowKit
theorem rcheck_any (C : Array Value) (x : POb) (w : World) (h : PCells w C x) :
    Calls Try.prog 10 #[.agg C] w fun e w' => e = .returned (.int .i64 (placeF x.ty x.bs.length x.ps : Int)) ∧ Below w.heap.size w w' := by
  by_cases hb : (x.ty ≠ 2 ∧ x.ty ≠ 3) ∨ pagedF (kindF 1 x.ps) = []
  · exact rcheck_b C x w h hb
  · have hne : pagedF (kindF 1 x.ps) ≠ [] := fun e => hb (.inr e)
    by_cases hw : walkF x.bs.length 0 (kindF 1 x.ps) = 0
    · by_cases h2 : x.ty = 2
      · exact rcheck_2z C x w h h2 hne hw
      · exact rcheck_3z C x w h (Classical.byContradiction (fun h3 => hb (.inl ⟨h2, h3⟩))) hne hw
    · by_cases h2 : x.ty = 2
      · exact rcheck_2n C x w h h2 hne hw
      · exact rcheck_3n C x w h (Classical.byContradiction (fun h3 => hb (.inl ⟨h2, h3⟩))) hne hw
end Go.Proofs.Ytjiifaeehhpkcaa
