/- Layer 17: the statement BindVersions, for whatever objects and names. -/
import Derived.Test.YtbkbghocfnljjaaBindUp
import Derived.Test.YtbkbghocfnljjaaBindOpen
import Derived.Test.YtbkbghocfnljjaaOpenTexts
namespace Go.Proofs.Ytbkbghocfnljjaa
open Go.RowKit
set_option linter.unusedVariables false
set_option linter.unusedSimpArgs false

set_option maxRecDepth 100000 in
set_option maxHeartbeats 16000000 in
theorem walk_BindVersions (a : Option Addr) (cap : Nat) (l : List BObj) (na : Option Addr) (nc : Nat) (names : List ByteArray) (w : World) (h : ORow w a l) (hl : l.length ≤ 1099511627776) (hn : TRow w na names) (hnl : names.length ≤ 140737488355328) :
    Calls Try.prog 3 #[.slice a l.length cap, .slice na names.length nc] w fun e w' => e = .returned (.bool true) ∧ Below w.heap.size w w' := by
  have HP := Lib.hid (fun (wx : World) (hb : Below w.heap.size w wx) => bversions_any a cap l.length l na nc names wx rfl hl (h.below hb) (hn.below hb) hnl)
  have HR := Lib.hid (fun (wx : World) (hb : Below w.heap.size w wx) => rversions_any a cap l.length l na nc names wx rfl hl (h.below hb) (hn.below hb) hnl)
  have HU := Lib.hid (up_any w)
  generalize (missO (fun file ver => provF names file ver 0 l) 0 l) = R at HP HR
  clear h hl hn hnl
  go_enter Try.func3, Try.ntmps3
  go_wp2_with fail
  refine HU.out.mono ?_
  rintro e w1 ⟨rfl, hb1⟩
  have B1 := Lib.hid hb1
  have HP1 := Lib.hid (HP.out w1 hb1)
  clear hb1 HU HP
  go_wp2_with fail
  refine HP1.out.mono ?_
  rintro e w2 ⟨rfl, hb2⟩
  have B2 := Lib.hid (bstep B1.out hb2)
  clear hb2 HP1
  obtain ⟨I, v, f, b, hR⟩ : ∃ (I : Int) (v f : ByteArray) (b : Bool), wantV R = .tuple #[.int .i64 I, .agg #[.string ⟨#[]⟩, .string v, .string f], .bool b] := by
    rcases R with _ | ⟨i, v, f⟩
    · exact ⟨0, ⟨#[]⟩, ⟨#[]⟩, true, rfl⟩
    · exact ⟨i, v, f, false, rfl⟩
  rw [hR] at HR ⊢
  clear hR
  have BA := Lib.hid (B2.out.alloc B2.out.size (.cells #[.string ⟨#[]⟩, .string v, .string f] 26))
  have HR1 := Lib.hid (HR.out _ BA.out)
  have kk := Lib.hid (fun (wx : World) (hb : Below (w2.alloc (.cells #[.string ⟨#[]⟩, .string v, .string f] 26)).heap.size (w2.alloc (.cells #[.string ⟨#[]⟩, .string v, .string f] 26)) wx) => (hb.block _ (lt_of_block (heap_alloc_new w2 _))).trans (heap_alloc_new w2 (.cells #[.string ⟨#[]⟩, .string v, .string f] 26)))
  clear HR
  go_wp2_with fail
  refine HR1.out.mono ?_
  rintro e w3 ⟨rfl, hb3⟩
  have B3 := Lib.hid (bstep BA.out hb3)
  have k := kk.out _ hb3
  have k' : (w3.alloc (.cells #[.string ⟨#[]⟩, .string v, .string f] 26)).heap[w2.heap.size]? = some (.cells #[.string ⟨#[]⟩, .string v, .string f] 26) := (heap_alloc_old _ _ (lt_of_block k)).trans k
  have k0 : (w3.alloc (.cells #[.string ⟨#[]⟩, .string v, .string f] 26)).cell? ⟨w2.heap.size, 0, none⟩ = some (.string ⟨#[]⟩) := by rw [cell_of_row _ _ 0 _ _ _ k']; rfl
  have k1 : (w3.alloc (.cells #[.string ⟨#[]⟩, .string v, .string f] 26)).cell? ⟨w2.heap.size, 1, none⟩ = some (.string v) := by rw [cell_of_row _ _ 1 _ _ _ k']; rfl
  have k2 : (w3.alloc (.cells #[.string ⟨#[]⟩, .string v, .string f] 26)).cell? ⟨w2.heap.size, 2, none⟩ = some (.string f) := by rw [cell_of_row _ _ 2 _ _ _ k']; rfl
  clear hb3 HR1 kk BA k k'
  go_wp2_with fail
  go_ret
  exact ⟨by simp, B3.out.alloc B3.out.size _⟩
end Go.Proofs.Ytbkbghocfnljjaa
