/- tls: a store as it stands in memory. -/
import Derived.Test.YtbppajfpjhmcgaaTlsOwn
import Derived.Test.YtbppajfpjhmcgaaGrow
import Derived.Test.YtbppajfpjhmcgaaStepS
namespace Go.Proofs.Ytbppajfpjhmcgaa
open Go.RowKit
set_option linter.unusedVariables false
set_option linter.unusedSimpArgs false

def modNil : List Value := [.slice none 0 0, .int .u64 0, .int .u64 0, .int .u64 0, .bool false]
def thrNil : List Value := [.int .u64 0, .map none]
theorem modSlice : RowSlice Try.prog 56 62 (.agg modNil.toArray) 5 56 := ⟨Try.underlying56, by kernel_rfl, rfl, by omega⟩
theorem thrSlice : RowSlice Try.prog 57 71 (.agg thrNil.toArray) 2 16 := ⟨Try.underlying57, by kernel_rfl, rfl, by omega⟩
/-- a module of a store: without an image -/
structure TM where
  size : Nat
  al : Nat
  off : Nat
  dr : Bool
def TM.row (m : TM) : List Value := [.slice none 0 0, .int .u64 (m.size : Int), .int .u64 (m.al : Int), .int .u64 (m.off : Int), .bool m.dr]
/-- a thread of a store: its pointer, its map -/
def thrRow (p : Nat × Nat) : List Value := [.int .u64 (p.1 : Int), .map (some p.2)]
def stCells (ma : Option Addr) (ml mc st last gr : Nat) (ta : Option Addr) (tl tc : Nat) : List Value := [.slice ma ml mc, .int .i64 (st : Int), .int .u64 (last : Int), .int .u64 (gr : Int), .slice ta tl tc]
/-- block sb is a store -/
structure StAt (w : World) (sb : Nat) (st last gr : Nat) (ms : List TM) (ts : List (Nat × Nat)) (ma : Option Addr) (mc : Nat) (ta : Option Addr) (tc : Nat) : Prop where
  box : w.heap[sb]? = some (.cells (stCells ma ms.length mc st last gr ta ts.length tc).toArray 59)
  mods : OwnS w (sb + 1) 62 5 (.slice ma ms.length mc) (ms.map TM.row)
  thr : OwnS w (sb + 1) 71 2 (.slice ta ts.length tc) (ts.map thrRow)
theorem StAt.below {w w' : World} {sb st last gr : Nat} {ms : List TM} {ts : List (Nat × Nat)} {ma ta : Option Addr} {mc tc : Nat} (h : StAt w sb st last gr ms ts ma mc ta tc) (hb : Below w.heap.size w w') : StAt w' sb st last gr ms ts ma mc ta tc :=
  ⟨(hb.block _ (lt_of_block h.box)).trans h.box, h.mods.below hb, h.thr.below hb⟩
end Go.Proofs.Ytbppajfpjhmcgaa
