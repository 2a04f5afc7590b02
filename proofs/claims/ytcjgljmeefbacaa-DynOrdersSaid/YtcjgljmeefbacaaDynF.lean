/- Layer 5 as mathematics: what a dynamic section tells. -/
import Derived.Test.YtcjgljmeefbacaaDynNum
import Derived.Test.YtcjgljmeefbacaaLittle
import Derived.Test.YtcjgljmeefbacaaDyn
namespace Go.Proofs.Ytcjgljmeefbacaa
open Go.RowKit
set_option linter.unusedVariables false
set_option linter.unusedSimpArgs false

/-- is a tag one that has a meaning? -/
def knF (t : Nat) : Bool := decide (t = 20 ∨ t = 22 ∨ t = 23 ∨ t = 24 ∨ t = 1879047925 ∨ t = 1879048176 ∨ (1 ≤ t ∧ t ≤ 16) ∨ (25 ≤ t ∧ t ≤ 30) ∨ (35 ≤ t ∧ t ≤ 37) ∨ (1879048187 ≤ t ∧ t ≤ 1879048191))
def tagAt (bs : List Nat) (i : Nat) : Nat := numOf ((bs.drop (16 * i)).take 8)
def valAt (bs : List Nat) (i : Nat) : Nat := numOf ((bs.drop (16 * i + 8)).take 8)
/-- the entries from number i on: what NEEDED tells, the others by their tags; an error's number -/
def entGo (bs : List Nat) : Nat → Nat → List Nat → (Nat → Option Nat) → Except Nat (List Nat × (Nat → Option Nat))
  | 0, _, _, _ => .error 3
  | f + 1, i, n, m =>
    if bs.length < 16 * (i + 1) then .error 3
    else if tagAt bs i = 0 then .ok (n, m)
    else if 256 ≤ i then .error 2
    else if tagAt bs i = 1 then entGo bs f (i + 1) (n ++ [valAt bs i]) m
    else if (m (tagAt bs i)).isSome = true ∧ knF (tagAt bs i) = true then .error 5
    else entGo bs f (i + 1) n (fun j => if j = tagAt bs i then some (valAt bs i) else m j)
def entF (bs : List Nat) : Except Nat (List Nat × (Nat → Option Nat)) := entGo bs (bs.length / 16 + 1) 0 [] (fun _ => none)
def gv (m : Nat → Option Nat) (t : Nat) : Nat := (m t).getD 0
/-- does what is there go together? -/
def fitF (m : Nat → Option Nat) : Bool :=
  ([(20, 7), (9, 24), (11, 24), (37, 8)] : List (Nat × Nat)).all (fun e => !(m e.1).isSome || decide (gv m e.1 = e.2)) &&
  (!decide (gv m 5 = 0 ∨ gv m 10 = 0 ∨ gv m 6 = 0 ∨ (gv m 4 = 0 ∧ gv m 1879047925 = 0)) &&
  (([(7, 8), (23, 2), (36, 35), (25, 27), (26, 28), (1879048188, 1879048189), (1879048190, 1879048191)] : List (Nat × Nat)).all (fun e => decide (gv m e.1 = 0) == decide (gv m e.2 = 0)) &&
  decide ((gv m 1879048188 = 0 ∧ gv m 1879048190 = 0) ∨ gv m 1879048176 ≠ 0)))
end Go.Proofs.Ytcjgljmeefbacaa
