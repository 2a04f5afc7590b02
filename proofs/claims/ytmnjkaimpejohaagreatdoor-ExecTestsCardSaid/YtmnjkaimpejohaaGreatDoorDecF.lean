/- Layer 12: the rows of the opcodes, as plain functions: op 0 is none; a part is its kind and its width. Nothing of the program is named. -/
import Derived.KernelRfl
namespace Go.Proofs.YtmnjkaimpejohaaGreatDoor
set_option linter.unusedVariables false
set_option linter.unusedSimpArgs false

structure DRow where
  op : Nat
  cond : Nat
  a : Nat × Nat
  b : Nat × Nat
  c : Nat × Nat
  deriving DecidableEq
def DRow.zero : DRow := ⟨0, 0, (0, 0), (0, 0), (0, 0)⟩
def sizedF (code kind : Nat) : Nat × Nat := if code % 2 = 0 then (kind, 1) else (kind, 0)
def dnumF (code : Nat) : Nat × Nat := if code % 2 = 0 then (7, 1) else (8, 0)
def groupedF (esc : Bool) (code : Nat) : Bool := if esc then code == 31 else decide (code ∈ [128, 129, 131, 193, 198, 199, 209, 211, 246, 247, 255])
def reckF (k : Nat) : Nat := if k = 0 then 1 else if k = 1 then 2 else if k = 4 then 3 else if k = 5 then 4 else if k = 6 then 5 else if k = 7 then 6 else 0
def shiftF (k : Nat) : Nat := if k = 4 then 15 else if k = 5 then 16 else if k = 7 then 17 else 0
def reckonF (code : Nat) : DRow :=
  if code % 8 = 0 ∨ code % 8 = 1 then ⟨reckF (code / 8), 0, sizedF code 2, sizedF code 1, (0, 0)⟩
  else if code % 8 = 2 ∨ code % 8 = 3 then ⟨reckF (code / 8), 0, sizedF code 1, sizedF code 2, (0, 0)⟩
  else if code % 8 = 4 ∨ code % 8 = 5 then ⟨reckF (code / 8), 0, sizedF code 5, dnumF code, (0, 0)⟩ else .zero
def lowRowF (code ext : Nat) : DRow :=
  if 80 ≤ code ∧ code ≤ 87 then ⟨18, 0, (4, 8), (0, 0), (0, 0)⟩
  else if 88 ≤ code ∧ code ≤ 95 then ⟨19, 0, (4, 8), (0, 0), (0, 0)⟩
  else if code = 99 ∧ ext / 8 % 2 = 1 then ⟨27, 0, (1, 8), (2, 4), (0, 0)⟩
  else if code = 104 then ⟨18, 0, (8, 8), (0, 0), (0, 0)⟩
  else if code = 106 then ⟨18, 0, (7, 8), (0, 0), (0, 0)⟩
  else if code = 105 then ⟨14, 0, (1, 0), (2, 0), (8, 0)⟩
  else if code = 107 then ⟨14, 0, (1, 0), (2, 0), (7, 0)⟩
  else if 112 ≤ code then ⟨22, code % 16, (7, 8), (0, 0), (0, 0)⟩ else .zero
def loadRowF (code ext : Nat) : DRow :=
  if 176 ≤ code ∧ code ≤ 183 then ⟨8, 0, (4, 1), (7, 1), (0, 0)⟩
  else if 184 ≤ code ∧ code ≤ 191 then (if ext / 8 % 2 = 1 then ⟨8, 0, (4, 0), (9, 8), (0, 0)⟩ else ⟨8, 0, (4, 0), (8, 4), (0, 0)⟩) else .zero
def upperF (code ext : Nat) : DRow :=
  if code = 132 ∨ code = 133 then ⟨7, 0, sizedF code 2, sizedF code 1, (0, 0)⟩
  else if code = 136 ∨ code = 137 then ⟨8, 0, sizedF code 2, sizedF code 1, (0, 0)⟩
  else if code = 138 ∨ code = 139 then ⟨8, 0, sizedF code 1, sizedF code 2, (0, 0)⟩
  else if code = 141 then ⟨9, 0, (1, 0), (3, 0), (0, 0)⟩
  else if code = 144 ∧ ext % 2 = 0 then ⟨29, 0, (0, 0), (0, 0), (0, 0)⟩
  else if code = 168 ∨ code = 169 then ⟨7, 0, sizedF code 5, dnumF code, (0, 0)⟩
  else if code = 195 then ⟨23, 0, (0, 0), (0, 0), (0, 0)⟩
  else if code = 201 then ⟨28, 0, (0, 0), (0, 0), (0, 0)⟩
  else if code = 232 then ⟨20, 0, (8, 8), (0, 0), (0, 0)⟩
  else if code = 233 then ⟨21, 0, (8, 8), (0, 0), (0, 0)⟩
  else if code = 235 then ⟨21, 0, (7, 8), (0, 0), (0, 0)⟩
  else if code = 244 then ⟨30, 0, (0, 0), (0, 0), (0, 0)⟩
  else loadRowF code ext
def singleF (code digit : Nat) : DRow :=
  if digit = 0 then ⟨7, 0, sizedF code 2, dnumF code, (0, 0)⟩
  else if digit = 2 then ⟨10, 0, sizedF code 2, (0, 0), (0, 0)⟩
  else if digit = 3 then ⟨11, 0, sizedF code 2, (0, 0), (0, 0)⟩ else .zero
def lastRowF (digit : Nat) : DRow :=
  if digit = 0 then ⟨12, 0, (2, 0), (0, 0), (0, 0)⟩
  else if digit = 1 then ⟨13, 0, (2, 0), (0, 0), (0, 0)⟩
  else if digit = 2 then ⟨20, 0, (2, 8), (0, 0), (0, 0)⟩
  else if digit = 4 then ⟨21, 0, (2, 8), (0, 0), (0, 0)⟩
  else if digit = 6 then ⟨18, 0, (2, 8), (0, 0), (0, 0)⟩ else .zero
def groupF (code digit : Nat) : DRow :=
  if code = 128 ∨ code = 129 then ⟨reckF digit, 0, sizedF code 2, dnumF code, (0, 0)⟩
  else if code = 131 then ⟨reckF digit, 0, (2, 0), (7, 0), (0, 0)⟩
  else if code = 193 then ⟨shiftF digit, 0, (2, 0), (7, 1), (0, 0)⟩
  else if code = 209 then ⟨shiftF digit, 0, (2, 0), (10, 1), (0, 0)⟩
  else if code = 211 then ⟨shiftF digit, 0, (2, 0), (6, 1), (0, 0)⟩
  else if code = 198 ∨ code = 199 then (if digit = 0 then ⟨8, 0, sizedF code 2, dnumF code, (0, 0)⟩ else .zero)
  else if code = 246 ∨ code = 247 then singleF code digit
  else if code = 255 then lastRowF digit else .zero
def secondF (code digit : Nat) : DRow :=
  if code = 31 ∧ digit = 0 then ⟨29, 0, (2, 0), (0, 0), (0, 0)⟩
  else if 64 ≤ code ∧ code ≤ 79 then ⟨25, code % 16, (1, 0), (2, 0), (0, 0)⟩
  else if 128 ≤ code ∧ code ≤ 143 then ⟨22, code % 16, (8, 8), (0, 0), (0, 0)⟩
  else if 144 ≤ code ∧ code ≤ 159 then ⟨24, code % 16, (2, 1), (0, 0), (0, 0)⟩
  else if code = 175 then ⟨14, 0, (1, 0), (2, 0), (0, 0)⟩
  else if code = 182 then ⟨26, 0, (1, 0), (2, 1), (0, 0)⟩
  else if code = 190 then ⟨27, 0, (1, 0), (2, 1), (0, 0)⟩ else .zero
/-- the row of an opcode; its op 0: it is none -/
def orowF (esc : Bool) (code digit ext : Nat) : DRow :=
  if esc then secondF code digit else if groupedF false code then groupF code digit
  else if code < 64 then reckonF code else if code < 128 then lowRowF code ext else upperF code ext
def DRow.hasKind (r : DRow) (k : Nat) : Bool := r.a.1 == k || r.b.1 == k || r.c.1 == k
def DRow.formed (r : DRow) : Bool := r.hasKind 1 || r.hasKind 2 || r.hasKind 3
def DRow.reaches (r : DRow) : Bool := r.hasKind 2
end Go.Proofs.YtmnjkaimpejohaaGreatDoor
