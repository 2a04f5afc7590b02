/- Layer 17: a whole object in memory; whether a symbol of it suits a want. -/
import Derived.Test.YtpilccalgegadaaBindIdx
import Derived.Test.YtpilccalgegadaaHashChains
namespace Go.Proofs.Ytpilccalgegadaa
open Go.RowKit
set_option linter.unusedVariables false
set_option linter.unusedSimpArgs false

structure GObj where
  ty : Int
  en : Int
  ps : List PT
  hash : Nat
  gnu : Nat
  syms : List GSym
  has : Bool
  words : List Int
  defs : List GDef
  needs : List BNeed
  bs : List Nat
/-- an object as the cells of a value; D: its dynamic section -/
structure GCells (w : World) (C D : Array Value) (x : GObj) : Prop where
  size : C.size = 54
  one : C.all (·.oneCell') = true
  c0 : C[0]? = some (.int .i64 x.ty)
  c1 : C[1]? = some (.int .u64 x.en)
  head : ∃ p pc, C[2]? = some (.slice p x.ps.length pc) ∧ PRow w p x.ps
  dyn : ∀ j v, D.toList[j]? = some v → C[4 + j]? = some v
  dsize : D.size = 37
  d3 : D[3]? = some (.int .u64 (x.hash : Int))
  d25 : D[25]? = some (.int .u64 (x.gnu : Int))
  h1 : x.hash < 18446744073709551616
  h2 : x.gnu < 18446744073709551616
  syms : ∃ sa sc, C[45]? = some (.slice sa x.syms.length sc) ∧ GSRow w sa x.syms
  c46 : C[46]? = some (.bool x.has)
  words : ∃ wa wc, C[47]? = some (.slice wa x.words.length wc) ∧ Row .i64 w wa x.words
  defs : ∃ da dc, C[48]? = some (.slice da x.defs.length dc) ∧ GDRow w da x.defs
  needs : ∃ na nc, C[49]? = some (.slice na x.needs.length nc) ∧ NDRow w na x.needs
  bytes : ∃ a cap, C[53]? = some (.slice a x.bs.length cap) ∧ BRow w a x.bs ∧ x.bs.length ≤ cap ∧ (a = none → x.bs.length = 0 ∧ cap = 0)
  pl : x.ps.length ≤ 140737488351232
  sl : x.syms.length ≤ 140737488351232
  wl : x.words.length ≤ 140737488351232
  dl : x.defs.length ≤ 140737488351232
  nl : x.needs.length ≤ 140737488351232
  bl : x.bs.length ≤ 140737488351232
theorem GCells.below {w w' : World} {C D : Array Value} {x : GObj} (h : GCells w C D x) (hb : Below w.heap.size w w') : GCells w' C D x := by
  obtain ⟨p, pc, e1, r1⟩ := h.head
  obtain ⟨sa, sc, e2, r2⟩ := h.syms
  obtain ⟨wa, wc, e3, r3⟩ := h.words
  obtain ⟨da, dc, e4, r4⟩ := h.defs
  obtain ⟨na, nc, e5, r5⟩ := h.needs
  obtain ⟨a, cap, e6, r6, r7, r8⟩ := h.bytes
  exact ⟨h.size, h.one, h.c0, h.c1, ⟨p, pc, e1, r1.below hb⟩, h.dyn, h.dsize, h.d3, h.d25, h.h1, h.h2, ⟨sa, sc, e2, r2.below hb⟩, h.c46, ⟨wa, wc, e3, r3.below hb⟩, ⟨da, dc, e4, r4.below hb⟩, ⟨na, nc, e5, r5.below hb⟩, ⟨a, cap, e6, r6.below hb, r7, r8⟩, h.pl, h.sl, h.wl, h.dl, h.nl, h.bl⟩

/-- does a symbol's version fit? -/
def suitsG (x : GObj) (ver : ByteArray) (k : Nat) : Bool :=
  if (wordG x.has x.words k).2 = true then (if ver = ⟨#[]⟩ then !hidG (wordG x.has x.words k).1 else suitV (versG (idxG (wordG x.has x.words k).1) x.defs x.needs) ver (hidG (wordG x.has x.words k).1)) else true

theorem suits_any (C D : Array Value) (x : GObj) (nm ver fl : ByteArray) (k : Nat) (w : World) (h : GCells w C D x) :
    Calls Try.prog 13 #[.agg C, .int .i64 (k : Int), .agg #[.string nm, .string ver, .string fl]] w fun e w' => e = .returned (.bool (suitsG x ver k)) ∧ Below w.heap.size w w' := by
  have HW : ∀ wx, Below w.heap.size w wx → Calls Try.prog 20 #[.agg C, .int .i64 (k : Int)] wx fun e w' => e = .returned (.tuple #[.int .i64 (wordG x.has x.words k).1, .bool (wordG x.has x.words k).2]) ∧ Below wx.heap.size wx w' := fun wx hb => by
    obtain ⟨wa, wc, e3, r3⟩ := h.words
    exact bword_any C h.size x.has wa x.words.length wc x.words k wx h.c46 e3 rfl (by have := h.wl; omega) (r3.below hb)
  have HV : ∀ i : Int, ∀ wx, Below w.heap.size w wx → Calls Try.prog 21 #[.agg C, .int .i64 i] wx fun e w' => e = .returned (versV (versG i x.defs x.needs)) ∧ Below wx.heap.size wx w' := fun i wx hb => by
    obtain ⟨da, dc, e4, r4⟩ := h.defs
    obtain ⟨na, nc, e5, r5⟩ := h.needs
    exact version_any C h.size i da x.defs.length dc x.defs na x.needs.length nc x.needs wx e4 e5 rfl rfl (r4.below hb) (r5.below hb) (by have := h.dl; omega) (by have := h.nl; omega)
  unfold suitsG
  by_cases ho : (wordG x.has x.words k).2 = true
  · rw [if_pos ho]
    rw [ho] at HW
    by_cases hv : ver = ⟨#[]⟩
    · rw [if_pos hv]
      subst hv
      exact suits_blank C h.size k _ nm fl w HW
    · rw [if_neg hv]
      exact suits_some C h.size k _ nm ver fl _ w hv (HV _) HW
  · rw [if_neg ho]
    rw [show (wordG x.has x.words k).2 = false by simpa using ho] at HW
    exact suits_none C h.size k _ nm ver fl w HW
def GORow (w : World) (a : Option Addr) (l : List GObj) : Prop := ∀ i (h : i < l.length), ∃ b o C D, a = some ⟨b, o, none⟩ ∧ b < w.heap.size ∧ w.rangeAt b (o + i * 54) C.toList ∧ GCells w C D l[i]
theorem GORow.below {w w' : World} {a : Option Addr} {l : List GObj} (h : GORow w a l) (hb : Below w.heap.size w w') : GORow w' a l := by
  intro i hi
  obtain ⟨b, o, C, D, e, hlt, h0, h1⟩ := h i hi
  exact ⟨b, o, C, D, e, Nat.lt_of_lt_of_le hlt hb.size, rangeAt_below h0 hlt hb, h1.below hb⟩
end Go.Proofs.Ytpilccalgegadaa
