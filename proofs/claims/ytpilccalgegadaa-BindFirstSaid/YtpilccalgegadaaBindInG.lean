/- Layer 17: an object's symbol for a want, of whatever object and want. -/
import Derived.Test.YtpilccalgegadaaBindObj
import Derived.Test.YtpilccalgegadaaHashG
import Derived.Test.YtpilccalgegadaaLookCode
namespace Go.Proofs.Ytpilccalgegadaa
open Go.RowKit
set_option linter.unusedVariables false
set_option linter.unusedSimpArgs false

def fitsG (x : GObj) (ver : ByteArray) (k : Nat) : Bool := match x.syms[k]? with
  | some y => bindF y.bi y.ty y.vi y.se y.va && suitsG x ver k
  | none => false
def lookG (x : GObj) (nm : ByteArray) : List Nat × Nat := lookAF x.bs x.ps x.hash x.gnu (x.syms.map (·.name)) nm
def foundV : Option Nat → Int
  | none => -1
  | some k => k
/-- an object's symbol for a want, and the code -/
def inG (x : GObj) (nm ver : ByteArray) : Int × Nat := if (lookG x nm).2 = 0 then (foundV ((lookG x nm).1.find? (fitsG x ver)), 0) else (0, (lookG x nm).2)

theorem names_of {w : World} {a : Option Addr} {l : List GSym} (h : GSRow w a l) : NameRow w a (l.map (·.name)) := by
  intro i hi
  have hi2 : i < l.length := by simpa using hi
  obtain ⟨b, o, e, hlt, h0, -⟩ := h i hi2
  refine ⟨b, o, e, hlt, ?_⟩
  rw [h0]
  simp [List.getD, hi2]

set_option maxRecDepth 100000 in
set_option maxHeartbeats 16000000 in
theorem in_any (C D : Array Value) (x : GObj) (nm ver fl : ByteArray) (w : World) (h : GCells w C D x) (hns : nm.size ≤ 140737488351232) :
    Calls Try.prog 7 #[.agg C, .agg #[.string nm, .string ver, .string fl]] w fun e w' => e = .returned (.tuple #[.int .i64 (inG x nm ver).1, errV ((inG x nm ver).2 : Int)]) ∧ Below w.heap.size w w' := by
  have HE := Lib.hid h
  have B1 : Hid (Below w.heap.size w ((w.alloc (.cells C 55)).alloc (.cells #[.string nm, .string ver, .string fl] 25))) := Lib.hid (((Below.refl _ _).alloc (Nat.le_refl _) _).alloc (by simp) _)
  have hO : ((w.alloc (.cells C 55)).alloc (.cells #[.string nm, .string ver, .string fl] 25)).heap[w.heap.size]? = some (.cells C 55) := (heap_alloc_old _ _ (by simp)).trans (heap_alloc_new _ _)
  have hW : ((w.alloc (.cells C 55)).alloc (.cells #[.string nm, .string ver, .string fl] 25)).heap[w.heap.size + 1]? = some (.cells #[.string nm, .string ver, .string fl] 25) := by
    have := heap_alloc_new (w.alloc (.cells C 55)) (.cells #[.string nm, .string ver, .string fl] 25)
    simpa using this
  have HO := Lib.hid hO
  have HW := Lib.hid hW
  obtain ⟨p, pc, e2, r2⟩ := h.head
  obtain ⟨sa, sc, e45, r45⟩ := h.syms
  obtain ⟨a, cap, e53, rb, rc, rn⟩ := h.bytes
  have h54 := h.size
  have k0 : ((w.alloc (.cells C 55)).alloc (.cells #[.string nm, .string ver, .string fl] 25)).cell? ⟨w.heap.size, 0, none⟩ = some (.int .i64 x.ty) := by rw [cell_of_row _ _ 0 _ _ _ hO]; exact h.c0
  have k1 : ((w.alloc (.cells C 55)).alloc (.cells #[.string nm, .string ver, .string fl] 25)).cell? ⟨w.heap.size, 1, none⟩ = some (.int .u64 x.en) := by rw [cell_of_row _ _ 1 _ _ _ hO]; exact h.c1
  have k2 : ((w.alloc (.cells C 55)).alloc (.cells #[.string nm, .string ver, .string fl] 25)).cell? ⟨w.heap.size, 2, none⟩ = some (.slice p x.ps.length pc) := by rw [cell_of_row _ _ 2 _ _ _ hO]; exact e2
  have k45 : ((w.alloc (.cells C 55)).alloc (.cells #[.string nm, .string ver, .string fl] 25)).cell? ⟨w.heap.size, 45, none⟩ = some (.slice sa x.syms.length sc) := by rw [cell_of_row _ _ 45 _ _ _ hO]; exact e45
  have k53 : ((w.alloc (.cells C 55)).alloc (.cells #[.string nm, .string ver, .string fl] 25)).cell? ⟨w.heap.size, 53, none⟩ = some (.slice a x.bs.length cap) := by rw [cell_of_row _ _ 53 _ _ _ hO]; exact e53
  have HRG : Hid (((w.alloc (.cells C 55)).alloc (.cells #[.string nm, .string ver, .string fl] 25)).rangeAt w.heap.size 4 D.toList) := Lib.hid (fun j v hj => by
    rw [cell_of_row _ _ _ _ _ _ hO]
    exact h.dyn j v hj)
  have HIL : Hid ((Try.prog.info? 47).map (·.size) = some D.toList.length) := Lib.hid (by rw [show D.toList.length = 37 from h.dsize]; kernel_rfl)
  have HLK : Hid (Calls Try.prog 10 #[.slice a x.bs.length cap, .agg #[.int .i64 x.ty, .int .u64 x.en, .slice p x.ps.length pc], .agg D, .slice sa x.syms.length sc, .string nm] ((w.alloc (.cells C 55)).alloc (.cells #[.string nm, .string ver, .string fl] 25)) (NumsErr 3 .i64 (lookG x nm) ((w.alloc (.cells C 55)).alloc (.cells #[.string nm, .string ver, .string fl] 25)))) := Lib.hid (by
    have hh := look_any a cap x.bs x.ty x.en p pc x.ps D x.hash x.gnu sa sc (x.syms.map (·.name)) nm ((w.alloc (.cells C 55)).alloc (.cells #[.string nm, .string ver, .string fl] 25)) ⟨rb.below B1.out, h.bl, rc, rn, r2.below B1.out, h.pl, h.h1, h.h2, h.dsize, h.d3, h.d25⟩ (names_of (r45.below B1.out)) (by have := h.sl; simpa using this) hns
    simp only [List.length_map] at hh
    exact hh)
  have HTI : Hid (ToldIn x.syms.length (lookG x nm)) := Lib.hid (by
    have := lookAF_in x.bs x.ps x.hash x.gnu (x.syms.map (·.name)) nm rb.2
    simpa [lookG] using this)
  have HSL : Hid (x.syms.length ≤ 140737488351232) := Lib.hid h.sl
  have HLL : Hid ((lookG x nm).1.length ≤ 4096 + x.syms.length) := Lib.hid (by
    have := lookAF_len x.bs x.ps x.hash x.gnu (x.syms.map (·.name)) nm rb.2
    simpa [lookG] using this)
  obtain ⟨T, c, hTC⟩ : ∃ T c, lookG x nm = (T, c) := ⟨_, _, rfl⟩
  have HIG : Hid (inG x nm ver = if c = 0 then (foundV (T.find? (fitsG x ver)), 0) else (0, c)) := Lib.hid (by unfold inG; rw [hTC])
  obtain ⟨IG, hIG⟩ : ∃ IG, inG x nm ver = IG := ⟨_, rfl⟩
  rw [hTC] at HLK HTI HLL
  rw [hIG] at HIG ⊢
  clear hTC hIG h hO hW r2 r45 rb rc rn e2 e45 e53
  obtain ⟨sn, hsn⟩ : ∃ sn, x.syms.length = sn := ⟨_, rfl⟩
  have HSN := Lib.hid hsn
  rw [hsn] at k45 HLK HTI HSL HLL
  clear hsn
  go_enter Try.func7, Try.ntmps7
  go_wp2_with (refine wpList_load_mid rfl 47 _ rfl w.heap.size 4 (by rfl) D.toList _ HRG.out Try.underlying47 rfl HIL.out ?_; rw [Array.toArray_toList])
  refine HLK.out.mono ?_
  rintro e w3 ⟨la, lc, he, hli, hb3⟩
  have B3 := Lib.hid (bstep B1.out hb3)
  rcases HTI.out with ⟨h0, hin⟩ | ⟨hT, hc⟩
  · replace h0 : c = 0 := h0
    subst h0
    replace he : e = .returned (.tuple #[.slice la T.length lc, .nilIface]) := he
    subst he
    have HIN : Hid (∀ k ∈ T, k < sn) := Lib.hid hin
    have hrow : Row .i64 w3 la (toI T) := hli.at.2.1
    have HROW := Lib.hid hrow
    have HTL : Hid (T.length ≤ 140737488355328) := Lib.hid (by have h8 := HLL.out; have h9 := HSL.out; omega)
    have HF : Hid (IG = (foundV (T.find? (fitsG x ver)), 0)) := Lib.hid (by rw [HIG.out, if_pos rfl])
    have HIX := Lib.hid (indexFits_any (fitsG x ver) w.heap.size la T.length lc T rfl HTL.out w3 hrow (fun k hk wx hx => by
      have hks : k < x.syms.length := by rw [HSN.out]; exact HIN.out k hk
      have hgx := HE.out.below (bstep B3.out hx)
      obtain ⟨sa2, sc2, e45, r45⟩ := hgx.syms
      have hf := fits_any C hgx.size x.syms sa2 x.syms.length sc2 rfl k hks (suitsG x ver k) nm ver fl w.heap.size wx e45 r45 ((bstep hb3 hx).block _ (lt_of_block HO.out) |>.trans HO.out) ((bstep hb3 hx).block _ (lt_of_block HW.out) |>.trans HW.out) (fun wy hy => suits_any C D x nm ver fl k wy (hgx.below hy))
      rw [show fitsG x ver k = (bindF x.syms[k].bi x.syms[k].ty x.syms[k].vi x.syms[k].se x.syms[k].va && suitsG x ver k) by unfold fitsG; rw [List.getElem?_eq_getElem hks]]
      exact hf))
    have hidx := idxP_find (fitsG x ver) T 0
    generalize idxP (fitsG x ver) 0 T = ix at *
    generalize T.find? (fitsG x ver) = fx at *
    clear hli hb3 k0 k1 k2 k45 k53 HLK hin hrow
    go_wp2_with fail
    refine HIX.out.mono ?_
    rintro e w4 ⟨rfl, hb4⟩
    have B4 := Lib.hid (bstep B3.out hb4)
    rcases hidx with ⟨rfl, rfl⟩ | ⟨j, hj, rfl, rfl⟩
    · clear hb4 HIX
      unfold idxV
      go_wp2_with fail
      go_ret2
      rw [HF.out]
      exact ⟨rfl, B4.out⟩
    · obtain ⟨bl, ol, rfl, hc⟩ := (HROW.out.below hb4) j (by rw [toI_length]; exact hj)
      rw [toI_getD, List.getD_eq_getElem?_getD, List.getElem?_eq_getElem hj, Option.getD_some] at hc
      have hcc : w4.cell? ⟨bl, ol + j, none⟩ = some (.int .i64 (T[j] : Int)) := hc
      have hjl : (j : Int) < (T.length : Int) := by omega
      have HF2 : Hid (IG = ((T[j] : Int), 0)) := Lib.hid HF.out
      generalize T[j] = tv at *
      clear hb4 HIX hc hj HF
      rw [Nat.zero_add]
      unfold idxV
      go_wp2_with fail
      go_ret2
      rw [HF2.out]
      exact ⟨rfl, B4.out⟩
  · replace hT : T = [] := hT
    replace hc : c = 2 ∨ c = 3 ∨ c = 4 := hc
    subst hT
    replace he : e = .returned (.tuple #[.slice la 0 lc, errV (c : Int)]) := he
    rw [errVc hc] at he
    subst he
    have HF : Hid (IG = (0, c)) := Lib.hid (by rw [HIG.out, if_neg (by omega)])
    have HCC := Lib.hid hc
    clear hli hb3 k0 k1 k2 k45 k53 HLK
    go_wp2_with fail
    go_ret2
    rw [HF.out]
    show _ = Ending.returned (.tuple #[.int .i64 0, errV (c : Int)]) ∧ _
    rw [errVc HCC.out]
    exact ⟨rfl, B3.out⟩
end Go.Proofs.Ytpilccalgegadaa
