/- Layer 17, the examples: an object's symbol for a want. -/
import Derived.Test.YtpilccalgegadaaBindSuits
namespace Go.Proofs.Ytpilccalgegadaa
open Go.RowKit
set_option linter.unusedVariables false
set_option linter.unusedSimpArgs false

def BE : List Nat := [1, 0, 0, 0, 2, 0, 0, 0, 1, 0, 0, 0, 0, 0, 0, 0, 0, 0, 0, 0, 0, 0, 0, 0]
def PE : PT := ⟨1, 0, 0, 256, 24, 0, 0⟩
theorem chainsE : chainsF BE [PE] 256 = (([1], [0, 0]), 0) := by rfl
theorem lookE : lookF ([1], [0, 0]) [⟨#[]⟩, ⟨#[102]⟩] ⟨#[102]⟩ (sysOf (⟨#[102]⟩ : ByteArray).data.toList) = ([1], 0) := by decide +kernel
/-- the example's object, wherever it lies -/
structure OEx (C : Array Value) (pB sB bB : Nat) (w : World) : Prop where
  size : C.size = 54
  c0 : C[0]? = some (.int .i64 0)
  c1 : C[1]? = some (.int .u64 0)
  c2 : C[2]? = some (.slice (some ⟨pB, 0, none⟩) 1 1)
  dyn : ∀ j v, DB.toList[j]? = some v → C[4 + j]? = some v
  c45 : C[45]? = some (.slice (some ⟨sB, 0, none⟩) 2 2)
  c53 : C[53]? = some (.slice (some ⟨bB, 0, none⟩) 24 24)
  bytes : w.heap[bB]? = some (.cells #[.int .u8 1, .int .u8 0, .int .u8 0, .int .u8 0, .int .u8 2, .int .u8 0, .int .u8 0, .int .u8 0, .int .u8 1, .int .u8 0, .int .u8 0, .int .u8 0, .int .u8 0, .int .u8 0, .int .u8 0, .int .u8 0, .int .u8 0, .int .u8 0, .int .u8 0, .int .u8 0, .int .u8 0, .int .u8 0, .int .u8 0, .int .u8 0] 5)
  prog : w.heap[pB]? = some (.cells #[.int .u32 1, .int .u32 0, .int .u64 0, .int .u64 256, .int .u64 24, .int .u64 0, .int .u64 0] 68)
  syms : w.heap[sB]? = some (.cells #[.string ⟨#[]⟩, .int .i64 0, .int .i64 0, .int .i64 0, .int .i64 0, .int .u64 0, .int .u64 0, .string ⟨#[102]⟩, .int .i64 1, .int .i64 2, .int .i64 0, .int .i64 7, .int .u64 16, .int .u64 0] 62)

set_option maxRecDepth 100000 in
set_option maxHeartbeats 8000000 in
theorem fits_ex (C : Array Value) (R : Bool) (ver : ByteArray) (o pB sB bB : Nat) (w : World) (hE : OEx C pB sB bB w) (ho : w.heap[o]? = some (.cells C 55)) (hw : w.heap[o + 1]? = some (.cells #[.string ⟨#[102]⟩, .string ver, .string ⟨#[]⟩] 25))
    (SU : ∀ wx, Below w.heap.size w wx → Calls Try.prog 13 #[.agg C, .int .i64 1, .agg #[.string ⟨#[102]⟩, .string ver, .string ⟨#[]⟩]] wx fun e w' => e = .returned (.bool R) ∧ Below wx.heap.size wx w') :
    Calls Try.prog 11 #[.int .i64 1, .pointer (some ⟨o, 0, none⟩), .pointer (some ⟨o + 1, 0, none⟩)] w fun e w' => e = .returned (.bool R) ∧ Below w.heap.size w w' := by
  have HSU := Lib.hid SU
  have HI : Hid ((Try.prog.info? 55).map (·.size) = some C.size) := Lib.hid (by rw [hE.size]; kernel_rfl)
  have HM := Lib.hid (mayBind_ex w)
  have k45 : w.cell? ⟨o, 45, none⟩ = some (.slice (some ⟨sB, 0, none⟩) 2 2) := by rw [cell_of_row _ _ 45 _ _ _ ho]; exact hE.c45
  have s7 : w.cell? ⟨sB, 7, none⟩ = some (.string ⟨#[102]⟩) := by rw [cell_of_row _ _ 7 _ _ _ hE.syms]; rfl
  have s8 : w.cell? ⟨sB, 8, none⟩ = some (.int .i64 1) := by rw [cell_of_row _ _ 8 _ _ _ hE.syms]; rfl
  have s9 : w.cell? ⟨sB, 9, none⟩ = some (.int .i64 2) := by rw [cell_of_row _ _ 9 _ _ _ hE.syms]; rfl
  have s10 : w.cell? ⟨sB, 10, none⟩ = some (.int .i64 0) := by rw [cell_of_row _ _ 10 _ _ _ hE.syms]; rfl
  have s11 : w.cell? ⟨sB, 11, none⟩ = some (.int .i64 7) := by rw [cell_of_row _ _ 11 _ _ _ hE.syms]; rfl
  have s12 : w.cell? ⟨sB, 12, none⟩ = some (.int .u64 16) := by rw [cell_of_row _ _ 12 _ _ _ hE.syms]; rfl
  have s13 : w.cell? ⟨sB, 13, none⟩ = some (.int .u64 0) := by rw [cell_of_row _ _ 13 _ _ _ hE.syms]; rfl
  have HO := Lib.hid ho
  have HW := Lib.hid hw
  clear SU hE ho hw
  go_enter Try.func11, Try.ntmps11
  go_wp2_with fail
  refine HM.out.mono ?_
  rintro e w2 ⟨rfl, hb2⟩
  have HO2 := Lib.hid ((hb2.block _ (lt_of_block HO.out)).trans HO.out)
  have hw2 := (hb2.block _ (lt_of_block HW.out)).trans HW.out
  have q0 : w2.cell? ⟨o + 1, 0, none⟩ = some (.string ⟨#[102]⟩) := by rw [cell_of_row _ _ 0 _ _ _ hw2]; rfl
  have q1 : w2.cell? ⟨o + 1, 1, none⟩ = some (.string ver) := by rw [cell_of_row _ _ 1 _ _ _ hw2]; rfl
  have q2 : w2.cell? ⟨o + 1, 2, none⟩ = some (.string ⟨#[]⟩) := by rw [cell_of_row _ _ 2 _ _ _ hw2]; rfl
  have B2 := Lib.hid hb2
  have HRG : Hid (w2.rangeAt o 0 C.toList) := Lib.hid (fun j v hj => by
    rw [Nat.zero_add, cell_of_row _ _ j _ _ _ HO2.out]
    simpa using hj)
  have HI2 : Hid ((Try.prog.info? 55).map (·.size) = some C.toList.length) := Lib.hid (by rw [HI.out]; simp)
  clear hb2 hw2 k45 s7 s8 s9 s10 s11 s12 s13
  go_wp2_with (refine BigFrame.wpList_want rfl fun _ hK => wp_load_mid 55 _ rfl o 0 (by rfl) C.toList _ HRG.out Try.underlying55 rfl HI2.out (hK _ _ ?_); rw [Array.toArray_toList])
  refine (HSU.out _ B2.out).mono ?_
  rintro e w3 ⟨rfl, hb3⟩
  have B3 := Lib.hid (bstep B2.out hb3)
  clear hb3 q0 q1 q2
  go_wp2_with fail
  go_ret
  exact ⟨rfl, B3.out⟩

theorem OEx.below {C : Array Value} {pB sB bB : Nat} {w w' : World} (h : OEx C pB sB bB w) (hb : Below w.heap.size w w') : OEx C pB sB bB w' :=
  ⟨h.size, h.c0, h.c1, h.c2, h.dyn, h.c45, h.c53, (hb.block _ (lt_of_block h.bytes)).trans h.bytes, (hb.block _ (lt_of_block h.prog)).trans h.prog, (hb.block _ (lt_of_block h.syms)).trans h.syms⟩

set_option maxRecDepth 100000 in
set_option maxHeartbeats 8000000 in
theorem indexE (C : Array Value) (R : Bool) (ver : ByteArray) (o pB sB bB : Nat) (la : Option Addr) (lc : Nat) (w : World) (hE : OEx C pB sB bB w) (ho : w.heap[o]? = some (.cells C 55)) (hw : w.heap[o + 1]? = some (.cells #[.string ⟨#[102]⟩, .string ver, .string ⟨#[]⟩] 25)) (hl : Row .i64 w la [1])
    (SU : ∀ wx, Below w.heap.size w wx → Calls Try.prog 13 #[.agg C, .int .i64 1, .agg #[.string ⟨#[102]⟩, .string ver, .string ⟨#[]⟩]] wx fun e w' => e = .returned (.bool R) ∧ Below wx.heap.size wx w') :
    Calls Try.prog 14 #[.slice la 1 lc, .func (.func 11) #[] #[.pointer (some ⟨o, 0, none⟩), .pointer (some ⟨o + 1, 0, none⟩)]] w fun e w' => e = .returned (.int .i64 (if R = true then 0 else -1)) ∧ Below w.heap.size w w' := by
  have HF := Lib.hid (fits_ex C R ver o pB sB bB w hE ho hw SU)
  obtain ⟨b, of, rfl, hc⟩ := hl 0 (by decide)
  have hc0 : w.cell? ⟨b, of, none⟩ = some (.int .i64 1) := hc
  clear SU hE ho hw hl hc
  go_enter Try.func14, Try.ntmps14
  go_wp2_with fail
  go_loopg [8] 1 (fun g i wr => ∃ k : Nat, k + g = 1 ∧ i = .int .i64 (k : Int) ∧ Hid (k = 0 → w = wr) ∧ Hid (k = 1 → R = false) ∧ Hid (Below w.heap.size w wr))
  case atStart => exact ⟨0, by omega, rfl, Lib.hid (fun _ => rfl), Lib.hid (by omega), Lib.hid (Below.refl _ _)⟩
  case round =>
    obtain ⟨k, hk, rfl, H0, H1, HB⟩ := hrel
    cases gk with
    | zero =>
      obtain rfl : k = 1 := by omega
      obtain rfl := H1.out rfl
      go_wp2_with fail
      go_ret
      exact ⟨rfl, HB.out⟩
    | succ g =>
      obtain rfl : k = 0 := by omega
      obtain rfl : g = 0 := by omega
      obtain rfl := H0.out rfl
      go_wp2_with fail
      refine HF.out.mono ?_
      rintro e w2 ⟨rfl, hb2⟩
      have B2 := Lib.hid hb2
      clear hb2
      cases R with
      | true =>
        go_wp2_with fail
        go_ret
        exact ⟨rfl, B2.out⟩
      | false =>
        go_wp2_with fail
        go_roundg 0
        case measure => omega
        case rel => exact ⟨1, rfl, rfl, Lib.hid (by omega), Lib.hid (by simp), B2⟩

set_option maxRecDepth 100000 in
set_option maxHeartbeats 16000000 in
theorem in_ex (C : Array Value) (R : Bool) (ver : ByteArray) (pB sB bB : Nat) (w : World) (hE : OEx C pB sB bB w)
    (SU : ∀ wx, Below w.heap.size w wx → Calls Try.prog 13 #[.agg C, .int .i64 1, .agg #[.string ⟨#[102]⟩, .string ver, .string ⟨#[]⟩]] wx fun e w' => e = .returned (.bool R) ∧ Below wx.heap.size wx w') :
    Calls Try.prog 7 #[.agg C, .agg #[.string ⟨#[102]⟩, .string ver, .string ⟨#[]⟩]] w fun e w' => e = .returned (.tuple #[.int .i64 (if R = true then 1 else -1), .nilIface]) ∧ Below w.heap.size w w' := by
  have HE := Lib.hid hE
  have HSU := Lib.hid SU
  obtain ⟨D0, hD0⟩ : ∃ D0, DB = D0 := ⟨_, rfl⟩
  have HD0 := Lib.hid hD0
  have B1 : Hid (Below w.heap.size w ((w.alloc (.cells C 55)).alloc (.cells #[.string ⟨#[102]⟩, .string ver, .string ⟨#[]⟩] 25))) := Lib.hid (((Below.refl _ _).alloc (Nat.le_refl _) _).alloc (by simp) _)
  have hO : ((w.alloc (.cells C 55)).alloc (.cells #[.string ⟨#[102]⟩, .string ver, .string ⟨#[]⟩] 25)).heap[w.heap.size]? = some (.cells C 55) := (heap_alloc_old _ _ (by simp)).trans (heap_alloc_new _ _)
  have hW : ((w.alloc (.cells C 55)).alloc (.cells #[.string ⟨#[102]⟩, .string ver, .string ⟨#[]⟩] 25)).heap[w.heap.size + 1]? = some (.cells #[.string ⟨#[102]⟩, .string ver, .string ⟨#[]⟩] 25) := by
    have := heap_alloc_new (w.alloc (.cells C 55)) (.cells #[.string ⟨#[102]⟩, .string ver, .string ⟨#[]⟩] 25)
    simpa using this
  have HO := Lib.hid hO
  have HW := Lib.hid hW
  have h54 := hE.size
  have k0 : ((w.alloc (.cells C 55)).alloc (.cells #[.string ⟨#[102]⟩, .string ver, .string ⟨#[]⟩] 25)).cell? ⟨w.heap.size, 0, none⟩ = some (.int .i64 0) := by rw [cell_of_row _ _ 0 _ _ _ hO]; exact hE.c0
  have k1 : ((w.alloc (.cells C 55)).alloc (.cells #[.string ⟨#[102]⟩, .string ver, .string ⟨#[]⟩] 25)).cell? ⟨w.heap.size, 1, none⟩ = some (.int .u64 0) := by rw [cell_of_row _ _ 1 _ _ _ hO]; exact hE.c1
  have k2 : ((w.alloc (.cells C 55)).alloc (.cells #[.string ⟨#[102]⟩, .string ver, .string ⟨#[]⟩] 25)).cell? ⟨w.heap.size, 2, none⟩ = some (.slice (some ⟨pB, 0, none⟩) 1 1) := by rw [cell_of_row _ _ 2 _ _ _ hO]; exact hE.c2
  have k45 : ((w.alloc (.cells C 55)).alloc (.cells #[.string ⟨#[102]⟩, .string ver, .string ⟨#[]⟩] 25)).cell? ⟨w.heap.size, 45, none⟩ = some (.slice (some ⟨sB, 0, none⟩) 2 2) := by rw [cell_of_row _ _ 45 _ _ _ hO]; exact hE.c45
  have k53 : ((w.alloc (.cells C 55)).alloc (.cells #[.string ⟨#[102]⟩, .string ver, .string ⟨#[]⟩] 25)).cell? ⟨w.heap.size, 53, none⟩ = some (.slice (some ⟨bB, 0, none⟩) 24 24) := by rw [cell_of_row _ _ 53 _ _ _ hO]; exact hE.c53
  have HRG : Hid (((w.alloc (.cells C 55)).alloc (.cells #[.string ⟨#[102]⟩, .string ver, .string ⟨#[]⟩] 25)).rangeAt w.heap.size 4 D0.toList) := Lib.hid (fun j v hj => by
    rw [cell_of_row _ _ _ _ _ _ hO]
    rw [← hD0] at hj
    exact hE.dyn j v hj)
  have HIL : Hid ((Try.prog.info? 47).map (·.size) = some D0.toList.length) := Lib.hid (by rw [← hD0]; kernel_rfl)
  have HLK : Hid (Calls Try.prog 10 #[.slice (some ⟨bB, 0, none⟩) 24 24, .agg #[.int .i64 0, .int .u64 0, .slice (some ⟨pB, 0, none⟩) 1 1], .agg D0, .slice (some ⟨sB, 0, none⟩) 2 2, .string ⟨#[102]⟩] ((w.alloc (.cells C 55)).alloc (.cells #[.string ⟨#[102]⟩, .string ver, .string ⟨#[]⟩] 25)) (NumsErr 3 .i64 ([1], 0) ((w.alloc (.cells C 55)).alloc (.cells #[.string ⟨#[102]⟩, .string ver, .string ⟨#[]⟩] 25)))) := Lib.hid (by
    have hE2 := hE.below B1.out
    have hb : BRow ((w.alloc (.cells C 55)).alloc (.cells #[.string ⟨#[102]⟩, .string ver, .string ⟨#[]⟩] 25)) (some ⟨bB, 0, none⟩) BE := by
      refine ⟨fun i hi => ⟨bB, 0, rfl, ?_⟩, by decide⟩
      rw [Nat.zero_add, cell_of_row _ _ _ _ _ _ hE2.bytes]
      have hi24 : i < 24 := hi
      rcases (show i = 0 ∨ i = 1 ∨ i = 2 ∨ i = 3 ∨ i = 4 ∨ i = 5 ∨ i = 6 ∨ i = 7 ∨ i = 8 ∨ i = 9 ∨ i = 10 ∨ i = 11 ∨ i = 12 ∨ i = 13 ∨ i = 14 ∨ i = 15 ∨ i = 16 ∨ i = 17 ∨ i = 18 ∨ i = 19 ∨ i = 20 ∨ i = 21 ∨ i = 22 ∨ i = 23 by omega) with rfl | rfl | rfl | rfl | rfl | rfl | rfl | rfl | rfl | rfl | rfl | rfl | rfl | rfl | rfl | rfl | rfl | rfl | rfl | rfl | rfl | rfl | rfl | rfl <;> rfl
    have hp : PRow ((w.alloc (.cells C 55)).alloc (.cells #[.string ⟨#[102]⟩, .string ver, .string ⟨#[]⟩] 25)) (some ⟨pB, 0, none⟩) [PE] := by
      intro i hi
      have hi0 : i = 0 := by simpa using hi
      subst hi0
      refine ⟨by simp [PE, PT.wf], pB, 0, rfl, lt_of_block hE2.prog, fun j hj => ?_⟩
      rw [show 0 + 0 * 7 + j = j by omega, cell_of_row _ _ _ _ _ _ hE2.prog]
      rcases (show j = 0 ∨ j = 1 ∨ j = 2 ∨ j = 3 ∨ j = 4 ∨ j = 5 ∨ j = 6 by omega) with rfl | rfl | rfl | rfl | rfl | rfl | rfl <;> rfl
    have hn : NameRow ((w.alloc (.cells C 55)).alloc (.cells #[.string ⟨#[102]⟩, .string ver, .string ⟨#[]⟩] 25)) (some ⟨sB, 0, none⟩) [⟨#[]⟩, ⟨#[102]⟩] := by
      intro i hi
      have hi2 : i < 2 := hi
      refine ⟨sB, 0, rfl, lt_of_block hE2.syms, ?_⟩
      rw [cell_of_row _ _ _ _ _ _ hE2.syms]
      rcases (show i = 0 ∨ i = 1 by omega) with rfl | rfl <;> rfl
    have h := look_first (some ⟨bB, 0, none⟩) 24 BE 0 0 (some ⟨pB, 0, none⟩) 1 [PE] DB 256 ([1], [0, 0]) (some ⟨sB, 0, none⟩) 2 [⟨#[]⟩, ⟨#[102]⟩] ⟨#[102]⟩ _ hb (by decide) (by decide) (fun h => by cases h) hp (by decide) (by decide) (by decide) rfl rfl rfl chainsE hn (by decide) (by decide)
    rw [lookE, hD0] at h
    exact h)
  clear hD0 hE SU hO hW
  go_enter Try.func7, Try.ntmps7
  go_wp2_with (refine wpList_load_mid rfl 47 _ rfl w.heap.size 4 (by rfl) D0.toList _ HRG.out Try.underlying47 rfl HIL.out ?_; rw [Array.toArray_toList])
  refine HLK.out.mono ?_
  rintro e w3 ⟨la, lc, he, hli, hb3⟩
  replace he : e = .returned (.tuple #[.slice la 1 lc, .nilIface]) := he
  subst he
  have B3 := Lib.hid (bstep B1.out hb3)
  have HIX := Lib.hid (indexE C R ver w.heap.size pB sB bB la lc w3 (HE.out.below B3.out) ((hb3.block _ (lt_of_block HO.out)).trans HO.out) ((hb3.block _ (lt_of_block HW.out)).trans HW.out) hli.at.2.1 (fun wx hx => HSU.out wx (bstep B3.out hx)))
  obtain ⟨bl, ol, hla, hc1⟩ := hli.at.2.1 0 (by decide)
  have HLI : Hid (∀ wx, Below w3.heap.size w3 wx → wx.cell? ⟨bl, ol, none⟩ = some (.int .i64 1)) := Lib.hid (fun wx h => by
    have hlt : bl < w3.heap.size := by simpa using World.block_lt_of_cell? _ _ hc1
    rw [h.cell (p := ⟨bl, ol, none⟩) hlt]
    exact hc1)
  subst hla
  clear hli hb3 k0 k1 k2 k45 k53 hc1 HLK
  go_wp2_with fail
  refine HIX.out.mono ?_
  rintro e w4 ⟨rfl, hb4⟩
  have hl4 := HLI.out _ hb4
  have B4 := Lib.hid (bstep B3.out hb4)
  clear hb4
  cases R with
  | true =>
    go_wp2_with fail
    go_ret2
    exact ⟨rfl, B4.out⟩
  | false =>
    go_wp2_with fail
    go_ret2
    exact ⟨rfl, B4.out⟩
end Go.Proofs.Ytpilccalgegadaa
