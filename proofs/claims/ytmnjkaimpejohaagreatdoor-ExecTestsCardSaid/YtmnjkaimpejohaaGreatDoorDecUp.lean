/- Layer 12: the three instructions that stand at the head of all statements of layer 13. -/
import Derived.Test.YtmnjkaimpejohaaGreatDoorDecode
import Derived.Test.YtmnjkaimpejohaaGreatDoorDecLit
namespace Go.Proofs.YtmnjkaimpejohaaGreatDoor
open Go.RowKit
set_option linter.unusedVariables false
set_option linter.unusedSimpArgs false

set_option maxRecDepth 100000 in
/-- 48 89 e5 -/
theorem dec_mov (ad : Option Addr) (n c : Nat) (bs : List Nat) (w : World) (h : OwnI w 0 5 .u8 (.slice ad n c) (toI bs)) (hbyte : ∀ b ∈ bs, b < 256) (hlen : bs.length = n) (hbig : n ≤ 1048576) (hn : 3 < n) (h0 : bs.getD 0 0 = 72) (h1 : bs.getD 1 0 = 137) (h2 : bs.getD 2 0 = 229) :
    Calls Tryz.prog 24 #[.slice ad n c] w fun e w' => e = .returned (.tuple #[.agg (instC 8 3 0 1 5 8 1 4 8 0 0 0), .nilIface]) ∧ Below w.heap.size w w' := by
  refine dec_any ad n c bs w h hbyte hlen hbig (by omega) (by omega) ⟨ad, n, c, 1, false, false, true, 8, 0, 0⟩ ⟨ad, n, c, 3, false, false, true, 8, 137, 229⟩ ⟨8, 0, (2, 0), (1, 0), (0, 0)⟩ 1 5 8 1 4 8 0 0 0 (fun rb wx hx => ?_) (fun rb wx hx => ?_) (fun rb wx hx => ?_) (fun rb wx hx => ?_) (fun rb wx hx => ?_) rfl (by decide) (by decide)
  · exact (prefix_ext rb _ bs wx hx (by show 0 < n; omega) 72 h0 (by decide)).mono fun e w' hh => ⟨hh.1, hh.2.1, hh.2.2.1⟩
  · refine (oprow_ok rb _ bs wx hx 137 0 false ⟨8, 0, (2, 0), (1, 0), (0, 0)⟩ rfl rfl (by show 1 + 2 < n; omega) h1 (by decide) (by decide) (fun wy => grouped_137_0_8 wy) rfl (fun wy => orow_137_0_8 wy) (by decide) (fun _ => ⟨rfl, .inr ⟨rfl, by show bs.getD 2 0 / 64 = 3; rw [h2]⟩, .inr (.inl rfl)⟩)).mono fun e w' hh => ⟨hh.1, ?_, hh.2.2⟩
    have := hh.2.1
    have hf : (⟨8, 0, (2, 0), (1, 0), (0, 0)⟩ : DRow).formed = true := by decide
    simp only [hf, if_true] at this
    rw [show bs.getD (1 + 1) 0 = 229 from h2] at this
    exact this
  · exact (operand_dir rb _ bs wx hx (by dsimp only <;> decide) (by dsimp only <;> decide) (by dsimp only <;> decide) (by dsimp only <;> decide)).mono fun e w' hh => ⟨hh.1.trans (by simp [regV, operC]), hh.2⟩
  · exact (operand_reg rb _ bs wx hx (by dsimp only <;> decide) (by dsimp only <;> decide) (by dsimp only <;> decide)).mono fun e w' hh => ⟨hh.1.trans (by simp [regV, operC]), hh.2⟩
  · exact operand_zero8 rb _ bs wx hx (by dsimp only <;> decide) (by dsimp only <;> decide)
set_option maxRecDepth 100000 in
/-- 48 ff c0 -/
theorem dec_inc (ad : Option Addr) (n c : Nat) (bs : List Nat) (w : World) (h : OwnI w 0 5 .u8 (.slice ad n c) (toI bs)) (hbyte : ∀ b ∈ bs, b < 256) (hlen : bs.length = n) (hbig : n ≤ 1048576) (hn : 3 < n) (h0 : bs.getD 0 0 = 72) (h1 : bs.getD 1 0 = 255) (h2 : bs.getD 2 0 = 192) :
    Calls Tryz.prog 24 #[.slice ad n c] w fun e w' => e = .returned (.tuple #[.agg (instC 12 3 0 1 0 8 0 0 0 0 0 0), .nilIface]) ∧ Below w.heap.size w w' := by
  refine dec_any ad n c bs w h hbyte hlen hbig (by omega) (by omega) ⟨ad, n, c, 1, false, false, true, 8, 0, 0⟩ ⟨ad, n, c, 3, false, false, true, 8, 255, 192⟩ ⟨12, 0, (2, 0), (0, 0), (0, 0)⟩ 1 0 8 0 0 0 0 0 0 (fun rb wx hx => ?_) (fun rb wx hx => ?_) (fun rb wx hx => ?_) (fun rb wx hx => ?_) (fun rb wx hx => ?_) rfl (by decide) (by decide)
  · exact (prefix_ext rb _ bs wx hx (by show 0 < n; omega) 72 h0 (by decide)).mono fun e w' hh => ⟨hh.1, hh.2.1, hh.2.2.1⟩
  · refine (oprow_ok rb _ bs wx hx 255 0 true ⟨12, 0, (2, 0), (0, 0), (0, 0)⟩ rfl rfl (by show 1 + 2 < n; omega) h1 (by decide) (by decide) (fun wy => grouped_255_0_8 wy) (by rw [if_pos rfl, show bs.getD (1 + 1) 0 = 192 from h2]) (fun wy => orow_255_0_8 wy) (by decide) (fun _ => ⟨rfl, .inr ⟨rfl, by show bs.getD 2 0 / 64 = 3; rw [h2]⟩, .inl rfl⟩)).mono fun e w' hh => ⟨hh.1, ?_, hh.2.2⟩
    have := hh.2.1
    have hf : (⟨12, 0, (2, 0), (0, 0), (0, 0)⟩ : DRow).formed = true := by decide
    simp only [hf, if_true] at this
    rw [show bs.getD (1 + 1) 0 = 192 from h2] at this
    exact this
  · exact (operand_dir rb _ bs wx hx (by dsimp only <;> decide) (by dsimp only <;> decide) (by dsimp only <;> decide) (by dsimp only <;> decide)).mono fun e w' hh => ⟨hh.1.trans (by simp [regV, operC]), hh.2⟩
  · exact operand_zero8 rb _ bs wx hx (by dsimp only <;> decide) (by dsimp only <;> decide)
  · exact operand_zero8 rb _ bs wx hx (by dsimp only <;> decide) (by dsimp only <;> decide)
set_option maxRecDepth 100000 in
/-- f4 -/
theorem dec_hlt (ad : Option Addr) (n c : Nat) (bs : List Nat) (w : World) (h : OwnI w 0 5 .u8 (.slice ad n c) (toI bs)) (hbyte : ∀ b ∈ bs, b < 256) (hlen : bs.length = n) (hbig : n ≤ 1048576) (hn : 3 < n) (h0 : bs.getD 0 0 = 244) :
    Calls Tryz.prog 24 #[.slice ad n c] w fun e w' => e = .returned (.tuple #[.agg (instC 30 1 0 0 0 0 0 0 0 0 0 0), .nilIface]) ∧ Below w.heap.size w w' := by
  refine dec_any ad n c bs w h hbyte hlen hbig (by omega) (by omega) ⟨ad, n, c, 0, false, false, false, 0, 0, 0⟩ ⟨ad, n, c, 1, false, false, false, 0, 244, 0⟩ ⟨30, 0, (0, 0), (0, 0), (0, 0)⟩ 0 0 0 0 0 0 0 0 0 (fun rb wx hx => ?_) (fun rb wx hx => ?_) (fun rb wx hx => ?_) (fun rb wx hx => ?_) (fun rb wx hx => ?_) rfl (by decide) (by decide)
  · exact (prefix_none rb _ bs wx hx (by show 0 < n; omega) 244 h0 (by decide) (by decide) (by decide)).mono fun e w' hh => ⟨hh.1, hh.2.1, hh.2.2.1⟩
  · refine (oprow_ok rb _ bs wx hx 244 0 false ⟨30, 0, (0, 0), (0, 0), (0, 0)⟩ rfl rfl (by show 0 + 2 < n; omega) h0 (by decide) (by decide) (fun wy => grouped_244_0_0 wy) rfl (fun wy => orow_244_0_0 wy) (by decide) (fun hf => absurd hf (by decide))).mono fun e w' hh => ⟨hh.1, ?_, hh.2.2⟩
    have := hh.2.1
    have hf : (⟨30, 0, (0, 0), (0, 0), (0, 0)⟩ : DRow).formed = false := by decide
    simp only [hf] at this
    exact this
  · exact operand_zero rb _ bs wx hx (by dsimp only <;> decide) (by dsimp only <;> decide)
  · exact operand_zero rb _ bs wx hx (by dsimp only <;> decide) (by dsimp only <;> decide)
  · exact operand_zero rb _ bs wx hx (by dsimp only <;> decide) (by dsimp only <;> decide)
end Go.Proofs.YtmnjkaimpejohaaGreatDoor
