/- Layer 8: the versions that are needed of one object, read one behind the other. -/
import Derived.Test.YtikpkblemegggaaVersAux
namespace Go.Proofs.Ytikpkblemegggaa
open Go.RowKit Go.Maps
set_option linter.unusedVariables false
set_option linter.unusedSimpArgs false

theorem rowAux : RowSlice Try.prog 43 47 (.agg #[.int .i64 0, .bool false, .string .empty]) 3 32 := ⟨Try.underlying43, by kernel_rfl, rfl, by decide⟩
def auxRows (l : List AuxD) : List (List Value) := l.map auxCells
theorem auxRows_length (l : List AuxD) : (auxRows l).length = l.length := by simp [auxRows]
theorem auxRows_snoc (l : List AuxD) (x : AuxD) : auxRows (l ++ [x]) = auxRows l ++ [auxCells x] := by simp [auxRows]
theorem auxF_small (s told b : List Nat) : (auxF s told b).2.2 < 30 := by
  unfold auxF
  split
  · exact textF_small _ _
  · split
    · show 3 < 30; decide
    · split
      · show 5 < 30; decide
      · show 0 < 30; decide
def AQ (r : RD) (wc : World) (Rb L : Nat) (file : ByteArray) (k : Nat) (s : List Nat × List AuxD) (w : World) : Prop :=
  LK r s.1 wc Rb L #[.string file] 45 47 3 (auxRows s.2) w ∧ s.2.length + k ≤ 64

set_option maxRecDepth 100000 in
set_option maxHeartbeats 4000000 in
theorem aux_step (r : RD) (wc : World) (Rb L : Nat) (file : ByteArray) : Stepper r (auxStep r.ss) 16 49 (.pointer (some ⟨Rb, 0, none⟩)) (.pointer (some ⟨L, 0, none⟩)) (AQ r wc Rb L file) := by
  refine ⟨fun args w => rfl, fun h => h.1.ok, fun h hb => ⟨h.1.below hb, h.2⟩, fun s b a => auxF_small _ _ _, ?_⟩
  intro k s w1 w b at_ c ad hq hbel hown hb256 hlen hat
  obtain ⟨told, l⟩ := s
  have hw := hq.1.below hbel
  obtain ⟨g, rfl⟩ := hown.shape2 (by omega)
  have hcap := hown.cap2
  have hrow : BRow w (some ⟨g, 0, none⟩) b := ⟨hown.row2, hb256⟩
  have HA := Lib.hid (aux_any r w told g c b hw.ok hw.map hrow hlen (by omega))
  unfold auxStep
  simp only at HA hw ⊢
  generalize auxF r.ss told b = X at *
  obtain ⟨told2, ⟨x, wk, nm⟩, cd⟩ := X
  simp only [auxCells] at HA ⊢
  have HLK := Lib.hid hw
  have HROOM : l.length + (k + 1) ≤ 64 := hq.2
  have HO := Lib.hid hown
  have cR := hw.rbox.cell
  unfold rdV at cR HA
  have hcap8 : (16 : Int) ≤ (c : Int) := by omega
  have HLEN := Lib.hid hlen
  have HISM := Lib.hid hw.map.isMap
  rw [hlen]
  clear hw hown hrow hq hbel hb256 hlen
  go_enter Try.func49, Try.ntmps49
  go_wp2_with fail
  refine HA.out.mono ?_
  rintro e w2 ⟨he, hm2, hk2⟩
  replace he : e = .returned (.tuple #[.agg #[.int .i64 (x : Int), .bool wk, .string nm], errV (cd : Int)]) := he
  subst he
  have HK2 := Lib.hid (HLK.out.turned hk2 hm2)
  have HO2 : Hid (OwnI w2 w1.heap.size 5 .u8 (.slice (some ⟨g, 0, none⟩) b.length c) (toI b)) := Lib.hid (own_kp HO.out hk2 HISM.out)
  clear hk2 hm2 HA HLK HO cR HISM
  have BA : Hid (Below w2.heap.size w2 (w2.alloc (.cells #[.int .i64 (x : Int), .bool wk, .string nm] 47))) := Lib.hid ((Below.refl _ _).alloc (Nat.le_refl _) _)
  have HK3 := Lib.hid (HK2.out.below BA.out)
  have HO3 := Lib.hid (OwnI.below HO2.out BA.out)
  obtain ⟨la, lc, hbox, hl⟩ := HK3.out.lbox
  rw [auxRows_length] at hbox hl
  have cL := hbox.cell
  simp only [List.size_toArray, List.length_cons, List.length_nil, Nat.zero_add] at cL
  have HBX := Lib.hid hbox
  have HL := Lib.hid hl
  have HBS := Lib.hid HK3.out.kp.size
  obtain ⟨la0, lc0, hbox0, hl0⟩ := HK2.out.lbox
  clear hbox hl
  rw [auxRows_length] at hbox0 hl0
  have HL0 := Lib.hid hl0
  clear hl0 hbox0
  go_wp2_with (at_builtin; (refine wpList_grow_row rfl (.tmp 16) (.tmp 18) rowAux rfl wc.heap.size (.slice la l.length lc) (auxRows l) l.length [.int .i64 (x : Int), .bool wk, .string nm] rfl (by change Value.slice (some ⟨w2.heap.size + 1, 0, none⟩) 1 1 = _; simp) (auxRows_length l) rfl (by intro u hu; simp only [List.mem_cons, List.not_mem_nil, or_false] at hu; rcases hu with rfl | rfl | rfl <;> rfl) HL.out (by unfold maxLen; omega) (by omega) HBS.out ?_); intro la2 lc2 w4 ho4 hg4; have O4 := Lib.hid ho4; have G4 := Lib.hid hg4; have cb4 := ((HBX.out.alloc _).grown hg4 (HBX.out.apart HL.out.1 (by decide))).cell; have cf4 := ((HBX.out.alloc _).grown hg4 (HBX.out.apart HL.out.1 (by decide))).free 1; simp only [List.size_toArray, List.length_cons, List.length_nil, Nat.zero_add] at cb4; clear ho4 hg4)
  go_ret
  have hpush := HK3.out.push (T := 45) (q := auxCells ⟨x, wk, nm⟩) (by rw [auxRows_length]; exact HBX.out) (by rw [auxRows_length]; exact HL.out) _ (by rw [auxRows_length]; exact G4.out) (by rw [auxRows_length]; exact O4.out) (by decide) (by decide)
  rw [auxRows_length, ← auxRows_snoc] at hpush
  refine ⟨rfl, ⟨hpush, by rw [List.length_append]; simp only [List.length_cons, List.length_nil]; omega⟩, ?_⟩
  have ho2 := HO3.out
  rw [HLEN.out] at ho2
  exact LK.keep (T := 45) (rows := auxRows l) (by rw [auxRows_length]; exact HBX.out) (by rw [auxRows_length]; exact HL.out) _ (by rw [auxRows_length]; exact G4.out) ho2 (by decide) (by decide) (by decide) _ _
end Go.Proofs.Ytikpkblemegggaa
