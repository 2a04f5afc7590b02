/- Layer 8: the definitions, read one behind the other. -/
import Derived.Test.YtikpkblemegggaaVersDef
namespace Go.Proofs.Ytikpkblemegggaa
open Go.RowKit Go.Maps
set_option linter.unusedVariables false
set_option linter.unusedSimpArgs false

theorem rowDef : RowSlice Try.prog 32 42 (.agg #[.int .i64 0, .bool false, .string .empty, .slice none 0 0]) 4 56 := ⟨Try.underlying32, by kernel_rfl, rfl, by decide⟩
def DefRows (w : World) (B : Nat) : List DefD → List (List Value) → Prop
  | [], [] => True
  | d :: ds, q :: qs => DefRow w B d q ∧ DefRows w B ds qs
  | _, _ => False
theorem DefRows.len {w : World} {B : Nat} : ∀ {ds : List DefD} {rows : List (List Value)}, DefRows w B ds rows → rows.length = ds.length
  | [], [], _ => rfl
  | d :: ds, q :: qs, h => by simp [DefRows.len h.2]
  | [], q :: qs, h => h.elim
  | d :: ds, [], h => h.elim
theorem DefRows.snoc {w : World} {B : Nat} {d : DefD} {q : List Value} : ∀ {ds : List DefD} {rows : List (List Value)}, DefRows w B ds rows → DefRow w B d q → DefRows w B (ds ++ [d]) (rows ++ [q])
  | [], [], _, h => ⟨h, trivial⟩
  | d :: ds, q :: qs, h, h2 => ⟨h.1, DefRows.snoc h.2 h2⟩
  | [], q :: qs, h, _ => h.elim
  | d :: ds, [], h, _ => h.elim
theorem DefRows.imp {w w' : World} {B B' : Nat} (H : ∀ v rows, OwnS w B 9 1 v rows → OwnS w' B' 9 1 v rows) : ∀ {ds : List DefD} {rows : List (List Value)}, DefRows w B ds rows → DefRows w' B' ds rows
  | [], [], _ => trivial
  | d :: ds, q :: qs, h => by
    obtain ⟨⟨ad, c, e, ho⟩, h2⟩ := h
    exact ⟨⟨ad, c, e, H _ _ ho⟩, DefRows.imp H h2⟩
  | [], q :: qs, h => h.elim
  | d :: ds, [], h => h.elim
theorem DefRows.at {w : World} {B : Nat} : ∀ {ds : List DefD} {rows : List (List Value)}, DefRows w B ds rows → ∀ i (h1 : i < ds.length) (h2 : i < rows.length), DefRow w B ds[i] rows[i]
  | d :: ds, q :: qs, h, 0, _, _ => h.1
  | d :: ds, q :: qs, h, i + 1, h1, h2 => DefRows.at h.2 i (by simpa using h1) (by simpa using h2)
  | [], q :: qs, h, _, _, _ => h.elim
  | d :: ds, [], h, _, _, _ => h.elim
  | [], [], _, _, h1, _ => absurd h1 (by simp)
theorem defF_small (bs : List Nat) (ps : List PT) (ss told b : List Nat) (a : Nat) : (defF bs ps ss told b a).2.2 < 30 := by
  unfold defF
  split
  · show 3 < 30; decide
  · split
    · show 5 < 30; decide
    · split
      · show 2 < 30; decide
      · split
        · exact errF_small (f := nameStep ss) (fun s b a => textF_small _ _) _ _ _ _ _ _ _
        · split
          · show 3 < 30; decide
          · show 0 < 30; decide

def FQ (r : RD) (wc : World) (Rb L : Nat) (k : Nat) (s : List Nat × List DefD) (w : World) : Prop :=
  (∃ rows, LK r s.1 wc Rb L #[] 32 42 4 rows w ∧ DefRows w wc.heap.size s.2 rows) ∧ s.2.length + k ≤ 64

set_option maxRecDepth 100000 in
set_option maxHeartbeats 4000000 in
theorem def_step (r : RD) (wc : World) (Rb L : Nat) : Stepper r (defStep r.bs r.ps r.ss) 20 32 (.pointer (some ⟨Rb, 0, none⟩)) (.pointer (some ⟨L, 0, none⟩)) (FQ r wc Rb L) := by
  refine ⟨fun args w => rfl, fun h => by obtain ⟨⟨rows, h, -⟩, -⟩ := h; exact h.ok, fun h hb => ?_, fun s b a => defF_small _ _ _ _ _ _, ?_⟩
  · obtain ⟨⟨rows, h1, h2⟩, h3⟩ := h
    exact ⟨⟨rows, h1.below hb, h2.imp (fun v q ho => ho.below hb)⟩, h3⟩
  intro k s w1 w b at_ c ad hq hbel hown hb256 hlen hat
  obtain ⟨told, l⟩ := s
  obtain ⟨⟨rows, hq1, hq2⟩, hroom⟩ := hq
  have hw := hq1.below hbel
  have hnr := hq2.imp (w' := w) (fun v q ho => ho.below hbel)
  obtain ⟨g, rfl⟩ := hown.shape2 (by omega)
  have hcap := hown.cap2
  have hrow : BRow w (some ⟨g, 0, none⟩) b := ⟨hown.row2, hb256⟩
  have HA := Lib.hid (def_any r w told g c b at_ hw.ok hw.map hrow hlen (by omega) hat)
  unfold defStep
  simp only at HA hw ⊢
  generalize defF r.bs r.ps r.ss told b at_ = X at *
  obtain ⟨told2, ⟨dx, db, dn, dp⟩, cd⟩ := X
  simp only at HA ⊢
  have HLK := Lib.hid hw
  have HNR := Lib.hid hnr
  have HROOM : l.length + (k + 1) ≤ 64 := hroom
  have HO := Lib.hid hown
  have cR := hw.rbox.cell
  unfold rdV at cR HA
  have hcap8 : (20 : Int) ≤ (c : Int) := by omega
  have HLEN := Lib.hid hlen
  have HISM := Lib.hid hw.map.isMap
  have HSZ := Lib.hid hw.kp.size
  rw [hlen]
  clear hw hown hrow hq1 hq2 hnr hroom hbel hb256 hlen
  go_enter Try.func32, Try.ntmps32
  go_wp2_with fail
  refine HA.out.mono ?_
  rintro e w2 ⟨na, nc, he, ho2, hm2, hk2⟩
  replace he : e = .returned (.tuple #[.agg #[.int .i64 (dx : Int), .bool db, .string dn, .slice na dp.length nc], errV (cd : Int)]) := he
  subst he
  have HK2 := Lib.hid (HLK.out.turned hk2 hm2)
  have HO2 : Hid (OwnI w2 w1.heap.size 5 .u8 (.slice (some ⟨g, 0, none⟩) b.length c) (toI b)) := Lib.hid (own_kp HO.out hk2 HISM.out)
  have HNR2 := Lib.hid (HNR.out.imp (w' := w2) (B' := wc.heap.size) (fun v q h => ⟨own_kp h.1 hk2 HISM.out, h.2⟩))
  have HAUX := Lib.hid (OwnS.mono ho2 HSZ.out)
  clear hk2 hm2 HA HLK HO cR HISM HNR ho2
  have BA : Hid (Below w2.heap.size w2 (w2.alloc (.cells #[.int .i64 (dx : Int), .bool db, .string dn, .slice na dp.length nc] 42))) := Lib.hid ((Below.refl _ _).alloc (Nat.le_refl _) _)
  have HK3 := Lib.hid (HK2.out.below BA.out)
  have HO3 := Lib.hid (OwnI.below HO2.out BA.out)
  have HNR3 := Lib.hid (HNR2.out.imp (B' := wc.heap.size) (fun v q h => h.below BA.out))
  have HAUX3 := Lib.hid (OwnS.below HAUX.out BA.out)
  have HRL := Lib.hid HNR3.out.len
  have hrl := HRL.out
  obtain ⟨la, lc, hbox, hl⟩ := HK3.out.lbox
  rw [hrl] at hbox hl
  have cL := hbox.cell
  simp only [List.size_toArray, List.length_nil] at cL
  have HBX := Lib.hid hbox
  have HL := Lib.hid hl
  have HBS := Lib.hid HK3.out.kp.size
  clear hbox hl hrl
  go_wp2_with (at_builtin; (refine wpList_grow_row rfl (.tmp 16) (.tmp 18) rowDef rfl wc.heap.size (.slice la l.length lc) rows l.length [.int .i64 (dx : Int), .bool db, .string dn, .slice na dp.length nc] rfl (by change Value.slice (some ⟨w2.heap.size + 1, 0, none⟩) 1 1 = _; simp) HRL.out rfl (by intro u hu; simp only [List.mem_cons, List.not_mem_nil, or_false] at hu; rcases hu with rfl | rfl | rfl | rfl <;> rfl) HL.out (by unfold maxLen; omega) (by omega) HBS.out ?_); intro la2 lc2 w4 ho4 hg4; have O4 := Lib.hid ho4; have G4 := Lib.hid hg4; have cb4 := ((HBX.out.alloc _).grown hg4 (HBX.out.apart HL.out.1 (by decide))).cell; have cf4 := ((HBX.out.alloc _).grown hg4 (HBX.out.apart HL.out.1 (by decide))).free 0; simp only [List.size_toArray, List.length_nil] at cb4; clear ho4 hg4)
  go_ret
  have hpush := HK3.out.push (T := 32) (q := [Value.int .i64 (dx : Int), .bool db, .string dn, .slice na dp.length nc]) (by rw [HRL.out]; exact HBX.out) (by rw [HRL.out]; exact HL.out) _ (by rw [HRL.out]; exact G4.out) (by rw [HRL.out]; exact O4.out) (by decide) (by decide)
  rw [HRL.out] at hpush
  refine ⟨rfl, ⟨⟨_, hpush, ?_⟩, by rw [List.length_append]; simp only [List.length_cons, List.length_nil]; omega⟩, ?_⟩
  · refine DefRows.snoc (HNR3.out.imp (fun v q h => LK.keepS (T := 32) (rows := rows) (by rw [HRL.out]; exact HBX.out) (by rw [HRL.out]; exact HL.out) _ (by rw [HRL.out]; exact G4.out) h (by decide) (by decide) (by decide) _ _)) ⟨na, nc, rfl, ?_⟩
    exact LK.keepS (T := 32) (rows := rows) (by rw [HRL.out]; exact HBX.out) (by rw [HRL.out]; exact HL.out) _ (by rw [HRL.out]; exact G4.out) HAUX3.out (by decide) (by decide) (by decide) _ _
  · have ho2 := HO3.out
    rw [HLEN.out] at ho2
    exact LK.keep (T := 32) (rows := rows) (by rw [HRL.out]; exact HBX.out) (by rw [HRL.out]; exact HL.out) _ (by rw [HRL.out]; exact G4.out) ho2 (by decide) (by decide) (by decide) _ _
end Go.Proofs.Ytikpkblemegggaa
