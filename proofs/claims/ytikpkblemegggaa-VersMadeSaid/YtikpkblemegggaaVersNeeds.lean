/- Layer 8: what is needed of other objects, read one behind the other. -/
import Derived.Test.YtikpkblemegggaaVersNeed
namespace Go.Proofs.Ytikpkblemegggaa
open Go.RowKit Go.Maps
set_option linter.unusedVariables false
set_option linter.unusedSimpArgs false

theorem rowNeed : RowSlice Try.prog 33 45 (.agg #[.string .empty, .slice none 0 0]) 2 40 := ⟨Try.underlying33, by kernel_rfl, rfl, by decide⟩
def NeedRow (w : World) (B : Nat) (d : NeedD) (q : List Value) : Prop := ∃ ad c, q = [.string d.file, .slice ad d.aux.length c] ∧ OwnS w B 47 3 (.slice ad d.aux.length c) (auxRows d.aux)
def NeedRows (w : World) (B : Nat) : List NeedD → List (List Value) → Prop
  | [], [] => True
  | d :: ds, q :: qs => NeedRow w B d q ∧ NeedRows w B ds qs
  | _, _ => False
theorem NeedRows.len {w : World} {B : Nat} : ∀ {ds : List NeedD} {rows : List (List Value)}, NeedRows w B ds rows → rows.length = ds.length
  | [], [], _ => rfl
  | d :: ds, q :: qs, h => by simp [NeedRows.len h.2]
  | [], q :: qs, h => h.elim
  | d :: ds, [], h => h.elim
theorem NeedRows.snoc {w : World} {B : Nat} {d : NeedD} {q : List Value} : ∀ {ds : List NeedD} {rows : List (List Value)}, NeedRows w B ds rows → NeedRow w B d q → NeedRows w B (ds ++ [d]) (rows ++ [q])
  | [], [], _, h => ⟨h, trivial⟩
  | d :: ds, q :: qs, h, h2 => ⟨h.1, NeedRows.snoc h.2 h2⟩
  | [], q :: qs, h, _ => h.elim
  | d :: ds, [], h, _ => h.elim
theorem NeedRows.imp {w w' : World} {B B' : Nat} (H : ∀ v rows, OwnS w B 47 3 v rows → OwnS w' B' 47 3 v rows) : ∀ {ds : List NeedD} {rows : List (List Value)}, NeedRows w B ds rows → NeedRows w' B' ds rows
  | [], [], _ => trivial
  | d :: ds, q :: qs, h => by
    obtain ⟨⟨ad, c, e, ho⟩, h2⟩ := h
    exact ⟨⟨ad, c, e, H _ _ ho⟩, NeedRows.imp H h2⟩
  | [], q :: qs, h => h.elim
  | d :: ds, [], h => h.elim
theorem NeedRows.at {w : World} {B : Nat} : ∀ {ds : List NeedD} {rows : List (List Value)}, NeedRows w B ds rows → ∀ i (h1 : i < ds.length) (h2 : i < rows.length), NeedRow w B ds[i] rows[i]
  | d :: ds, q :: qs, h, 0, _, _ => h.1
  | d :: ds, q :: qs, h, i + 1, h1, h2 => NeedRows.at h.2 i (by simpa using h1) (by simpa using h2)
  | [], q :: qs, h, _, _, _ => h.elim
  | d :: ds, [], h, _, _, _ => h.elim
  | [], [], _, _, h1, _ => absurd h1 (by simp)

theorem LK.keepS {w w2 wc : World} {L sz sz2 : Nat} {pre : Array Value} {T e e2 : TypeId} {rows rows2 : List (List Value)} {ad : Option Addr} {c : Nat} {v : Value} {B0 : Nat} (h1 : InBx w L pre (.slice ad rows.length c) T) (h2 : OwnS w wc.heap.size e sz (.slice ad rows.length c) rows)
    (o : Obj) (hg : (w.alloc o).grownBy w2 (Value.slice ad rows.length c).ownBlock) (hv : OwnS w B0 e2 sz2 v rows2) (hu : e2 ≠ e) (hT : e ≠ T) (hT2 : e2 ≠ T) (u : Value) (j : Nat) :
    OwnS (w2.setCell ⟨L, j, none⟩ u) B0 e2 sz2 v rows2 := by
  have v2 : OwnS w2 B0 e2 sz2 v rows2 := ⟨World.ownsRow.kept (hv.allocO o).1 hg (own_apart (h2.allocO o).1 (hv.allocO o).1 hu), hv.2⟩
  have b2 : InBx w2 L pre (.slice ad rows.length c) T := (h1.alloc o).grown hg (h1.apart h2.1 hT)
  exact v2.setO (b2.apart v2.1 hT2) _

theorem errF_small {σ : Type} {f : σ → List Nat → Nat → σ × Nat} (hf : ∀ s b a, (f s b a).2 < 30) (bs : List Nat) (ps : List PT) (size : Nat) : ∀ (n fr step : Nat) (s : σ), (chainV f bs ps size n fr step s).2 < 30
  | 0, _, _, _ => by show 0 < 30; decide
  | n + 1, fr, step, s => by
    rw [chainV]
    split
    · show (itemF bs ps fr step size).2.2 < 30
      unfold itemF
      split
      · show 4 < 30; decide
      · show (sliceF bs ps (fr + step) size).2 < 30
        unfold sliceF
        split
        · show 0 < 30; decide
        · show 4 < 30; decide
    · split
      · exact hf _ _ _
      · split
        · show 3 < 30; decide
        · exact errF_small hf bs ps size n _ _ _
theorem needF_small (bs : List Nat) (ps : List PT) (ss told b : List Nat) (a : Nat) : (needF bs ps ss told b a).2.2 < 30 := by
  unfold needF
  split
  · show 3 < 30; decide
  · split
    · show 2 < 30; decide
    · split
      · exact textF_small _ _
      · exact errF_small (f := auxStep ss) (fun s b a => auxF_small _ _ _) _ _ _ _ _ _ _

def EQ (r : RD) (wc : World) (Rb L : Nat) (k : Nat) (s : List Nat × List NeedD) (w : World) : Prop :=
  (∃ rows, LK r s.1 wc Rb L #[] 33 45 2 rows w ∧ NeedRows w wc.heap.size s.2 rows) ∧ s.2.length + k ≤ 64

set_option maxRecDepth 100000 in
set_option maxHeartbeats 4000000 in
theorem need_step (r : RD) (wc : World) (Rb L : Nat) : Stepper r (needStep r.bs r.ps r.ss) 16 34 (.pointer (some ⟨Rb, 0, none⟩)) (.pointer (some ⟨L, 0, none⟩)) (EQ r wc Rb L) := by
  refine ⟨fun args w => rfl, fun h => by obtain ⟨⟨rows, h, -⟩, -⟩ := h; exact h.ok, fun h hb => ?_, fun s b a => needF_small _ _ _ _ _ _, ?_⟩
  · obtain ⟨⟨rows, h1, h2⟩, h3⟩ := h
    exact ⟨⟨rows, h1.below hb, h2.imp (fun v q ho => ho.below hb)⟩, h3⟩
  intro k s w1 w b at_ c ad hq hbel hown hb256 hlen hat
  obtain ⟨told, l⟩ := s
  obtain ⟨⟨rows, hq1, hq2⟩, hroom⟩ := hq
  have hw := hq1.below hbel
  have hnr := hq2.imp (w' := w) (fun v q ho => ho.below hbel)
  obtain ⟨g, rfl⟩ := hown.shape2 (by omega)
  have hcap := hown.cap2
  have hrow : BRow w (some ⟨g, 0, none⟩) b := ⟨hown.row2, hb256⟩
  have HA := Lib.hid (need_any r w told g c b at_ hw.ok hw.map hrow hlen (by omega) hat)
  unfold needStep
  simp only at HA hw ⊢
  generalize needF r.bs r.ps r.ss told b at_ = X at *
  obtain ⟨told2, ⟨file, aux⟩, cd⟩ := X
  simp only at HA ⊢
  have HLK := Lib.hid hw
  have HNR := Lib.hid hnr
  have HROOM : l.length + (k + 1) ≤ 64 := hroom
  have HO := Lib.hid hown
  have cR := hw.rbox.cell
  unfold rdV at cR HA
  have hcap8 : (16 : Int) ≤ (c : Int) := by omega
  have HLEN := Lib.hid hlen
  have HISM := Lib.hid hw.map.isMap
  have HSZ := Lib.hid hw.kp.size
  rw [hlen]
  clear hw hown hrow hq1 hq2 hnr hroom hbel hb256 hlen
  go_enter Try.func34, Try.ntmps34
  go_wp2_with fail
  refine HA.out.mono ?_
  rintro e w2 ⟨na, nc, he, ho2, hm2, hk2⟩
  replace he : e = .returned (.tuple #[.agg #[.string file, .slice na aux.length nc], errV (cd : Int)]) := he
  subst he
  have HK2 := Lib.hid (HLK.out.turned hk2 hm2)
  have HO2 : Hid (OwnI w2 w1.heap.size 5 .u8 (.slice (some ⟨g, 0, none⟩) b.length c) (toI b)) := Lib.hid (own_kp HO.out hk2 HISM.out)
  have HNR2 := Lib.hid (HNR.out.imp (w' := w2) (B' := wc.heap.size) (fun v q h => ⟨own_kp h.1 hk2 HISM.out, h.2⟩))
  have HAUX := Lib.hid (OwnS.mono ho2 HSZ.out)
  clear hk2 hm2 HA HLK HO cR HISM HNR ho2
  have BA : Hid (Below w2.heap.size w2 (w2.alloc (.cells #[.string file, .slice na aux.length nc] 45))) := Lib.hid ((Below.refl _ _).alloc (Nat.le_refl _) _)
  have HK3 := Lib.hid (HK2.out.below BA.out)
  have HO3 := Lib.hid (OwnI.below HO2.out BA.out)
  have HNR3 := Lib.hid (HNR2.out.imp (B' := wc.heap.size) (fun v q h => h.below BA.out))
  have HAUX3 := Lib.hid (OwnS.below HAUX.out BA.out)
  have HRL := Lib.hid HNR3.out.len
  have hrl := HRL.out
  obtain ⟨la, lc, hbox, hl⟩ := HK3.out.lbox
  rw [hrl] at hbox hl
  have cL := hbox.cell
  simp only [List.size_toArray, List.length_nil] at cL
  have HBX := Lib.hid hbox
  have HL := Lib.hid hl
  have HBS := Lib.hid HK3.out.kp.size
  clear hbox hl hrl
  go_wp2_with (at_builtin; (refine wpList_grow_row rfl (.tmp 16) (.tmp 18) rowNeed rfl wc.heap.size (.slice la l.length lc) rows l.length [.string file, .slice na aux.length nc] rfl (by change Value.slice (some ⟨w2.heap.size + 1, 0, none⟩) 1 1 = _; simp) HRL.out rfl (by intro u hu; simp only [List.mem_cons, List.not_mem_nil, or_false] at hu; rcases hu with rfl | rfl <;> rfl) HL.out (by unfold maxLen; omega) (by omega) HBS.out ?_); intro la2 lc2 w4 ho4 hg4; have O4 := Lib.hid ho4; have G4 := Lib.hid hg4; have cb4 := ((HBX.out.alloc _).grown hg4 (HBX.out.apart HL.out.1 (by decide))).cell; have cf4 := ((HBX.out.alloc _).grown hg4 (HBX.out.apart HL.out.1 (by decide))).free 0; simp only [List.size_toArray, List.length_nil] at cb4; clear ho4 hg4)
  go_ret
  have hpush := HK3.out.push (T := 33) (q := [Value.string file, .slice na aux.length nc]) (by rw [HRL.out]; exact HBX.out) (by rw [HRL.out]; exact HL.out) _ (by rw [HRL.out]; exact G4.out) (by rw [HRL.out]; exact O4.out) (by decide) (by decide)
  rw [HRL.out] at hpush
  refine ⟨rfl, ⟨⟨_, hpush, ?_⟩, by rw [List.length_append]; simp only [List.length_cons, List.length_nil]; omega⟩, ?_⟩
  · refine NeedRows.snoc (HNR3.out.imp (fun v q h => LK.keepS (T := 33) (rows := rows) (by rw [HRL.out]; exact HBX.out) (by rw [HRL.out]; exact HL.out) _ (by rw [HRL.out]; exact G4.out) h (by decide) (by decide) (by decide) _ _)) ⟨na, nc, rfl, ?_⟩
    exact LK.keepS (T := 33) (rows := rows) (by rw [HRL.out]; exact HBX.out) (by rw [HRL.out]; exact HL.out) _ (by rw [HRL.out]; exact G4.out) HAUX3.out (by decide) (by decide) (by decide) _ _
  · have ho2 := HO3.out
    rw [HLEN.out] at ho2
    exact LK.keep (T := 33) (rows := rows) (by rw [HRL.out]; exact HBX.out) (by rw [HRL.out]; exact HL.out) _ (by rw [HRL.out]; exact G4.out) ho2 (by decide) (by decide) (by decide) _ _
end Go.Proofs.Ytikpkblemegggaa
