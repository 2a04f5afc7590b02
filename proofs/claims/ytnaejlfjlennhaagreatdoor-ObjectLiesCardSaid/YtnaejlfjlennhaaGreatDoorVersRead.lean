/- Layer 8: the definitions, read one behind the other. -/
import Derived.Test.YtnaejlfjlennhaaGreatDoorVersDef
import Derived.Laws.MakeOwn
import Derived.Laws.CopyOwn
namespace Go.Proofs.YtnaejlfjlennhaaGreatDoor
open Go.RowKit Go.Maps
set_option linter.unusedVariables false
set_option linter.unusedSimpArgs false

theorem rowDef : RowSlice Tryz.prog 34 204 (.agg #[.int .i64 0, .bool false, .string .empty, .slice none 0 0]) 4 56 := ⟨Tryz.underlying34, by kernel_rfl, rfl, by decide⟩
def DefRows (w : World) (B : Nat) : List DefD → List (List Value) → Prop
  | [], [] => True
  | d :: ds, q :: qs => DefRow w B d q ∧ DefRows w B ds qs
  | _, _ => False
theorem DefRows.len {w : World} {B : Nat} : ∀ {ds : List DefD} {rows : List (List Value)}, DefRows w B ds rows → rows.length = ds.length
  | [], [], _ => rfl
  | d :: ds, q :: qs, h => by simp [DefRows.len h.2]
  | [], q :: qs, h => h.elim
  | d :: ds, [], h => h.elim
theorem DefRows.snoc {w : World} {B : Nat} {d : DefD} {q : List Value} : ∀ {ds : List DefD} {rows : List (List Value)}, DefRows w B ds rows → DefRow w B d q → DefRows w B (ds ++ [d]) (rows ++ [q])
  | [], [], _, h => ⟨h, trivial⟩
  | d :: ds, q :: qs, h, h2 => ⟨h.1, DefRows.snoc h.2 h2⟩
  | [], q :: qs, h, _ => h.elim
  | d :: ds, [], h, _ => h.elim
theorem DefRows.imp {w w' : World} {B B' : Nat} (H : ∀ v rows, OwnS w B 9 1 v rows → OwnS w' B' 9 1 v rows) : ∀ {ds : List DefD} {rows : List (List Value)}, DefRows w B ds rows → DefRows w' B' ds rows
  | [], [], _ => trivial
  | d :: ds, q :: qs, h => by
    obtain ⟨⟨ad, c, e, ho⟩, h2⟩ := h
    exact ⟨⟨ad, c, e, H _ _ ho⟩, DefRows.imp H h2⟩
  | [], q :: qs, h => h.elim
  | d :: ds, [], h => h.elim
theorem DefRows.at {w : World} {B : Nat} : ∀ {ds : List DefD} {rows : List (List Value)}, DefRows w B ds rows → ∀ i (h1 : i < ds.length) (h2 : i < rows.length), DefRow w B ds[i] rows[i]
  | d :: ds, q :: qs, h, 0, _, _ => h.1
  | d :: ds, q :: qs, h, i + 1, h1, h2 => DefRows.at h.2 i (by simpa using h1) (by simpa using h2)
  | [], q :: qs, h, _, _, _ => h.elim
  | d :: ds, [], h, _, _, _ => h.elim
  | [], [], _, _, h1, _ => absurd h1 (by simp)
theorem defF_small (bs : List Nat) (ps : List PT) (ss told b : List Nat) (a : Nat) : (defF bs ps ss told b a).2.2 < 30 := by
  unfold defF
  split
  · show 3 < 30; decide
  · split
    · show 5 < 30; decide
    · split
      · show 2 < 30; decide
      · split
        · exact errF_small (f := nameStep ss) (fun s b a => textF_small _ _) _ _ _ _ _ _ _
        · split
          · show 3 < 30; decide
          · show 0 < 30; decide

def FQ (r : RD) (wc : World) (Rb L : Nat) (k : Nat) (s : List Nat × List DefD) (w : World) : Prop :=
  (∃ rows, LK r s.1 wc Rb L #[] 34 204 4 rows w ∧ DefRows w wc.heap.size s.2 rows) ∧ s.2.length + k ≤ 64

set_option maxRecDepth 100000 in
set_option maxHeartbeats 4000000 in
theorem def_step (r : RD) (wc : World) (Rb L : Nat) : Stepper r (defStep r.bs r.ps r.ss) 20 92 (.pointer (some ⟨Rb, 0, none⟩)) (.pointer (some ⟨L, 0, none⟩)) (FQ r wc Rb L) := by
  refine ⟨fun args w => rfl, fun h => by obtain ⟨⟨rows, h, -⟩, -⟩ := h; exact h.ok, fun h hb => ?_, fun s b a => defF_small _ _ _ _ _ _, ?_⟩
  · obtain ⟨⟨rows, h1, h2⟩, h3⟩ := h
    exact ⟨⟨rows, h1.below hb, h2.imp (fun v q ho => ho.below hb)⟩, h3⟩
  intro k s w1 w b at_ c ad hq hbel hown hb256 hlen hat
  obtain ⟨told, l⟩ := s
  obtain ⟨⟨rows, hq1, hq2⟩, hroom⟩ := hq
  have hw := hq1.below hbel
  have hnr := hq2.imp (w' := w) (fun v q ho => ho.below hbel)
  obtain ⟨g, rfl⟩ := hown.shape2v (by omega)
  have hcap := hown.cap2v
  have hrow : BRow w (some ⟨g, 0, none⟩) b := ⟨hown.row2v, hb256⟩
  have HA := Lib.hid (def_any r w told g c b at_ hw.ok hw.map hrow hlen (by omega) hat)
  unfold defStep
  simp only at HA hw ⊢
  generalize defF r.bs r.ps r.ss told b at_ = X at *
  obtain ⟨told2, ⟨dx, db, dn, dp⟩, cd⟩ := X
  simp only at HA ⊢
  have HLK := Lib.hid hw
  have HNR := Lib.hid hnr
  have HROOM : l.length + (k + 1) ≤ 64 := hroom
  have HO := Lib.hid hown
  have cR := hw.rbox.cell
  unfold rdV at cR HA
  have hcap8 : (20 : Int) ≤ (c : Int) := by omega
  have HLEN := Lib.hid hlen
  have HISM := Lib.hid hw.map.isMap
  have HSZ := Lib.hid hw.kp.size
  rw [hlen]
  clear hw hown hrow hq1 hq2 hnr hroom hbel hb256 hlen
  go_enter Tryz.func92, Tryz.ntmps92
  go_wp2_with fail
  refine HA.out.mono ?_
  rintro e w2 ⟨na, nc, he, ho2, hm2, hk2⟩
  replace he : e = .returned (.tuple #[.agg #[.int .i64 (dx : Int), .bool db, .string dn, .slice na dp.length nc], errV (cd : Int)]) := he
  subst he
  have HK2 := Lib.hid (HLK.out.turned hk2 hm2)
  have HO2 : Hid (OwnI w2 w1.heap.size 5 .u8 (.slice (some ⟨g, 0, none⟩) b.length c) (toI b)) := Lib.hid (own_kp HO.out hk2 HISM.out)
  have HNR2 := Lib.hid (HNR.out.imp (w' := w2) (B' := wc.heap.size) (fun v q h => ⟨own_kp h.1 hk2 HISM.out, h.2⟩))
  have HAUX := Lib.hid (OwnS.mono ho2 HSZ.out)
  clear hk2 hm2 HA HLK HO cR HISM HNR ho2
  have BA : Hid (Below w2.heap.size w2 (w2.alloc (.cells #[.int .i64 (dx : Int), .bool db, .string dn, .slice na dp.length nc] 204))) := Lib.hid ((Below.refl _ _).alloc (Nat.le_refl _) _)
  have HK3 := Lib.hid (HK2.out.below BA.out)
  have HO3 := Lib.hid (OwnI.below HO2.out BA.out)
  have HNR3 := Lib.hid (HNR2.out.imp (B' := wc.heap.size) (fun v q h => h.below BA.out))
  have HAUX3 := Lib.hid (OwnS.below HAUX.out BA.out)
  have HRL := Lib.hid HNR3.out.len
  have hrl := HRL.out
  obtain ⟨la, lc, hbox, hl⟩ := HK3.out.lbox
  rw [hrl] at hbox hl
  have cL := hbox.cell
  simp only [List.size_toArray, List.length_nil] at cL
  have HBX := Lib.hid hbox
  have HL := Lib.hid hl
  have HBS := Lib.hid HK3.out.kp.size
  clear hbox hl hrl
  go_wp2_with (at_builtin; (refine wpList_grow_row rfl (.tmp 16) (.tmp 18) rowDef rfl wc.heap.size (.slice la l.length lc) rows l.length [.int .i64 (dx : Int), .bool db, .string dn, .slice na dp.length nc] rfl (by change Value.slice (some ⟨w2.heap.size + 1, 0, none⟩) 1 1 = _; simp) HRL.out rfl (by intro u hu; simp only [List.mem_cons, List.not_mem_nil, or_false] at hu; rcases hu with rfl | rfl | rfl | rfl <;> rfl) HL.out (by unfold maxLen; omega) (by omega) HBS.out ?_); intro la2 lc2 w4 ho4 hg4; have O4 := Lib.hid ho4; have G4 := Lib.hid hg4; have cb4 := ((HBX.out.alloc _).grown hg4 (HBX.out.apart HL.out.1 (by decide))).cell; have cf4 := ((HBX.out.alloc _).grown hg4 (HBX.out.apart HL.out.1 (by decide))).free 0; simp only [List.size_toArray, List.length_nil] at cb4; clear ho4 hg4)
  go_ret
  have hpush := HK3.out.push (T := 34) (q := [Value.int .i64 (dx : Int), .bool db, .string dn, .slice na dp.length nc]) (by rw [HRL.out]; exact HBX.out) (by rw [HRL.out]; exact HL.out) _ (by rw [HRL.out]; exact G4.out) (by rw [HRL.out]; exact O4.out) (by decide) (by decide)
  rw [HRL.out] at hpush
  refine ⟨rfl, ⟨⟨_, hpush, ?_⟩, by rw [List.length_append]; simp only [List.length_cons, List.length_nil]; omega⟩, ?_⟩
  · refine DefRows.snoc (HNR3.out.imp (fun v q h => LK.keepS (T := 34) (rows := rows) (by rw [HRL.out]; exact HBX.out) (by rw [HRL.out]; exact HL.out) _ (by rw [HRL.out]; exact G4.out) h (by decide) (by decide) (by decide) _ _)) ⟨na, nc, rfl, ?_⟩
    exact LK.keepS (T := 34) (rows := rows) (by rw [HRL.out]; exact HBX.out) (by rw [HRL.out]; exact HL.out) _ (by rw [HRL.out]; exact G4.out) HAUX3.out (by decide) (by decide) (by decide) _ _
  · have ho2 := HO3.out
    rw [HLEN.out] at ho2
    exact LK.keep (T := 34) (rows := rows) (by rw [HRL.out]; exact HBX.out) (by rw [HRL.out]; exact HL.out) _ (by rw [HRL.out]; exact G4.out) ho2 (by decide) (by decide) (by decide) _ _
end Go.Proofs.YtnaejlfjlennhaaGreatDoor
/- Layer 8: the definitions of a file: the program's answer. -/
namespace Go.Proofs.YtnaejlfjlennhaaGreatDoor
open Go.RowKit Go.Maps
set_option linter.unusedVariables false
set_option linter.unusedSimpArgs false

def DefsAns (r : RD) (X : (List Nat × List DefD) × Nat) (w : World) (e : Ending) (w' : World) : Prop :=
  ∃ ad c rows, e = .returned (.tuple #[.slice ad X.1.2.length c, errV (X.2 : Int)]) ∧ OwnS w' w.heap.size 204 4 (.slice ad X.1.2.length c) rows ∧ DefRows w' w.heap.size X.1.2 rows ∧ MapN w' r.B X.1.1 ∧ Kp r.B w w'
theorem DefsAns.no {r : RD} {w w' : World} {told : List Nat} {c : Nat} {e1 : Value} (hm : MapN w' r.B told) (hk : Kp r.B w w') (he : e1 = errV (c : Int)) : DefsAns r ((told, []), c) w (.returned (.tuple #[.slice none 0 0, e1])) w' := by
  subst he
  exact ⟨none, 0, [], rfl, OwnS.nil _ _ _ _, trivial, hm, hk⟩

set_option maxRecDepth 100000 in
set_option maxHeartbeats 8000000 in
theorem defs_any (r : RD) (w : World) (told : List Nat) (D : Array Value) (vn vnn : Nat) (h : r.ok w) (hm : MapN w r.B told) (hD : D.size = 37) (hD30 : D[28]? = some (.int .u64 (vn : Int))) (hD31 : D[29]? = some (.int .u64 (vnn : Int))) (h1 : vn < 18446744073709551616) (h2 : vnn < 18446744073709551616) :
    Calls Tryz.prog 59 #[rdV r, .agg D] w (DefsAns r (defsF r.bs r.ps r.ss told vn vnn) w) := by
  have BZ : Hid (Below w.heap.size w ((w.alloc (.cells #[rdV r] 201)).alloc (.cells D 30))) := Lib.hid (((Below.refl _ _).alloc (Nat.le_refl _) _).alloc (by simp) _)
  have HD : Hid (((w.alloc (.cells #[rdV r] 201)).alloc (.cells D 30)).heap[w.heap.size + 1]? = some (.cells D 30)) := Lib.hid (by
    have := heap_alloc_new (w.alloc (.cells #[rdV r] 201)) (.cells D 30)
    simpa using this)
  have HR0 : Hid (InBox ((w.alloc (.cells #[rdV r] 201)).alloc (.cells D 30)) w.heap.size (rdV r) 201) := Lib.hid ((InBox.new w _ _).alloc _)
  have c30 : ((w.alloc (.cells #[rdV r] 201)).alloc (.cells D 30)).cell? ⟨w.heap.size + 1, 28, none⟩ = some (.int .u64 (vn : Int)) := by rw [cell_of_row _ _ 28 _ _ _ HD.out]; exact hD30
  have c31 : ((w.alloc (.cells #[rdV r] 201)).alloc (.cells D 30)).cell? ⟨w.heap.size + 1, 29, none⟩ = some (.int .u64 (vnn : Int)) := by rw [cell_of_row _ _ 29 _ _ _ HD.out]; exact hD31
  have C30 := Lib.hid c30
  have C31 := Lib.hid c31
  have cR := HR0.out.cell
  have HOK := Lib.hid h
  have HM := Lib.hid hm
  have HI : Hid ((Tryz.prog.info? 30).map (·.size) = some D.size) := Lib.hid (show _ by rw [hD]; kernel_rfl)
  clear hD hD30 hD31 h hm
  unfold rdV at *
  unfold defsF
  by_cases hz : vn = 0
  · subst hz
    rw [if_pos rfl]
    go_enter Tryz.func59, Tryz.ntmps59
    go_wp2_with fail
    go_ret2
    exact DefsAns.no (HM.out.below BZ.out) (Kp.below BZ.out) rfl
  · rw [if_neg hz]
    have hz1 : ((vn : Int) == 0) = false := beq_eq_false_iff_ne.2 (by omega)
    by_cases h64 : 64 < vnn
    · rw [if_pos h64]
      have h64i : (64 : Int) < (vnn : Int) := by omega
      clear hz h64
      go_enter Tryz.func59, Tryz.ntmps59
      go_wp2_with fail
      go_ret2
      exact DefsAns.no (HM.out.below BZ.out) (Kp.below BZ.out) rfl
    · rw [if_neg h64]
      have h64i : ¬ (64 : Int) < (vnn : Int) := by omega
      obtain ⟨X, hX⟩ : ∃ X, chainV (defStep r.bs r.ps r.ss) r.bs r.ps 20 vnn vn 0 (told, []) = X := ⟨_, rfl⟩
      have HCH := Lib.hid (fun (wc w1 : World) (Rb L : Nat) (hq : FQ r wc Rb L vnn (told, []) w1) => chain_any r (def_step r wc Rb L) (.inr (.inr rfl)) vn 0 vnn (told, []) w1 h1 (by decide) (by omega) hq)
      rw [hX] at HCH ⊢
      have HN64 : Hid (vnn ≤ 64) := Lib.hid (by omega)
      clear hz h64 hX
      obtain ⟨w2, hw2⟩ : ∃ w2, ((w.alloc (.cells #[.pointer (some ⟨r.R, 0, none⟩)] 201)).alloc (.cells D 30)) = w2 := ⟨_, rfl⟩
      have W4 : Hid (Below w2.heap.size w2 (w2.alloc (.cells #[.slice none 0 0] 34))) := Lib.hid ((Below.refl _ _).alloc (Nat.le_refl _) _)
      have HSZ2 : Hid (w2.heap.size = w.heap.size + 2) := Lib.hid (by rw [← hw2]; simp)
      have HQ : Hid (FQ r w2 w.heap.size w2.heap.size vnn (told, []) (w2.alloc (.cells #[.slice none 0 0] 34))) := Lib.hid (by
        rw [hw2] at BZ HR0
        refine ⟨⟨[], ⟨HOK.out.below BZ.out, (HM.out.below BZ.out).below W4.out, Kp.below W4.out, HR0.out.below W4.out, ⟨none, 0, ?_, OwnS.nil _ _ _ _⟩, Nat.le_refl _, by have := HSZ2.out; omega⟩, trivial⟩, by simpa using HN64.out⟩
        exact heap_alloc_new w2 (.cells #[.slice none 0 0] 34))
      have HCALL := Lib.hid (HCH.out _ _ _ _ HQ.out)
      clear HQ HCH
      rw [HSZ2.out] at HCALL
      subst hw2
      have k30 : (((w.alloc (.cells #[.pointer (some ⟨r.R, 0, none⟩)] 201)).alloc (.cells D 30)).alloc (.cells #[.slice none 0 0] 34)).cell? ⟨w.heap.size + 1, 28, none⟩ = some (.int .u64 (vn : Int)) := by rw [W4.out.cell (p := ⟨w.heap.size + 1, 28, none⟩) (by simp)]; exact C30.out
      have k31 : (((w.alloc (.cells #[.pointer (some ⟨r.R, 0, none⟩)] 201)).alloc (.cells D 30)).alloc (.cells #[.slice none 0 0] 34)).cell? ⟨w.heap.size + 1, 29, none⟩ = some (.int .u64 (vnn : Int)) := by rw [W4.out.cell (p := ⟨w.heap.size + 1, 29, none⟩) (by simp)]; exact C31.out
      have kR : (((w.alloc (.cells #[.pointer (some ⟨r.R, 0, none⟩)] 201)).alloc (.cells D 30)).alloc (.cells #[.slice none 0 0] 34)).cell? ⟨w.heap.size, 0, none⟩ = some (.pointer (some ⟨r.R, 0, none⟩)) := (HR0.out.below W4.out).cell
      go_enter Tryz.func59, Tryz.ntmps59
      go_wp2_with fail
      refine HCALL.out.mono ?_
      rintro e w5 ⟨rfl, k5, ⟨rows, hlk, hnr⟩, hroom⟩
      have HM5 := Lib.hid hlk.map
      have HK5 := Lib.hid ((Kp.below BZ.out).trans hlk.kp)
      obtain ⟨la, lc, hbox, hl5⟩ := hlk.lbox
      rw [hnr.len] at hbox hl5
      have cb : w5.cell? ⟨w.heap.size + 1 + 1, 0, none⟩ = some (.slice la X.1.2.length lc) := hbox.cell
      have HO5 := Lib.hid (OwnS.mono hl5 (show w.heap.size ≤ _ by rw [HSZ2.out]; omega))
      have HN5 := Lib.hid (hnr.imp (B' := w.heap.size) (fun v q ho => OwnS.mono ho (by rw [HSZ2.out]; omega)))
      clear hlk hnr hroom hbox hl5 HCALL kR k30 k31
      go_wp2_with fail
      go_ret2
      exact ⟨la, lc, rows, rfl, HO5.out, HN5.out, HM5.out, HK5.out⟩
end Go.Proofs.YtnaejlfjlennhaaGreatDoor
/- Layer 8: the symbols' words: the program's answer. -/
namespace Go.Proofs.YtnaejlfjlennhaaGreatDoor
open Go.RowKit Go.Maps
set_option linter.unusedVariables false
set_option linter.unusedSimpArgs false

theorem wpList_make_zero {P : Program} {w : World} {ops : Array Oper} {rest : List Oper} {o : Oper} {a : Act} {Q : Exit → Act → World → Prop} (hgd : o.guard = none) (l c : Operand) {t e : TypeId} {k : IntKind} {bytes : Nat}
    (F : IntSlice P t e k bytes) (ho : o.op = Op.makeSlice t l c) (B : Nat) (n : Nat) (kl kc : IntKind) (L C : Int)
    (hl : a.eval l = .int kl L) (hc : a.eval c = .int kc C) (hL : L = (n : Int)) (hC : C = (n : Int)) (hn : n * bytes ≤ 140737488355328) (hm : n ≤ maxLen) (hb : B ≤ w.heap.size)
    (h : ∀ g w', OwnI w' B e k (.slice (some ⟨g, 0, none⟩) n n) (List.replicate n 0) → w.heap.size ≤ g → Below w.heap.size w w' → wpList P ops Q rest (a.put o.dst (.slice (some ⟨g, 0, none⟩) n n)) w') : wpList P ops Q (o :: rest) a w := by
  obtain ⟨ht, hinfo⟩ := F
  obtain ⟨i, hi, hz0, hz1, hz2⟩ := info_parts hinfo
  refine wpList_make_full w hgd l c t ho B e i (.int k 0) 1 ht hi hz0 hz1 kl kc L C n hl hc hL hC (by rw [hz2]; rw [Nat.mul_comm]; omega) hm hb ?_
  intro w' hown hgr
  refine h w.heap.size w' ?_ (Nat.le_refl _) ((Below.refl _ _).grown hgr (Nat.le_refl _) (fun k hk => by cases hk))
  unfold OwnI
  rw [List.length_replicate, List.map_replicate]
  have e1 : (madeCells (Value.int k 0).cells (n * 1)).toList = List.replicate n (.int k 0) := by
    rw [Nat.mul_one]
    exact toList_madeCells_one (.int k 0) n
  rw [e1] at hown
  exact hown

def rowsAt (words : List Nat) (n k : Nat) : List Nat := (List.range n).map fun i => if i < k then wordAt words i else 0
theorem rowsAt_length (words : List Nat) (n k : Nat) : (rowsAt words n k).length = n := by simp [rowsAt]
theorem rowsAt_zero (words : List Nat) (n : Nat) : rowsAt words n 0 = List.replicate n 0 := by
  apply List.ext_getElem (by simp [rowsAt])
  intro i h1 h2
  simp [rowsAt]
theorem rowsAt_set (words : List Nat) (n k : Nat) (hk : k < n) : (toI (rowsAt words n k)).set k ((wordAt words k : Nat) : Int) = toI (rowsAt words n (k + 1)) := by
  apply List.ext_getElem (by simp [toI, rowsAt])
  intro i h1 h2
  simp only [toI, rowsAt, List.map_map, List.getElem_set, List.getElem_map, List.getElem_range, Function.comp]
  by_cases h : k = i
  · subst h
    simp
  · rw [if_neg h]
    by_cases h3 : i < k
    · rw [if_pos h3, if_pos (by omega)]
    · rw [if_neg h3, if_neg (by omega)]
theorem rowsAt_full (words : List Nat) (n : Nat) : rowsAt words n n = (List.range n).map (wordAt words) := by
  apply List.ext_getElem (by simp [rowsAt])
  intro i h1 h2
  have : i < n := by simpa [rowsAt] using h1
  simp [rowsAt, this]
theorem ofF_yes {told words : List Nat} {n : Nat} (hn : words.length / 2 = n) (h : ∀ i, i < n → wordOk told (wordAt words i) = true) : ofF told words = ((List.range n).map (wordAt words), 0) := by
  unfold ofF
  rw [hn, if_pos (List.all_eq_true.2 (fun i hi => h i (List.mem_range.1 hi)))]
theorem ofF_no {told words : List Nat} {n i : Nat} (hn : words.length / 2 = n) (hi : i < n) (h : wordOk told (wordAt words i) = false) : ofF told words = ([], 3) := by
  unfold ofF
  rw [hn, if_neg]
  intro h2
  have := List.all_eq_true.1 h2 i (List.mem_range.2 hi)
  rw [h] at this
  cases this

def OfAns (r : RD) (told : List Nat) (X : List Nat × Nat) (w : World) (e : Ending) (w' : World) : Prop :=
  ∃ ad c, e = .returned (.tuple #[.slice ad X.1.length c, errV (X.2 : Int)]) ∧ OwnI w' w.heap.size 3 .i64 (.slice ad X.1.length c) (toI X.1) ∧ Below w.heap.size w w'
theorem sliceInt : IntSlice Tryz.prog 33 3 .i64 8 := ⟨Tryz.underlying33, by kernel_rfl⟩
theorem and_int (n : Nat) (h : n < 65536) : bits .and .i64 (n : Int) 32767 = ((n % 32768 : Nat) : Int) := by
  show IntKind.i64.wrap ((BitVec.ofInt 64 (n : Int) &&& BitVec.ofInt 64 ((32767 : Nat) : Int)).toNat : Int) = _
  have e : n &&& 32767 = n % 32768 := Nat.and_two_pow_sub_one_eq_mod n 15
  rw [BitVec.toNat_and, ofInt_u64 n (by omega), ofInt_u64 32767 (by omega), e, IntKind.wrap_i64]
  omega

set_option maxRecDepth 100000 in
set_option maxHeartbeats 8000000 in
theorem of_any (r : RD) (w : World) (told : List Nat) (wa : Option Addr) (wc : Nat) (words : List Nat) (n : Nat) (h : r.ok w) (hm : MapN w r.B told) (hw : BRow w wa words) (hl : words.length = 2 * n) (hn : n ≤ 4096) (hc : words.length ≤ wc) :
    Calls Tryz.prog 61 #[rdV r, .slice wa (2 * n) wc] w (OfAns r told (ofF told words) w) := by
  have HOK := Lib.hid (fun (w1 : World) (hb : Below w.heap.size w w1) => (h.below hb).c5)
  have HM := Lib.hid (fun (w1 : World) (hb : Below w.heap.size w w1) => (hm.below hb).1)
  have HMAP := Lib.hid hm
  have HW := Lib.hid hw
  have HL := Lib.hid hl
  have HY := Lib.hid (fun (hall : ∀ i, i < n → wordOk told (wordAt words i) = true) => ofF_yes (n := n) (by omega) hall)
  have HNO := Lib.hid (fun (i : Nat) (hi : i < n) (hno : wordOk told (wordAt words i) = false) => ofF_no (n := n) (by omega) hi hno)
  generalize ofF told words = X at *
  have hq : (((2 * n : Nat) : Int)).tdiv 2 = (n : Int) := by
    rw [Int.tdiv_eq_ediv_of_nonneg (by omega)]; omega
  rw [hl] at hc
  have hlc : ((2 * n : Nat) : Int) ≤ (wc : Int) := by omega
  clear h hm hw hl
  unfold rdV
  generalize r.R = R at *
  go_enter Tryz.func61, Tryz.ntmps61
  go_wp2_with (at_make; go_loud (refine wpList_make_zero rfl (.tmp 13) (.tmp 13) sliceInt rfl w.heap.size n .i64 .i64 (n : Int) (n : Int) rfl rfl rfl rfl (by omega) (by unfold maxLen; omega) (Nat.le_refl _) ?_); intro g w4 ho4 hg4 hb4; have O4 := Lib.hid ho4; have B4 := Lib.hid hb4; clear ho4 hg4 hb4)
  have OZ : Hid (OwnI w4 w.heap.size 3 .i64 (.slice (some ⟨g, 0, none⟩) n n) (toI (rowsAt words n 0))) := Lib.hid (by
    rw [rowsAt_zero]
    have e : toI (List.replicate n 0) = List.replicate n (0 : Int) := by simp [toI]
    rw [e]
    exact O4.out)
  clear O4
  have HGE : Hid (w.heap.size ≤ g) := Lib.hid (by
    have := OZ.out.blockGe
    exact this.1)
  go_loopg [4, 5, 7, 8, 9, 10, 17] n (fun gg x4 x5 x7 x8 x9 x10 cnt wr => ∃ k : Nat, k + gg = n ∧ cnt = .int .i64 (k : Int) ∧ x4 = .slice none 0 0 ∧ x5 = .nilIface ∧ Hid (OwnI wr w.heap.size 3 .i64 (.slice (some ⟨g, 0, none⟩) n n) (toI (rowsAt words n k))) ∧ Hid (Below w.heap.size w wr) ∧ Hid (∀ i, i < k → wordOk told (wordAt words i) = true))
  case atStart => exact ⟨0, by omega, rfl, rfl, rfl, OZ, B4, Lib.hid (fun i hi => absurd hi (by omega))⟩
  case round =>
    obtain ⟨k, hk, rfl, rfl, rfl, OW, BW, HOK2⟩ := hrel
    cases gk with
    | zero =>
      obtain rfl : k = n := by omega
      have HE : Hid (X = ((List.range k).map (wordAt words), 0)) := Lib.hid (HY.out HOK2.out)
      go_wp2_with fail
      go_ret2
      rw [HE.out]
      refine ⟨some ⟨g, 0, none⟩, k, by simp [errV], ?_, BW.out⟩
      have ho := OW.out
      rw [rowsAt_full] at ho
      simpa using ho
    | succ g1 =>
      have hkn : k < n := by omega
      have hkni : (k : Int) < (n : Int) := by omega
      obtain ⟨wb, wo, rfl, -, -⟩ := HW.out.at (i := 0) (by rw [HL.out]; omega)
      have HNUM : Hid (∀ w1, Below w.heap.size w w1 → ∀ q, Calls Tryz.prog 48 #[.slice (some ⟨wb, wo + 2 * k, none⟩) 2 q] w1 fun e w' => e = .returned (.int .u64 ((wordAt words k : Nat) : Int)) ∧ w1 = w') := Lib.hid (fun w1 hb q => by
        have h1 := (HW.out.below hb).cut (2 * k) 2
        simp only [Option.map_some, WideShapes.add_plain] at h1
        have e : ((words.drop (2 * k)).take 2).length = 2 := by rw [List.length_take, List.length_drop, HL.out]; omega
        have := number_any (some ⟨wb, wo + 2 * k, none⟩) q _ w1 h1 (by omega)
        rw [e] at this
        exact this)
      have hv : wordAt words k < 65536 := numOf_two words HW.out.2 (2 * k)
      have HSET : Hid (∀ wx, OwnI wx w.heap.size 3 .i64 (.slice (some ⟨g, 0, none⟩) n n) (toI (rowsAt words n k)) → OwnI (wx.setCell ⟨g, k, none⟩ (.int .i64 ((wordAt words k : Nat) : Int))) w.heap.size 3 .i64 (.slice (some ⟨g, 0, none⟩) n n) (toI (rowsAt words n (k + 1)))) := Lib.hid (fun wx hx => by
        have := hx.put (by rw [toI_length, rowsAt_length]) k ((wordAt words k : Nat) : Int)
        rw [rowsAt_set words n k hkn] at this
        exact this)
      have HWK : Hid (wordOk told (wordAt words k) = decide (wordAt words k % 32768 ≤ 1 ∨ wordAt words k % 32768 ∈ told)) := Lib.hid rfl
      have HNX : Hid (wordOk told (wordAt words k) = true → ∀ i, i < k + 1 → wordOk told (wordAt words i) = true) := Lib.hid (fun h i hi => by
        rcases Nat.lt_or_ge i k with h1 | h1
        · exact HOK2.out i h1
        · obtain rfl : i = k := by omega
          exact h)
      have hv64 : wrap64 ((wordAt words k : Nat) : Int) = ((wordAt words k : Nat) : Int) := IntWalk.wrap64_in _ ⟨by omega, by omega⟩
      have hand := and_int _ hv
      have hx : wordAt words k % 32768 < 32768 := by omega
      have HFIN := Lib.hid (HNO.out k hkn)
      generalize hve : wordAt words k = v at *
      generalize hxe : v % 32768 = x at *
      have hkey := keyL_of (x := x) (by omega)
      have HHAS := Lib.hid (has_setN told x)
      have hcc : ¬ wc = 2 * k := by omega
      have h2k : (2 : Int) * (k : Int) ≤ ((2 * n : Nat) : Int) := by omega
      have h2w : wrap64 (2 * (k : Int)) = 2 * (k : Int) := IntWalk.wrap64_in _ ⟨by omega, by omega⟩
      have how : wr.ownsRow w.heap.size 3 1 (.slice (some ⟨g, 0, none⟩) n n) n ((toI (rowsAt words n k)).map (Value.int .i64)) := by
        have := OW.out
        unfold OwnI at this
        rw [toI_length, rowsAt_length] at this
        exact this
      have cfk : wr.frozen? ⟨g, k, none⟩ = false := World.ownsRow.frozenAt how k
      have cck : ∃ u : Int, wr.cell? ⟨g, k, none⟩ = some (.int .i64 u) := by
        have := World.ownsRow.cellAt how k (by omega)
        rw [this]
        refine ⟨_, by simp [toI, rowsAt, hkn]; rfl⟩
      obtain ⟨u, hu⟩ := cck
      have OS := Lib.hid (HSET.out wr OW.out)
      have BS : Hid (Below w.heap.size w (wr.setCell ⟨g, k, none⟩ (.int .i64 (v : Int)))) := Lib.hid (BW.out.setCell HGE.out _)
      have c5 := HOK.out _ BS.out
      have HMS := Lib.hid (HM.out _ BS.out)
      have OS2 := Lib.hid (OwnI.allocO OS.out (.cells #[] 213))
      have BS2 := Lib.hid (BS.out.alloc BS.out.size (.cells #[] 213))
      have HN := Lib.hid (HNUM.out wr BW.out)
      clear how hve hxe HW HL
      by_cases hx1 : x ≤ 1
      · have hx1i : ¬ (1 : Int) < (x : Int) := by omega
        have HT : Hid (wordOk told v = true) := Lib.hid (by rw [HWK.out]; exact decide_eq_true (.inl hx1))
        clear hx1
        go_wp2_with (first | (go_at_call 48; refine (HN.out _).mono ?_; rintro e w' ⟨rfl, rfl⟩) | (at_lookup; refine wpList_lookup_own_unit _ rfl _ _ 148 rfl 3 213 lawInt Tryz.underlying148 (zeroUnit _) r.B told.length (setN told) rfl HMS.out _ _ rfl hkey ?_; rw [HHAS.out]))
        go_roundg g1
        case measure => omega
        case rel => exact ⟨k + 1, by omega, by go_num, rfl, rfl, OS2, BS2, Lib.hid (HNX.out HT.out)⟩
      · have hx1i : (1 : Int) < (x : Int) := by omega
        by_cases hin : x ∈ told
        · have hd : decide (x ∈ told) = true := decide_eq_true hin
          have HT : Hid (wordOk told v = true) := Lib.hid (by rw [HWK.out]; exact decide_eq_true (.inr hin))
          rw [hd] at HHAS
          clear hx1 hin hd
          go_wp2_with (first | (go_at_call 48; refine (HN.out _).mono ?_; rintro e w' ⟨rfl, rfl⟩) | (at_lookup; refine wpList_lookup_own_unit _ rfl _ _ 148 rfl 3 213 lawInt Tryz.underlying148 (zeroUnit _) r.B told.length (setN told) rfl HMS.out _ _ rfl hkey ?_; rw [HHAS.out]))
          go_roundg g1
          case measure => omega
          case rel => exact ⟨k + 1, by omega, by go_num, rfl, rfl, OS2, BS2, Lib.hid (HNX.out HT.out)⟩
        · have hd : decide (x ∈ told) = false := decide_eq_false hin
          have HT : Hid (wordOk told v = false) := Lib.hid (by rw [HWK.out]; exact decide_eq_false (fun h => h.elim hx1 hin))
          have HE := Lib.hid (HFIN.out HT.out)
          rw [hd] at HHAS
          clear hx1 hin hd
          go_wp2_with (first | (go_at_call 48; refine (HN.out _).mono ?_; rintro e w' ⟨rfl, rfl⟩) | (at_lookup; refine wpList_lookup_own_unit _ rfl _ _ 148 rfl 3 213 lawInt Tryz.underlying148 (zeroUnit _) r.B told.length (setN told) rfl HMS.out _ _ rfl hkey ?_; rw [HHAS.out]))
          go_ret2
          rw [HE.out]
          exact ⟨none, 0, rfl, OwnI.nil _ _ _ _, BS2.out⟩
end Go.Proofs.YtnaejlfjlennhaaGreatDoor
/- Layer 8: the versions of a file, whatever is asked for: the program's answer. -/
namespace Go.Proofs.YtnaejlfjlennhaaGreatDoor
open Go.RowKit Go.Maps
set_option linter.unusedVariables false
set_option linter.unusedSimpArgs false

structure VersD where
  has : Bool
  of : List Nat
  defs : List DefD
  needs : List NeedD
def VersD.zero : VersD := ⟨false, [], [], []⟩
/-- the versions of a file; an error's number behind -/
def versF (bs : List Nat) (ps : List PT) (d : DT) (n : Int) : VersD × Nat :=
  if n < 0 then (.zero, 1) else if 4096 < n then (.zero, 2) else if d.versym = 0 then (.zero, 0)
  else if (strF bs ps d.strtab d.strsz).2 ≠ 0 then (.zero, (strF bs ps d.strtab d.strsz).2)
  else if (sliceF bs ps d.versym (2 * n.toNat)).2 ≠ 0 then (.zero, (sliceF bs ps d.versym (2 * n.toNat)).2)
  else if (defsF bs ps (strF bs ps d.strtab d.strsz).1 [] d.verdef d.verdefnum).2 ≠ 0 then (.zero, (defsF bs ps (strF bs ps d.strtab d.strsz).1 [] d.verdef d.verdefnum).2)
  else if (needsF bs ps (strF bs ps d.strtab d.strsz).1 (defsF bs ps (strF bs ps d.strtab d.strsz).1 [] d.verdef d.verdefnum).1.1 d.verneed d.verneednum).2 ≠ 0 then (.zero, (needsF bs ps (strF bs ps d.strtab d.strsz).1 (defsF bs ps (strF bs ps d.strtab d.strsz).1 [] d.verdef d.verdefnum).1.1 d.verneed d.verneednum).2)
  else if (ofF (needsF bs ps (strF bs ps d.strtab d.strsz).1 (defsF bs ps (strF bs ps d.strtab d.strsz).1 [] d.verdef d.verdefnum).1.1 d.verneed d.verneednum).1.1 (sliceF bs ps d.versym (2 * n.toNat)).1).2 ≠ 0 then (.zero, (ofF (needsF bs ps (strF bs ps d.strtab d.strsz).1 (defsF bs ps (strF bs ps d.strtab d.strsz).1 [] d.verdef d.verdefnum).1.1 d.verneed d.verneednum).1.1 (sliceF bs ps d.versym (2 * n.toNat)).1).2)
  else (⟨true, (ofF (needsF bs ps (strF bs ps d.strtab d.strsz).1 (defsF bs ps (strF bs ps d.strtab d.strsz).1 [] d.verdef d.verdefnum).1.1 d.verneed d.verneednum).1.1 (sliceF bs ps d.versym (2 * n.toNat)).1).1, (defsF bs ps (strF bs ps d.strtab d.strsz).1 [] d.verdef d.verdefnum).1.2, (needsF bs ps (strF bs ps d.strtab d.strsz).1 (defsF bs ps (strF bs ps d.strtab d.strsz).1 [] d.verdef d.verdefnum).1.1 d.verneed d.verneednum).1.2⟩, 0)

def VersAns (X : VersD × Nat) (w : World) (e : Ending) (w' : World) : Prop :=
  ∃ oa oc da dc drows na nc nrows, e = .returned (.tuple #[.agg #[.bool X.1.has, .slice oa X.1.of.length oc, .slice da X.1.defs.length dc, .slice na X.1.needs.length nc], errV (X.2 : Int)]) ∧
    OwnI w' w.heap.size 3 .i64 (.slice oa X.1.of.length oc) (toI X.1.of) ∧ OwnS w' w.heap.size 204 4 (.slice da X.1.defs.length dc) drows ∧ DefRows w' w.heap.size X.1.defs drows ∧
    OwnS w' w.heap.size 210 2 (.slice na X.1.needs.length nc) nrows ∧ NeedRows w' w.heap.size X.1.needs nrows ∧ Below w.heap.size w w'
theorem VersAns.no {w w' : World} {c : Nat} {v e1 : Value} (hb : Below w.heap.size w w') (hv : v = .agg #[.bool false, .slice none 0 0, .slice none 0 0, .slice none 0 0]) (he : e1 = errV (c : Int)) : VersAns (.zero, c) w (.returned (.tuple #[v, e1])) w' := by
  subst hv he
  exact ⟨none, 0, none, 0, [], none, 0, [], rfl, OwnI.nil _ _ _ _, OwnS.nil _ _ _ _, trivial, OwnS.nil _ _ _ _, trivial, hb⟩
theorem below_zero {w wx : World} {V : Nat} (hb : Below w.heap.size w wx) (hV : w.heap.size ≤ V) (cs : Array Value) : Below w.heap.size w (wx.setRow V cs) := below_setRow hb hV cs

set_option maxRecDepth 100000 in
set_option maxHeartbeats 8000000 in
theorem vread_small (a : Option Addr) (cap : Nat) (bs : List Nat) (ty en : Int) (p : Option Addr) (pc : Nat) (ps : List PT) (d : DT) (n : Int) (w : World) (hd : d.wf) (hn1 : -9223372036854775808 ≤ n) (hn2 : n < 9223372036854775808) (hcase : n < 0 ∨ 4096 < n ∨ d.versym = 0) :
    Calls Tryz.prog 31 #[.slice a bs.length cap, headV ty en p ps.length pc, .agg d.cells, .int .i64 n] w (VersAns (versF bs ps d n) w) := by
  have hD26 : d.cells[26]? = some (.int .u64 (d.versym : Int)) := rfl
  obtain ⟨X, hX⟩ : ∃ X, versF bs ps d n = X := ⟨_, rfl⟩
  have HX : Hid ((n < 0 → X = (.zero, 1)) ∧ (¬ n < 0 → 4096 < n → X = (.zero, 2)) ∧ (¬ n < 0 → ¬ 4096 < n → d.versym = 0 → X = (.zero, 0))) := Lib.hid (by
    rw [← hX]
    unfold versF
    exact ⟨fun h => by rw [if_pos h], fun h h2 => by rw [if_neg h, if_pos h2], fun h h2 h3 => by rw [if_neg h, if_neg h2, if_pos h3]⟩)
  rw [hX]
  clear hX
  have HI : Hid ((Tryz.prog.info? 30).map (·.size) = some d.cells.size) := Lib.hid (show _ = some 37 by kernel_rfl)
  generalize d.cells = D at *
  generalize d.versym = versym at *
  clear hd
  have B1 : Hid (Below w.heap.size w ((w.alloc (.cells #[.int .i64 ty, .int .u64 en, .slice p ps.length pc] 27)).alloc (.cells D 30))) := Lib.hid (((Below.refl _ _).alloc (Nat.le_refl _) _).alloc (by simp) _)
  have BZ : Hid (Below w.heap.size w (((w.alloc (.cells #[.int .i64 ty, .int .u64 en, .slice p ps.length pc] 27)).alloc (.cells D 30)).alloc (.cells #[.bool false, .slice none 0 0, .slice none 0 0, .slice none 0 0] 37))) := Lib.hid (B1.out.alloc B1.out.size _)
  have HV : Hid ((((w.alloc (.cells #[.int .i64 ty, .int .u64 en, .slice p ps.length pc] 27)).alloc (.cells D 30)).alloc (.cells #[.bool false, .slice none 0 0, .slice none 0 0, .slice none 0 0] 37)).heap[w.heap.size + 2]? = some (.cells #[.bool false, .slice none 0 0, .slice none 0 0, .slice none 0 0] 37)) := Lib.hid (by
    have := heap_alloc_new ((w.alloc (.cells #[.int .i64 ty, .int .u64 en, .slice p ps.length pc] 27)).alloc (.cells D 30)) (.cells #[.bool false, .slice none 0 0, .slice none 0 0, .slice none 0 0] 37)
    simpa using this)
  have c26 : (((w.alloc (.cells #[.int .i64 ty, .int .u64 en, .slice p ps.length pc] 27)).alloc (.cells D 30)).alloc (.cells #[.bool false, .slice none 0 0, .slice none 0 0, .slice none 0 0] 37)).cell? ⟨w.heap.size + 1, 26, none⟩ = some (.int .u64 (versym : Int)) := by
    have h1 : ((w.alloc (.cells #[.int .i64 ty, .int .u64 en, .slice p ps.length pc] 27)).alloc (.cells D 30)).cell? ⟨w.heap.size + 1, 26, none⟩ = some (.int .u64 (versym : Int)) := by
      have h2 := heap_alloc_new (w.alloc (.cells #[.int .i64 ty, .int .u64 en, .slice p ps.length pc] 27)) (.cells D 30)
      rw [show (w.alloc (.cells #[.int .i64 ty, .int .u64 en, .slice p ps.length pc] 27)).heap.size = w.heap.size + 1 by simp] at h2
      rw [cell_of_row _ _ 26 _ _ _ h2]
      exact hD26
    have hb3 : Below ((w.alloc (.cells #[.int .i64 ty, .int .u64 en, .slice p ps.length pc] 27)).alloc (.cells D 30)).heap.size ((w.alloc (.cells #[.int .i64 ty, .int .u64 en, .slice p ps.length pc] 27)).alloc (.cells D 30)) (((w.alloc (.cells #[.int .i64 ty, .int .u64 en, .slice p ps.length pc] 27)).alloc (.cells D 30)).alloc (.cells #[.bool false, .slice none 0 0, .slice none 0 0, .slice none 0 0] 37)) := (Below.refl _ _).alloc (Nat.le_refl _) _
    rw [hb3.cell (p := ⟨w.heap.size + 1, 26, none⟩) (by simp)]
    exact h1
  clear hD26 B1
  unfold headV
  by_cases hn : n < 0
  · have HE := Lib.hid (HX.out.1 hn)
    go_enter Tryz.func31, Tryz.ntmps31
    go_wp2_with fail
    go_returns
    rw [HE.out]
    exact VersAns.no BZ.out rfl rfl
  · by_cases hn4 : 4096 < n
    · have HE := Lib.hid (HX.out.2.1 hn hn4)
      go_enter Tryz.func31, Tryz.ntmps31
      go_wp2_with fail
      go_returns
      rw [HE.out]
      exact VersAns.no BZ.out rfl rfl
    · have h0 : versym = 0 := by omega
      have HE := Lib.hid (HX.out.2.2 hn hn4 h0)
      subst h0
      go_enter Tryz.func31, Tryz.ntmps31
      go_wp2_with fail
      go_returns
      rw [HE.out]
      exact VersAns.no BZ.out rfl rfl
end Go.Proofs.YtnaejlfjlennhaaGreatDoor
