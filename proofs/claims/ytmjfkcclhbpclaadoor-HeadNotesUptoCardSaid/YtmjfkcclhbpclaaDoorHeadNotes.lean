/- Layer 4: notes in memory. -/
import Derived.Test.YtmjfkcclhbpclaaDoorHeadNtF
import Derived.Test.YtmjfkcclhbpclaaDoorHeadNote
namespace Go.Proofs.YtmjfkcclhbpclaaDoor
open Go.RowKit
set_option linter.unusedVariables false
set_option linter.unusedSimpArgs false
set_option maxRecDepth 100000

/-- a note, and where its data lies -/
structure ND where
  nt : NT
  ad : Option Addr
  cap : Nat
def ND.cells (d : ND) : List Value := [.string d.nt.nm, .int .u32 (d.nt.ty : Int), .slice d.ad d.nt.data.length d.cap]
def zNote : Array Value := #[.string ⟨#[]⟩, .int .u32 0, .slice none 0 0]
theorem nRow : RowSlice Tryd.prog 48 55 (.agg zNote) 3 48 := ⟨Tryd.underlying48, by kernel_rfl, rfl, by decide⟩
structure NSt (w0 : World) (D : List ND) (la : Option Addr) (n lc : Nat) (wr : World) : Prop where
  own : OwnS wr w0.heap.size 55 3 (.slice la n lc) (D.map ND.cells)
  len : D.length = n
  data : ∀ d ∈ D, OwnI wr w0.heap.size 5 .u8 (.slice d.ad d.nt.data.length d.cap) (toI d.nt.data)
  blw : Below w0.heap.size w0 wr
theorem NSt.below {w0 wr w' : World} {D : List ND} {la : Option Addr} {n lc : Nat} (s : NSt w0 D la n lc wr) (b : Below wr.heap.size wr w') : NSt w0 D la n lc w' :=
  ⟨s.own.below b, s.len, fun d hd => (s.data d hd).below b, s.blw.trans (b.mono s.blw.size)⟩
theorem NSt.nil (w0 : World) : NSt w0 [] none 0 0 w0 := ⟨OwnS.nil _ _ _ _, rfl, by simp, Below.refl _ _⟩
theorem NSt.next {w0 wz w8 : World} {D : List ND} {la : Option Addr} {n lc : Nat} (s : NSt w0 D la n lc wz) (d : ND) (hd : OwnI wz w0.heap.size 5 .u8 (.slice d.ad d.nt.data.length d.cap) (toI d.nt.data)) {ad8 : Option Addr} {c8 : Nat}
    (ho8 : OwnS w8 w0.heap.size 55 3 (.slice ad8 (n + 1) c8) (D.map ND.cells ++ [d.cells])) (hg8 : wz.grownBy w8 (Value.slice la n lc).ownBlock) : NSt w0 (D ++ [d]) ad8 (n + 1) c8 w8 := by
  refine ⟨by rw [List.map_append]; exact ho8, by rw [List.length_append, s.len]; rfl, fun q hq => ?_, below_keepS s.blw hg8 s.own s.blw.size⟩
  rcases List.mem_append.1 hq with hq | hq
  · exact (s.data q hq).keepS hg8 s.own (by decide)
  · rw [List.mem_singleton] at hq; rw [hq]; exact hd.keepS hg8 s.own (by decide)
theorem nt_snoc (D : List ND) (d : ND) : (D ++ [d]).map ND.nt = D.map ND.nt ++ [d.nt] := by rw [List.map_append]; rfl
end Go.Proofs.YtmjfkcclhbpclaaDoor
/- Layer 4: Notes: the program's answer. -/
namespace Go.Proofs.YtmjfkcclhbpclaaDoor
open Go.RowKit
set_option linter.unusedVariables false
set_option linter.unusedSimpArgs false
set_option maxRecDepth 100000

def NotesPost (bs : List Nat) (ps : List PT) (w : World) (e : Ending) (w' : World) : Prop := (match notesF bs ps [] with
  | .error x => ∃ v, e = .returned (.tuple #[.slice none 0 0, v]) ∧ ErrAt w' v (some x)
  | .ok l => ∃ la lc D, e = .returned (.tuple #[.slice la l.length lc, .nilIface]) ∧ D.map ND.nt = l ∧ NSt w D la l.length lc w') ∧ Below w.heap.size w w'
set_option maxHeartbeats 64000000 in
theorem notes_any (K : Int) (E : Nat) (pa : Option Addr) (pn pc : Nat) (ps : List PT) (a : Option Addr) (m cap : Nat) (bs : List Nat) (w : World) (h : BAny w a m cap bs) (hp : PRow w pa ps) (hl : ps.length = pn) (hpn : pn ≤ 1048576) (hm : m ≤ 1048576) :
    Calls Tryd.prog 14 #[.slice a m cap, .agg #[.int .i64 K, .int .u64 (E : Int), .slice pa pn pc]] w (NotesPost bs ps w) := by
  have HPE : Hid (∀ v x w', notesF bs ps [] = .error x → ErrAt w' v (some x) → Below w.heap.size w w' → NotesPost bs ps w (.returned (.tuple #[.slice none 0 0, v])) w') := Lib.hid (fun v x w' e1 hv hb => ⟨by rw [e1]; exact ⟨v, rfl, hv⟩, hb⟩)
  have HPO : Hid (∀ D la n lc w', notesF bs ps [] = .ok (D.map ND.nt) → NSt w D la n lc w' → NotesPost bs ps w (.returned (.tuple #[.slice la n lc, .nilIface])) w') := Lib.hid (fun D la n lc w' e1 hs => by
    have hn : n = (D.map ND.nt).length := by rw [List.length_map]; exact hs.len.symm
    subst hn
    exact ⟨by rw [e1]; exact ⟨la, lc, D, rfl, rfl, hs⟩, hs.blw⟩)
  generalize NotesPost bs ps w = P at *
  obtain ⟨R, hR⟩ : ∃ R, notesF bs ps [] = R := ⟨_, rfl⟩
  rw [hR] at HPE HPO
  have HR : Hid (notesF bs (ps.drop 0) (([] : List ND).map ND.nt) = R) := Lib.hid hR
  obtain ⟨w1, hw1⟩ : ∃ w1, w.alloc (.cells #[.int .i64 K, .int .u64 (E : Int), .slice pa pn pc] 25) = w1 := ⟨_, rfl⟩
  obtain ⟨hbk, hhbk⟩ : ∃ hbk, w.heap.size = hbk := ⟨_, rfl⟩
  have B1 : Hid (Below w.heap.size w w1) := Lib.hid (by rw [← hw1]; exact ballo (Below.refl _ _) _)
  have H1 : Hid (w1.heap[hbk]? = some (.cells #[.int .i64 K, .int .u64 (E : Int), .slice pa pn pc] 25)) := Lib.hid (by rw [← hw1, ← hhbk]; exact heap_alloc_new _ _)
  have c2 : w1.cell? ⟨hbk, 2, none⟩ = some (.slice pa pn pc) := by rw [cell_of_row _ _ 2 _ _ _ H1.out]; rfl
  have HBY := Lib.hid h
  have HPR := Lib.hid hp
  have HPL : Hid (ps.length = pn ∧ pn ≤ 1048576 ∧ m ≤ 1048576 ∧ bs.length = m) := Lib.hid ⟨hl, hpn, hm, h.len⟩
  have hml : (m : Int) ≤ 1048576 := by omega
  have hpl : (pn : Int) ≤ 1048576 := by omega
  have S1 : Hid (NSt w [] none 0 0 w1) := Lib.hid ((NSt.nil w).below B1.out)
  clear h hp hl hpn hm hR
  go_enter Tryd.func14, Tryd.ntmps14
  go_wp2_with fail
  clear c2 hw1 hhbk
  go_loopg [6, 17] pn (fun g lv iv wr => ∃ (k : Nat) (D : List ND) (la : Option Addr) (n lc : Nat), k + g = pn ∧ iv = .int .i64 (k : Int) ∧ lv = .slice la n lc ∧ Hid (NSt w D la n lc wr) ∧ Hid (notesF bs (ps.drop k) (D.map ND.nt) = R) ∧ Hid (n ≤ k * 1048576))
  case atStart => exact ⟨0, [], none, 0, 0, by omega, rfl, rfl, S1, HR, Lib.hid (Nat.zero_le _)⟩
  case round =>
    obtain ⟨k, D, la, n, lc, hk, rfl, rfl, HS, HG, HNK⟩ := hrel
    cases gk with
    | zero =>
      have hkn : k = pn := by omega
      subst hkn
      have HE : Hid (R = .ok (D.map ND.nt)) := Lib.hid (by
        have h := HG.out
        rw [List.drop_of_length_le (by have := HPL.out; omega)] at h
        exact h.symm)
      clear hk
      go_wp2_with fail
      exact HPO.out D la n lc _ HE.out HS.out
    | succ g =>
      have hkl : k < ps.length := by have := HPL.out; omega
      obtain ⟨q, hq⟩ : ∃ q, ps[k] = q := ⟨_, rfl⟩
      obtain ⟨hqw, ba, oa, hpa, -, hca⟩ := (HPR.out.below HS.out.blw) k hkl
      rw [hq] at hqw hca
      have PSD : Hid (ps.drop k = q :: ps.drop (k + 1)) := Lib.hid (by rw [List.drop_eq_getElem_cons hkl, hq])
      have c0 := hca 0 (by omega)
      have c1 := hca 1 (by omega)
      have c2 := hca 2 (by omega)
      have c3 := hca 3 (by omega)
      have c4 := hca 4 (by omega)
      have c5 := hca 5 (by omega)
      have c6 := hca 6 (by omega)
      simp only [PT.cells, List.getElem?_cons_zero, List.getElem?_cons_succ, Nat.add_zero] at c0 c1 c2 c3 c4 c5 c6
      have HKK := Lib.hid hk
      have HQW := Lib.hid hqw
      have i0 : (0 : Int) ≤ (k : Int) := by omega
      have i1 : (k : Int) < (pn : Int) := by omega

      have HG2 := Lib.hid HG.out
      rw [PSD.out, notesF] at HG2
      clear hca hq hqw hkl hk
      obtain ⟨a0, a1, a2, a3, a4, a5, a6⟩ := q
      simp only [] at c0 c1 c2 c3 c4 c5 c6 HG2
      subst hpa
      obtain ⟨wx, hwx⟩ : ∃ wx, wr.alloc (.cells #[.int .u32 (a0 : Int), .int .u32 (a1 : Int), .int .u64 (a2 : Int), .int .u64 (a3 : Int), .int .u64 (a4 : Int), .int .u64 (a5 : Int), .int .u64 (a6 : Int)] 37) = wx := ⟨_, rfl⟩
      obtain ⟨xb, hxb⟩ : ∃ xb, wr.heap.size = xb := ⟨_, rfl⟩
      have BX : Hid (Below wr.heap.size wr wx) := Lib.hid (by rw [← hwx]; exact ballo (Below.refl _ _) _)
      have XX : Hid (wx.heap[xb]? = some (.cells #[.int .u32 (a0 : Int), .int .u32 (a1 : Int), .int .u64 (a2 : Int), .int .u64 (a3 : Int), .int .u64 (a4 : Int), .int .u64 (a5 : Int), .int .u64 (a6 : Int)] 37)) := Lib.hid (by rw [← hwx, ← hxb]; exact heap_alloc_new _ _)
      have SX := Lib.hid (HS.out.below BX.out)
      obtain ⟨x0, x1, x2, x3, x4, x5, x6⟩ := out_cells XX.out
      by_cases h4 : a0 = 4
      · have t1 : ((a0 : Int) != 4) = false := by rw [h4]; rfl
        rw [if_neg (by omega)] at HG2
        have HIN := Lib.hid (fun wz => in_any m a2 a4 wz (by omega) HQW.out.2.2.1 HQW.out.2.2.2.2.1)
        have HMW : Hid (IntKind.u64.wrap (m : Int) = (m : Int)) := Lib.hid (by rw [IntKind.wrap_u64]; omega)
        rw [HPL.out.2.2.2] at HG2
        have hmw := HMW.out
        clear h4
        go_wp2_with fail
        refine (HIN.out _).mono ?_
        rintro e2 w2 ⟨rfl, rfl⟩
        clear hwx hxb c0 c1 c2 c3 c4 c5 c6 hmw
        cases hin : inB m a2 a4 with
        | false =>
          rw [hin] at HG2
          have HE : Hid (R = .error (a2, 4)) := Lib.hid HG2.out.symm
          have HS4 : Hid (∀ wz, Calls Tryd.prog 21 #[.int .u64 (a2 : Int), .int .i64 4] wz (TestPost (some (a2, 4)) wz)) := Lib.hid (fun wz => hspot_any a2 4 wz HQW.out.2.2.1)
          clear hin HIN
          go_wp2_with fail
          refine (HS4.out _).mono ?_
          rintro e3 w3 ⟨⟨v, rfl, hv⟩, b3⟩
          have V3 := Lib.hid hv
          have B3 : Hid (Below w.heap.size w w3) := Lib.hid (SX.out.blw.trans (b3.mono SX.out.blw.size))
          obtain ⟨sb, rfl, -⟩ := hv
          clear b3
          go_wp2_with fail
          exact HPE.out _ _ _ HE.out V3.out B3.out
        | true =>
          rw [hin] at HG2
          simp only [if_true] at HG2
          have HIM : Hid (a2 ≤ m ∧ a4 ≤ m - a2) := Lib.hid (by unfold inB at hin; exact of_decide_eq_true hin)
          obtain ⟨EE, hEE⟩ : ∃ EE, a2 + a4 = EE := ⟨_, rfl⟩
          rw [hEE] at HG2
          have HEM : Hid (EE ≤ m ∧ a2 ≤ EE ∧ EE - a2 = a4) := Lib.hid (by have := HIM.out; omega)
          have HEW : Hid (IntKind.u64.wrap ((a2 : Int) + (a4 : Int)) = (EE : Int)) := Lib.hid (by have := HEM.out; rw [IntKind.wrap_u64]; omega)
          have hew := HEW.out
          clear hin hEE HIN
          go_wp2_with fail
          clear hew x0 x1 x2 x3 x4 x5 x6
          go_loopg [6, 10] a4 (fun g2 lv av wy => ∃ (p : Nat) (D2 : List ND) (l2 : Option Addr) (n2 lc2 : Nat), av = .int .u64 (p : Int) ∧ lv = .slice l2 n2 lc2 ∧ Hid (NSt w D2 l2 n2 lc2 wy) ∧ Hid ((match notesG bs EE g2 p (D2.map ND.nt) with | .error x => Except.error x | .ok l => notesF bs (ps.drop (k + 1)) l) = R) ∧ Hid (p ≤ EE ∧ EE - p ≤ g2 ∧ n2 + (EE - p) ≤ k * 1048576 + a4) )
          case atStart => exact ⟨a2, D, la, n, lc, rfl, rfl, SX, HG2, Lib.hid (by have := HEM.out; have := HNK.out; omega)⟩
          case round =>
            clear HG HG2 HS SX HNK
            obtain ⟨p, D2, l2, n2, lc2, rfl, rfl, HS2, HG3, HPB⟩ := hrel
            by_cases hpe : p < EE
            · cases gk with
              | zero => exact absurd HPB.out.2.1 (by omega)
              | succ g2 =>
                have t2 : decide ((p : Int) < (EE : Int)) = true := decide_eq_true (by omega)
                obtain ⟨bb, oo, hra, -⟩ := HBY.out.row.at (i := p) (by have := HBY.out.len; have := HEM.out; omega)
                subst hra
                obtain ⟨M, hM⟩ : ∃ M, EE - p = M := ⟨_, rfl⟩
                have HMB : Hid (EE - p = M ∧ M ≤ 1048576 ∧ p + M = EE) := Lib.hid (by have := HEM.out; have := HPL.out; omega)
                have HNO : Hid (Calls Tryd.prog 36 #[.slice (some ⟨bb, oo + p, none⟩) M (cap - p), .int .u64 (p : Int)] wr (NotePost bs p EE wr)) := Lib.hid (by
                  have := note_any bb oo (cap - p) p EE bs wr (HBY.out.row.below HS2.out.blw) (by have := HPL.out; omega) (by have := HPL.out; have := HEM.out; omega) (by omega) (by have := HBY.out.cap; have := HEM.out; omega)
                  rwa [hM] at this)
                have HG4 : Hid ((match (match noteF bs p EE with | .error c => Except.error (p, c) | .ok (t, s) => notesG bs EE g2 (p + s) (D2.map ND.nt ++ [t])) with | .error x => Except.error x | .ok l => notesF bs (ps.drop (k + 1)) l) = R) := Lib.hid (by
                  have h := HG3.out
                  rw [notesG, if_neg (by omega)] at h
                  exact h)
                have HNK2 : Hid (∀ t s, noteF bs p EE = .ok (t, s) → 12 ≤ s ∧ 12 ≤ EE - p) := Lib.hid (fun t s hh => noteF_ok hh)
                unfold NotePost at HNO
                generalize noteF bs p EE = NF at *
                have j0 : (0 : Int) ≤ (p : Int) := by omega
                have j1 : (p : Int) ≤ (EE : Int) := by omega
                have j2 : (EE : Int) ≤ (cap : Int) := by have := HBY.out.cap; have := HEM.out; omega
                have j3 : ((EE : Int) - (p : Int)).toNat = M := by omega
                have j5 : ¬ cap = p := by have := HBY.out.cap; have := HEM.out; omega
                have j6 : p ≤ EE := by omega
                have j7 : EE ≤ cap := by have := HBY.out.cap; have := HEM.out; omega
                have HPE2 : Hid (p < EE) := Lib.hid hpe
                clear HG3 hpe
                go_wp2_with fail
                refine HNO.out.mono ?_
                rintro e4 w4 ⟨hans, b4⟩
                have S4 := Lib.hid (HS2.out.below b4)
                have HSZ4 : Hid (w.heap.size ≤ wr.heap.size) := Lib.hid HS2.out.blw.size
                clear HNO b4
                cases NF with
                | error c =>
                  obtain ⟨v, rfl, hv⟩ := hans
                  have V4 : Hid (ErrAt w4 v (some (p, c))) := Lib.hid hv
                  have HE : Hid (R = .error (p, c)) := Lib.hid HG4.out.symm
                  obtain ⟨sb, rfl, -⟩ := hv
                  clear j0 j1 j2 j3 j5 j6 j7 t2 hM
                  go_wp2_with fail
                  exact HPE.out _ _ _ HE.out (V4.out.below (ballo (Below.refl _ _) _)) (ballo S4.out.blw _)
                | ok tx =>
                  obtain ⟨⟨nm, ty, da⟩, s⟩ := tx
                  obtain ⟨ad, c, rfl, ho⟩ := hans
                  have HG5 : Hid ((match notesG bs EE g2 (p + s) (D2.map ND.nt ++ [⟨nm, ty, da⟩]) with | .error x => Except.error x | .ok l => notesF bs (ps.drop (k + 1)) l) = R) := Lib.hid HG4.out
                  have HSS := Lib.hid (HNK2.out _ _ rfl)
                  have HO4 : Hid (OwnI w4 w.heap.size 5 .u8 (.slice ad da.length c) (toI da)) := Lib.hid (OwnI.mono ho HSZ4.out)
                  simp only []
                  generalize hdn : da.length = dn at *
                  obtain ⟨w5, hw5⟩ : ∃ w5, w4.alloc (.cells #[.string nm, .int .u32 (ty : Int), .slice ad dn c] 55) = w5 := ⟨_, rfl⟩
                  obtain ⟨nb, hnb⟩ : ∃ nb, w4.heap.size = nb := ⟨_, rfl⟩
                  have B45 : Hid (Below w4.heap.size w4 w5) := Lib.hid (by rw [← hw5]; exact ballo (Below.refl _ _) _)
                  have X5 : Hid (w5.heap[nb]? = some (.cells #[.string nm, .int .u32 (ty : Int), .slice ad dn c] 55)) := Lib.hid (by rw [← hw5, ← hnb]; exact heap_alloc_new _ _)
                  have S5 := Lib.hid (S4.out.below B45.out)
                  have O5 := Lib.hid (HO4.out.below B45.out)
                  have y0 : w5.cell? ⟨nb, 0, none⟩ = some (.string nm) := by rw [cell_of_row _ _ 0 _ _ _ X5.out]; rfl
                  have y1 : w5.cell? ⟨nb, 1, none⟩ = some (.int .u32 (ty : Int)) := by rw [cell_of_row _ _ 1 _ _ _ X5.out]; rfl
                  have y2 : w5.cell? ⟨nb, 2, none⟩ = some (.slice ad dn c) := by rw [cell_of_row _ _ 2 _ _ _ X5.out]; rfl
                  have HLEN : Hid ((D2.map ND.cells).length = n2) := Lib.hid (by rw [List.length_map]; exact S5.out.len)
                  have HKM : Hid (n2 + 1 ≤ maxLen ∧ (n2 + 1) * 48 ≤ 140737488355328) := Lib.hid (by have := HPB.out; have := HEM.out; have := HPL.out; have := HKK.out; unfold maxLen; omega)
                  have HSZ : Hid (w.heap.size ≤ w5.heap.size) := Lib.hid S5.out.blw.size
                  have HFIN : Hid (∀ ad8 c8 w8, OwnS w8 w.heap.size 55 3 (.slice ad8 (n2 + 1) c8) (D2.map ND.cells ++ [[.string nm, .int .u32 (ty : Int), .slice ad dn c]]) → (w5.alloc (.cells #[.string nm, .int .u32 (ty : Int), .slice ad dn c] 55)).grownBy w8 (Value.slice l2 n2 lc2).ownBlock → NSt w (D2 ++ [⟨⟨nm, ty, da⟩, ad, c⟩]) ad8 (n2 + 1) c8 w8) := Lib.hid (fun ad8 c8 w8 ho8 hg8 => by
                    have hb := ballo (Below.refl w5.heap.size w5) (.cells #[.string nm, .int .u32 (ty : Int), .slice ad dn c] 55)
                    subst hdn
                    exact NSt.next (S5.out.below hb) ⟨⟨nm, ty, da⟩, ad, c⟩ (O5.out.below hb) ho8 hg8)
                  have HQ1 : Hid (IntKind.u64.wrap ((EE : Int) - (p : Int)) = (M : Int)) := Lib.hid (by have := HMB.out; have := HPE2.out; rw [IntKind.wrap_u64]; omega)
                  clear ho hdn j0 j1 j2 j3 j5 j6 j7 t2 hM
                  by_cases hsm : M < s
                  · have HQ2 : Hid (IntKind.u64.wrap ((p : Int) + min (s : Int) (M : Int)) = (EE : Int)) := Lib.hid (by rw [show min (s : Int) (M : Int) = (M : Int) by omega]; have := HMB.out; have := HEM.out; have := HPL.out; rw [IntKind.wrap_u64]; omega)
                    have HG6 : Hid ((match notesG bs EE g2 EE (D2.map ND.nt ++ [⟨nm, ty, da⟩]) with | .error x => Except.error x | .ok l => notesF bs (ps.drop (k + 1)) l) = R) := Lib.hid (by
                      rw [← HG5.out, ← notesG_min bs EE g2 (p + s), Nat.min_eq_right (by have := HMB.out; omega)])
                    have q1 := HQ1.out
                    clear hsm
                    go_wp2_with (at_builtin; go_loud (
                     refine wpList_grow_row rfl (.tmp 59) (.tmp 61) nRow rfl w.heap.size (.slice l2 n2 lc2) (D2.map ND.cells) n2 [.string nm, .int .u32 (ty : Int), .slice ad dn c] rfl rfl HLEN.out rfl (by intro u hu; simp only [List.mem_cons, List.not_mem_nil, or_false] at hu; rcases hu with rfl | rfl | rfl <;> rfl) S5.out.own HKM.out.1 HKM.out.2 HSZ.out ?_); intro ad8 c8 w8 ho8 hg8; have HN8 := Lib.hid (HFIN.out _ _ _ ho8 hg8); clear ho8 hg8)
                    go_roundg g2
                    case measure => omega
                    case rel => exact ⟨EE, _, ad8, n2 + 1, c8, congrArg (Value.int .u64) HQ2.out, rfl, HN8, Lib.hid (by rw [nt_snoc]; exact HG6.out), Lib.hid (by have := HPB.out; have := HSS.out; omega)⟩
                  · have t3 : ¬ (M : Int) < (s : Int) := by omega
                    obtain ⟨p2, hp2⟩ : ∃ p2, p + s = p2 := ⟨_, rfl⟩
                    have HQ2 : Hid (IntKind.u64.wrap ((p : Int) + min (s : Int) (M : Int)) = (p2 : Int)) := Lib.hid (by rw [show min (s : Int) (M : Int) = (s : Int) by omega]; have := HMB.out; have := HEM.out; have := HPL.out; rw [IntKind.wrap_u64]; omega)
                    have HP2 : Hid (p2 ≤ EE ∧ p + 12 ≤ p2) := Lib.hid (by have := HMB.out; have := HSS.out; omega)
                    rw [hp2] at HG5
                    have q1 := HQ1.out
                    clear hsm hp2
                    go_wp2_with (at_builtin; go_loud (
                     refine wpList_grow_row rfl (.tmp 59) (.tmp 61) nRow rfl w.heap.size (.slice l2 n2 lc2) (D2.map ND.cells) n2 [.string nm, .int .u32 (ty : Int), .slice ad dn c] rfl rfl HLEN.out rfl (by intro u hu; simp only [List.mem_cons, List.not_mem_nil, or_false] at hu; rcases hu with rfl | rfl | rfl <;> rfl) S5.out.own HKM.out.1 HKM.out.2 HSZ.out ?_); intro ad8 c8 w8 ho8 hg8; have HN8 := Lib.hid (HFIN.out _ _ _ ho8 hg8); clear ho8 hg8)
                    go_roundg g2
                    case measure => omega
                    case rel => exact ⟨p2, _, ad8, n2 + 1, c8, congrArg (Value.int .u64) HQ2.out, rfl, HN8, Lib.hid (by rw [nt_snoc]; exact HG5.out), Lib.hid (by have := HPB.out; have := HSS.out; have := HP2.out; omega)⟩
            · have t2 : decide (p < EE) = false := decide_eq_false hpe
              have HG4 : Hid (notesF bs (ps.drop (k + 1)) (D2.map ND.nt) = R) := Lib.hid (by
                have h := HG3.out
                rw [notesG_end _ _ _ _ _ (by omega)] at h
                exact h)
              have HN2 : Hid (n2 ≤ (k + 1) * 1048576) := Lib.hid (by have := HPB.out; have := HEM.out; have := HPL.out; omega)
              go_wp2_with fail
              go_roundg g
              case measure => have := HKK.out; omega
              case rel => exact ⟨k + 1, D2, l2, n2, lc2, by have := HKK.out; omega, (by first | (refine congrArg (Value.int .i64) ?_; omega) | (refine congrArg (Value.int .i64) ?_; rw [IntKind.wrap_i64]; omega)), rfl, HS2, HG4, HN2⟩
      · have t1 : ((a0 : Int) != 4) = true := bne_iff_ne.2 (by omega)
        have HG4 : Hid (notesF bs (ps.drop (k + 1)) (D.map ND.nt) = R) := Lib.hid (by have h := HG2.out; rw [if_pos h4] at h; exact h)
        have HN2 : Hid (n ≤ (k + 1) * 1048576) := Lib.hid (Nat.le_trans HNK.out (Nat.mul_le_mul_right _ (Nat.le_succ k)))
        clear h4
        go_wp2_with fail
        go_roundg g
        case measure => have := HKK.out; omega
        case rel => exact ⟨k + 1, D, la, n, lc, by have := HKK.out; omega, (by first | (refine congrArg (Value.int .i64) ?_; omega) | (refine congrArg (Value.int .i64) ?_; rw [IntKind.wrap_i64]; omega)), rfl, SX, HG4, HN2⟩
end Go.Proofs.YtmjfkcclhbpclaaDoor
