/- Layer 4: the document's own answer of Interp. -/
import Derived.Test.YtmjfkcclhbpclaaDoorHeadRefC
namespace Go.Proofs.YtmjfkcclhbpclaaDoor
open Go.RowKit
set_option linter.unusedVariables false
set_option linter.unusedSimpArgs false

/-- the document's answer, as the reference gives it -/
def badV : Option HErr → Value
  | none => .agg #[.int .i64 0, .bool false, .int .u64 0]
  | some (.spot a c) => .agg #[.int .i64 (c : Int), .bool true, .int .u64 (a : Int)]
  | some (.code c) => .agg #[.int .i64 (c : Int), .bool false, .int .u64 0]
def RIntPost (w : World) (bs : List Nat) (ps : List PT) (e : Ending) (w' : World) : Prop := (match interpF bs ps with | .ok s => e = .returned (.tuple #[.string s, badV none]) | .error x => e = .returned (.tuple #[.string ⟨#[]⟩, badV (some x)])) ∧ Below w.heap.size w w'
set_option maxRecDepth 100000
set_option maxHeartbeats 16000000 in
theorem rinterp_any (K : Int) (e : Nat) (pa : Option Addr) (pn pc : Nat) (ps : List PT) (a : Option Addr) (m cap : Nat) (bs : List Nat) (w : World) (h : BAny w a m cap bs) (hp : PRow w pa ps) (hl : ps.length = pn) (hpn : pn ≤ 140737488351232) :
    Calls Tryd.prog 12 #[.slice a m cap, .agg #[.int .i64 K, .int .u64 (e : Int), .slice pa pn pc]] w (RIntPost w bs ps) := by
  have HPE : Hid (∀ x w', interpF bs ps = .error x → Below w.heap.size w w' → RIntPost w bs ps (.returned (.tuple #[.string ⟨#[]⟩, badV (some x)])) w') := Lib.hid (fun x w' e hb => ⟨by rw [e], hb⟩)
  have HPO : Hid (∀ s w', interpF bs ps = .ok s → Below w.heap.size w w' → RIntPost w bs ps (.returned (.tuple #[.string s, badV none])) w') := Lib.hid (fun s w' e hb => ⟨by rw [e], hb⟩)
  generalize RIntPost w bs ps = P at *
  obtain ⟨w1, hw1⟩ : ∃ w1, w.alloc (.cells #[.int .i64 K, .int .u64 (e : Int), .slice pa pn pc] 25) = w1 := ⟨_, rfl⟩
  obtain ⟨hbk, hhbk⟩ : ∃ hbk, w.heap.size = hbk := ⟨_, rfl⟩
  obtain ⟨w2, hw2⟩ : ∃ w2, w1.alloc (.cells #[.int .i64 0, .bool false, .int .u64 0] 43) = w2 := ⟨_, rfl⟩
  obtain ⟨rbk, hrbk⟩ : ∃ rbk, w1.heap.size = rbk := ⟨_, rfl⟩
  have B1 : Hid (Below w.heap.size w w1) := Lib.hid (by rw [← hw1]; exact ballo (Below.refl _ _) _)
  have B12 : Hid (Below w1.heap.size w1 w2) := Lib.hid (by rw [← hw2]; exact ballo (Below.refl _ _) _)
  have H1 : Hid (w1.heap[hbk]? = some (.cells #[.int .i64 K, .int .u64 (e : Int), .slice pa pn pc] 25)) := Lib.hid (by rw [← hw1, ← hhbk]; exact heap_alloc_new _ _)
  have H2 := Lib.hid ((B12.out.block _ (lt_of_block H1.out)).trans H1.out)
  have R2 : Hid (w2.heap[rbk]? = some (.cells #[.int .i64 0, .bool false, .int .u64 0] 43)) := Lib.hid (by rw [← hw2, ← hrbk]; exact heap_alloc_new _ _)
  have B2 := Lib.hid (bstep B1.out B12.out)
  have HRB : Hid (w.heap.size ≤ rbk) := Lib.hid (by rw [← hrbk]; exact B1.out.size)
  have HP2 := Lib.hid (hp.below B2.out)
  have HB2 := Lib.hid (h.below B2.out)
  have HL := Lib.hid hl
  have hml : (m : Int) ≤ 140737488351232 := by have := h.most; omega
  have hpnl : (pn : Int) ≤ 140737488351232 := by omega
  have HF0 : Hid (findF (ps.drop 0) = findF ps) := Lib.hid rfl
  clear h hp hl hpn
  go_enter Tryd.func12, Tryd.ntmps12
  go_wp2_with fail
  clear hw1 hw2 hhbk hrbk
  go_loopg [6] pn (fun g iv wr => ∃ k : Nat, k + g = pn ∧ iv = .int .i64 (k : Int) ∧ Hid (findF (ps.drop k) = findF ps) ∧ Hid (Below w2.heap.size w2 wr))
  case atStart => exact ⟨0, by omega, rfl, HF0, Lib.hid (Below.refl _ _)⟩
  case round =>
    obtain ⟨k, hk, rfl, HF, HB⟩ := hrel
    have HH := Lib.hid ((HB.out.block _ (lt_of_block H2.out)).trans H2.out)
    have RR := Lib.hid ((HB.out.block _ (lt_of_block R2.out)).trans R2.out)
    have BB := Lib.hid (bstep B2.out HB.out)
    have d2 : wr.cell? ⟨hbk, 2, none⟩ = some (.slice pa pn pc) := by rw [cell_of_row _ _ 2 _ _ _ HH.out]; rfl
    cases gk with
    | zero =>
      have hkn : k = pn := by omega
      have HE : Hid (interpF bs ps = .error (.code 6)) := Lib.hid (by
        have h := HF.out
        rw [List.drop_eq_nil_of_le (by have := HL.out; omega)] at h
        unfold interpF
        rw [← h]
        rfl)
      have g0 : wr.cell? ⟨rbk, 0, none⟩ = some (.int .i64 0) := by rw [cell_of_row _ _ 0 _ _ _ RR.out]; rfl
      have g1 : wr.cell? ⟨rbk, 1, none⟩ = some (.bool false) := by rw [cell_of_row _ _ 1 _ _ _ RR.out]; rfl
      have g2 : wr.cell? ⟨rbk, 2, none⟩ = some (.int .u64 0) := by rw [cell_of_row _ _ 2 _ _ _ RR.out]; rfl
      have f0 : wr.frozen? ⟨rbk, 0, none⟩ = false := frozen_of_row _ _ _ _ _ RR.out
      have f1 : wr.frozen? ⟨rbk, 1, none⟩ = false := frozen_of_row _ _ _ _ _ RR.out
      have f2 : wr.frozen? ⟨rbk, 2, none⟩ = false := frozen_of_row _ _ _ _ _ RR.out
      obtain ⟨wf, hwf, z0, z1, z2, ez⟩ := set3_cells RR.out (.int .i64 6) (.bool false) (.int .u64 0)
      have BF : Hid (Below w.heap.size w wf) := Lib.hid (by rw [← ez]; exact below_set3 BB.out HRB.out _ _ _)
      subst hkn
      clear hk ez
      go_wp2_with fail
      refine bodyPost_ret (by simp [results, Tryd.results12, go_sem, z0, z1, z2]; try rfl) rfl ?_
      exact HPE.out _ wf HE.out BF.out
    | succ g2 =>
      have hkl : k < ps.length := by have := HL.out; omega
      obtain ⟨hwf, b, o, hpa, hb, hc⟩ := (HP2.out.below HB.out) k hkl
      obtain ⟨p, hpk⟩ : ∃ p, ps[k] = p := ⟨_, rfl⟩
      rw [hpk] at hwf hc
      have hdr : ps.drop k = p :: ps.drop (k + 1) := by rw [List.drop_eq_getElem_cons hkl, hpk]
      have HFN : Hid (p.ty ≠ 3 → findF (ps.drop (k + 1)) = findF ps) := Lib.hid (fun hne => by
        have h := HF.out
        rw [hdr, findF, if_neg hne] at h
        exact h)
      have HIE : Hid (p.ty = 3 → interpF bs ps = if inB bs.length p.off p.filesz = true then (match textV (partF bs p) with | none => .error (.spot p.off 29) | some s => if 255 < s.size then .error (.spot p.off 2) else .ok s) else .error (.spot p.off 4)) := Lib.hid (fun he => by
        have h := HF.out
        rw [hdr, findF, if_pos he] at h
        unfold interpF
        rw [← h]
        rfl)
      have HCU : Hid (∀ wx, Below wr.heap.size wr wx → Calls Tryd.prog 31 #[.slice a m cap, .int .u64 (p.off : Int), .int .u64 (p.filesz : Int)] wx (RCutPost bs p.off p.filesz wx)) := Lib.hid (fun wx hx => rcut_any a m cap p.off p.filesz bs wx ((HB2.out.below HB.out).below hx) hwf.2.2.1 hwf.2.2.2.2.1)
      have HTX : Hid (∀ ad c wx, inB bs.length p.off p.filesz = true → Row .u8 wx ad (partF bs p) → p.filesz ≤ c → Calls Tryd.prog 33 #[.slice ad p.filesz c, .int .u64 0] wx (RTextPost (partF bs p) wx)) := Lib.hid (fun ad c wx hi hr hcc => rtext_any ad p.filesz c (partF bs p) wx hr (toI_bytes (fun x hx => HB2.out.row.2 x (List.mem_of_mem_drop (List.mem_of_mem_take hx)))) (partF_len hi) (by
        unfold inB at hi
        have h1 := of_decide_eq_true hi
        have := HB2.out.len
        have := HB2.out.most
        omega) hcc)
      have HTS : Hid (∀ s, textV (partF bs p) = some s → inB bs.length p.off p.filesz = true → (s.size : Int) ≤ 140737488351232) := Lib.hid (fun s hs hi => by
        have h1 := textV_size hs (toI_bytes (fun x hx => HB2.out.row.2 x (List.mem_of_mem_drop (List.mem_of_mem_take hx))))
        rw [partF_len hi] at h1
        unfold inB at hi
        have h2 := of_decide_eq_true hi
        have := HB2.out.len
        have := HB2.out.most
        omega)
      unfold RCutPost at HCU
      unfold RTextPost at HTX
      have HRT : Hid (∀ c wx, Calls Tryd.prog 32 #[.int .i64 c, .int .u64 (p.off : Int)] wx fun e w' => e = .returned (.agg #[.int .i64 c, .bool true, .int .u64 (p.off : Int)]) ∧ Below wx.heap.size wx w') := Lib.hid (fun c wx => rat_any c p.off wx)
      change Hid (∀ wx, Below wr.heap.size wr wx → Calls Tryd.prog 31 #[.slice a m cap, .int .u64 (p.off : Int), .int .u64 (p.filesz : Int)] wx fun e w' => (if inB bs.length p.off p.filesz = true then ∃ ad c, e = .returned (.tuple #[.slice ad p.filesz c, .bool true]) ∧ Row .u8 w' ad (partF bs p) ∧ p.filesz ≤ c else e = .returned (.tuple #[.slice none 0 0, .bool false])) ∧ Below wx.heap.size wx w') at HCU
      generalize partF bs p = PX at *
      obtain ⟨I, hI⟩ : ∃ I, inB bs.length p.off p.filesz = I := ⟨_, rfl⟩
      rw [hI] at HIE HCU HTX HTS
      have c0 := hc 0 (by omega)
      have c1 := hc 1 (by omega)
      have c2 := hc 2 (by omega)
      have c3 := hc 3 (by omega)
      have c4 := hc 4 (by omega)
      have c5 := hc 5 (by omega)
      have c6 := hc 6 (by omega)
      simp only [PT.cells, List.getElem?_cons_zero, List.getElem?_cons_succ, Nat.add_zero] at c0 c1 c2 c3 c4 c5 c6
      have i0 : (0 : Int) ≤ (k : Int) := by omega
      have i1 : (k : Int) < (pn : Int) := by have := HL.out; omega
      have HK := Lib.hid hk
      obtain ⟨a0, a1, a2, a3, a4, a5, a6⟩ := p
      simp only [] at HIE HCU HTX HRT HTS HFN c0 c1 c2 c3 c4 c5 c6
      clear hc hwf hpk hkl hI hdr hk
      subst hpa
      obtain ⟨xb, hxb⟩ : ∃ xb, wr.heap.size = xb := ⟨_, rfl⟩
      obtain ⟨w3, hw3⟩ : ∃ w3, wr.alloc (.cells #[.int .u32 (a0 : Int), .int .u32 (a1 : Int), .int .u64 (a2 : Int), .int .u64 (a3 : Int), .int .u64 (a4 : Int), .int .u64 (a5 : Int), .int .u64 (a6 : Int)] 37) = w3 := ⟨_, rfl⟩
      have X3 : Hid (w3.heap[xb]? = some (.cells #[.int .u32 (a0 : Int), .int .u32 (a1 : Int), .int .u64 (a2 : Int), .int .u64 (a3 : Int), .int .u64 (a4 : Int), .int .u64 (a5 : Int), .int .u64 (a6 : Int)] 37)) := Lib.hid (by rw [← hw3, ← hxb]; exact heap_alloc_new _ _)
      have B32 : Hid (Below wr.heap.size wr w3) := Lib.hid (by rw [← hw3]; exact ballo (Below.refl _ _) _)
      have B3 := Lib.hid (bstep BB.out B32.out)
      have R3 := Lib.hid ((B32.out.block _ (lt_of_block RR.out)).trans RR.out)
      have x0 : w3.cell? ⟨xb, 0, none⟩ = some (.int .u32 (a0 : Int)) := by rw [cell_of_row _ _ 0 _ _ _ X3.out]; rfl
      have x2 : w3.cell? ⟨xb, 2, none⟩ = some (.int .u64 (a2 : Int)) := by rw [cell_of_row _ _ 2 _ _ _ X3.out]; rfl
      have x4 : w3.cell? ⟨xb, 4, none⟩ = some (.int .u64 (a4 : Int)) := by rw [cell_of_row _ _ 4 _ _ _ X3.out]; rfl
      by_cases h3 : a0 = 3
      · have HI3 := Lib.hid (HIE.out h3)
        have t3 : ((a0 : Int) != 3) = false := by rw [h3]; rfl
        clear h3
        go_wp2_with fail
        clear c0 c1 c2 c3 c4 c5 c6 d2 hxb hw3 t3
        refine (HCU.out _ B32.out).mono ?_
        rintro e4 w4 ⟨hcut, hb4⟩
        have B4 := Lib.hid (bstep B3.out hb4)
        have X4 := Lib.hid ((hb4.block _ (lt_of_block X3.out)).trans X3.out)
        have R4 := Lib.hid ((hb4.block _ (lt_of_block R3.out)).trans R3.out)
        clear hb4 x0 x2 x4
        have x2 : w4.cell? ⟨xb, 2, none⟩ = some (.int .u64 (a2 : Int)) := by rw [cell_of_row _ _ 2 _ _ _ X4.out]; rfl
        cases I with
        | false =>
          rw [if_neg (by decide)] at hcut
          obtain rfl := hcut
          have HE : Hid (interpF bs ps = .error (.spot a2 4)) := Lib.hid (by rw [HI3.out, if_neg (by decide)])
          go_wp2_with fail
          refine (HRT.out 4 w4).mono ?_
          rintro e6 w6 ⟨rfl, hb6⟩
          have R6 := Lib.hid ((hb6.block _ (lt_of_block R4.out)).trans R4.out)
          have B6 := Lib.hid (bstep B4.out hb6)
          have g0 : w6.cell? ⟨rbk, 0, none⟩ = some (.int .i64 0) := by rw [cell_of_row _ _ 0 _ _ _ R6.out]; rfl
          have g1 : w6.cell? ⟨rbk, 1, none⟩ = some (.bool false) := by rw [cell_of_row _ _ 1 _ _ _ R6.out]; rfl
          have g2 : w6.cell? ⟨rbk, 2, none⟩ = some (.int .u64 0) := by rw [cell_of_row _ _ 2 _ _ _ R6.out]; rfl
          have f0 : w6.frozen? ⟨rbk, 0, none⟩ = false := frozen_of_row _ _ _ _ _ R6.out
          have f1 : w6.frozen? ⟨rbk, 1, none⟩ = false := frozen_of_row _ _ _ _ _ R6.out
          have f2 : w6.frozen? ⟨rbk, 2, none⟩ = false := frozen_of_row _ _ _ _ _ R6.out
          obtain ⟨wf, hwf, z0, z1, z2, ez⟩ := set3_cells R6.out (.int .i64 4) (.bool true) (.int .u64 (a2 : Int))
          have BF : Hid (Below w.heap.size w wf) := Lib.hid (by rw [← ez]; exact below_set3 B6.out HRB.out _ _ _)
          clear ez hb6 x2
          go_wp2_with fail
          refine bodyPost_ret (by simp [results, Tryd.results12, go_sem, z0, z1, z2]; try rfl) rfl ?_
          exact HPE.out _ wf HE.out BF.out
        | true =>
          rw [if_pos rfl] at hcut
          obtain ⟨ad, c, rfl, hr, hcc⟩ := hcut
          have HT := Lib.hid (HTX.out ad c w4 (by first | rfl | trivial) hr hcc)
          clear hr hcc
          go_wp2_with fail
          refine HT.out.mono ?_
          rintro e5 w5 ⟨htx, rfl⟩
          cases hv : textV PX with
          | none =>
            rw [hv] at htx
            obtain ⟨ce, hce, rfl⟩ := htx
            have HE : Hid (interpF bs ps = .error (.spot a2 29)) := Lib.hid (by rw [HI3.out]; simp only [eq_self, if_true, hv])
            have tc : (ce != 0) = true := bne_iff_ne.2 hce
            clear hv hce
            go_wp2_with fail
            refine (HRT.out 29 w4).mono ?_
            rintro e6 w6 ⟨rfl, hb6⟩
            have R6 := Lib.hid ((hb6.block _ (lt_of_block R4.out)).trans R4.out)
            have B6 := Lib.hid (bstep B4.out hb6)
            have g0 : w6.cell? ⟨rbk, 0, none⟩ = some (.int .i64 0) := by rw [cell_of_row _ _ 0 _ _ _ R6.out]; rfl
            have g1 : w6.cell? ⟨rbk, 1, none⟩ = some (.bool false) := by rw [cell_of_row _ _ 1 _ _ _ R6.out]; rfl
            have g2 : w6.cell? ⟨rbk, 2, none⟩ = some (.int .u64 0) := by rw [cell_of_row _ _ 2 _ _ _ R6.out]; rfl
            have f0 : w6.frozen? ⟨rbk, 0, none⟩ = false := frozen_of_row _ _ _ _ _ R6.out
            have f1 : w6.frozen? ⟨rbk, 1, none⟩ = false := frozen_of_row _ _ _ _ _ R6.out
            have f2 : w6.frozen? ⟨rbk, 2, none⟩ = false := frozen_of_row _ _ _ _ _ R6.out
            obtain ⟨wf, hwf, z0, z1, z2, ez⟩ := set3_cells R6.out (.int .i64 29) (.bool true) (.int .u64 (a2 : Int))
            have BF : Hid (Below w.heap.size w wf) := Lib.hid (by rw [← ez]; exact below_set3 B6.out HRB.out _ _ _)
            clear ez hb6 x2
            go_wp2_with fail
            refine bodyPost_ret (by simp [results, Tryd.results12, go_sem, z0, z1, z2]; try rfl) rfl ?_
            exact HPE.out _ wf HE.out BF.out
          | some s =>
            rw [hv] at htx
            obtain rfl : e5 = .returned (.tuple #[.string s, .int .i64 0]) := htx
            have hsz := HTS.out s hv (by first | rfl | trivial)
            by_cases h255 : 255 < s.size
            · have HE : Hid (interpF bs ps = .error (.spot a2 2)) := Lib.hid (by rw [HI3.out]; simp only [eq_self, if_true, hv]; exact if_pos h255)
              have t2 : decide ((255 : Int) < (s.size : Int)) = true := decide_eq_true (by omega)
              clear hv h255
              go_wp2_with fail
              refine (HRT.out 2 w4).mono ?_
              rintro e6 w6 ⟨rfl, hb6⟩
              have R6 := Lib.hid ((hb6.block _ (lt_of_block R4.out)).trans R4.out)
              have B6 := Lib.hid (bstep B4.out hb6)
              have g0 : w6.cell? ⟨rbk, 0, none⟩ = some (.int .i64 0) := by rw [cell_of_row _ _ 0 _ _ _ R6.out]; rfl
              have g1 : w6.cell? ⟨rbk, 1, none⟩ = some (.bool false) := by rw [cell_of_row _ _ 1 _ _ _ R6.out]; rfl
              have g2 : w6.cell? ⟨rbk, 2, none⟩ = some (.int .u64 0) := by rw [cell_of_row _ _ 2 _ _ _ R6.out]; rfl
              have f0 : w6.frozen? ⟨rbk, 0, none⟩ = false := frozen_of_row _ _ _ _ _ R6.out
              have f1 : w6.frozen? ⟨rbk, 1, none⟩ = false := frozen_of_row _ _ _ _ _ R6.out
              have f2 : w6.frozen? ⟨rbk, 2, none⟩ = false := frozen_of_row _ _ _ _ _ R6.out
              obtain ⟨wf, hwf, z0, z1, z2, ez⟩ := set3_cells R6.out (.int .i64 2) (.bool true) (.int .u64 (a2 : Int))
              have BF : Hid (Below w.heap.size w wf) := Lib.hid (by rw [← ez]; exact below_set3 B6.out HRB.out _ _ _)
              clear ez hb6 x2
              go_wp2_with fail
              refine bodyPost_ret (by simp [results, Tryd.results12, go_sem, z0, z1, z2]; try rfl) rfl ?_
              exact HPE.out _ wf HE.out BF.out
            · have HE : Hid (interpF bs ps = .ok s) := Lib.hid (by rw [HI3.out]; simp only [eq_self, if_true, hv]; exact if_neg h255)
              have t2 : decide ((255 : Int) < (s.size : Int)) = false := decide_eq_false (by omega)
              clear hv h255
              have g0 : w4.cell? ⟨rbk, 0, none⟩ = some (.int .i64 0) := by rw [cell_of_row _ _ 0 _ _ _ R4.out]; rfl
              have g1 : w4.cell? ⟨rbk, 1, none⟩ = some (.bool false) := by rw [cell_of_row _ _ 1 _ _ _ R4.out]; rfl
              have g2 : w4.cell? ⟨rbk, 2, none⟩ = some (.int .u64 0) := by rw [cell_of_row _ _ 2 _ _ _ R4.out]; rfl
              have f0 : w4.frozen? ⟨rbk, 0, none⟩ = false := frozen_of_row _ _ _ _ _ R4.out
              have f1 : w4.frozen? ⟨rbk, 1, none⟩ = false := frozen_of_row _ _ _ _ _ R4.out
              have f2 : w4.frozen? ⟨rbk, 2, none⟩ = false := frozen_of_row _ _ _ _ _ R4.out
              obtain ⟨wf, hwf, z0, z1, z2, ez⟩ := set3_cells R4.out (.int .i64 0) (.bool false) (.int .u64 0)
              have BF : Hid (Below w.heap.size w wf) := Lib.hid (by rw [← ez]; exact below_set3 B4.out HRB.out _ _ _)
              clear ez
              go_wp2_with fail
              refine bodyPost_ret (by simp [results, Tryd.results12, go_sem, z0, z1, z2]; try rfl) rfl ?_
              exact HPO.out _ wf HE.out BF.out
      · have t3 : ((a0 : Int) != 3) = true := by rw [bne_iff_ne]; omega
        have HF2 := Lib.hid (HFN.out h3)
        clear h3
        go_wp2_with fail
        go_roundg g2
        case measure => have := HK.out; omega
        case rel => exact ⟨k + 1, by have := HK.out; omega, by go_num, HF2, Lib.hid (bstep HB.out B32.out)⟩
end Go.Proofs.YtmjfkcclhbpclaaDoor
