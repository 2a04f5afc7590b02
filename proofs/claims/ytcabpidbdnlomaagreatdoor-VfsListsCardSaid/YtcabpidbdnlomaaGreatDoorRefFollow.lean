/- Layer 3, the document's answer: where a path ends, of whatever nodes and path. -/
import Derived.Test.YtcabpidbdnlomaaGreatDoorRefSame
import Derived.Deep.MidRow
import Derived.Deep.QuietTactic
import Derived.BigQuiet
import Derived.Carry
namespace Go.Proofs.YtcabpidbdnlomaaGreatDoor
open Go.RowKit
set_option linter.unusedVariables false
set_option linter.unusedSimpArgs false

def RFolPost (e : Ending) : Except Nat ByteArray → Prop
  | .ok p => e = .returned (.tuple #[.string p, .int .i64 0])
  | .error n => e = .returned (.tuple #[.string ⟨#[]⟩, .int .i64 (n : Int)])
theorem partsR_pos (s : ByteArray) : 1 ≤ (partsR s).length := by
  unfold partsR cutF
  rw [List.length_map]
  exact cutGo_pos _ _ _
theorem parent_rooted {s : ByteArray} (h1 : 1 ≤ s.size) (h47 : s.get! 0 = 47) : (parentF s).get! 0 = 47 := by
  unfold parentF
  obtain ⟨m, hm⟩ : ∃ m : Nat, (max 1 (Lib.lastIndexByte s 47)).toNat = m + 1 := ⟨(max 1 (Lib.lastIndexByte s 47)).toNat - 1, by omega⟩
  rw [hm, extract_part]
  obtain ⟨⟨l⟩⟩ := s
  cases l with
  | nil => simp [ByteArray.size] at h1
  | cons c l => exact h47
theorem join_slash {a p : ByteArray} (hp : ¬ p = ⟨#[]⟩) : joinF a p ≠ slash := by
  have h0 : 1 ≤ p.size := by
    obtain ⟨⟨l⟩⟩ := p
    cases l with
    | nil => exact absurd rfl hp
    | cons c l => show 1 ≤ (c :: l).length; simp
  intro e
  have h := congrArg ByteArray.size e
  unfold joinF at h
  rw [slash_one] at h
  split at h
  · rw [ByteArray.size_append, slash_one] at h; omega
  · rw [ByteArray.size_append, ByteArray.size_append, slash_one] at h; omega
theorem rooted_in {F : ByteArray → Option Ent} (hF : TreeIn F) {k : ByteArray} {e : Ent} (he : F k = some e) : k.get! 0 = 47 := by
  by_cases hk : k = slash
  · subst hk; rfl
  · have := hF.cln k e he hk
    unfold cleanF at this
    simp only [Bool.and_eq_true, decide_eq_true_eq] at this
    exact this.2.1

set_option maxRecDepth 100000 in
set_option maxHeartbeats 16000000 in
theorem rfollow_any (tb c : Nat) (a : Option Addr) (L : List Nd) (F : ByteArray → Option Ent) (path : ByteArray) (w : World) (h : RefAt w tb a c L) (hI : RefIs L F) (hF : TreeIn F) (hp : path.size ≤ 140737488351232) :
    Calls Tryz.prog 19 #[.pointer (some ⟨tb, 0, none⟩), .string path] w fun e w' => RFolPost e (folF F path) ∧ Below w.heap.size w w' := by
  have HW : Hid _ := Lib.hid (isPath_any path w (by omega))
  have HOK := Lib.hid hF.ok
  have HIN := Lib.hid hF
  have HIS := Lib.hid hI
  have HAT := Lib.hid h
  obtain ⟨wt, hwt⟩ : ∃ wt, isPathR path = wt := ⟨_, rfl⟩
  rw [hwt] at HW
  cases wt with
  | false =>
    have hR : folF F path = .error 30 := by
      unfold folF
      rw [if_neg]
      rintro ⟨h1, h2⟩
      unfold isPathR at hwt
      rw [h1, h2] at hwt
      cases hwt
    rw [hR]
    unfold RFolPost
    clear hR hwt h hF hI
    go_enter Tryz.func19, Tryz.ntmps19
    go_wp2_with fail
    refine HW.out.mono ?_
    rintro e w' ⟨rfl, rfl⟩
    go_wp2_with fail
    go_ret2
    exact ⟨rfl, Below.refl _ _⟩
  | true =>
    unfold isPathR at hwt
    simp only [Bool.and_eq_true, decide_eq_true_eq] at hwt
    have hsz := within_size hwt.1
    obtain ⟨R, hR⟩ : ∃ R, folF F path = R := ⟨_, rfl⟩
    have HR0 : Hid (goFol F 50000 slash (partsR (restF path)) 0 = R) := Lib.hid (by rw [← hR, ← slashF_cut _ _ (Nat.le_refl _)]; unfold folF; rw [if_pos hwt])
    rw [hR]
    have h1' : (1 : Int) ≤ (path.size : Int) := by omega
    have HSP : Hid _ := Lib.hid (parts_any (restF path) w (by have := restF_size path; omega))
    have HSL : Hid ((partsR (restF path)).length ≤ 4097 ∧ ∀ x ∈ partsR (restF path), x.size ≤ 4096) := Lib.hid ⟨by have h1 := partsR_len (restF path); have h2 := restF_size path; omega, fun x hx => by have h1 := partsR_mem hx; have h2 := restF_size path; omega⟩
    unfold restF at HSP HSL HR0
    generalize partsR (path.extract 1 path.size) = L0 at *
    clear hwt hR h hF hI
    go_enter Tryz.func19, Tryz.ntmps19
    go_wp2_with fail
    refine HW.out.mono ?_
    rintro e w' ⟨rfl, rfl⟩
    go_wp2_with fail
    refine HSP.out.mono ?_
    rintro e w1 ⟨ad0, c0, rfl, ho1, hb1⟩
    have HO1 := Lib.hid ho1
    have HB1 := Lib.hid hb1
    clear ho1 hb1
    go_wp2_with fail
    go_loopg [7, 8, 9] 50000 (fun g1 av hv pv wr => ∃ (at' : ByteArray) (T : List ByteArray) (pa : Option Addr) (n pc hops : Nat), av = .string at' ∧ pv = .slice pa n pc ∧ hv = .int .i64 (hops : Int) ∧ Hid (goFol F g1 at' T hops = R ∧ T.length = n ∧ n ≤ pc ∧ hops ≤ 8 ∧ n + (8 - hops) * 5000 + 1 ≤ g1 ∧ 1 ≤ at'.size ∧ at'.size ≤ 4096 ∧ (∀ x ∈ T, x.size ≤ 4096) ∧ at'.get! 0 = 47) ∧ Hid (g1 ≤ 50000) ∧ Hid (TRow wr pa T) ∧ Hid (Below w.heap.size w wr))
    case atStart => exact ⟨slash, L0, ad0, L0.length, c0, 0, rfl, rfl, rfl, Lib.hid ⟨HR0.out, rfl, HO1.out.row.2.2, by omega, by have := HSL.out.1; omega, by rw [slash_one]; omega, by rw [slash_one]; omega, HSL.out.2, rfl⟩, Lib.hid (Nat.le_refl _), Lib.hid HO1.out.row.1, HB1⟩
    case round =>
      obtain ⟨at', T, pa, n, pc, hops, rfl, rfl, rfl, HG, GB, HTR, HBR⟩ := hrel
      clear HR0 HB1 HO1 HSP HW HSL
      cases T with
      | nil =>
        have hn0 : n = 0 := HG.out.2.1.symm
        have HE : Hid (R = .ok at') := Lib.hid (by rw [← HG.out.1]; exact goFol_nil _ _ _ _)
        subst hn0
        go_wp2_with fail
        go_ret2
        rw [HE.out]
        exact ⟨rfl, HBR.out⟩
      | cons p ps =>
        obtain ⟨g2, rfl⟩ : ∃ g2, gk = g2 + 1 := ⟨gk - 1, by have := HG.out.2.2.2.2.1; omega⟩
        obtain ⟨m, rfl⟩ : ∃ m, n = m + 1 := ⟨n - 1, by have := HG.out.2.1; simp only [List.length_cons] at this; omega⟩
        have HM : Hid (ps.length = m) := Lib.hid (by have := HG.out.2.1; simp only [List.length_cons] at this; omega)
        have hpc : m + 1 ≤ pc := HG.out.2.2.1
        have HRT : Hid (at'.get! 0 = 47) := Lib.hid HG.out.2.2.2.2.2.2.2.2
        have HOP : Hid (hops ≤ 8 ∧ m + (8 - hops) * 5000 + 1 ≤ g2 ∧ 1 ≤ at'.size ∧ at'.size ≤ 4096 ∧ p.size ≤ 4096 ∧ (∀ x ∈ ps, x.size ≤ 4096) ∧ g2 ≤ 50000) := Lib.hid ⟨HG.out.2.2.2.1, by have := HG.out.2.2.2.2.1; omega, HG.out.2.2.2.2.2.1, HG.out.2.2.2.2.2.2.1, HG.out.2.2.2.2.2.2.2.1 p (by simp), fun x hx => HG.out.2.2.2.2.2.2.2.1 x (by simp [hx]), by have := GB.out; omega⟩
        obtain ⟨b, o, rfl, hbl, hc0⟩ := HTR.out 0 (by simp)
        rw [List.getD_cons_zero, Nat.add_zero] at hc0
        have HTP : Hid (TRow wr (some ⟨b, o + 1, none⟩) ps) := Lib.hid (fun i hi => by
          obtain ⟨b', o', e, h1, h2⟩ := HTR.out (i + 1) (by simp; omega)
          simp only [Option.some.injEq, Addr.mk.injEq, and_true] at e
          obtain ⟨rfl, rfl⟩ := e
          refine ⟨b, o + 1, rfl, h1, ?_⟩
          rw [List.getD_cons_succ] at h2
          rw [show o + 1 + i = o + (i + 1) by omega]
          exact h2)
        have HGO := Lib.hid HG.out.1
        have HDI := Lib.hid (rdir_any tb c a L at' wr (HAT.out.below HBR.out))
        obtain ⟨e1, he1⟩ : ∃ e1, (F at').getD Ent.zero = e1 := ⟨_, rfl⟩
        have HE1 := Lib.hid he1
        have hdd := HIS.out.dir at'
        rw [he1] at hdd
        obtain ⟨d1, hd1⟩ : ∃ d1, (dirR L at').1 = d1 := ⟨_, rfl⟩
        obtain ⟨d2, hd2⟩ : ∃ d2, (dirR L at').2 = d2 := ⟨_, rfl⟩
        rw [hd1, hd2] at HDI
        rw [hd1] at hdd
        have HDD := Lib.hid hdd
        clear HG HTR he1 hbl hdd hd1 hd2
        rcases (show ¬ pc = 1 ∨ pc = 1 by omega) with hp1 | hp1
        · go_wp2_with fail
          refine HDI.out.mono ?_
          rintro e w3 ⟨rfl, hb3⟩
          have B3 : Hid (Below w.heap.size w w3) := Lib.hid (bstep HBR.out hb3)
          have T3 : Hid (TRow w3 (some ⟨b, o + 1, none⟩) ps) := Lib.hid (HTP.out.below hb3)
          clear hb3 hc0
          by_cases hk1 : e1.kind = 1
          · obtain rfl : d1 = true := by rw [HDD.out]; exact decide_eq_true hk1
            by_cases hq0 : p = ⟨#[]⟩
            · have HS : Hid (goFol F g2 at' ps hops = R) := Lib.hid (by rw [← HGO.out, goFol_cons, HE1.out, if_neg (by simp [hk1]), if_pos (.inl hq0)])
              subst hq0
              clear hk1 HE1
              go_wp2_with fail
              go_roundg g2
              case measure => omega
              case rel => exact ⟨at', ps, (some ⟨b, o + 1, none⟩), m, (pc - 1), hops, rfl, rfl, rfl, Lib.hid ⟨HS.out, HM.out, by omega, HOP.out.1, by have := HOP.out.2.1; omega, HOP.out.2.2.1, HOP.out.2.2.2.1, HOP.out.2.2.2.2.2.1, HRT.out⟩, Lib.hid (by have := GB.out; omega), T3, B3⟩
            by_cases hq1 : p = ⟨#[46]⟩
            · have HS : Hid (goFol F g2 at' ps hops = R) := Lib.hid (by rw [← HGO.out, goFol_cons, HE1.out, if_neg (by simp [hk1]), if_pos (.inr hq1)])
              subst hq1
              clear hk1 HE1 hq0
              go_wp2_with fail
              go_roundg g2
              case measure => omega
              case rel => exact ⟨at', ps, (some ⟨b, o + 1, none⟩), m, (pc - 1), hops, rfl, rfl, rfl, Lib.hid ⟨HS.out, HM.out, by omega, HOP.out.1, by have := HOP.out.2.1; omega, HOP.out.2.2.1, HOP.out.2.2.2.1, HOP.out.2.2.2.2.2.1, HRT.out⟩, Lib.hid (by have := GB.out; omega), T3, B3⟩
            have hn0 : (p.toList == []) = false := by
              have := text_ne hq0
              rwa [show (⟨#[]⟩ : ByteArray).toList = [] by rw [ByteArray.toList_eq]] at this
            have hn1 : (p.toList == [46]) = false := by
              have := text_ne hq1
              rwa [show (⟨#[46]⟩ : ByteArray).toList = [46] by rw [ByteArray.toList_eq]] at this
            by_cases hq2 : p = ⟨#[46, 46]⟩
            · have HS : Hid (goFol F g2 (parentF at') ps hops = R) := Lib.hid (by rw [← HGO.out, goFol_cons, HE1.out, if_neg (by simp [hk1]), if_neg (by rintro (h | h); exact hq0 h; exact hq1 h), if_pos hq2])
              have hup := up_any at' w3 HOP.out.2.2.1 (by have := HOP.out.2.2.2.1; omega)
              rw [upR_parent HOP.out.2.2.1 HRT.out] at hup
              have HPA := Lib.hid hup
              have HPS := Lib.hid (parent_size at' HOP.out.2.2.1)
              have HPR := Lib.hid (parent_rooted HOP.out.2.2.1 HRT.out)
              subst hq2
              clear hk1 HE1 hq0 hq1 hn0 hn1 hup
              go_wp2_with fail
              refine HPA.out.mono ?_
              rintro e w' ⟨rfl, rfl⟩
              go_wp2_with fail
              go_roundg g2
              case measure => omega
              case rel => exact ⟨parentF at', ps, (some ⟨b, o + 1, none⟩), m, (pc - 1), hops, rfl, rfl, rfl, Lib.hid ⟨HS.out, HM.out, by omega, HOP.out.1, by have := HOP.out.2.1; omega, HPS.out.1, by have h1 := HPS.out.2; have h2 := HOP.out.2.2.2.1; omega, HOP.out.2.2.2.2.2.1, HPR.out⟩, Lib.hid (by have := GB.out; omega), T3, B3⟩
            have hn2 : (p.toList == [46, 46]) = false := by
              have := text_ne hq2
              rwa [show (⟨#[46, 46]⟩ : ByteArray).toList = [46, 46] by rw [ByteArray.toList_eq]] at this
            have HS : Hid ((match F (joinF at' p) with
                | none => .error 6
                | some e =>
                  if e.kind ≠ 2 then goFol F g2 (joinF at' p) ps hops
                  else if 8 < hops + 1 then .error 15
                  else if e.to.get! 0 = 47 then goFol F g2 slash (slashF (restF e.to) ++ ps) (hops + 1)
                  else goFol F g2 at' (slashF e.to ++ ps) (hops + 1)) = R) := Lib.hid (by rw [← HGO.out, goFol_cons, HE1.out, if_neg (by simp [hk1]), if_neg (by rintro (h | h); exact hq0 h; exact hq1 h), if_neg hq2]; rfl)
            have hjs := join_size at' p
            have HJS : Hid ((joinF at' p).size ≤ 8193) := Lib.hid (by have h1 := HOP.out.2.2.2.1; have h2 := HOP.out.2.2.2.2.1; omega)
            have HJN := Lib.hid (join_slash (a := at') hq0)
            have HFI := Lib.hid (rfind_any tb c a L (joinF at' p) w3 (HAT.out.below B3.out))
            have z1 : (9223372036854775807 < at'.size + 1) = False := eq_false (by have := HOP.out.2.2.2.1; omega)
            have z2 : (9223372036854775807 < at'.size + 1 + p.size) = False := eq_false (by have h1 := HOP.out.2.2.2.1; have h2 := HOP.out.2.2.2.2.1; omega)
            have z3 : (9223372036854775807 < 1 + p.size) = False := eq_false (by have h2 := HOP.out.2.2.2.2.1; omega)
            have z4 : (9223372036854775807 < 2 + p.size) = False := eq_false (by have h2 := HOP.out.2.2.2.2.1; omega)
            have z5 : (9223372036854775807 < 1 + 1 + p.size) = False := eq_false (by have h2 := HOP.out.2.2.2.2.1; omega)
            have HJE : Hid (joinF at' p = if at' = slash then slash ++ p else at' ++ slash ++ p) := Lib.hid rfl
            clear hk1 HE1 hq0 hq1 hq2 hjs HGO
            have fin : ∀ (nx : ByteArray), joinF at' p = nx → Hid (findR L nx = findR L nx) := fun nx _ => Lib.hid rfl
            clear fin
            by_cases hat : at' = slash
            · have hje : joinF at' p = slash ++ p := by rw [HJE.out, if_pos hat]
              rw [hje] at HS HJS HJN HFI
              have hat47 : at' = ⟨#[47]⟩ := hat
              unfold slash at HS HJS HJN HFI
              subst hat47
              clear hje hat HJE
              go_wp2_with fail
              clear z1 z2 z3 z4 z5 hn0 hn1 hn2
              generalize (⟨#[47]⟩ : ByteArray) ++ p = nx at *
              refine HFI.out.mono ?_
              rintro e w4 ⟨rfl, hb4⟩
              have B4 : Hid (Below w.heap.size w w4) := Lib.hid (bstep B3.out hb4)
              have T4 : Hid (TRow w4 (some ⟨b, o + 1, none⟩) ps) := Lib.hid (T3.out.below hb4)
              clear hb4
              cases hfx : F nx with
              | none =>
                have HE : Hid (R = .error 6) := Lib.hid (by have := HS.out; rw [hfx] at this; exact this.symm)
                rw [HIS.out.lacks HJN.out hfx]
                clear HS hfx
                go_wp2_with fail
                go_ret2
                rw [HE.out]
                exact ⟨rfl, B4.out⟩
              | some e3 =>
                obtain ⟨i, hi, hfi, -, -, -, hk2, htgt⟩ := HIS.out.has HJN.out hfx
                rw [hfi]
                have HFX := Lib.hid hfx
                have HKY := Lib.hid (HOK.out.keys nx e3 hfx)
                have HKR := Lib.hid (rooted_in HIN.out hfx)
                have HLN := Lib.hid (HOK.out.links nx e3 hfx)
                obtain ⟨ln, hln⟩ : ∃ ln, L.length = ln := ⟨_, rfl⟩
                have HTC : Hid (∀ wx, Below w.heap.size w wx → wx.cell? ⟨tb, 0, none⟩ = some (.slice a ln c)) := Lib.hid (fun wx hb => by
                  have := cell_of_row _ _ 0 _ _ _ (HAT.out.below hb).box
                  rw [hln] at this
                  simpa using this)
                have hlm := HAT.out.many
                have hil : i < ln := by omega
                have hi0 : ¬ ((i : Int) < 0) := by omega
                obtain ⟨b2, o2, ha, hb2, hcs⟩ := (HAT.out.below B4.out).row i hi
                have HND : Hid (∀ wx, Below w4.heap.size w4 wx → wx.cell? ⟨b2, o2 + i * 5 + 1, none⟩ = some (.int .i64 (L[i]'hi).kind) ∧ wx.cell? ⟨b2, o2 + i * 5 + 3, none⟩ = some (.string (L[i]'hi).tgt)) := Lib.hid (fun wx hb => ⟨(hb.cell (p := ⟨b2, o2 + i * 5 + 1, none⟩) hb2).trans (hcs 1 (by omega)), (hb.cell (p := ⟨b2, o2 + i * 5 + 3, none⟩) hb2).trans (hcs 3 (by omega))⟩)
                generalize (L[i]'hi).kind = q at *
                generalize (L[i]'hi).tgt = tgt at *
                obtain ⟨c1, c3⟩ := HND.out w4 (Below.refl _ _)
                have t0 := HTC.out w4 B4.out
                rw [ha] at t0
                have HTG := Lib.hid htgt
                have HLM : Hid (i < ln ∧ ln ≤ 1024) := Lib.hid ⟨hil, by omega⟩
                clear hfi hcs hb2 hlm hfx htgt hi
                by_cases hk3 : e3.kind = 2
                · obtain rfl : q = 2 := hk2.1 hk3
                  have HK2 := Lib.hid hk3
                  have hto : e3.to = tgt := HTG.out hk3
                  have HTO : Hid (1 ≤ tgt.size ∧ tgt.size ≤ 4096) := Lib.hid (by rw [← hto]; exact HLN.out hk3)
                  by_cases hh : hops = 8
                  · have HE : Hid (R = .error 15) := Lib.hid (by
                      have := HS.out
                      rw [HFX.out] at this
                      simp only [] at this
                      rw [if_neg (by simp [hk3]), if_pos (by omega)] at this
                      exact this.symm)
                    subst hh
                    clear HS hk3 hk2 hto
                    go_wp2_with fail
                    go_ret2
                    rw [HE.out]
                    exact ⟨rfl, B4.out⟩
                  · have HHO : Hid (hops ≤ 7) := Lib.hid (by have := HOP.out.1; omega)
                    have hh8 : ¬ (8 : Int) < ((hops + 1 : Nat) : Int) := by have := HHO.out; omega
                    have hh8' : ¬ (8 : Int) < (hops : Int) + 1 := by have := HHO.out; omega
                    have hw1 : IntKind.i64.wrap ((hops : Int) + 1) = ((hops + 1 : Nat) : Int) := by have := HOP.out.1; rw [IntKind.wrap_i64]; omega
                    have hx := first_bang tgt (by have := HTO.out.1; omega)
                    have hto0 : (0 : Int) < (tgt.size : Int) := by have := HTO.out.1; omega
                    have hto1 : (1 : Int) ≤ (tgt.size : Int) := by omega
                    by_cases h47 : tgt.get! 0 = 47
                    · have hb : (((tgt[0]'(by have := HTO.out.1; omega)).toNat : Int) == 47) = true := by rw [← hx, h47]; rfl
                      have HSX : Hid (goFol F g2 slash (partsR (restF tgt) ++ ps) (hops + 1) = R) := Lib.hid (by have := HS.out; rw [HFX.out] at this; simp only [] at this; rwa [if_neg (by simp [HK2.out]), if_neg (by omega), hto, if_pos h47, slashF_cut _ _ (Nat.le_refl _)] at this)
                      have HSP : Hid (∀ wx, Calls Tryz.prog 22 #[.string (restF tgt)] wx fun e w' => ∃ ad c, e = .returned (.slice ad (partsR (restF tgt)).length c) ∧ OwnT w' wx.heap.size 9 (.slice ad (partsR (restF tgt)).length c) (partsR (restF tgt)) ∧ Below wx.heap.size wx w') := Lib.hid (fun wx => parts_any (restF tgt) wx (by have h1 := restF_size tgt; have h2 := HTO.out; omega))
                      have HSL : Hid ((1 ≤ (partsR (restF tgt)).length ∧ (partsR (restF tgt)).length ≤ 4097) ∧ ∀ x ∈ partsR (restF tgt), x.size ≤ 4096) := Lib.hid ⟨by have h0 := partsR_pos (restF tgt); have h1 := partsR_len (restF tgt); have h2 := restF_size tgt; have h3 := HTO.out; omega, fun x hx => by have h1 := partsR_mem hx; have h2 := restF_size tgt; have h3 := HTO.out; omega⟩
                      unfold restF at HSX HSP HSL
                      generalize partsR (tgt.extract 1 tgt.size) = L2 at *
                      clear HS hx hk3 hk2 hto h47
                      go_wp2_with fail
                      refine (HSP.out w4).mono ?_
                      rintro e w5 ⟨ad5, c5, rfl, ho5, hb5⟩
                      have O5 := Lib.hid ho5
                      have B5 : Hid (Below w.heap.size w w5) := Lib.hid (bstep B4.out hb5)
                      have T5 : Hid (TRow w5 (some ⟨b, o + 1, none⟩) ps) := Lib.hid (T4.out.below hb5)
                      have ND : Hid (m + L2.length ≤ 60000) := Lib.hid (by have h1 := HSL.out.1; have h2 := HOP.out.2.1; have h3 := HOP.out.2.2.2.2.2.2; omega)
                      have HNE : Hid (ad5.isSome = true) := Lib.hid (by
                        obtain ⟨b', o', e, -⟩ := O5.out.row.1 0 (by have := HSL.out.1; omega)
                        rw [e]
                        rfl)
                      clear ho5 hb5
                      go_wp2_with (first | (at_builtin; (refine wpList_texts rfl (.tmp 90) (.tmp 92) texts_t text_info rfl w5.heap.size w5 (.slice none 0 0) [] 0 ad5 c5 L2.length L2 rfl (by rfl) rfl rfl O5.out.row.1 (fun h => absurd (HNE.out) (fun hh => by rw [h] at hh; cases hh)) (OwnT.nil _ _ _) (by have := ND.out; unfold maxLen; omega) (by have := ND.out; omega) (Below.refl _ _) (Nat.le_refl _) ?_; intro v6 w6 ho6 hb6; rw [List.nil_append] at ho6; obtain ⟨ad6, c6, rfl⟩ := ho6.form; have O6 := Lib.hid ho6; have B6 : Hid (Below w.heap.size w w6) := Lib.hid (bstep B5.out hb6); have T6 : Hid (TRow w6 (some ⟨b, o + 1, none⟩) ps) := Lib.hid (T5.out.below hb6); clear ho6 hb6)) | (at_builtin; (refine wpList_texts rfl (.tmp 94) (.tmp 95) texts_t text_info rfl w.heap.size w (.slice ad6 L2.length c6) L2 L2.length (some ⟨b, o + 1, none⟩) (pc - 1) m ps rfl (by rfl) rfl HM.out T6.out (fun h => by cases h) (O6.out.mono B5.out.size) (by have := ND.out; unfold maxLen; omega) (by have := ND.out; omega) B6.out B6.out.size ?_; intro v7 w7 ho7 hb7; obtain ⟨ad7, c7, rfl⟩ := ho7.form; have O7 := Lib.hid ho7; have B7 := Lib.hid hb7; clear ho7 hb7)))
                      go_roundg g2
                      case measure => omega
                      case rel => exact ⟨slash, L2 ++ ps, ad7, (L2 ++ ps).length, c7, hops + 1, rfl, by simp [HM.out], by go_num, Lib.hid ⟨HSX.out, rfl, O7.out.row.2.2, by have := HHO.out; omega, by rw [List.length_append]; have h1 := HSL.out.1; have h2 := HOP.out.2.1; have h3 := HHO.out; have h4 := HM.out; omega, by rw [slash_one]; omega, by rw [slash_one]; omega, fun x hx => by
                        rcases List.mem_append.1 hx with h | h
                        · exact HSL.out.2 x h
                        · exact HOP.out.2.2.2.2.2.1 x h, rfl⟩, Lib.hid (by have := GB.out; omega), Lib.hid O7.out.row.1, B7⟩
                    · have hb : (((tgt[0]'(by have := HTO.out.1; omega)).toNat : Int) == 47) = false := by
                        rw [beq_eq_false_iff_ne]
                        intro e
                        apply h47
                        rw [hx]
                        exact UInt8.toNat_inj.1 (by show _ = 47; omega)
                      have HSX : Hid (goFol F g2 ⟨#[47]⟩ (partsR tgt ++ ps) (hops + 1) = R) := Lib.hid (by have := HS.out; rw [HFX.out] at this; simp only [] at this; rwa [if_neg (by simp [HK2.out]), if_neg (by omega), hto, if_neg h47, slashF_cut _ _ (Nat.le_refl _)] at this)
                      have HSP : Hid (∀ wx, Calls Tryz.prog 22 #[.string tgt] wx fun e w' => ∃ ad c, e = .returned (.slice ad (partsR tgt).length c) ∧ OwnT w' wx.heap.size 9 (.slice ad (partsR tgt).length c) (partsR tgt) ∧ Below wx.heap.size wx w') := Lib.hid (fun wx => parts_any tgt wx (by have h2 := HTO.out; omega))
                      have HSL : Hid ((1 ≤ (partsR tgt).length ∧ (partsR tgt).length ≤ 4097) ∧ ∀ x ∈ partsR tgt, x.size ≤ 4096) := Lib.hid ⟨by have h0 := partsR_pos tgt; have h1 := partsR_len tgt; have h3 := HTO.out; omega, fun x hx => by have h1 := partsR_mem hx; have h3 := HTO.out; omega⟩
                      generalize partsR tgt = L2 at *
                      clear HS hx hk3 hk2 hto h47
                      go_wp2_with fail
                      refine (HSP.out w4).mono ?_
                      rintro e w5 ⟨ad5, c5, rfl, ho5, hb5⟩
                      have O5 := Lib.hid ho5
                      have B5 : Hid (Below w.heap.size w w5) := Lib.hid (bstep B4.out hb5)
                      have T5 : Hid (TRow w5 (some ⟨b, o + 1, none⟩) ps) := Lib.hid (T4.out.below hb5)
                      have ND : Hid (m + L2.length ≤ 60000) := Lib.hid (by have h1 := HSL.out.1; have h2 := HOP.out.2.1; have h3 := HOP.out.2.2.2.2.2.2; omega)
                      have HNE : Hid (ad5.isSome = true) := Lib.hid (by
                        obtain ⟨b', o', e, -⟩ := O5.out.row.1 0 (by have := HSL.out.1; omega)
                        rw [e]
                        rfl)
                      clear ho5 hb5
                      go_wp2_with (first | (at_builtin; (refine wpList_texts rfl (.tmp 90) (.tmp 92) texts_t text_info rfl w5.heap.size w5 (.slice none 0 0) [] 0 ad5 c5 L2.length L2 rfl (by rfl) rfl rfl O5.out.row.1 (fun h => absurd (HNE.out) (fun hh => by rw [h] at hh; cases hh)) (OwnT.nil _ _ _) (by have := ND.out; unfold maxLen; omega) (by have := ND.out; omega) (Below.refl _ _) (Nat.le_refl _) ?_; intro v6 w6 ho6 hb6; rw [List.nil_append] at ho6; obtain ⟨ad6, c6, rfl⟩ := ho6.form; have O6 := Lib.hid ho6; have B6 : Hid (Below w.heap.size w w6) := Lib.hid (bstep B5.out hb6); have T6 : Hid (TRow w6 (some ⟨b, o + 1, none⟩) ps) := Lib.hid (T5.out.below hb6); clear ho6 hb6)) | (at_builtin; (refine wpList_texts rfl (.tmp 94) (.tmp 95) texts_t text_info rfl w.heap.size w (.slice ad6 L2.length c6) L2 L2.length (some ⟨b, o + 1, none⟩) (pc - 1) m ps rfl (by rfl) rfl HM.out T6.out (fun h => by cases h) (O6.out.mono B5.out.size) (by have := ND.out; unfold maxLen; omega) (by have := ND.out; omega) B6.out B6.out.size ?_; intro v7 w7 ho7 hb7; obtain ⟨ad7, c7, rfl⟩ := ho7.form; have O7 := Lib.hid ho7; have B7 := Lib.hid hb7; clear ho7 hb7)))
                      go_roundg g2
                      case measure => omega
                      case rel => exact ⟨⟨#[47]⟩, L2 ++ ps, ad7, (L2 ++ ps).length, c7, hops + 1, rfl, by simp [HM.out], by go_num, Lib.hid ⟨HSX.out, rfl, O7.out.row.2.2, by have := HHO.out; omega, by rw [List.length_append]; have h1 := HSL.out.1; have h2 := HOP.out.2.1; have h3 := HHO.out; have h4 := HM.out; omega, HOP.out.2.2.1, HOP.out.2.2.2.1, fun x hx => by
                        rcases List.mem_append.1 hx with h | h
                        · exact HSL.out.2 x h
                        · exact HOP.out.2.2.2.2.2.1 x h, HRT.out⟩, Lib.hid (by have := GB.out; omega), Lib.hid O7.out.row.1, B7⟩
                · have hk4 : (q != 2) = true := by rw [bne_iff_ne]; exact fun e => hk3 (hk2.2 e)
                  have HSX : Hid (goFol F g2 nx ps hops = R) := Lib.hid (by
                    have := HS.out
                    rw [HFX.out] at this
                    simp only [] at this
                    rwa [if_pos hk3] at this)
                  clear HS hk3 hk2
                  go_wp2_with fail
                  go_roundg g2
                  case measure => omega
                  case rel => exact ⟨nx, ps, (some ⟨b, o + 1, none⟩), m, (pc - 1), hops, rfl, rfl, rfl, Lib.hid ⟨HSX.out, HM.out, by omega, HOP.out.1, by have := HOP.out.2.1; omega, HKY.out.1, HKY.out.2, HOP.out.2.2.2.2.2.1, HKR.out⟩, Lib.hid (by have := GB.out; omega), T4, B4⟩
            · have hje : joinF at' p = at' ++ slash ++ p := by rw [HJE.out, if_neg hat]
              rw [hje] at HS HJS HJN HFI
              have hnat : (at'.toList == [47]) = false := by
                have := text_ne hat
                rwa [show slash.toList = [47] from slash_list] at this
              unfold slash at HS HJS HJN HFI
              clear hje hat HJE
              go_wp2_with fail
              clear z1 z2 z3 z4 z5 hn0 hn1 hn2 hnat
              generalize at' ++ (⟨#[47]⟩ : ByteArray) ++ p = nx at *
              refine HFI.out.mono ?_
              rintro e w4 ⟨rfl, hb4⟩
              have B4 : Hid (Below w.heap.size w w4) := Lib.hid (bstep B3.out hb4)
              have T4 : Hid (TRow w4 (some ⟨b, o + 1, none⟩) ps) := Lib.hid (T3.out.below hb4)
              clear hb4
              cases hfx : F nx with
              | none =>
                have HE : Hid (R = .error 6) := Lib.hid (by have := HS.out; rw [hfx] at this; exact this.symm)
                rw [HIS.out.lacks HJN.out hfx]
                clear HS hfx
                go_wp2_with fail
                go_ret2
                rw [HE.out]
                exact ⟨rfl, B4.out⟩
              | some e3 =>
                obtain ⟨i, hi, hfi, -, -, -, hk2, htgt⟩ := HIS.out.has HJN.out hfx
                rw [hfi]
                have HFX := Lib.hid hfx
                have HKY := Lib.hid (HOK.out.keys nx e3 hfx)
                have HKR := Lib.hid (rooted_in HIN.out hfx)
                have HLN := Lib.hid (HOK.out.links nx e3 hfx)
                obtain ⟨ln, hln⟩ : ∃ ln, L.length = ln := ⟨_, rfl⟩
                have HTC : Hid (∀ wx, Below w.heap.size w wx → wx.cell? ⟨tb, 0, none⟩ = some (.slice a ln c)) := Lib.hid (fun wx hb => by
                  have := cell_of_row _ _ 0 _ _ _ (HAT.out.below hb).box
                  rw [hln] at this
                  simpa using this)
                have hlm := HAT.out.many
                have hil : i < ln := by omega
                have hi0 : ¬ ((i : Int) < 0) := by omega
                obtain ⟨b2, o2, ha, hb2, hcs⟩ := (HAT.out.below B4.out).row i hi
                have HND : Hid (∀ wx, Below w4.heap.size w4 wx → wx.cell? ⟨b2, o2 + i * 5 + 1, none⟩ = some (.int .i64 (L[i]'hi).kind) ∧ wx.cell? ⟨b2, o2 + i * 5 + 3, none⟩ = some (.string (L[i]'hi).tgt)) := Lib.hid (fun wx hb => ⟨(hb.cell (p := ⟨b2, o2 + i * 5 + 1, none⟩) hb2).trans (hcs 1 (by omega)), (hb.cell (p := ⟨b2, o2 + i * 5 + 3, none⟩) hb2).trans (hcs 3 (by omega))⟩)
                generalize (L[i]'hi).kind = q at *
                generalize (L[i]'hi).tgt = tgt at *
                obtain ⟨c1, c3⟩ := HND.out w4 (Below.refl _ _)
                have t0 := HTC.out w4 B4.out
                rw [ha] at t0
                have HTG := Lib.hid htgt
                have HLM : Hid (i < ln ∧ ln ≤ 1024) := Lib.hid ⟨hil, by omega⟩
                clear hfi hcs hb2 hlm hfx htgt hi
                by_cases hk3 : e3.kind = 2
                · obtain rfl : q = 2 := hk2.1 hk3
                  have HK2 := Lib.hid hk3
                  have hto : e3.to = tgt := HTG.out hk3
                  have HTO : Hid (1 ≤ tgt.size ∧ tgt.size ≤ 4096) := Lib.hid (by rw [← hto]; exact HLN.out hk3)
                  by_cases hh : hops = 8
                  · have HE : Hid (R = .error 15) := Lib.hid (by
                      have := HS.out
                      rw [HFX.out] at this
                      simp only [] at this
                      rw [if_neg (by simp [hk3]), if_pos (by omega)] at this
                      exact this.symm)
                    subst hh
                    clear HS hk3 hk2 hto
                    go_wp2_with fail
                    go_ret2
                    rw [HE.out]
                    exact ⟨rfl, B4.out⟩
                  · have HHO : Hid (hops ≤ 7) := Lib.hid (by have := HOP.out.1; omega)
                    have hh8 : ¬ (8 : Int) < ((hops + 1 : Nat) : Int) := by have := HHO.out; omega
                    have hh8' : ¬ (8 : Int) < (hops : Int) + 1 := by have := HHO.out; omega
                    have hw1 : IntKind.i64.wrap ((hops : Int) + 1) = ((hops + 1 : Nat) : Int) := by have := HOP.out.1; rw [IntKind.wrap_i64]; omega
                    have hx := first_bang tgt (by have := HTO.out.1; omega)
                    have hto0 : (0 : Int) < (tgt.size : Int) := by have := HTO.out.1; omega
                    have hto1 : (1 : Int) ≤ (tgt.size : Int) := by omega
                    by_cases h47 : tgt.get! 0 = 47
                    · have hb : (((tgt[0]'(by have := HTO.out.1; omega)).toNat : Int) == 47) = true := by rw [← hx, h47]; rfl
                      have HSX : Hid (goFol F g2 slash (partsR (restF tgt) ++ ps) (hops + 1) = R) := Lib.hid (by have := HS.out; rw [HFX.out] at this; simp only [] at this; rwa [if_neg (by simp [HK2.out]), if_neg (by omega), hto, if_pos h47, slashF_cut _ _ (Nat.le_refl _)] at this)
                      have HSP : Hid (∀ wx, Calls Tryz.prog 22 #[.string (restF tgt)] wx fun e w' => ∃ ad c, e = .returned (.slice ad (partsR (restF tgt)).length c) ∧ OwnT w' wx.heap.size 9 (.slice ad (partsR (restF tgt)).length c) (partsR (restF tgt)) ∧ Below wx.heap.size wx w') := Lib.hid (fun wx => parts_any (restF tgt) wx (by have h1 := restF_size tgt; have h2 := HTO.out; omega))
                      have HSL : Hid ((1 ≤ (partsR (restF tgt)).length ∧ (partsR (restF tgt)).length ≤ 4097) ∧ ∀ x ∈ partsR (restF tgt), x.size ≤ 4096) := Lib.hid ⟨by have h0 := partsR_pos (restF tgt); have h1 := partsR_len (restF tgt); have h2 := restF_size tgt; have h3 := HTO.out; omega, fun x hx => by have h1 := partsR_mem hx; have h2 := restF_size tgt; have h3 := HTO.out; omega⟩
                      unfold restF at HSX HSP HSL
                      generalize partsR (tgt.extract 1 tgt.size) = L2 at *
                      clear HS hx hk3 hk2 hto h47
                      go_wp2_with fail
                      refine (HSP.out w4).mono ?_
                      rintro e w5 ⟨ad5, c5, rfl, ho5, hb5⟩
                      have O5 := Lib.hid ho5
                      have B5 : Hid (Below w.heap.size w w5) := Lib.hid (bstep B4.out hb5)
                      have T5 : Hid (TRow w5 (some ⟨b, o + 1, none⟩) ps) := Lib.hid (T4.out.below hb5)
                      have ND : Hid (m + L2.length ≤ 60000) := Lib.hid (by have h1 := HSL.out.1; have h2 := HOP.out.2.1; have h3 := HOP.out.2.2.2.2.2.2; omega)
                      have HNE : Hid (ad5.isSome = true) := Lib.hid (by
                        obtain ⟨b', o', e, -⟩ := O5.out.row.1 0 (by have := HSL.out.1; omega)
                        rw [e]
                        rfl)
                      clear ho5 hb5
                      go_wp2_with (first | (at_builtin; (refine wpList_texts rfl (.tmp 90) (.tmp 92) texts_t text_info rfl w5.heap.size w5 (.slice none 0 0) [] 0 ad5 c5 L2.length L2 rfl (by rfl) rfl rfl O5.out.row.1 (fun h => absurd (HNE.out) (fun hh => by rw [h] at hh; cases hh)) (OwnT.nil _ _ _) (by have := ND.out; unfold maxLen; omega) (by have := ND.out; omega) (Below.refl _ _) (Nat.le_refl _) ?_; intro v6 w6 ho6 hb6; rw [List.nil_append] at ho6; obtain ⟨ad6, c6, rfl⟩ := ho6.form; have O6 := Lib.hid ho6; have B6 : Hid (Below w.heap.size w w6) := Lib.hid (bstep B5.out hb6); have T6 : Hid (TRow w6 (some ⟨b, o + 1, none⟩) ps) := Lib.hid (T5.out.below hb6); clear ho6 hb6)) | (at_builtin; (refine wpList_texts rfl (.tmp 94) (.tmp 95) texts_t text_info rfl w.heap.size w (.slice ad6 L2.length c6) L2 L2.length (some ⟨b, o + 1, none⟩) (pc - 1) m ps rfl (by rfl) rfl HM.out T6.out (fun h => by cases h) (O6.out.mono B5.out.size) (by have := ND.out; unfold maxLen; omega) (by have := ND.out; omega) B6.out B6.out.size ?_; intro v7 w7 ho7 hb7; obtain ⟨ad7, c7, rfl⟩ := ho7.form; have O7 := Lib.hid ho7; have B7 := Lib.hid hb7; clear ho7 hb7)))
                      go_roundg g2
                      case measure => omega
                      case rel => exact ⟨slash, L2 ++ ps, ad7, (L2 ++ ps).length, c7, hops + 1, rfl, by simp [HM.out], by go_num, Lib.hid ⟨HSX.out, rfl, O7.out.row.2.2, by have := HHO.out; omega, by rw [List.length_append]; have h1 := HSL.out.1; have h2 := HOP.out.2.1; have h3 := HHO.out; have h4 := HM.out; omega, by rw [slash_one]; omega, by rw [slash_one]; omega, fun x hx => by
                        rcases List.mem_append.1 hx with h | h
                        · exact HSL.out.2 x h
                        · exact HOP.out.2.2.2.2.2.1 x h, rfl⟩, Lib.hid (by have := GB.out; omega), Lib.hid O7.out.row.1, B7⟩
                    · have hb : (((tgt[0]'(by have := HTO.out.1; omega)).toNat : Int) == 47) = false := by
                        rw [beq_eq_false_iff_ne]
                        intro e
                        apply h47
                        rw [hx]
                        exact UInt8.toNat_inj.1 (by show _ = 47; omega)
                      have HSX : Hid (goFol F g2 at' (partsR tgt ++ ps) (hops + 1) = R) := Lib.hid (by have := HS.out; rw [HFX.out] at this; simp only [] at this; rwa [if_neg (by simp [HK2.out]), if_neg (by omega), hto, if_neg h47, slashF_cut _ _ (Nat.le_refl _)] at this)
                      have HSP : Hid (∀ wx, Calls Tryz.prog 22 #[.string tgt] wx fun e w' => ∃ ad c, e = .returned (.slice ad (partsR tgt).length c) ∧ OwnT w' wx.heap.size 9 (.slice ad (partsR tgt).length c) (partsR tgt) ∧ Below wx.heap.size wx w') := Lib.hid (fun wx => parts_any tgt wx (by have h2 := HTO.out; omega))
                      have HSL : Hid ((1 ≤ (partsR tgt).length ∧ (partsR tgt).length ≤ 4097) ∧ ∀ x ∈ partsR tgt, x.size ≤ 4096) := Lib.hid ⟨by have h0 := partsR_pos tgt; have h1 := partsR_len tgt; have h3 := HTO.out; omega, fun x hx => by have h1 := partsR_mem hx; have h3 := HTO.out; omega⟩
                      generalize partsR tgt = L2 at *
                      clear HS hx hk3 hk2 hto h47
                      go_wp2_with fail
                      refine (HSP.out w4).mono ?_
                      rintro e w5 ⟨ad5, c5, rfl, ho5, hb5⟩
                      have O5 := Lib.hid ho5
                      have B5 : Hid (Below w.heap.size w w5) := Lib.hid (bstep B4.out hb5)
                      have T5 : Hid (TRow w5 (some ⟨b, o + 1, none⟩) ps) := Lib.hid (T4.out.below hb5)
                      have ND : Hid (m + L2.length ≤ 60000) := Lib.hid (by have h1 := HSL.out.1; have h2 := HOP.out.2.1; have h3 := HOP.out.2.2.2.2.2.2; omega)
                      have HNE : Hid (ad5.isSome = true) := Lib.hid (by
                        obtain ⟨b', o', e, -⟩ := O5.out.row.1 0 (by have := HSL.out.1; omega)
                        rw [e]
                        rfl)
                      clear ho5 hb5
                      go_wp2_with (first | (at_builtin; (refine wpList_texts rfl (.tmp 90) (.tmp 92) texts_t text_info rfl w5.heap.size w5 (.slice none 0 0) [] 0 ad5 c5 L2.length L2 rfl (by rfl) rfl rfl O5.out.row.1 (fun h => absurd (HNE.out) (fun hh => by rw [h] at hh; cases hh)) (OwnT.nil _ _ _) (by have := ND.out; unfold maxLen; omega) (by have := ND.out; omega) (Below.refl _ _) (Nat.le_refl _) ?_; intro v6 w6 ho6 hb6; rw [List.nil_append] at ho6; obtain ⟨ad6, c6, rfl⟩ := ho6.form; have O6 := Lib.hid ho6; have B6 : Hid (Below w.heap.size w w6) := Lib.hid (bstep B5.out hb6); have T6 : Hid (TRow w6 (some ⟨b, o + 1, none⟩) ps) := Lib.hid (T5.out.below hb6); clear ho6 hb6)) | (at_builtin; (refine wpList_texts rfl (.tmp 94) (.tmp 95) texts_t text_info rfl w.heap.size w (.slice ad6 L2.length c6) L2 L2.length (some ⟨b, o + 1, none⟩) (pc - 1) m ps rfl (by rfl) rfl HM.out T6.out (fun h => by cases h) (O6.out.mono B5.out.size) (by have := ND.out; unfold maxLen; omega) (by have := ND.out; omega) B6.out B6.out.size ?_; intro v7 w7 ho7 hb7; obtain ⟨ad7, c7, rfl⟩ := ho7.form; have O7 := Lib.hid ho7; have B7 := Lib.hid hb7; clear ho7 hb7)))
                      go_roundg g2
                      case measure => omega
                      case rel => exact ⟨at', L2 ++ ps, ad7, (L2 ++ ps).length, c7, hops + 1, rfl, by simp [HM.out], by go_num, Lib.hid ⟨HSX.out, rfl, O7.out.row.2.2, by have := HHO.out; omega, by rw [List.length_append]; have h1 := HSL.out.1; have h2 := HOP.out.2.1; have h3 := HHO.out; have h4 := HM.out; omega, HOP.out.2.2.1, HOP.out.2.2.2.1, fun x hx => by
                        rcases List.mem_append.1 hx with h | h
                        · exact HSL.out.2 x h
                        · exact HOP.out.2.2.2.2.2.1 x h, HRT.out⟩, Lib.hid (by have := GB.out; omega), Lib.hid O7.out.row.1, B7⟩
                · have hk4 : (q != 2) = true := by rw [bne_iff_ne]; exact fun e => hk3 (hk2.2 e)
                  have HSX : Hid (goFol F g2 nx ps hops = R) := Lib.hid (by
                    have := HS.out
                    rw [HFX.out] at this
                    simp only [] at this
                    rwa [if_pos hk3] at this)
                  clear HS hk3 hk2
                  go_wp2_with fail
                  go_roundg g2
                  case measure => omega
                  case rel => exact ⟨nx, ps, (some ⟨b, o + 1, none⟩), m, (pc - 1), hops, rfl, rfl, rfl, Lib.hid ⟨HSX.out, HM.out, by omega, HOP.out.1, by have := HOP.out.2.1; omega, HKY.out.1, HKY.out.2, HOP.out.2.2.2.2.2.1, HKR.out⟩, Lib.hid (by have := GB.out; omega), T4, B4⟩
          · obtain rfl : d1 = false := by rw [HDD.out]; exact decide_eq_false hk1
            have HE : Hid (R = .error 16) := Lib.hid (by rw [← HGO.out, goFol_cons, HE1.out, if_pos hk1])
            clear hk1 HE1 HGO
            go_wp2_with fail
            go_ret2
            rw [HE.out]
            exact ⟨rfl, B3.out⟩
        · obtain rfl : m = 0 := by omega
          obtain rfl : ps = [] := List.length_eq_zero_iff.1 HM.out
          subst hp1
          have HTP : Hid (TRow wr (some ⟨b, o, none⟩) ([] : List ByteArray)) := Lib.hid (fun i hi => by simp at hi)
          go_wp2_with fail
          refine HDI.out.mono ?_
          rintro e w3 ⟨rfl, hb3⟩
          have B3 : Hid (Below w.heap.size w w3) := Lib.hid (bstep HBR.out hb3)
          have T3 : Hid (TRow w3 (some ⟨b, o, none⟩) ([] : List ByteArray)) := Lib.hid (HTP.out.below hb3)
          clear hb3 hc0
          by_cases hk1 : e1.kind = 1
          · obtain rfl : d1 = true := by rw [HDD.out]; exact decide_eq_true hk1
            by_cases hq0 : p = ⟨#[]⟩
            · have HS : Hid (goFol F g2 at' ([] : List ByteArray) hops = R) := Lib.hid (by rw [← HGO.out, goFol_cons, HE1.out, if_neg (by simp [hk1]), if_pos (.inl hq0)])
              subst hq0
              clear hk1 HE1
              go_wp2_with fail
              go_roundg g2
              case measure => omega
              case rel => exact ⟨at', ([] : List ByteArray), (some ⟨b, o, none⟩), 0, 0, hops, rfl, rfl, rfl, Lib.hid ⟨HS.out, HM.out, by omega, HOP.out.1, by have := HOP.out.2.1; omega, HOP.out.2.2.1, HOP.out.2.2.2.1, HOP.out.2.2.2.2.2.1, HRT.out⟩, Lib.hid (by have := GB.out; omega), T3, B3⟩
            by_cases hq1 : p = ⟨#[46]⟩
            · have HS : Hid (goFol F g2 at' ([] : List ByteArray) hops = R) := Lib.hid (by rw [← HGO.out, goFol_cons, HE1.out, if_neg (by simp [hk1]), if_pos (.inr hq1)])
              subst hq1
              clear hk1 HE1 hq0
              go_wp2_with fail
              go_roundg g2
              case measure => omega
              case rel => exact ⟨at', ([] : List ByteArray), (some ⟨b, o, none⟩), 0, 0, hops, rfl, rfl, rfl, Lib.hid ⟨HS.out, HM.out, by omega, HOP.out.1, by have := HOP.out.2.1; omega, HOP.out.2.2.1, HOP.out.2.2.2.1, HOP.out.2.2.2.2.2.1, HRT.out⟩, Lib.hid (by have := GB.out; omega), T3, B3⟩
            have hn0 : (p.toList == []) = false := by
              have := text_ne hq0
              rwa [show (⟨#[]⟩ : ByteArray).toList = [] by rw [ByteArray.toList_eq]] at this
            have hn1 : (p.toList == [46]) = false := by
              have := text_ne hq1
              rwa [show (⟨#[46]⟩ : ByteArray).toList = [46] by rw [ByteArray.toList_eq]] at this
            by_cases hq2 : p = ⟨#[46, 46]⟩
            · have HS : Hid (goFol F g2 (parentF at') ([] : List ByteArray) hops = R) := Lib.hid (by rw [← HGO.out, goFol_cons, HE1.out, if_neg (by simp [hk1]), if_neg (by rintro (h | h); exact hq0 h; exact hq1 h), if_pos hq2])
              have hup := up_any at' w3 HOP.out.2.2.1 (by have := HOP.out.2.2.2.1; omega)
              rw [upR_parent HOP.out.2.2.1 HRT.out] at hup
              have HPA := Lib.hid hup
              have HPS := Lib.hid (parent_size at' HOP.out.2.2.1)
              have HPR := Lib.hid (parent_rooted HOP.out.2.2.1 HRT.out)
              subst hq2
              clear hk1 HE1 hq0 hq1 hn0 hn1 hup
              go_wp2_with fail
              refine HPA.out.mono ?_
              rintro e w' ⟨rfl, rfl⟩
              go_wp2_with fail
              go_roundg g2
              case measure => omega
              case rel => exact ⟨parentF at', ([] : List ByteArray), (some ⟨b, o, none⟩), 0, 0, hops, rfl, rfl, rfl, Lib.hid ⟨HS.out, HM.out, by omega, HOP.out.1, by have := HOP.out.2.1; omega, HPS.out.1, by have h1 := HPS.out.2; have h2 := HOP.out.2.2.2.1; omega, HOP.out.2.2.2.2.2.1, HPR.out⟩, Lib.hid (by have := GB.out; omega), T3, B3⟩
            have hn2 : (p.toList == [46, 46]) = false := by
              have := text_ne hq2
              rwa [show (⟨#[46, 46]⟩ : ByteArray).toList = [46, 46] by rw [ByteArray.toList_eq]] at this
            have HS : Hid ((match F (joinF at' p) with
                | none => .error 6
                | some e =>
                  if e.kind ≠ 2 then goFol F g2 (joinF at' p) ([] : List ByteArray) hops
                  else if 8 < hops + 1 then .error 15
                  else if e.to.get! 0 = 47 then goFol F g2 slash (slashF (restF e.to) ++ ([] : List ByteArray)) (hops + 1)
                  else goFol F g2 at' (slashF e.to ++ ([] : List ByteArray)) (hops + 1)) = R) := Lib.hid (by rw [← HGO.out, goFol_cons, HE1.out, if_neg (by simp [hk1]), if_neg (by rintro (h | h); exact hq0 h; exact hq1 h), if_neg hq2]; rfl)
            have hjs := join_size at' p
            have HJS : Hid ((joinF at' p).size ≤ 8193) := Lib.hid (by have h1 := HOP.out.2.2.2.1; have h2 := HOP.out.2.2.2.2.1; omega)
            have HJN := Lib.hid (join_slash (a := at') hq0)
            have HFI := Lib.hid (rfind_any tb c a L (joinF at' p) w3 (HAT.out.below B3.out))
            have z1 : (9223372036854775807 < at'.size + 1) = False := eq_false (by have := HOP.out.2.2.2.1; omega)
            have z2 : (9223372036854775807 < at'.size + 1 + p.size) = False := eq_false (by have h1 := HOP.out.2.2.2.1; have h2 := HOP.out.2.2.2.2.1; omega)
            have z3 : (9223372036854775807 < 1 + p.size) = False := eq_false (by have h2 := HOP.out.2.2.2.2.1; omega)
            have z4 : (9223372036854775807 < 2 + p.size) = False := eq_false (by have h2 := HOP.out.2.2.2.2.1; omega)
            have z5 : (9223372036854775807 < 1 + 1 + p.size) = False := eq_false (by have h2 := HOP.out.2.2.2.2.1; omega)
            have HJE : Hid (joinF at' p = if at' = slash then slash ++ p else at' ++ slash ++ p) := Lib.hid rfl
            clear hk1 HE1 hq0 hq1 hq2 hjs HGO
            have fin : ∀ (nx : ByteArray), joinF at' p = nx → Hid (findR L nx = findR L nx) := fun nx _ => Lib.hid rfl
            clear fin
            by_cases hat : at' = slash
            · have hje : joinF at' p = slash ++ p := by rw [HJE.out, if_pos hat]
              rw [hje] at HS HJS HJN HFI
              have hat47 : at' = ⟨#[47]⟩ := hat
              unfold slash at HS HJS HJN HFI
              subst hat47
              clear hje hat HJE
              go_wp2_with fail
              clear z1 z2 z3 z4 z5 hn0 hn1 hn2
              generalize (⟨#[47]⟩ : ByteArray) ++ p = nx at *
              refine HFI.out.mono ?_
              rintro e w4 ⟨rfl, hb4⟩
              have B4 : Hid (Below w.heap.size w w4) := Lib.hid (bstep B3.out hb4)
              have T4 : Hid (TRow w4 (some ⟨b, o, none⟩) ([] : List ByteArray)) := Lib.hid (T3.out.below hb4)
              clear hb4
              cases hfx : F nx with
              | none =>
                have HE : Hid (R = .error 6) := Lib.hid (by have := HS.out; rw [hfx] at this; exact this.symm)
                rw [HIS.out.lacks HJN.out hfx]
                clear HS hfx
                go_wp2_with fail
                go_ret2
                rw [HE.out]
                exact ⟨rfl, B4.out⟩
              | some e3 =>
                obtain ⟨i, hi, hfi, -, -, -, hk2, htgt⟩ := HIS.out.has HJN.out hfx
                rw [hfi]
                have HFX := Lib.hid hfx
                have HKY := Lib.hid (HOK.out.keys nx e3 hfx)
                have HKR := Lib.hid (rooted_in HIN.out hfx)
                have HLN := Lib.hid (HOK.out.links nx e3 hfx)
                obtain ⟨ln, hln⟩ : ∃ ln, L.length = ln := ⟨_, rfl⟩
                have HTC : Hid (∀ wx, Below w.heap.size w wx → wx.cell? ⟨tb, 0, none⟩ = some (.slice a ln c)) := Lib.hid (fun wx hb => by
                  have := cell_of_row _ _ 0 _ _ _ (HAT.out.below hb).box
                  rw [hln] at this
                  simpa using this)
                have hlm := HAT.out.many
                have hil : i < ln := by omega
                have hi0 : ¬ ((i : Int) < 0) := by omega
                obtain ⟨b2, o2, ha, hb2, hcs⟩ := (HAT.out.below B4.out).row i hi
                have HND : Hid (∀ wx, Below w4.heap.size w4 wx → wx.cell? ⟨b2, o2 + i * 5 + 1, none⟩ = some (.int .i64 (L[i]'hi).kind) ∧ wx.cell? ⟨b2, o2 + i * 5 + 3, none⟩ = some (.string (L[i]'hi).tgt)) := Lib.hid (fun wx hb => ⟨(hb.cell (p := ⟨b2, o2 + i * 5 + 1, none⟩) hb2).trans (hcs 1 (by omega)), (hb.cell (p := ⟨b2, o2 + i * 5 + 3, none⟩) hb2).trans (hcs 3 (by omega))⟩)
                generalize (L[i]'hi).kind = q at *
                generalize (L[i]'hi).tgt = tgt at *
                obtain ⟨c1, c3⟩ := HND.out w4 (Below.refl _ _)
                have t0 := HTC.out w4 B4.out
                rw [ha] at t0
                have HTG := Lib.hid htgt
                have HLM : Hid (i < ln ∧ ln ≤ 1024) := Lib.hid ⟨hil, by omega⟩
                clear hfi hcs hb2 hlm hfx htgt hi
                by_cases hk3 : e3.kind = 2
                · obtain rfl : q = 2 := hk2.1 hk3
                  have HK2 := Lib.hid hk3
                  have hto : e3.to = tgt := HTG.out hk3
                  have HTO : Hid (1 ≤ tgt.size ∧ tgt.size ≤ 4096) := Lib.hid (by rw [← hto]; exact HLN.out hk3)
                  by_cases hh : hops = 8
                  · have HE : Hid (R = .error 15) := Lib.hid (by
                      have := HS.out
                      rw [HFX.out] at this
                      simp only [] at this
                      rw [if_neg (by simp [hk3]), if_pos (by omega)] at this
                      exact this.symm)
                    subst hh
                    clear HS hk3 hk2 hto
                    go_wp2_with fail
                    go_ret2
                    rw [HE.out]
                    exact ⟨rfl, B4.out⟩
                  · have HHO : Hid (hops ≤ 7) := Lib.hid (by have := HOP.out.1; omega)
                    have hh8 : ¬ (8 : Int) < ((hops + 1 : Nat) : Int) := by have := HHO.out; omega
                    have hh8' : ¬ (8 : Int) < (hops : Int) + 1 := by have := HHO.out; omega
                    have hw1 : IntKind.i64.wrap ((hops : Int) + 1) = ((hops + 1 : Nat) : Int) := by have := HOP.out.1; rw [IntKind.wrap_i64]; omega
                    have hx := first_bang tgt (by have := HTO.out.1; omega)
                    have hto0 : (0 : Int) < (tgt.size : Int) := by have := HTO.out.1; omega
                    have hto1 : (1 : Int) ≤ (tgt.size : Int) := by omega
                    by_cases h47 : tgt.get! 0 = 47
                    · have hb : (((tgt[0]'(by have := HTO.out.1; omega)).toNat : Int) == 47) = true := by rw [← hx, h47]; rfl
                      have HSX : Hid (goFol F g2 slash (partsR (restF tgt) ++ ([] : List ByteArray)) (hops + 1) = R) := Lib.hid (by have := HS.out; rw [HFX.out] at this; simp only [] at this; rwa [if_neg (by simp [HK2.out]), if_neg (by omega), hto, if_pos h47, slashF_cut _ _ (Nat.le_refl _)] at this)
                      have HSP : Hid (∀ wx, Calls Tryz.prog 22 #[.string (restF tgt)] wx fun e w' => ∃ ad c, e = .returned (.slice ad (partsR (restF tgt)).length c) ∧ OwnT w' wx.heap.size 9 (.slice ad (partsR (restF tgt)).length c) (partsR (restF tgt)) ∧ Below wx.heap.size wx w') := Lib.hid (fun wx => parts_any (restF tgt) wx (by have h1 := restF_size tgt; have h2 := HTO.out; omega))
                      have HSL : Hid ((1 ≤ (partsR (restF tgt)).length ∧ (partsR (restF tgt)).length ≤ 4097) ∧ ∀ x ∈ partsR (restF tgt), x.size ≤ 4096) := Lib.hid ⟨by have h0 := partsR_pos (restF tgt); have h1 := partsR_len (restF tgt); have h2 := restF_size tgt; have h3 := HTO.out; omega, fun x hx => by have h1 := partsR_mem hx; have h2 := restF_size tgt; have h3 := HTO.out; omega⟩
                      unfold restF at HSX HSP HSL
                      generalize partsR (tgt.extract 1 tgt.size) = L2 at *
                      clear HS hx hk3 hk2 hto h47
                      go_wp2_with fail
                      refine (HSP.out w4).mono ?_
                      rintro e w5 ⟨ad5, c5, rfl, ho5, hb5⟩
                      have O5 := Lib.hid ho5
                      have B5 : Hid (Below w.heap.size w w5) := Lib.hid (bstep B4.out hb5)
                      have T5 : Hid (TRow w5 (some ⟨b, o, none⟩) ([] : List ByteArray)) := Lib.hid (T4.out.below hb5)
                      have ND : Hid (0 + L2.length ≤ 60000) := Lib.hid (by have h1 := HSL.out.1; have h2 := HOP.out.2.1; have h3 := HOP.out.2.2.2.2.2.2; omega)
                      have HNE : Hid (ad5.isSome = true) := Lib.hid (by
                        obtain ⟨b', o', e, -⟩ := O5.out.row.1 0 (by have := HSL.out.1; omega)
                        rw [e]
                        rfl)
                      clear ho5 hb5
                      go_wp2_with (first | (at_builtin; (refine wpList_texts rfl (.tmp 90) (.tmp 92) texts_t text_info rfl w5.heap.size w5 (.slice none 0 0) [] 0 ad5 c5 L2.length L2 rfl (by rfl) rfl rfl O5.out.row.1 (fun h => absurd (HNE.out) (fun hh => by rw [h] at hh; cases hh)) (OwnT.nil _ _ _) (by have := ND.out; unfold maxLen; omega) (by have := ND.out; omega) (Below.refl _ _) (Nat.le_refl _) ?_; intro v6 w6 ho6 hb6; rw [List.nil_append] at ho6; obtain ⟨ad6, c6, rfl⟩ := ho6.form; have O6 := Lib.hid ho6; have B6 : Hid (Below w.heap.size w w6) := Lib.hid (bstep B5.out hb6); have T6 : Hid (TRow w6 (some ⟨b, o, none⟩) ([] : List ByteArray)) := Lib.hid (T5.out.below hb6); clear ho6 hb6)) | (at_builtin; (refine wpList_texts rfl (.tmp 94) (.tmp 95) texts_t text_info rfl w.heap.size w (.slice ad6 L2.length c6) L2 L2.length (some ⟨b, o, none⟩) 0 0 ([] : List ByteArray) rfl (by rfl) rfl HM.out T6.out (fun h => by cases h) (O6.out.mono B5.out.size) (by have := ND.out; unfold maxLen; omega) (by have := ND.out; omega) B6.out B6.out.size ?_; intro v7 w7 ho7 hb7; obtain ⟨ad7, c7, rfl⟩ := ho7.form; have O7 := Lib.hid ho7; have B7 := Lib.hid hb7; clear ho7 hb7)))
                      go_roundg g2
                      case measure => omega
                      case rel => exact ⟨slash, L2 ++ ([] : List ByteArray), ad7, (L2 ++ ([] : List ByteArray)).length, c7, hops + 1, rfl, by simp [HM.out], by go_num, Lib.hid ⟨HSX.out, rfl, O7.out.row.2.2, by have := HHO.out; omega, by rw [List.length_append]; have h1 := HSL.out.1; have h2 := HOP.out.2.1; have h3 := HHO.out; have h4 := HM.out; omega, by rw [slash_one]; omega, by rw [slash_one]; omega, fun x hx => by
                        rcases List.mem_append.1 hx with h | h
                        · exact HSL.out.2 x h
                        · exact HOP.out.2.2.2.2.2.1 x h, rfl⟩, Lib.hid (by have := GB.out; omega), Lib.hid O7.out.row.1, B7⟩
                    · have hb : (((tgt[0]'(by have := HTO.out.1; omega)).toNat : Int) == 47) = false := by
                        rw [beq_eq_false_iff_ne]
                        intro e
                        apply h47
                        rw [hx]
                        exact UInt8.toNat_inj.1 (by show _ = 47; omega)
                      have HSX : Hid (goFol F g2 ⟨#[47]⟩ (partsR tgt ++ ([] : List ByteArray)) (hops + 1) = R) := Lib.hid (by have := HS.out; rw [HFX.out] at this; simp only [] at this; rwa [if_neg (by simp [HK2.out]), if_neg (by omega), hto, if_neg h47, slashF_cut _ _ (Nat.le_refl _)] at this)
                      have HSP : Hid (∀ wx, Calls Tryz.prog 22 #[.string tgt] wx fun e w' => ∃ ad c, e = .returned (.slice ad (partsR tgt).length c) ∧ OwnT w' wx.heap.size 9 (.slice ad (partsR tgt).length c) (partsR tgt) ∧ Below wx.heap.size wx w') := Lib.hid (fun wx => parts_any tgt wx (by have h2 := HTO.out; omega))
                      have HSL : Hid ((1 ≤ (partsR tgt).length ∧ (partsR tgt).length ≤ 4097) ∧ ∀ x ∈ partsR tgt, x.size ≤ 4096) := Lib.hid ⟨by have h0 := partsR_pos tgt; have h1 := partsR_len tgt; have h3 := HTO.out; omega, fun x hx => by have h1 := partsR_mem hx; have h3 := HTO.out; omega⟩
                      generalize partsR tgt = L2 at *
                      clear HS hx hk3 hk2 hto h47
                      go_wp2_with fail
                      refine (HSP.out w4).mono ?_
                      rintro e w5 ⟨ad5, c5, rfl, ho5, hb5⟩
                      have O5 := Lib.hid ho5
                      have B5 : Hid (Below w.heap.size w w5) := Lib.hid (bstep B4.out hb5)
                      have T5 : Hid (TRow w5 (some ⟨b, o, none⟩) ([] : List ByteArray)) := Lib.hid (T4.out.below hb5)
                      have ND : Hid (0 + L2.length ≤ 60000) := Lib.hid (by have h1 := HSL.out.1; have h2 := HOP.out.2.1; have h3 := HOP.out.2.2.2.2.2.2; omega)
                      have HNE : Hid (ad5.isSome = true) := Lib.hid (by
                        obtain ⟨b', o', e, -⟩ := O5.out.row.1 0 (by have := HSL.out.1; omega)
                        rw [e]
                        rfl)
                      clear ho5 hb5
                      go_wp2_with (first | (at_builtin; (refine wpList_texts rfl (.tmp 90) (.tmp 92) texts_t text_info rfl w5.heap.size w5 (.slice none 0 0) [] 0 ad5 c5 L2.length L2 rfl (by rfl) rfl rfl O5.out.row.1 (fun h => absurd (HNE.out) (fun hh => by rw [h] at hh; cases hh)) (OwnT.nil _ _ _) (by have := ND.out; unfold maxLen; omega) (by have := ND.out; omega) (Below.refl _ _) (Nat.le_refl _) ?_; intro v6 w6 ho6 hb6; rw [List.nil_append] at ho6; obtain ⟨ad6, c6, rfl⟩ := ho6.form; have O6 := Lib.hid ho6; have B6 : Hid (Below w.heap.size w w6) := Lib.hid (bstep B5.out hb6); have T6 : Hid (TRow w6 (some ⟨b, o, none⟩) ([] : List ByteArray)) := Lib.hid (T5.out.below hb6); clear ho6 hb6)) | (at_builtin; (refine wpList_texts rfl (.tmp 94) (.tmp 95) texts_t text_info rfl w.heap.size w (.slice ad6 L2.length c6) L2 L2.length (some ⟨b, o, none⟩) 0 0 ([] : List ByteArray) rfl (by rfl) rfl HM.out T6.out (fun h => by cases h) (O6.out.mono B5.out.size) (by have := ND.out; unfold maxLen; omega) (by have := ND.out; omega) B6.out B6.out.size ?_; intro v7 w7 ho7 hb7; obtain ⟨ad7, c7, rfl⟩ := ho7.form; have O7 := Lib.hid ho7; have B7 := Lib.hid hb7; clear ho7 hb7)))
                      go_roundg g2
                      case measure => omega
                      case rel => exact ⟨⟨#[47]⟩, L2 ++ ([] : List ByteArray), ad7, (L2 ++ ([] : List ByteArray)).length, c7, hops + 1, rfl, by simp [HM.out], by go_num, Lib.hid ⟨HSX.out, rfl, O7.out.row.2.2, by have := HHO.out; omega, by rw [List.length_append]; have h1 := HSL.out.1; have h2 := HOP.out.2.1; have h3 := HHO.out; have h4 := HM.out; omega, HOP.out.2.2.1, HOP.out.2.2.2.1, fun x hx => by
                        rcases List.mem_append.1 hx with h | h
                        · exact HSL.out.2 x h
                        · exact HOP.out.2.2.2.2.2.1 x h, HRT.out⟩, Lib.hid (by have := GB.out; omega), Lib.hid O7.out.row.1, B7⟩
                · have hk4 : (q != 2) = true := by rw [bne_iff_ne]; exact fun e => hk3 (hk2.2 e)
                  have HSX : Hid (goFol F g2 nx ([] : List ByteArray) hops = R) := Lib.hid (by
                    have := HS.out
                    rw [HFX.out] at this
                    simp only [] at this
                    rwa [if_pos hk3] at this)
                  clear HS hk3 hk2
                  go_wp2_with fail
                  go_roundg g2
                  case measure => omega
                  case rel => exact ⟨nx, ([] : List ByteArray), (some ⟨b, o, none⟩), 0, 0, hops, rfl, rfl, rfl, Lib.hid ⟨HSX.out, HM.out, by omega, HOP.out.1, by have := HOP.out.2.1; omega, HKY.out.1, HKY.out.2, HOP.out.2.2.2.2.2.1, HKR.out⟩, Lib.hid (by have := GB.out; omega), T4, B4⟩
            · have hje : joinF at' p = at' ++ slash ++ p := by rw [HJE.out, if_neg hat]
              rw [hje] at HS HJS HJN HFI
              have hnat : (at'.toList == [47]) = false := by
                have := text_ne hat
                rwa [show slash.toList = [47] from slash_list] at this
              unfold slash at HS HJS HJN HFI
              clear hje hat HJE
              go_wp2_with fail
              clear z1 z2 z3 z4 z5 hn0 hn1 hn2 hnat
              generalize at' ++ (⟨#[47]⟩ : ByteArray) ++ p = nx at *
              refine HFI.out.mono ?_
              rintro e w4 ⟨rfl, hb4⟩
              have B4 : Hid (Below w.heap.size w w4) := Lib.hid (bstep B3.out hb4)
              have T4 : Hid (TRow w4 (some ⟨b, o, none⟩) ([] : List ByteArray)) := Lib.hid (T3.out.below hb4)
              clear hb4
              cases hfx : F nx with
              | none =>
                have HE : Hid (R = .error 6) := Lib.hid (by have := HS.out; rw [hfx] at this; exact this.symm)
                rw [HIS.out.lacks HJN.out hfx]
                clear HS hfx
                go_wp2_with fail
                go_ret2
                rw [HE.out]
                exact ⟨rfl, B4.out⟩
              | some e3 =>
                obtain ⟨i, hi, hfi, -, -, -, hk2, htgt⟩ := HIS.out.has HJN.out hfx
                rw [hfi]
                have HFX := Lib.hid hfx
                have HKY := Lib.hid (HOK.out.keys nx e3 hfx)
                have HKR := Lib.hid (rooted_in HIN.out hfx)
                have HLN := Lib.hid (HOK.out.links nx e3 hfx)
                obtain ⟨ln, hln⟩ : ∃ ln, L.length = ln := ⟨_, rfl⟩
                have HTC : Hid (∀ wx, Below w.heap.size w wx → wx.cell? ⟨tb, 0, none⟩ = some (.slice a ln c)) := Lib.hid (fun wx hb => by
                  have := cell_of_row _ _ 0 _ _ _ (HAT.out.below hb).box
                  rw [hln] at this
                  simpa using this)
                have hlm := HAT.out.many
                have hil : i < ln := by omega
                have hi0 : ¬ ((i : Int) < 0) := by omega
                obtain ⟨b2, o2, ha, hb2, hcs⟩ := (HAT.out.below B4.out).row i hi
                have HND : Hid (∀ wx, Below w4.heap.size w4 wx → wx.cell? ⟨b2, o2 + i * 5 + 1, none⟩ = some (.int .i64 (L[i]'hi).kind) ∧ wx.cell? ⟨b2, o2 + i * 5 + 3, none⟩ = some (.string (L[i]'hi).tgt)) := Lib.hid (fun wx hb => ⟨(hb.cell (p := ⟨b2, o2 + i * 5 + 1, none⟩) hb2).trans (hcs 1 (by omega)), (hb.cell (p := ⟨b2, o2 + i * 5 + 3, none⟩) hb2).trans (hcs 3 (by omega))⟩)
                generalize (L[i]'hi).kind = q at *
                generalize (L[i]'hi).tgt = tgt at *
                obtain ⟨c1, c3⟩ := HND.out w4 (Below.refl _ _)
                have t0 := HTC.out w4 B4.out
                rw [ha] at t0
                have HTG := Lib.hid htgt
                have HLM : Hid (i < ln ∧ ln ≤ 1024) := Lib.hid ⟨hil, by omega⟩
                clear hfi hcs hb2 hlm hfx htgt hi
                by_cases hk3 : e3.kind = 2
                · obtain rfl : q = 2 := hk2.1 hk3
                  have HK2 := Lib.hid hk3
                  have hto : e3.to = tgt := HTG.out hk3
                  have HTO : Hid (1 ≤ tgt.size ∧ tgt.size ≤ 4096) := Lib.hid (by rw [← hto]; exact HLN.out hk3)
                  by_cases hh : hops = 8
                  · have HE : Hid (R = .error 15) := Lib.hid (by
                      have := HS.out
                      rw [HFX.out] at this
                      simp only [] at this
                      rw [if_neg (by simp [hk3]), if_pos (by omega)] at this
                      exact this.symm)
                    subst hh
                    clear HS hk3 hk2 hto
                    go_wp2_with fail
                    go_ret2
                    rw [HE.out]
                    exact ⟨rfl, B4.out⟩
                  · have HHO : Hid (hops ≤ 7) := Lib.hid (by have := HOP.out.1; omega)
                    have hh8 : ¬ (8 : Int) < ((hops + 1 : Nat) : Int) := by have := HHO.out; omega
                    have hh8' : ¬ (8 : Int) < (hops : Int) + 1 := by have := HHO.out; omega
                    have hw1 : IntKind.i64.wrap ((hops : Int) + 1) = ((hops + 1 : Nat) : Int) := by have := HOP.out.1; rw [IntKind.wrap_i64]; omega
                    have hx := first_bang tgt (by have := HTO.out.1; omega)
                    have hto0 : (0 : Int) < (tgt.size : Int) := by have := HTO.out.1; omega
                    have hto1 : (1 : Int) ≤ (tgt.size : Int) := by omega
                    by_cases h47 : tgt.get! 0 = 47
                    · have hb : (((tgt[0]'(by have := HTO.out.1; omega)).toNat : Int) == 47) = true := by rw [← hx, h47]; rfl
                      have HSX : Hid (goFol F g2 slash (partsR (restF tgt) ++ ([] : List ByteArray)) (hops + 1) = R) := Lib.hid (by have := HS.out; rw [HFX.out] at this; simp only [] at this; rwa [if_neg (by simp [HK2.out]), if_neg (by omega), hto, if_pos h47, slashF_cut _ _ (Nat.le_refl _)] at this)
                      have HSP : Hid (∀ wx, Calls Tryz.prog 22 #[.string (restF tgt)] wx fun e w' => ∃ ad c, e = .returned (.slice ad (partsR (restF tgt)).length c) ∧ OwnT w' wx.heap.size 9 (.slice ad (partsR (restF tgt)).length c) (partsR (restF tgt)) ∧ Below wx.heap.size wx w') := Lib.hid (fun wx => parts_any (restF tgt) wx (by have h1 := restF_size tgt; have h2 := HTO.out; omega))
                      have HSL : Hid ((1 ≤ (partsR (restF tgt)).length ∧ (partsR (restF tgt)).length ≤ 4097) ∧ ∀ x ∈ partsR (restF tgt), x.size ≤ 4096) := Lib.hid ⟨by have h0 := partsR_pos (restF tgt); have h1 := partsR_len (restF tgt); have h2 := restF_size tgt; have h3 := HTO.out; omega, fun x hx => by have h1 := partsR_mem hx; have h2 := restF_size tgt; have h3 := HTO.out; omega⟩
                      unfold restF at HSX HSP HSL
                      generalize partsR (tgt.extract 1 tgt.size) = L2 at *
                      clear HS hx hk3 hk2 hto h47
                      go_wp2_with fail
                      refine (HSP.out w4).mono ?_
                      rintro e w5 ⟨ad5, c5, rfl, ho5, hb5⟩
                      have O5 := Lib.hid ho5
                      have B5 : Hid (Below w.heap.size w w5) := Lib.hid (bstep B4.out hb5)
                      have T5 : Hid (TRow w5 (some ⟨b, o, none⟩) ([] : List ByteArray)) := Lib.hid (T4.out.below hb5)
                      have ND : Hid (0 + L2.length ≤ 60000) := Lib.hid (by have h1 := HSL.out.1; have h2 := HOP.out.2.1; have h3 := HOP.out.2.2.2.2.2.2; omega)
                      have HNE : Hid (ad5.isSome = true) := Lib.hid (by
                        obtain ⟨b', o', e, -⟩ := O5.out.row.1 0 (by have := HSL.out.1; omega)
                        rw [e]
                        rfl)
                      clear ho5 hb5
                      go_wp2_with (first | (at_builtin; (refine wpList_texts rfl (.tmp 90) (.tmp 92) texts_t text_info rfl w5.heap.size w5 (.slice none 0 0) [] 0 ad5 c5 L2.length L2 rfl (by rfl) rfl rfl O5.out.row.1 (fun h => absurd (HNE.out) (fun hh => by rw [h] at hh; cases hh)) (OwnT.nil _ _ _) (by have := ND.out; unfold maxLen; omega) (by have := ND.out; omega) (Below.refl _ _) (Nat.le_refl _) ?_; intro v6 w6 ho6 hb6; rw [List.nil_append] at ho6; obtain ⟨ad6, c6, rfl⟩ := ho6.form; have O6 := Lib.hid ho6; have B6 : Hid (Below w.heap.size w w6) := Lib.hid (bstep B5.out hb6); have T6 : Hid (TRow w6 (some ⟨b, o, none⟩) ([] : List ByteArray)) := Lib.hid (T5.out.below hb6); clear ho6 hb6)) | (at_builtin; (refine wpList_texts rfl (.tmp 94) (.tmp 95) texts_t text_info rfl w.heap.size w (.slice ad6 L2.length c6) L2 L2.length (some ⟨b, o, none⟩) 0 0 ([] : List ByteArray) rfl (by rfl) rfl HM.out T6.out (fun h => by cases h) (O6.out.mono B5.out.size) (by have := ND.out; unfold maxLen; omega) (by have := ND.out; omega) B6.out B6.out.size ?_; intro v7 w7 ho7 hb7; obtain ⟨ad7, c7, rfl⟩ := ho7.form; have O7 := Lib.hid ho7; have B7 := Lib.hid hb7; clear ho7 hb7)))
                      go_roundg g2
                      case measure => omega
                      case rel => exact ⟨slash, L2 ++ ([] : List ByteArray), ad7, (L2 ++ ([] : List ByteArray)).length, c7, hops + 1, rfl, by simp [HM.out], by go_num, Lib.hid ⟨HSX.out, rfl, O7.out.row.2.2, by have := HHO.out; omega, by rw [List.length_append]; have h1 := HSL.out.1; have h2 := HOP.out.2.1; have h3 := HHO.out; have h4 := HM.out; omega, by rw [slash_one]; omega, by rw [slash_one]; omega, fun x hx => by
                        rcases List.mem_append.1 hx with h | h
                        · exact HSL.out.2 x h
                        · exact HOP.out.2.2.2.2.2.1 x h, rfl⟩, Lib.hid (by have := GB.out; omega), Lib.hid O7.out.row.1, B7⟩
                    · have hb : (((tgt[0]'(by have := HTO.out.1; omega)).toNat : Int) == 47) = false := by
                        rw [beq_eq_false_iff_ne]
                        intro e
                        apply h47
                        rw [hx]
                        exact UInt8.toNat_inj.1 (by show _ = 47; omega)
                      have HSX : Hid (goFol F g2 at' (partsR tgt ++ ([] : List ByteArray)) (hops + 1) = R) := Lib.hid (by have := HS.out; rw [HFX.out] at this; simp only [] at this; rwa [if_neg (by simp [HK2.out]), if_neg (by omega), hto, if_neg h47, slashF_cut _ _ (Nat.le_refl _)] at this)
                      have HSP : Hid (∀ wx, Calls Tryz.prog 22 #[.string tgt] wx fun e w' => ∃ ad c, e = .returned (.slice ad (partsR tgt).length c) ∧ OwnT w' wx.heap.size 9 (.slice ad (partsR tgt).length c) (partsR tgt) ∧ Below wx.heap.size wx w') := Lib.hid (fun wx => parts_any tgt wx (by have h2 := HTO.out; omega))
                      have HSL : Hid ((1 ≤ (partsR tgt).length ∧ (partsR tgt).length ≤ 4097) ∧ ∀ x ∈ partsR tgt, x.size ≤ 4096) := Lib.hid ⟨by have h0 := partsR_pos tgt; have h1 := partsR_len tgt; have h3 := HTO.out; omega, fun x hx => by have h1 := partsR_mem hx; have h3 := HTO.out; omega⟩
                      generalize partsR tgt = L2 at *
                      clear HS hx hk3 hk2 hto h47
                      go_wp2_with fail
                      refine (HSP.out w4).mono ?_
                      rintro e w5 ⟨ad5, c5, rfl, ho5, hb5⟩
                      have O5 := Lib.hid ho5
                      have B5 : Hid (Below w.heap.size w w5) := Lib.hid (bstep B4.out hb5)
                      have T5 : Hid (TRow w5 (some ⟨b, o, none⟩) ([] : List ByteArray)) := Lib.hid (T4.out.below hb5)
                      have ND : Hid (0 + L2.length ≤ 60000) := Lib.hid (by have h1 := HSL.out.1; have h2 := HOP.out.2.1; have h3 := HOP.out.2.2.2.2.2.2; omega)
                      have HNE : Hid (ad5.isSome = true) := Lib.hid (by
                        obtain ⟨b', o', e, -⟩ := O5.out.row.1 0 (by have := HSL.out.1; omega)
                        rw [e]
                        rfl)
                      clear ho5 hb5
                      go_wp2_with (first | (at_builtin; (refine wpList_texts rfl (.tmp 90) (.tmp 92) texts_t text_info rfl w5.heap.size w5 (.slice none 0 0) [] 0 ad5 c5 L2.length L2 rfl (by rfl) rfl rfl O5.out.row.1 (fun h => absurd (HNE.out) (fun hh => by rw [h] at hh; cases hh)) (OwnT.nil _ _ _) (by have := ND.out; unfold maxLen; omega) (by have := ND.out; omega) (Below.refl _ _) (Nat.le_refl _) ?_; intro v6 w6 ho6 hb6; rw [List.nil_append] at ho6; obtain ⟨ad6, c6, rfl⟩ := ho6.form; have O6 := Lib.hid ho6; have B6 : Hid (Below w.heap.size w w6) := Lib.hid (bstep B5.out hb6); have T6 : Hid (TRow w6 (some ⟨b, o, none⟩) ([] : List ByteArray)) := Lib.hid (T5.out.below hb6); clear ho6 hb6)) | (at_builtin; (refine wpList_texts rfl (.tmp 94) (.tmp 95) texts_t text_info rfl w.heap.size w (.slice ad6 L2.length c6) L2 L2.length (some ⟨b, o, none⟩) 0 0 ([] : List ByteArray) rfl (by rfl) rfl HM.out T6.out (fun h => by cases h) (O6.out.mono B5.out.size) (by have := ND.out; unfold maxLen; omega) (by have := ND.out; omega) B6.out B6.out.size ?_; intro v7 w7 ho7 hb7; obtain ⟨ad7, c7, rfl⟩ := ho7.form; have O7 := Lib.hid ho7; have B7 := Lib.hid hb7; clear ho7 hb7)))
                      go_roundg g2
                      case measure => omega
                      case rel => exact ⟨at', L2 ++ ([] : List ByteArray), ad7, (L2 ++ ([] : List ByteArray)).length, c7, hops + 1, rfl, by simp [HM.out], by go_num, Lib.hid ⟨HSX.out, rfl, O7.out.row.2.2, by have := HHO.out; omega, by rw [List.length_append]; have h1 := HSL.out.1; have h2 := HOP.out.2.1; have h3 := HHO.out; have h4 := HM.out; omega, HOP.out.2.2.1, HOP.out.2.2.2.1, fun x hx => by
                        rcases List.mem_append.1 hx with h | h
                        · exact HSL.out.2 x h
                        · exact HOP.out.2.2.2.2.2.1 x h, HRT.out⟩, Lib.hid (by have := GB.out; omega), Lib.hid O7.out.row.1, B7⟩
                · have hk4 : (q != 2) = true := by rw [bne_iff_ne]; exact fun e => hk3 (hk2.2 e)
                  have HSX : Hid (goFol F g2 nx ([] : List ByteArray) hops = R) := Lib.hid (by
                    have := HS.out
                    rw [HFX.out] at this
                    simp only [] at this
                    rwa [if_pos hk3] at this)
                  clear HS hk3 hk2
                  go_wp2_with fail
                  go_roundg g2
                  case measure => omega
                  case rel => exact ⟨nx, ([] : List ByteArray), (some ⟨b, o, none⟩), 0, 0, hops, rfl, rfl, rfl, Lib.hid ⟨HSX.out, HM.out, by omega, HOP.out.1, by have := HOP.out.2.1; omega, HKY.out.1, HKY.out.2, HOP.out.2.2.2.2.2.1, HKR.out⟩, Lib.hid (by have := GB.out; omega), T4, B4⟩
          · obtain rfl : d1 = false := by rw [HDD.out]; exact decide_eq_false hk1
            have HE : Hid (R = .error 16) := Lib.hid (by rw [← HGO.out, goFol_cons, HE1.out, if_pos hk1])
            clear hk1 HE1 HGO
            go_wp2_with fail
            go_ret2
            rw [HE.out]
            exact ⟨rfl, B3.out⟩
end Go.Proofs.YtcabpidbdnlomaaGreatDoor
