/- Layer 3: where a path ends (vfs's follow), of whatever tree and path. -/
import Derived.Test.YtcabpidbdnlomaaGreatDoorVfsFol
import Derived.Test.YtcabpidbdnlomaaGreatDoorErrs
import Derived.Deep.MidRow
import Derived.Deep.QuietTactic
import Derived.BigQuiet
import Derived.Carry
namespace Go.Proofs.YtcabpidbdnlomaaGreatDoor
open Go.RowKit
set_option linter.unusedVariables false
set_option linter.unusedSimpArgs false

theorem field_kind (w : World) (v0 v1 v2 : Value) : (Instr.field 56 (.agg #[v0, v1, v2]) 1).run Tryz.prog w = .ok v1 w := by
  simp [Instr.field, run_underlying Tryz.underlying56, part, asAgg, Tryz.sizeOf3, Tryz.isAgg3, go_sem]
theorem ent_zeroV (w : World) : (zeroValue 56).run Tryz.prog w = .ok Ent.zero.v w := by kernel_rfl
/-- a tree in memory -/
structure TreeAt (w : World) (tb g c : Nat) (F : ByteArray → Option Ent) : Prop where
  box : w.heap[tb]? = some (.cells #[.map (some g)] 59)
  map : SM w Tryz.prog 9 g F c
theorem TreeAt.below {w w' : World} {tb g c : Nat} {F : ByteArray → Option Ent} (h : TreeAt w tb g c F) (hb : Below w.heap.size w w') : TreeAt w' tb g c F :=
  ⟨(hb.block _ (lt_of_block h.box)).trans h.box, h.map.of_block (hb.block _ h.map.lt)⟩
theorem ptrV_one (o : Option Nat) : (ptrV o).oneCell' = true := by cases o <;> rfl
def FolPost (e : Ending) : Except Nat ByteArray → Prop
  | .ok p => e = .returned (.tuple #[.string p, .nilIface])
  | .error n => e = .returned (.tuple #[.string ⟨#[]⟩, errV (n : Int)])
theorem errV16 : errV ((16 : Nat) : Int) = .iface 33 (.int .i64 16) := rfl
theorem errV30 : errV ((30 : Nat) : Int) = .iface 33 (.int .i64 30) := rfl
theorem errV6 : errV ((6 : Nat) : Int) = .iface 33 (.int .i64 6) := rfl
theorem errV15 : errV ((15 : Nat) : Int) = .iface 33 (.int .i64 15) := rfl

set_option maxRecDepth 100000 in
set_option maxHeartbeats 16000000 in
theorem follow_any (tb g c : Nat) (F : ByteArray → Option Ent) (path : ByteArray) (w : World) (h : TreeAt w tb g c F) (hF : TreeOk F) (hp : path.size ≤ 140737488355328) :
    Calls Tryz.prog 15 #[.pointer (some ⟨tb, 0, none⟩), .string path] w fun e w' => FolPost e (folF F path) ∧ Below w.heap.size w w' := by
  have HW : Hid _ := Lib.hid (within3_any path 4096 w (by omega))
  have HOK := Lib.hid hF
  obtain ⟨wt, hwt⟩ : ∃ wt, withinF path 4096 = wt := ⟨_, rfl⟩
  rw [hwt] at HW
  cases wt with
  | false =>
    have hR : folF F path = .error 30 := by unfold folF; rw [if_neg (by rw [hwt]; simp)]
    rw [hR]
    unfold FolPost
    clear hR hwt h hF
    go_enter Tryz.func15, Tryz.ntmps15
    go_wp2_with fail
    refine HW.out.mono ?_
    rintro e w' ⟨rfl, rfl⟩
    go_wp2_with fail
    go_ret2
    exact ⟨rfl, Below.refl _ _⟩
  | true =>
    have hsz := within_size hwt
    by_cases h47 : path.get! 0 = 47
    · obtain ⟨R, hR⟩ : ∃ R, folF F path = R := ⟨_, rfl⟩
      have HR0 : Hid (goFol F 50000 slash (slashF (restF path)) 0 = R) := Lib.hid (by rw [← hR]; unfold folF; rw [if_pos ⟨hwt, h47⟩])
      rw [hR]
      have hx := first_bang path (by omega)
      have h0 : (0 : Int) < (path.size : Int) := by omega
      have h1' : (1 : Int) ≤ (path.size : Int) := by omega
      have hb : (((path[0]'(by omega)).toNat : Int) != 47) = false := by rw [← hx, h47]; rfl
      have HSP : Hid _ := Lib.hid (split_slash (restF path) w (by have := restF_size path; omega))
      have HSL : Hid ((slashF (restF path)).length ≤ 4097 ∧ ∀ x ∈ slashF (restF path), x.size ≤ 4096) := Lib.hid ⟨by have h1 := slashF_le (restF path); have h2 := restF_size path; omega, fun x hx => by have h1 := slashF_mem hx; have h2 := restF_size path; omega⟩
      unfold restF at HSP HSL HR0
      generalize slashF (path.extract 1 path.size) = L0 at *
      have HT : Hid (∀ wx, Below w.heap.size w wx → wx.cell? ⟨tb, 0, none⟩ = some (.map (some g))) := Lib.hid (fun wx hb => by
        have := cell_of_row _ _ 0 _ _ _ (h.below hb).box
        simpa using this)
      have HLK : Hid (∀ wx, Below w.heap.size w wx → ∀ k : ByteArray, k.size ≤ 1048576 → (Instr.lookup 57 (.map (some g)) (.string k) false).run Tryz.prog wx = .ok ((F k).getD Ent.zero).v wx) := Lib.hid (fun wx hb k hk => (h.below hb).map.look Tryz.underlying9 Tryz.underlying57 (ent_zeroV wx) (by unfold maxLen; omega))
      have HLO : Hid (∀ wx, Below w.heap.size w wx → ∀ k : ByteArray, k.size ≤ 1048576 → (Instr.lookup 57 (.map (some g)) (.string k) true).run Tryz.prog wx = .ok (.tuple #[((F k).getD Ent.zero).v, .bool (F k).isSome]) wx) := Lib.hid (fun wx hb k hk => (h.below hb).map.look_ok Tryz.underlying9 Tryz.underlying57 (ent_zeroV wx) (by unfold maxLen; omega))
      have HB1 : Hid (Below w.heap.size w (w.alloc (.cells (L0.map Value.string).toArray 9))) := Lib.hid ((Below.refl _ _).alloc (Nat.le_refl _) _)
      have HO1 : Hid (OwnT (w.alloc (.cells (L0.map Value.string).toArray 9)) w.heap.size 9 (.slice (some ⟨w.heap.size, 0, none⟩) L0.length L0.length) L0) := Lib.hid (OwnT.lit w _ _ L0 _ rfl (Nat.le_refl _) (by have := HSL.out.1; unfold maxLen; omega))
      clear hwt hR hx h47 h hF
      go_enter Tryz.func15, Tryz.ntmps15
      go_wp2_with fail
      refine HW.out.mono ?_
      rintro e w' ⟨rfl, rfl⟩
      go_wp2_with fail
      refine HSP.out.mono ?_
      rintro e w2 ⟨rfl, rfl⟩
      generalize w.alloc (.cells (L0.map Value.string).toArray 9) = w1 at *
      clear hb
      go_wp2_with fail
      go_loopg [6, 7, 8] 50000 (fun g1 av pv hv wr => ∃ (at' : ByteArray) (L : List ByteArray) (pa : Option Addr) (n pc hops : Nat), av = .string at' ∧ pv = .slice pa n pc ∧ hv = .int .i64 (hops : Int) ∧ Hid (goFol F g1 at' L hops = R ∧ L.length = n ∧ n ≤ pc ∧ hops ≤ 8 ∧ n + (8 - hops) * 5000 + 1 ≤ g1 ∧ 1 ≤ at'.size ∧ at'.size ≤ 4096 ∧ ∀ x ∈ L, x.size ≤ 4096) ∧ Hid (g1 ≤ 50000) ∧ Hid (TRow wr pa L) ∧ Hid (Below w.heap.size w wr))
      case atStart => exact ⟨slash, L0, some ⟨w.heap.size, 0, none⟩, L0.length, L0.length, 0, rfl, rfl, rfl, Lib.hid ⟨HR0.out, rfl, Nat.le_refl _, by omega, by have := HSL.out.1; omega, by rw [slash_one]; omega, by rw [slash_one]; omega, HSL.out.2⟩, Lib.hid (Nat.le_refl _), Lib.hid HO1.out.row.1, HB1⟩
      case round =>
        obtain ⟨at', L, pa, n, pc, hops, rfl, rfl, rfl, HG, GB, HTR, HBR⟩ := hrel
        clear HR0 HB1 HO1 HSP HW HSL
        cases L with
        | nil =>
          have hn0 : n = 0 := HG.out.2.1.symm
          have HE : Hid (R = .ok at') := Lib.hid (by rw [← HG.out.1]; exact goFol_nil _ _ _ _)
          subst hn0
          go_wp2_with fail
          go_ret2
          rw [HE.out]
          exact ⟨rfl, HBR.out⟩
        | cons p ps =>
          obtain ⟨g2, rfl⟩ : ∃ g2, gk = g2 + 1 := ⟨gk - 1, by have := HG.out.2.2.2.2.1; omega⟩
          obtain ⟨m, rfl⟩ : ∃ m, n = m + 1 := ⟨n - 1, by have := HG.out.2.1; simp only [List.length_cons] at this; omega⟩
          have HM : Hid (ps.length = m) := Lib.hid (by have := HG.out.2.1; simp only [List.length_cons] at this; omega)
          have hpc : m + 1 ≤ pc := HG.out.2.2.1
          have HOP : Hid (hops ≤ 8 ∧ m + (8 - hops) * 5000 + 1 ≤ g2 ∧ 1 ≤ at'.size ∧ at'.size ≤ 4096 ∧ p.size ≤ 4096 ∧ (∀ x ∈ ps, x.size ≤ 4096) ∧ g2 ≤ 50000) := Lib.hid ⟨HG.out.2.2.2.1, by have := HG.out.2.2.2.2.1; omega, HG.out.2.2.2.2.2.1, HG.out.2.2.2.2.2.2.1, HG.out.2.2.2.2.2.2.2 p (by simp), fun x hx => HG.out.2.2.2.2.2.2.2 x (by simp [hx]), by have := GB.out; omega⟩
          obtain ⟨b, o, rfl, hbl, hc0⟩ := HTR.out 0 (by simp)
          rw [List.getD_cons_zero, Nat.add_zero] at hc0
          have HTP : Hid (TRow wr (some ⟨b, o + 1, none⟩) ps) := Lib.hid (fun i hi => by
            obtain ⟨b', o', e, h1, h2⟩ := HTR.out (i + 1) (by simp; omega)
            simp only [Option.some.injEq, Addr.mk.injEq, and_true] at e
            obtain ⟨rfl, rfl⟩ := e
            refine ⟨b, o + 1, rfl, h1, ?_⟩
            rw [List.getD_cons_succ] at h2
            rw [show o + 1 + i = o + (i + 1) by omega]
            exact h2)
          have HGO := Lib.hid HG.out.1
          have ht0 := HT.out wr HBR.out
          have hl0 := HLK.out wr HBR.out at' (by have := HOP.out.2.2.2.1; omega)
          have hfk := field_kind
          obtain ⟨e1, he1⟩ : ∃ e1, (F at').getD Ent.zero = e1 := ⟨_, rfl⟩
          rw [he1] at hl0
          have HE1 := Lib.hid he1
          unfold Ent.v at hl0
          clear HG HTR he1 hbl
          rcases (show ¬ pc = 1 ∨ pc = 1 by omega) with hp1 | hp1
          · by_cases hk1 : e1.kind = 1
            · have hk2 : (e1.kind != 1) = false := by rw [hk1]; rfl
              by_cases hq0 : p = ⟨#[]⟩
              · have HS : Hid (goFol F g2 at' ps hops = R) := Lib.hid (by rw [← HGO.out, goFol_cons, HE1.out, if_neg (by simp [hk1]), if_pos (.inl hq0)])
                subst hq0
                clear hk1 HE1
                go_wp2_with fail
                go_roundg g2
                case measure => omega
                case rel => exact ⟨at', ps, (some ⟨b, o + 1, none⟩), m, (pc - 1), hops, rfl, rfl, rfl, Lib.hid ⟨HS.out, HM.out, by omega, HOP.out.1, by have := HOP.out.2.1; omega, HOP.out.2.2.1, HOP.out.2.2.2.1, HOP.out.2.2.2.2.2.1⟩, Lib.hid (by have := GB.out; omega), HTP, HBR⟩
              by_cases hq1 : p = ⟨#[46]⟩
              · have HS : Hid (goFol F g2 at' ps hops = R) := Lib.hid (by rw [← HGO.out, goFol_cons, HE1.out, if_neg (by simp [hk1]), if_pos (.inr hq1)])
                subst hq1
                clear hk1 HE1 hq0
                go_wp2_with fail
                go_roundg g2
                case measure => omega
                case rel => exact ⟨at', ps, (some ⟨b, o + 1, none⟩), m, (pc - 1), hops, rfl, rfl, rfl, Lib.hid ⟨HS.out, HM.out, by omega, HOP.out.1, by have := HOP.out.2.1; omega, HOP.out.2.2.1, HOP.out.2.2.2.1, HOP.out.2.2.2.2.2.1⟩, Lib.hid (by have := GB.out; omega), HTP, HBR⟩
              have hn0 : (p.toList == []) = false := by
                have := text_ne hq0
                rwa [show (⟨#[]⟩ : ByteArray).toList = [] by rw [ByteArray.toList_eq]] at this
              have hn1 : (p.toList == [46]) = false := by
                have := text_ne hq1
                rwa [show (⟨#[46]⟩ : ByteArray).toList = [46] by rw [ByteArray.toList_eq]] at this
              by_cases hq2 : p = ⟨#[46, 46]⟩
              · have HS : Hid (goFol F g2 (parentF at') ps hops = R) := Lib.hid (by rw [← HGO.out, goFol_cons, HE1.out, if_neg (by simp [hk1]), if_neg (by rintro (h | h); exact hq0 h; exact hq1 h), if_pos hq2])
                have HPA : Hid _ := Lib.hid (parent_any at' wr HOP.out.2.2.1 (by have := HOP.out.2.2.2.1; omega))
                have HPS := Lib.hid (parent_size at' HOP.out.2.2.1)
                subst hq2
                clear hk1 HE1 hq0 hq1 hn0 hn1
                go_wp2_with fail
                refine HPA.out.mono ?_
                rintro e w' ⟨rfl, rfl⟩
                go_wp2_with fail
                go_roundg g2
                case measure => omega
                case rel => exact ⟨parentF at', ps, (some ⟨b, o + 1, none⟩), m, (pc - 1), hops, rfl, rfl, rfl, Lib.hid ⟨HS.out, HM.out, by omega, HOP.out.1, by have := HOP.out.2.1; omega, HPS.out.1, by have h1 := HPS.out.2; have h2 := HOP.out.2.2.2.1; omega, HOP.out.2.2.2.2.2.1⟩, Lib.hid (by have := GB.out; omega), HTP, HBR⟩
              have hn2 : (p.toList == [46, 46]) = false := by
                have := text_ne hq2
                rwa [show (⟨#[46, 46]⟩ : ByteArray).toList = [46, 46] by rw [ByteArray.toList_eq]] at this
              have HS : Hid ((match F (joinF at' p) with
                  | none => .error 6
                  | some e =>
                    if e.kind ≠ 2 then goFol F g2 (joinF at' p) ps hops
                    else if 8 < hops + 1 then .error 15
                    else if e.to.get! 0 = 47 then goFol F g2 slash (slashF (restF e.to) ++ ps) (hops + 1)
                    else goFol F g2 at' (slashF e.to ++ ps) (hops + 1)) = R) := Lib.hid (by rw [← HGO.out, goFol_cons, HE1.out, if_neg (by simp [hk1]), if_neg (by rintro (h | h); exact hq0 h; exact hq1 h), if_neg hq2]; rfl)
              have HJ : Hid _ := Lib.hid (join_any at' p wr (by have := HOP.out.2.2.2.1; omega) (by have := HOP.out.2.2.2.2.1; omega))
              have hjs := join_size at' p
              have HJS : Hid ((joinF at' p).size ≤ 8193) := Lib.hid (by have h1 := HOP.out.2.2.2.1; have h2 := HOP.out.2.2.2.2.1; omega)
              generalize joinF at' p = nx at *
              have hl2 := HLO.out wr HBR.out nx (by have := HJS.out; omega)
              clear hk1 HE1 hq0 hq1 hq2 hjs HGO
              obtain ⟨e2, he2⟩ : ∃ e2, (F nx).getD Ent.zero = e2 := ⟨_, rfl⟩
              rw [he2] at hl2
              have HZ : Hid ((wr.alloc (.cells #[.pointer none, .int .i64 0, .string ⟨#[]⟩] 56)).heap[wr.heap.size]? = some (.cells #[.pointer none, .int .i64 0, .string ⟨#[]⟩] 56)) := Lib.hid (heap_alloc_new _ _)
              have HIE : Hid ((Tryz.prog.info? 56).map (·.size) = some (#[ptrV e2.sh, .int .i64 e2.kind, .string e2.to] : Array Value).size) := Lib.hid (by kernel_rfl)
              have HOE : Hid ((#[ptrV e2.sh, .int .i64 e2.kind, .string e2.to] : Array Value).all (·.oneCell') = true) := Lib.hid (by obtain ⟨s', k', t'⟩ := e2; cases s' <;> simp [ptrV, Value.oneCell'])
              obtain ⟨w8, hw8⟩ : ∃ w8, (wr.alloc (.cells #[.pointer none, .int .i64 0, .string ⟨#[]⟩] 56)).setRow wr.heap.size #[ptrV e2.sh, .int .i64 e2.kind, .string e2.to] = w8 := ⟨_, rfl⟩
              have HW8 := Lib.hid hw8
              have hx8 : w8.heap[wr.heap.size]? = some (.cells #[ptrV e2.sh, .int .i64 e2.kind, .string e2.to] 56) := by rw [← hw8]; exact setRow_heap _ _ _ _ _ _ HZ.out
              have B8 : Hid (Below wr.heap.size wr w8) := Lib.hid (by
                rw [← hw8]
                have h := (Below.refl wr.heap.size wr).alloc (Nat.le_refl _) (.cells #[.pointer none, .int .i64 0, .string ⟨#[]⟩] 56)
                exact ⟨h.os, h.tape, h.output, by rw [setRow_size]; exact h.size, fun k hk => (setRow_other _ _ _ _ (by omega)).trans (h.block k hk)⟩)
              have B8w : Hid (Below w.heap.size w w8) := Lib.hid (bstep HBR.out B8.out)
              have d1 : w8.cell? ⟨wr.heap.size, 1, none⟩ = some (.int .i64 e2.kind) := by rw [cell_of_row _ _ 1 _ _ _ hx8]; rfl
              have d2 : w8.cell? ⟨wr.heap.size, 2, none⟩ = some (.string e2.to) := by rw [cell_of_row _ _ 2 _ _ _ hx8]; rfl
              unfold Ent.v at hl2
              clear hw8 hx8
              cases hfx : F nx with
              | none =>
                have HE : Hid (R = .error 6) := Lib.hid (by have := HS.out; rw [hfx] at this; exact this.symm)
                rw [hfx] at hl2
                clear HS hfx
                go_wp2_with fail
                refine HJ.out.mono ?_
                rintro e w' ⟨rfl, rfl⟩
                go_wp2_with (refine wpList_store_row rfl 56 _ _ rfl wr.heap.size #[ptrV e2.sh, .int .i64 e2.kind, .string e2.to] rfl rfl 56 _ HZ.out HIE.out rfl HOE.out ?_; rw [HW8.out])
                go_ret2
                rw [HE.out]
                exact ⟨rfl, B8w.out⟩
              | some e3 =>
                obtain rfl : e3 = e2 := by rw [hfx] at he2; exact he2
                rw [hfx] at hl2
                have HFX := Lib.hid hfx
                have hky := HOK.out.keys nx e3 hfx
                have HKY := Lib.hid hky
                have HLN := Lib.hid (HOK.out.links nx e3 hfx)
                clear hky hfx he2
                by_cases hk3 : e3.kind = 2
                · have HK2 := Lib.hid hk3
                  have HTO := Lib.hid (HLN.out hk3)
                  have hk4 : (e3.kind != 2) = false := by rw [hk3]; rfl
                  have hw1 : IntKind.i64.wrap ((hops : Int) + 1) = ((hops + 1 : Nat) : Int) := by have := HOP.out.1; rw [IntKind.wrap_i64]; omega
                  by_cases hh : hops = 8
                  · have HE : Hid (R = .error 15) := Lib.hid (by
                      have := HS.out
                      rw [HFX.out] at this
                      simp only [] at this
                      rw [if_neg (by simp [hk3]), if_pos (by omega)] at this
                      exact this.symm)
                    subst hh
                    clear HS hk3
                    go_wp2_with fail
                    refine HJ.out.mono ?_
                    rintro e w' ⟨rfl, rfl⟩
                    go_wp2_with (refine wpList_store_row rfl 56 _ _ rfl wr.heap.size #[ptrV e3.sh, .int .i64 e3.kind, .string e3.to] rfl rfl 56 _ HZ.out HIE.out rfl HOE.out ?_; rw [HW8.out])
                    go_ret2
                    rw [HE.out]
                    exact ⟨rfl, B8w.out⟩
                  · have HHO : Hid (hops ≤ 7) := Lib.hid (by have := HOP.out.1; omega)
                    have hh8 : ¬ (8 : Int) < ((hops + 1 : Nat) : Int) := by have := HHO.out; omega
                    have hh8' : ¬ (8 : Int) < (hops : Int) + 1 := by have := HHO.out; omega
                    have hx := first_bang e3.to (by have := HTO.out.1; omega)
                    have hto0 : (0 : Int) < (e3.to.size : Int) := by have := HTO.out.1; omega
                    have hto1 : (1 : Int) ≤ (e3.to.size : Int) := by omega
                    by_cases h47 : e3.to.get! 0 = 47
                    · have hb : (((e3.to[0]'(by have := HTO.out.1; omega)).toNat : Int) == 47) = true := by rw [← hx, h47]; rfl
                      clear hx hk3
                      have HSX : Hid (goFol F g2 slash (slashF (restF e3.to) ++ ps) (hops + 1) = R) := Lib.hid (by have := HS.out; rw [HFX.out] at this; simp only [] at this; rwa [if_neg (by simp [HK2.out]), if_neg (by omega), if_pos h47] at this)
                      have HSP : Hid (∀ wx, Calls Tryz.prog 31 #[.string (restF e3.to), .string ⟨#[47]⟩] wx fun e w' => e = .returned (.slice (some ⟨wx.heap.size, 0, none⟩) (slashF (restF e3.to)).length (slashF (restF e3.to)).length) ∧ w' = wx.alloc (.cells ((slashF (restF e3.to)).map Value.string).toArray 9)) := Lib.hid (fun wx => split_slash (restF e3.to) wx (by have h1 := restF_size e3.to; have h2 := HTO.out; omega))
                      have HSL : Hid ((slashF (restF e3.to)).length ≤ 4097 ∧ ∀ x ∈ slashF (restF e3.to), x.size ≤ 4096) := Lib.hid ⟨by have h1 := slashF_le (restF e3.to); have h2 := restF_size e3.to; have h3 := HTO.out; omega, fun x hx => by have h1 := slashF_mem hx; have h2 := restF_size e3.to; have h3 := HTO.out; omega⟩
                      unfold restF at HSX HSP HSL
                      generalize slashF (e3.to.extract 1 e3.to.size) = L2 at *
                      clear HS
                      go_wp2_with fail
                      refine HJ.out.mono ?_
                      rintro e w' ⟨rfl, rfl⟩
                      go_wp2_with (refine wpList_store_row rfl 56 _ _ rfl wr.heap.size #[ptrV e3.sh, .int .i64 e3.kind, .string e3.to] rfl rfl 56 _ HZ.out HIE.out rfl HOE.out ?_; rw [HW8.out])
                      go_quiet (fail)
                      go_wp2_with fail
                      refine (HSP.out (World.drewN w8 nq)).mono ?_
                      rintro e w9 ⟨rfl, rfl⟩
                      have BD : Hid (Below w.heap.size w ((World.drewN w8 nq).alloc (.cells (L2.map Value.string).toArray 9))) := Lib.hid ((below_drewN B8w.out nq).alloc (below_drewN B8w.out nq).size _)
                      have OD : Hid (OwnT ((World.drewN w8 nq).alloc (.cells (L2.map Value.string).toArray 9)) w.heap.size 9 (.slice (some ⟨(World.drewN w8 nq).heap.size, 0, none⟩) L2.length L2.length) L2) := Lib.hid (OwnT.lit _ _ _ L2 _ rfl (below_drewN B8w.out nq).size (by have := HSL.out.1; unfold maxLen; omega))
                      have TD : Hid (TRow ((World.drewN w8 nq).alloc (.cells (L2.map Value.string).toArray 9)) (some ⟨b, o + 1, none⟩) ps) := Lib.hid (((HTP.out.below B8.out).below (below_drewN (Below.refl _ _) nq)).below ((Below.refl _ _).alloc (Nat.le_refl _) _))
                      have ND : Hid (m + L2.length ≤ 60000) := Lib.hid (by have h1 := HSL.out.1; have h2 := HOP.out.2.1; have h3 := HOP.out.2.2.2.2.2.2; omega)
                      generalize (World.drewN w8 nq).alloc (.cells (L2.map Value.string).toArray 9) = wx at *
                      go_wp2_with (at_builtin; (refine wpList_texts rfl (.tmp 83) (.tmp 84) texts_t text_info rfl w.heap.size w (.slice (some ⟨(World.drewN w8 nq).heap.size, 0, none⟩) L2.length L2.length) L2 L2.length ((some ⟨b, o + 1, none⟩)) ((pc - 1)) m ps rfl (by rfl) rfl HM.out TD.out (fun h => by cases h) OD.out (by have := ND.out; unfold maxLen; omega) (by have := ND.out; omega) BD.out BD.out.size ?_; intro v4 w4 ho4 hb4; obtain ⟨ad4, c4, rfl⟩ := ho4.form; have O4 := Lib.hid ho4; have B4 := Lib.hid hb4; clear ho4 hb4))
                      go_roundg g2
                      case measure => omega
                      case rel => exact ⟨slash, L2 ++ ps, ad4, (L2 ++ ps).length, c4, hops + 1, rfl, by simp [HM.out], by go_num, Lib.hid ⟨HSX.out, rfl, O4.out.row.2.2, by have := HHO.out; omega, by rw [List.length_append]; have h1 := HSL.out.1; have h2 := HOP.out.2.1; have h3 := HHO.out; have h4 := HM.out; omega, by rw [slash_one]; omega, by rw [slash_one]; omega, fun x hx => by
                        rcases List.mem_append.1 hx with h | h
                        · exact HSL.out.2 x h
                        · exact HOP.out.2.2.2.2.2.1 x h⟩, Lib.hid (by have := GB.out; omega), Lib.hid O4.out.row.1, B4⟩
                    · have hb : (((e3.to[0]'(by have := HTO.out.1; omega)).toNat : Int) == 47) = false := by
                        rw [beq_eq_false_iff_ne]
                        intro e
                        apply h47
                        rw [hx]
                        exact UInt8.toNat_inj.1 (by show _ = 47; omega)
                      clear hx hk3
                      have HSX : Hid (goFol F g2 at' (slashF e3.to ++ ps) (hops + 1) = R) := Lib.hid (by have := HS.out; rw [HFX.out] at this; simp only [] at this; rwa [if_neg (by simp [HK2.out]), if_neg (by omega), if_neg h47] at this)
                      have HSP : Hid (∀ wx, Calls Tryz.prog 31 #[.string e3.to, .string ⟨#[47]⟩] wx fun e w' => e = .returned (.slice (some ⟨wx.heap.size, 0, none⟩) (slashF e3.to).length (slashF e3.to).length) ∧ w' = wx.alloc (.cells ((slashF e3.to).map Value.string).toArray 9)) := Lib.hid (fun wx => split_slash e3.to wx (by have h2 := HTO.out; omega))
                      have HSL : Hid ((slashF e3.to).length ≤ 4097 ∧ ∀ x ∈ slashF e3.to, x.size ≤ 4096) := Lib.hid ⟨by have h1 := slashF_le e3.to; have h3 := HTO.out; omega, fun x hx => by have h1 := slashF_mem hx; have h3 := HTO.out; omega⟩
                      generalize slashF e3.to = L2 at *
                      clear HS
                      go_wp2_with fail
                      refine HJ.out.mono ?_
                      rintro e w' ⟨rfl, rfl⟩
                      go_wp2_with (refine wpList_store_row rfl 56 _ _ rfl wr.heap.size #[ptrV e3.sh, .int .i64 e3.kind, .string e3.to] rfl rfl 56 _ HZ.out HIE.out rfl HOE.out ?_; rw [HW8.out])
                      refine (HSP.out w8).mono ?_
                      rintro e w9 ⟨rfl, rfl⟩
                      have BD : Hid (Below w.heap.size w (w8.alloc (.cells (L2.map Value.string).toArray 9))) := Lib.hid (B8w.out.alloc B8w.out.size _)
                      have OD : Hid (OwnT (w8.alloc (.cells (L2.map Value.string).toArray 9)) w.heap.size 9 (.slice (some ⟨w8.heap.size, 0, none⟩) L2.length L2.length) L2) := Lib.hid (OwnT.lit _ _ _ L2 _ rfl B8w.out.size (by have := HSL.out.1; unfold maxLen; omega))
                      have TD : Hid (TRow (w8.alloc (.cells (L2.map Value.string).toArray 9)) (some ⟨b, o + 1, none⟩) ps) := Lib.hid ((HTP.out.below B8.out).below ((Below.refl _ _).alloc (Nat.le_refl _) _))
                      have ND : Hid (m + L2.length ≤ 60000) := Lib.hid (by have h1 := HSL.out.1; have h2 := HOP.out.2.1; have h3 := HOP.out.2.2.2.2.2.2; omega)
                      generalize w8.alloc (.cells (L2.map Value.string).toArray 9) = wx at *
                      go_wp2_with (at_builtin; (refine wpList_texts rfl (.tmp 83) (.tmp 84) texts_t text_info rfl w.heap.size w (.slice (some ⟨w8.heap.size, 0, none⟩) L2.length L2.length) L2 L2.length ((some ⟨b, o + 1, none⟩)) ((pc - 1)) m ps rfl (by rfl) rfl HM.out TD.out (fun h => by cases h) OD.out (by have := ND.out; unfold maxLen; omega) (by have := ND.out; omega) BD.out BD.out.size ?_; intro v4 w4 ho4 hb4; obtain ⟨ad4, c4, rfl⟩ := ho4.form; have O4 := Lib.hid ho4; have B4 := Lib.hid hb4; clear ho4 hb4))
                      go_roundg g2
                      case measure => omega
                      case rel => exact ⟨at', L2 ++ ps, ad4, (L2 ++ ps).length, c4, hops + 1, rfl, by simp [HM.out], by go_num, Lib.hid ⟨HSX.out, rfl, O4.out.row.2.2, by have := HHO.out; omega, by rw [List.length_append]; have h1 := HSL.out.1; have h2 := HOP.out.2.1; have h3 := HHO.out; have h4 := HM.out; omega, HOP.out.2.2.1, HOP.out.2.2.2.1, fun x hx => by
                        rcases List.mem_append.1 hx with h | h
                        · exact HSL.out.2 x h
                        · exact HOP.out.2.2.2.2.2.1 x h⟩, Lib.hid (by have := GB.out; omega), Lib.hid O4.out.row.1, B4⟩
                · have hk4 : (e3.kind != 2) = true := by rw [bne_iff_ne]; exact hk3
                  have HSX : Hid (goFol F g2 nx ps hops = R) := Lib.hid (by
                    have := HS.out
                    rw [HFX.out] at this
                    simp only [] at this
                    rwa [if_pos hk3] at this)
                  clear HS hk3
                  go_wp2_with fail
                  refine HJ.out.mono ?_
                  rintro e w' ⟨rfl, rfl⟩
                  go_wp2_with (refine wpList_store_row rfl 56 _ _ rfl wr.heap.size #[ptrV e3.sh, .int .i64 e3.kind, .string e3.to] rfl rfl 56 _ HZ.out HIE.out rfl HOE.out ?_; rw [HW8.out])
                  go_roundg g2
                  case measure => omega
                  case rel => exact ⟨nx, ps, (some ⟨b, o + 1, none⟩), m, (pc - 1), hops, rfl, rfl, rfl, Lib.hid ⟨HSX.out, HM.out, by omega, HOP.out.1, by have := HOP.out.2.1; omega, HKY.out.1, HKY.out.2, HOP.out.2.2.2.2.2.1⟩, Lib.hid (by have := GB.out; omega), Lib.hid (HTP.out.below B8.out), B8w⟩
            · have hk2 : (e1.kind != 1) = true := by rw [bne_iff_ne]; exact hk1
              have HE : Hid (R = .error 16) := Lib.hid (by rw [← HGO.out, goFol_cons, HE1.out, if_pos hk1])
              clear hk1 HE1 HGO
              go_wp2_with fail
              go_ret2
              rw [HE.out]
              exact ⟨rfl, HBR.out⟩
          · obtain rfl : m = 0 := by omega
            obtain rfl : ps = [] := List.length_eq_zero_iff.1 HM.out
            subst hp1
            have HTP : Hid (TRow wr (some ⟨b, o, none⟩) ([] : List ByteArray)) := Lib.hid (fun i hi => by simp at hi)
            by_cases hk1 : e1.kind = 1
            · have hk2 : (e1.kind != 1) = false := by rw [hk1]; rfl
              by_cases hq0 : p = ⟨#[]⟩
              · have HS : Hid (goFol F g2 at' ([] : List ByteArray) hops = R) := Lib.hid (by rw [← HGO.out, goFol_cons, HE1.out, if_neg (by simp [hk1]), if_pos (.inl hq0)])
                subst hq0
                clear hk1 HE1
                go_wp2_with fail
                go_roundg g2
                case measure => omega
                case rel => exact ⟨at', ([] : List ByteArray), (some ⟨b, o, none⟩), 0, 0, hops, rfl, rfl, rfl, Lib.hid ⟨HS.out, HM.out, by omega, HOP.out.1, by have := HOP.out.2.1; omega, HOP.out.2.2.1, HOP.out.2.2.2.1, HOP.out.2.2.2.2.2.1⟩, Lib.hid (by have := GB.out; omega), HTP, HBR⟩
              by_cases hq1 : p = ⟨#[46]⟩
              · have HS : Hid (goFol F g2 at' ([] : List ByteArray) hops = R) := Lib.hid (by rw [← HGO.out, goFol_cons, HE1.out, if_neg (by simp [hk1]), if_pos (.inr hq1)])
                subst hq1
                clear hk1 HE1 hq0
                go_wp2_with fail
                go_roundg g2
                case measure => omega
                case rel => exact ⟨at', ([] : List ByteArray), (some ⟨b, o, none⟩), 0, 0, hops, rfl, rfl, rfl, Lib.hid ⟨HS.out, HM.out, by omega, HOP.out.1, by have := HOP.out.2.1; omega, HOP.out.2.2.1, HOP.out.2.2.2.1, HOP.out.2.2.2.2.2.1⟩, Lib.hid (by have := GB.out; omega), HTP, HBR⟩
              have hn0 : (p.toList == []) = false := by
                have := text_ne hq0
                rwa [show (⟨#[]⟩ : ByteArray).toList = [] by rw [ByteArray.toList_eq]] at this
              have hn1 : (p.toList == [46]) = false := by
                have := text_ne hq1
                rwa [show (⟨#[46]⟩ : ByteArray).toList = [46] by rw [ByteArray.toList_eq]] at this
              by_cases hq2 : p = ⟨#[46, 46]⟩
              · have HS : Hid (goFol F g2 (parentF at') ([] : List ByteArray) hops = R) := Lib.hid (by rw [← HGO.out, goFol_cons, HE1.out, if_neg (by simp [hk1]), if_neg (by rintro (h | h); exact hq0 h; exact hq1 h), if_pos hq2])
                have HPA : Hid _ := Lib.hid (parent_any at' wr HOP.out.2.2.1 (by have := HOP.out.2.2.2.1; omega))
                have HPS := Lib.hid (parent_size at' HOP.out.2.2.1)
                subst hq2
                clear hk1 HE1 hq0 hq1 hn0 hn1
                go_wp2_with fail
                refine HPA.out.mono ?_
                rintro e w' ⟨rfl, rfl⟩
                go_wp2_with fail
                go_roundg g2
                case measure => omega
                case rel => exact ⟨parentF at', ([] : List ByteArray), (some ⟨b, o, none⟩), 0, 0, hops, rfl, rfl, rfl, Lib.hid ⟨HS.out, HM.out, by omega, HOP.out.1, by have := HOP.out.2.1; omega, HPS.out.1, by have h1 := HPS.out.2; have h2 := HOP.out.2.2.2.1; omega, HOP.out.2.2.2.2.2.1⟩, Lib.hid (by have := GB.out; omega), HTP, HBR⟩
              have hn2 : (p.toList == [46, 46]) = false := by
                have := text_ne hq2
                rwa [show (⟨#[46, 46]⟩ : ByteArray).toList = [46, 46] by rw [ByteArray.toList_eq]] at this
              have HS : Hid ((match F (joinF at' p) with
                  | none => .error 6
                  | some e =>
                    if e.kind ≠ 2 then goFol F g2 (joinF at' p) ([] : List ByteArray) hops
                    else if 8 < hops + 1 then .error 15
                    else if e.to.get! 0 = 47 then goFol F g2 slash (slashF (restF e.to) ++ ([] : List ByteArray)) (hops + 1)
                    else goFol F g2 at' (slashF e.to ++ ([] : List ByteArray)) (hops + 1)) = R) := Lib.hid (by rw [← HGO.out, goFol_cons, HE1.out, if_neg (by simp [hk1]), if_neg (by rintro (h | h); exact hq0 h; exact hq1 h), if_neg hq2]; rfl)
              have HJ : Hid _ := Lib.hid (join_any at' p wr (by have := HOP.out.2.2.2.1; omega) (by have := HOP.out.2.2.2.2.1; omega))
              have hjs := join_size at' p
              have HJS : Hid ((joinF at' p).size ≤ 8193) := Lib.hid (by have h1 := HOP.out.2.2.2.1; have h2 := HOP.out.2.2.2.2.1; omega)
              generalize joinF at' p = nx at *
              have hl2 := HLO.out wr HBR.out nx (by have := HJS.out; omega)
              clear hk1 HE1 hq0 hq1 hq2 hjs HGO
              obtain ⟨e2, he2⟩ : ∃ e2, (F nx).getD Ent.zero = e2 := ⟨_, rfl⟩
              rw [he2] at hl2
              have HZ : Hid ((wr.alloc (.cells #[.pointer none, .int .i64 0, .string ⟨#[]⟩] 56)).heap[wr.heap.size]? = some (.cells #[.pointer none, .int .i64 0, .string ⟨#[]⟩] 56)) := Lib.hid (heap_alloc_new _ _)
              have HIE : Hid ((Tryz.prog.info? 56).map (·.size) = some (#[ptrV e2.sh, .int .i64 e2.kind, .string e2.to] : Array Value).size) := Lib.hid (by kernel_rfl)
              have HOE : Hid ((#[ptrV e2.sh, .int .i64 e2.kind, .string e2.to] : Array Value).all (·.oneCell') = true) := Lib.hid (by obtain ⟨s', k', t'⟩ := e2; cases s' <;> simp [ptrV, Value.oneCell'])
              obtain ⟨w8, hw8⟩ : ∃ w8, (wr.alloc (.cells #[.pointer none, .int .i64 0, .string ⟨#[]⟩] 56)).setRow wr.heap.size #[ptrV e2.sh, .int .i64 e2.kind, .string e2.to] = w8 := ⟨_, rfl⟩
              have HW8 := Lib.hid hw8
              have hx8 : w8.heap[wr.heap.size]? = some (.cells #[ptrV e2.sh, .int .i64 e2.kind, .string e2.to] 56) := by rw [← hw8]; exact setRow_heap _ _ _ _ _ _ HZ.out
              have B8 : Hid (Below wr.heap.size wr w8) := Lib.hid (by
                rw [← hw8]
                have h := (Below.refl wr.heap.size wr).alloc (Nat.le_refl _) (.cells #[.pointer none, .int .i64 0, .string ⟨#[]⟩] 56)
                exact ⟨h.os, h.tape, h.output, by rw [setRow_size]; exact h.size, fun k hk => (setRow_other _ _ _ _ (by omega)).trans (h.block k hk)⟩)
              have B8w : Hid (Below w.heap.size w w8) := Lib.hid (bstep HBR.out B8.out)
              have d1 : w8.cell? ⟨wr.heap.size, 1, none⟩ = some (.int .i64 e2.kind) := by rw [cell_of_row _ _ 1 _ _ _ hx8]; rfl
              have d2 : w8.cell? ⟨wr.heap.size, 2, none⟩ = some (.string e2.to) := by rw [cell_of_row _ _ 2 _ _ _ hx8]; rfl
              unfold Ent.v at hl2
              clear hw8 hx8
              cases hfx : F nx with
              | none =>
                have HE : Hid (R = .error 6) := Lib.hid (by have := HS.out; rw [hfx] at this; exact this.symm)
                rw [hfx] at hl2
                clear HS hfx
                go_wp2_with fail
                refine HJ.out.mono ?_
                rintro e w' ⟨rfl, rfl⟩
                go_wp2_with (refine wpList_store_row rfl 56 _ _ rfl wr.heap.size #[ptrV e2.sh, .int .i64 e2.kind, .string e2.to] rfl rfl 56 _ HZ.out HIE.out rfl HOE.out ?_; rw [HW8.out])
                go_ret2
                rw [HE.out]
                exact ⟨rfl, B8w.out⟩
              | some e3 =>
                obtain rfl : e3 = e2 := by rw [hfx] at he2; exact he2
                rw [hfx] at hl2
                have HFX := Lib.hid hfx
                have hky := HOK.out.keys nx e3 hfx
                have HKY := Lib.hid hky
                have HLN := Lib.hid (HOK.out.links nx e3 hfx)
                clear hky hfx he2
                by_cases hk3 : e3.kind = 2
                · have HK2 := Lib.hid hk3
                  have HTO := Lib.hid (HLN.out hk3)
                  have hk4 : (e3.kind != 2) = false := by rw [hk3]; rfl
                  have hw1 : IntKind.i64.wrap ((hops : Int) + 1) = ((hops + 1 : Nat) : Int) := by have := HOP.out.1; rw [IntKind.wrap_i64]; omega
                  by_cases hh : hops = 8
                  · have HE : Hid (R = .error 15) := Lib.hid (by
                      have := HS.out
                      rw [HFX.out] at this
                      simp only [] at this
                      rw [if_neg (by simp [hk3]), if_pos (by omega)] at this
                      exact this.symm)
                    subst hh
                    clear HS hk3
                    go_wp2_with fail
                    refine HJ.out.mono ?_
                    rintro e w' ⟨rfl, rfl⟩
                    go_wp2_with (refine wpList_store_row rfl 56 _ _ rfl wr.heap.size #[ptrV e3.sh, .int .i64 e3.kind, .string e3.to] rfl rfl 56 _ HZ.out HIE.out rfl HOE.out ?_; rw [HW8.out])
                    go_ret2
                    rw [HE.out]
                    exact ⟨rfl, B8w.out⟩
                  · have HHO : Hid (hops ≤ 7) := Lib.hid (by have := HOP.out.1; omega)
                    have hh8 : ¬ (8 : Int) < ((hops + 1 : Nat) : Int) := by have := HHO.out; omega
                    have hh8' : ¬ (8 : Int) < (hops : Int) + 1 := by have := HHO.out; omega
                    have hx := first_bang e3.to (by have := HTO.out.1; omega)
                    have hto0 : (0 : Int) < (e3.to.size : Int) := by have := HTO.out.1; omega
                    have hto1 : (1 : Int) ≤ (e3.to.size : Int) := by omega
                    by_cases h47 : e3.to.get! 0 = 47
                    · have hb : (((e3.to[0]'(by have := HTO.out.1; omega)).toNat : Int) == 47) = true := by rw [← hx, h47]; rfl
                      clear hx hk3
                      have HSX : Hid (goFol F g2 slash (slashF (restF e3.to) ++ ([] : List ByteArray)) (hops + 1) = R) := Lib.hid (by have := HS.out; rw [HFX.out] at this; simp only [] at this; rwa [if_neg (by simp [HK2.out]), if_neg (by omega), if_pos h47] at this)
                      have HSP : Hid (∀ wx, Calls Tryz.prog 31 #[.string (restF e3.to), .string ⟨#[47]⟩] wx fun e w' => e = .returned (.slice (some ⟨wx.heap.size, 0, none⟩) (slashF (restF e3.to)).length (slashF (restF e3.to)).length) ∧ w' = wx.alloc (.cells ((slashF (restF e3.to)).map Value.string).toArray 9)) := Lib.hid (fun wx => split_slash (restF e3.to) wx (by have h1 := restF_size e3.to; have h2 := HTO.out; omega))
                      have HSL : Hid ((slashF (restF e3.to)).length ≤ 4097 ∧ ∀ x ∈ slashF (restF e3.to), x.size ≤ 4096) := Lib.hid ⟨by have h1 := slashF_le (restF e3.to); have h2 := restF_size e3.to; have h3 := HTO.out; omega, fun x hx => by have h1 := slashF_mem hx; have h2 := restF_size e3.to; have h3 := HTO.out; omega⟩
                      unfold restF at HSX HSP HSL
                      generalize slashF (e3.to.extract 1 e3.to.size) = L2 at *
                      clear HS
                      go_wp2_with fail
                      refine HJ.out.mono ?_
                      rintro e w' ⟨rfl, rfl⟩
                      go_wp2_with (refine wpList_store_row rfl 56 _ _ rfl wr.heap.size #[ptrV e3.sh, .int .i64 e3.kind, .string e3.to] rfl rfl 56 _ HZ.out HIE.out rfl HOE.out ?_; rw [HW8.out])
                      go_quiet (fail)
                      go_wp2_with fail
                      refine (HSP.out (World.drewN w8 nq)).mono ?_
                      rintro e w9 ⟨rfl, rfl⟩
                      have BD : Hid (Below w.heap.size w ((World.drewN w8 nq).alloc (.cells (L2.map Value.string).toArray 9))) := Lib.hid ((below_drewN B8w.out nq).alloc (below_drewN B8w.out nq).size _)
                      have OD : Hid (OwnT ((World.drewN w8 nq).alloc (.cells (L2.map Value.string).toArray 9)) w.heap.size 9 (.slice (some ⟨(World.drewN w8 nq).heap.size, 0, none⟩) L2.length L2.length) L2) := Lib.hid (OwnT.lit _ _ _ L2 _ rfl (below_drewN B8w.out nq).size (by have := HSL.out.1; unfold maxLen; omega))
                      have TD : Hid (TRow ((World.drewN w8 nq).alloc (.cells (L2.map Value.string).toArray 9)) (some ⟨b, o, none⟩) ([] : List ByteArray)) := Lib.hid (((HTP.out.below B8.out).below (below_drewN (Below.refl _ _) nq)).below ((Below.refl _ _).alloc (Nat.le_refl _) _))
                      have ND : Hid (0 + L2.length ≤ 60000) := Lib.hid (by have h1 := HSL.out.1; have h2 := HOP.out.2.1; have h3 := HOP.out.2.2.2.2.2.2; omega)
                      generalize (World.drewN w8 nq).alloc (.cells (L2.map Value.string).toArray 9) = wx at *
                      go_wp2_with (at_builtin; (refine wpList_texts rfl (.tmp 83) (.tmp 84) texts_t text_info rfl w.heap.size w (.slice (some ⟨(World.drewN w8 nq).heap.size, 0, none⟩) L2.length L2.length) L2 L2.length ((some ⟨b, o, none⟩)) (0) 0 ([] : List ByteArray) rfl (by rfl) rfl HM.out TD.out (fun h => by cases h) OD.out (by have := ND.out; unfold maxLen; omega) (by have := ND.out; omega) BD.out BD.out.size ?_; intro v4 w4 ho4 hb4; obtain ⟨ad4, c4, rfl⟩ := ho4.form; have O4 := Lib.hid ho4; have B4 := Lib.hid hb4; clear ho4 hb4))
                      go_roundg g2
                      case measure => omega
                      case rel => exact ⟨slash, L2 ++ ([] : List ByteArray), ad4, (L2 ++ ([] : List ByteArray)).length, c4, hops + 1, rfl, by simp [HM.out], by go_num, Lib.hid ⟨HSX.out, rfl, O4.out.row.2.2, by have := HHO.out; omega, by rw [List.length_append]; have h1 := HSL.out.1; have h2 := HOP.out.2.1; have h3 := HHO.out; have h4 := HM.out; omega, by rw [slash_one]; omega, by rw [slash_one]; omega, fun x hx => by
                        rcases List.mem_append.1 hx with h | h
                        · exact HSL.out.2 x h
                        · exact HOP.out.2.2.2.2.2.1 x h⟩, Lib.hid (by have := GB.out; omega), Lib.hid O4.out.row.1, B4⟩
                    · have hb : (((e3.to[0]'(by have := HTO.out.1; omega)).toNat : Int) == 47) = false := by
                        rw [beq_eq_false_iff_ne]
                        intro e
                        apply h47
                        rw [hx]
                        exact UInt8.toNat_inj.1 (by show _ = 47; omega)
                      clear hx hk3
                      have HSX : Hid (goFol F g2 at' (slashF e3.to ++ ([] : List ByteArray)) (hops + 1) = R) := Lib.hid (by have := HS.out; rw [HFX.out] at this; simp only [] at this; rwa [if_neg (by simp [HK2.out]), if_neg (by omega), if_neg h47] at this)
                      have HSP : Hid (∀ wx, Calls Tryz.prog 31 #[.string e3.to, .string ⟨#[47]⟩] wx fun e w' => e = .returned (.slice (some ⟨wx.heap.size, 0, none⟩) (slashF e3.to).length (slashF e3.to).length) ∧ w' = wx.alloc (.cells ((slashF e3.to).map Value.string).toArray 9)) := Lib.hid (fun wx => split_slash e3.to wx (by have h2 := HTO.out; omega))
                      have HSL : Hid ((slashF e3.to).length ≤ 4097 ∧ ∀ x ∈ slashF e3.to, x.size ≤ 4096) := Lib.hid ⟨by have h1 := slashF_le e3.to; have h3 := HTO.out; omega, fun x hx => by have h1 := slashF_mem hx; have h3 := HTO.out; omega⟩
                      generalize slashF e3.to = L2 at *
                      clear HS
                      go_wp2_with fail
                      refine HJ.out.mono ?_
                      rintro e w' ⟨rfl, rfl⟩
                      go_wp2_with (refine wpList_store_row rfl 56 _ _ rfl wr.heap.size #[ptrV e3.sh, .int .i64 e3.kind, .string e3.to] rfl rfl 56 _ HZ.out HIE.out rfl HOE.out ?_; rw [HW8.out])
                      refine (HSP.out w8).mono ?_
                      rintro e w9 ⟨rfl, rfl⟩
                      have BD : Hid (Below w.heap.size w (w8.alloc (.cells (L2.map Value.string).toArray 9))) := Lib.hid (B8w.out.alloc B8w.out.size _)
                      have OD : Hid (OwnT (w8.alloc (.cells (L2.map Value.string).toArray 9)) w.heap.size 9 (.slice (some ⟨w8.heap.size, 0, none⟩) L2.length L2.length) L2) := Lib.hid (OwnT.lit _ _ _ L2 _ rfl B8w.out.size (by have := HSL.out.1; unfold maxLen; omega))
                      have TD : Hid (TRow (w8.alloc (.cells (L2.map Value.string).toArray 9)) (some ⟨b, o, none⟩) ([] : List ByteArray)) := Lib.hid ((HTP.out.below B8.out).below ((Below.refl _ _).alloc (Nat.le_refl _) _))
                      have ND : Hid (0 + L2.length ≤ 60000) := Lib.hid (by have h1 := HSL.out.1; have h2 := HOP.out.2.1; have h3 := HOP.out.2.2.2.2.2.2; omega)
                      generalize w8.alloc (.cells (L2.map Value.string).toArray 9) = wx at *
                      go_wp2_with (at_builtin; (refine wpList_texts rfl (.tmp 83) (.tmp 84) texts_t text_info rfl w.heap.size w (.slice (some ⟨w8.heap.size, 0, none⟩) L2.length L2.length) L2 L2.length ((some ⟨b, o, none⟩)) (0) 0 ([] : List ByteArray) rfl (by rfl) rfl HM.out TD.out (fun h => by cases h) OD.out (by have := ND.out; unfold maxLen; omega) (by have := ND.out; omega) BD.out BD.out.size ?_; intro v4 w4 ho4 hb4; obtain ⟨ad4, c4, rfl⟩ := ho4.form; have O4 := Lib.hid ho4; have B4 := Lib.hid hb4; clear ho4 hb4))
                      go_roundg g2
                      case measure => omega
                      case rel => exact ⟨at', L2 ++ ([] : List ByteArray), ad4, (L2 ++ ([] : List ByteArray)).length, c4, hops + 1, rfl, by simp [HM.out], by go_num, Lib.hid ⟨HSX.out, rfl, O4.out.row.2.2, by have := HHO.out; omega, by rw [List.length_append]; have h1 := HSL.out.1; have h2 := HOP.out.2.1; have h3 := HHO.out; have h4 := HM.out; omega, HOP.out.2.2.1, HOP.out.2.2.2.1, fun x hx => by
                        rcases List.mem_append.1 hx with h | h
                        · exact HSL.out.2 x h
                        · exact HOP.out.2.2.2.2.2.1 x h⟩, Lib.hid (by have := GB.out; omega), Lib.hid O4.out.row.1, B4⟩
                · have hk4 : (e3.kind != 2) = true := by rw [bne_iff_ne]; exact hk3
                  have HSX : Hid (goFol F g2 nx ([] : List ByteArray) hops = R) := Lib.hid (by
                    have := HS.out
                    rw [HFX.out] at this
                    simp only [] at this
                    rwa [if_pos hk3] at this)
                  clear HS hk3
                  go_wp2_with fail
                  refine HJ.out.mono ?_
                  rintro e w' ⟨rfl, rfl⟩
                  go_wp2_with (refine wpList_store_row rfl 56 _ _ rfl wr.heap.size #[ptrV e3.sh, .int .i64 e3.kind, .string e3.to] rfl rfl 56 _ HZ.out HIE.out rfl HOE.out ?_; rw [HW8.out])
                  go_roundg g2
                  case measure => omega
                  case rel => exact ⟨nx, ([] : List ByteArray), (some ⟨b, o, none⟩), 0, 0, hops, rfl, rfl, rfl, Lib.hid ⟨HSX.out, HM.out, by omega, HOP.out.1, by have := HOP.out.2.1; omega, HKY.out.1, HKY.out.2, HOP.out.2.2.2.2.2.1⟩, Lib.hid (by have := GB.out; omega), Lib.hid (HTP.out.below B8.out), B8w⟩
            · have hk2 : (e1.kind != 1) = true := by rw [bne_iff_ne]; exact hk1
              have HE : Hid (R = .error 16) := Lib.hid (by rw [← HGO.out, goFol_cons, HE1.out, if_pos hk1])
              clear hk1 HE1 HGO
              go_wp2_with fail
              go_ret2
              rw [HE.out]
              exact ⟨rfl, HBR.out⟩
    · have hR : folF F path = .error 30 := by unfold folF; rw [if_neg (fun e => h47 e.2)]
      rw [hR]
      unfold FolPost
      have hx := first_bang path (by omega)
      have h0 : (0 : Int) < (path.size : Int) := by omega
      have hb : (((path[0]'(by omega)).toNat : Int) != 47) = true := by
        rw [bne_iff_ne]
        intro e
        apply h47
        rw [hx]
        exact UInt8.toNat_inj.1 (by show _ = 47; omega)
      clear hR hwt hx h47 h hF
      go_enter Tryz.func15, Tryz.ntmps15
      go_wp2_with fail
      refine HW.out.mono ?_
      rintro e w' ⟨rfl, rfl⟩
      go_wp2_with fail
      go_ret2
      exact ⟨rfl, Below.refl _ _⟩
end Go.Proofs.YtcabpidbdnlomaaGreatDoor
