/- Layer 5: does what a section tells go together? The program's answer. -/
import Derived.Test.YtcjgljmeefbacaaDynFit
namespace Go.Proofs.Ytcjgljmeefbacaa
open Go.RowKit
open Go.Maps (Keyed)
set_option linter.unusedVariables false
set_option linter.unusedSimpArgs false

theorem u64_zeroF (w : World) : (zeroValue 26).run Try.prog w = .ok (.int .u64 0) w := by kernel_rfl
theorem numR_inv' {v : Value} {y : DataW Unit × List MemPlace} (h : numR v = some y) : ∃ o : Int, v = Value.int .u64 o := by
  unfold numR at h
  split at h
  · exact ⟨_, rfl⟩
  · cases h

set_option maxRecDepth 100000 in
set_option maxHeartbeats 8000000 in
theorem fit_any (gm c : Nat) (m : Nat → Option Nat) (w : World) (h : UM w Try.prog 26 gm m c) :
    Calls Try.prog 15 #[.map (some gm)] w fun e w' => e = .returned (.bool (fitF m)) ∧ Below w.heap.size w w' := by
  obtain ⟨R, hR⟩ : ∃ R, fitF m = R := ⟨_, rfl⟩
  have hiff := fitF_iff m
  rw [hR] at hiff ⊢
  have HI := Lib.hid hiff
  have HGL := Lib.hid h.lt
  have H := Lib.hid h
  have LAW := Lib.hid (Maps.int_keyed (P := Try.prog) (k := 26) Try.underlying26)
  have INVK : Hid (∀ key kl, keyOf Try.prog 26 key = some kl → ∃ x, key = Value.int .u64 x) := Lib.hid (fun key kl hh => by
    obtain ⟨x, e, -⟩ := Maps.keyOf_int_inv Try.underlying26 hh
    exact ⟨x, e⟩)
  have INVV : Hid (∀ v y, numR v = some y → ∃ o : Int, v = Value.int .u64 o) := Lib.hid (fun v y hh => numR_inv' hh)
  have hmm := @run_makeMap Try.prog
  obtain ⟨w1, r1, u1, g1⟩ := (UM.made w Try.prog 26).put (T := 53) (E := 26) Try.underlying26 Try.underlying53 (k := 20) (v := 7) (by omega) (by unfold maxLen; omega)
  obtain ⟨w2, r2, u2, g2⟩ := u1.put (T := 53) (E := 26) Try.underlying26 Try.underlying53 (k := 9) (v := 24) (by omega) (by unfold maxLen; omega)
  obtain ⟨w3, r3, u3, g3⟩ := u2.put (T := 53) (E := 26) Try.underlying26 Try.underlying53 (k := 11) (v := 24) (by omega) (by unfold maxLen; omega)
  obtain ⟨w4, r4, u4, g4⟩ := u3.put (T := 53) (E := 26) Try.underlying26 Try.underlying53 (k := 37) (v := 8) (by omega) (by unfold maxLen; omega)
  have s1 : (Instr.mapUpdate 53 (.map (some w.heap.size)) (.int .u64 20) (.int .u64 7)).run Try.prog (w.alloc (.map #[] 0)) = .ok () w1 := r1
  have s2 : (Instr.mapUpdate 53 (.map (some w.heap.size)) (.int .u64 9) (.int .u64 24)).run Try.prog w1 = .ok () w2 := r2
  have s3 : (Instr.mapUpdate 53 (.map (some w.heap.size)) (.int .u64 11) (.int .u64 24)).run Try.prog w2 = .ok () w3 := r3
  have s4 : (Instr.mapUpdate 53 (.map (some w.heap.size)) (.int .u64 37) (.int .u64 8)).run Try.prog w3 = .ok () w4 := r4
  have B4 : Hid (Below w.heap.size w w4 ∧ w.heap.size < w4.heap.size) := Lib.hid (by
    have b0 : Below w.heap.size w (w.alloc (.map #[] 0)) := (Below.refl _ _).alloc (Nat.le_refl _) _
    have b1 := b0.grown g1 b0.size (fun j hj => by cases hj; exact Nat.le_refl _)
    have b2 := b1.grown g2 b1.size (fun j hj => by cases hj; exact Nat.le_refl _)
    have b3 := b2.grown g3 b2.size (fun j hj => by cases hj; exact Nat.le_refl _)
    have b4 := b3.grown g4 b3.size (fun j hj => by cases hj; exact Nat.le_refl _)
    exact ⟨b4, u4.lt⟩)
  obtain ⟨DA, hown, hDA⟩ : UM w4 Try.prog 26 w.heap.size fitA 4 := u4
  have HOWN := Lib.hid hown
  have HDA := Lib.hid hDA
  obtain ⟨nA, hnA⟩ : ∃ nA, Maps.size DA = nA := ⟨_, rfl⟩
  clear h hR hiff r1 r2 r3 r4 u1 u2 u3 g1 g2 g3 g4 hown hDA
  go_enter Try.func15, Try.ntmps15
  go_wp2_with (first | (at_range; refine wpList_range_own _ rfl _ 53 rfl 26 26 LAW.out Try.underlying53 numR w.heap.size 4 DA rfl HOWN.out ?_; intro w0 hrg0 hg0 hs0))
  have B0 : Hid (Below w.heap.size w w0 ∧ w.heap.size < w0.heap.size) := Lib.hid ⟨B4.out.1.grown (hg0.but none) B4.out.1.size (fun j hj => by cases hj), by rw [hs0]; exact Nat.lt_succ_of_lt B4.out.2⟩
  rw [hnA] at hrg0
  have HRG0 := Lib.hid hrg0
  have HP0 : Hid (Passed fitA (Maps.has DA) (fun k v => (m k).isSome = true → gv m k = v)) := Lib.hid (Passed.start HDA.out (fun k v hk => by
    have := fitA_iff.1 hk
    simp at this
    omega))
  obtain ⟨r, hr⟩ : ∃ r, w4.heap.size = r := ⟨_, rfl⟩
  rw [hr] at HRG0 ⊢
  have HRL : Hid (w.heap.size ≤ r) := Lib.hid (by rw [← hr]; exact B4.out.1.size)
  clear hrg0 hg0 hs0 s1 s2 s3 s4 hnA hr B4 HOWN
  go_simp
  go_loopg [6] nA (fun f x wr => ∃ (left : Lit → Bool), Hid (Passed fitA left (fun k v => (m k).isSome = true → gv m k = v)) ∧ Hid (wr.ranges Try.prog 26 numR w.heap.size r 4 DA left f) ∧ Hid (Below w.heap.size w wr ∧ w.heap.size < wr.heap.size))
  case atStart => exact ⟨_, HP0, HRG0, B0⟩
  case round =>
    clear HP0 HRG0 B0
    obtain ⟨left, HP, HRG, HB⟩ := hrel
    go_wp2_with (first | (at_next; refine wpList_next_ranges _ rfl _ rfl 26 LAW.out numR (Value.int .u64) (Value.int .u64) INVK.out INVV.out w.heap.size r 4 DA left gk rfl HRG.out ?_ ?_))
    · intro hc0 hl0
      have HA := Lib.hid (HP.out.done hl0)
      clear hc0
      generalize wr = wq at *
      have HMr : Hid (UM wq Try.prog 26 gm m c) := Lib.hid (H.out.of_block (HB.out.1.block gm HGL.out))
      have la5 : (Instr.lookup 53 (.map (some gm)) (.int .u64 5) false).run Try.prog wq = .ok (.int .u64 ((gv m 5 : Nat) : Int)) wq := HMr.out.look (T := 53) (E := 26) Try.underlying26 Try.underlying53 (u64_zeroF wq) (k := 5) (by omega)
      have la10 : (Instr.lookup 53 (.map (some gm)) (.int .u64 10) false).run Try.prog wq = .ok (.int .u64 ((gv m 10 : Nat) : Int)) wq := HMr.out.look (T := 53) (E := 26) Try.underlying26 Try.underlying53 (u64_zeroF wq) (k := 10) (by omega)
      have la6 : (Instr.lookup 53 (.map (some gm)) (.int .u64 6) false).run Try.prog wq = .ok (.int .u64 ((gv m 6 : Nat) : Int)) wq := HMr.out.look (T := 53) (E := 26) Try.underlying26 Try.underlying53 (u64_zeroF wq) (k := 6) (by omega)
      have la4 : (Instr.lookup 53 (.map (some gm)) (.int .u64 4) false).run Try.prog wq = .ok (.int .u64 ((gv m 4 : Nat) : Int)) wq := HMr.out.look (T := 53) (E := 26) Try.underlying26 Try.underlying53 (u64_zeroF wq) (k := 4) (by omega)
      have lag : (Instr.lookup 53 (.map (some gm)) (.int .u64 1879047925) false).run Try.prog wq = .ok (.int .u64 ((gv m 1879047925 : Nat) : Int)) wq := HMr.out.look (T := 53) (E := 26) Try.underlying26 Try.underlying53 (u64_zeroF wq) (k := 1879047925) (by omega)
      have HBAD : Hid ((gv m 5 = 0 ∨ gv m 10 = 0 ∨ gv m 6 = 0 ∨ (gv m 4 = 0 ∧ gv m 1879047925 = 0)) → R = false) := Lib.hid (fun hb => by
        cases hR : R with
        | false => rfl
        | true => exact absurd hb (HI.out.1 hR).2.1)
      obtain ⟨a5, ea5⟩ : ∃ a, gv m 5 = a := ⟨_, rfl⟩
      rw [ea5] at la5 HBAD
      obtain ⟨a10, ea10⟩ : ∃ a, gv m 10 = a := ⟨_, rfl⟩
      rw [ea10] at la10 HBAD
      obtain ⟨a6, ea6⟩ : ∃ a, gv m 6 = a := ⟨_, rfl⟩
      rw [ea6] at la6 HBAD
      obtain ⟨a4, ea4⟩ : ∃ a, gv m 4 = a := ⟨_, rfl⟩
      rw [ea4] at la4 HBAD
      obtain ⟨ag, eag⟩ : ∃ a, gv m 1879047925 = a := ⟨_, rfl⟩
      rw [eag] at lag HBAD
      have HGOOD : Hid (¬ (a5 = 0 ∨ a10 = 0 ∨ a6 = 0 ∨ (a4 = 0 ∧ ag = 0)) → (∀ k v, fitB k = some v → (gv m k = 0 ↔ gv m v = 0)) → ((gv m 1879048188 = 0 ∧ gv m 1879048190 = 0) ∨ gv m 1879048176 ≠ 0) → R = true) := Lib.hid (fun h1 h2 h3 => HI.out.2 ⟨HA.out, by rw [ea5, ea10, ea6, ea4, eag]; exact h1, h2, h3⟩)
      clear HA HP hl0 ea5 ea10 ea6 ea4 eag
      by_cases ba5 : a5 = 0
      · have z : ((a5 : Int) == 0) = true := by rw [beq_iff_eq]; omega
        have HRF : Hid (R = false) := Lib.hid (HBAD.out (.inl ba5))
        clear ba5
        go_wp2_with fail
        go_ret
        exact ⟨by rw [HRF.out]; rfl, HB.out.1⟩
      · have za5 : ((a5 : Int) == 0) = false := beq_eq_false_iff_ne.2 (by omega)
        by_cases ba10 : a10 = 0
        · have z : ((a10 : Int) == 0) = true := by rw [beq_iff_eq]; omega
          have HRF : Hid (R = false) := Lib.hid (HBAD.out (.inr (.inl ba10)))
          clear ba10
          go_wp2_with fail
          go_ret
          exact ⟨by rw [HRF.out]; rfl, HB.out.1⟩
        · have za10 : ((a10 : Int) == 0) = false := beq_eq_false_iff_ne.2 (by omega)
          by_cases ba6 : a6 = 0
          · have z : ((a6 : Int) == 0) = true := by rw [beq_iff_eq]; omega
            have HRF : Hid (R = false) := Lib.hid (HBAD.out (.inr (.inr (.inl ba6))))
            clear ba6
            go_wp2_with fail
            go_ret
            exact ⟨by rw [HRF.out]; rfl, HB.out.1⟩
          · have za6 : ((a6 : Int) == 0) = false := beq_eq_false_iff_ne.2 (by omega)
            by_cases ba4 : a4 = 0 ∧ ag = 0
            · have z4 : ((a4 : Int) == 0) = true := by rw [beq_iff_eq]; omega
              have zg : ((ag : Int) == 0) = true := by rw [beq_iff_eq]; omega
              have HRF : Hid (R = false) := Lib.hid (HBAD.out (.inr (.inr (.inr ba4))))
              clear ba4 ba5 ba10 ba6
              go_wp2_with fail
              go_ret
              exact ⟨by rw [HRF.out]; rfl, HB.out.1⟩
            · have HGOOD2 := Lib.hid (HGOOD.out (fun hb => by rcases hb with h | h | h | h; exact ba5 h; exact ba10 h; exact ba6 h; exact ba4 h))
              have hor : ((a4 : Int) == 0) = false ∨ (((a4 : Int) == 0) = true ∧ ((ag : Int) == 0) = false) := by
                by_cases h4 : a4 = 0
                · exact .inr ⟨by rw [beq_iff_eq]; omega, beq_eq_false_iff_ne.2 (by intro hh; exact ba4 ⟨h4, by omega⟩)⟩
                · exact .inl (beq_eq_false_iff_ne.2 (by omega))
              clear ba4 ba5 ba10 ba6 HGOOD HBAD
              obtain ⟨v1, r1, u1, g1⟩ := (UM.made wq Try.prog 26).put (T := 53) (E := 26) Try.underlying26 Try.underlying53 (k := 7) (v := 8) (by omega) (by unfold maxLen; omega)
              have s1 : (Instr.mapUpdate 53 (.map (some wq.heap.size)) (.int .u64 7) (.int .u64 8)).run Try.prog (wq.alloc (.map #[] 0)) = .ok () v1 := r1
              obtain ⟨v2, r2, u2, g2⟩ := u1.put (T := 53) (E := 26) Try.underlying26 Try.underlying53 (k := 23) (v := 2) (by omega) (by unfold maxLen; omega)
              have s2 : (Instr.mapUpdate 53 (.map (some wq.heap.size)) (.int .u64 23) (.int .u64 2)).run Try.prog v1 = .ok () v2 := r2
              obtain ⟨v3, r3, u3, g3⟩ := u2.put (T := 53) (E := 26) Try.underlying26 Try.underlying53 (k := 36) (v := 35) (by omega) (by unfold maxLen; omega)
              have s3 : (Instr.mapUpdate 53 (.map (some wq.heap.size)) (.int .u64 36) (.int .u64 35)).run Try.prog v2 = .ok () v3 := r3
              obtain ⟨v4, r4, u4, g4⟩ := u3.put (T := 53) (E := 26) Try.underlying26 Try.underlying53 (k := 25) (v := 27) (by omega) (by unfold maxLen; omega)
              have s4 : (Instr.mapUpdate 53 (.map (some wq.heap.size)) (.int .u64 25) (.int .u64 27)).run Try.prog v3 = .ok () v4 := r4
              obtain ⟨v5, r5, u5, g5⟩ := u4.put (T := 53) (E := 26) Try.underlying26 Try.underlying53 (k := 26) (v := 28) (by omega) (by unfold maxLen; omega)
              have s5 : (Instr.mapUpdate 53 (.map (some wq.heap.size)) (.int .u64 26) (.int .u64 28)).run Try.prog v4 = .ok () v5 := r5
              obtain ⟨v6, r6, u6, g6⟩ := u5.put (T := 53) (E := 26) Try.underlying26 Try.underlying53 (k := 1879048188) (v := 1879048189) (by omega) (by unfold maxLen; omega)
              have s6 : (Instr.mapUpdate 53 (.map (some wq.heap.size)) (.int .u64 1879048188) (.int .u64 1879048189)).run Try.prog v5 = .ok () v6 := r6
              obtain ⟨v7, r7, u7, g7⟩ := u6.put (T := 53) (E := 26) Try.underlying26 Try.underlying53 (k := 1879048190) (v := 1879048191) (by omega) (by unfold maxLen; omega)
              have s7 : (Instr.mapUpdate 53 (.map (some wq.heap.size)) (.int .u64 1879048190) (.int .u64 1879048191)).run Try.prog v6 = .ok () v7 := r7
              have B7 : Hid (Below wq.heap.size wq v7 ∧ wq.heap.size < v7.heap.size) := Lib.hid (by
                have b0 : Below wq.heap.size wq (wq.alloc (.map #[] 0)) := (Below.refl _ _).alloc (Nat.le_refl _) _
                have b1 := b0.grown g1 b0.size (fun j hj => by cases hj; exact Nat.le_refl _)
                have b2 := b1.grown g2 b1.size (fun j hj => by cases hj; exact Nat.le_refl _)
                have b3 := b2.grown g3 b2.size (fun j hj => by cases hj; exact Nat.le_refl _)
                have b4 := b3.grown g4 b3.size (fun j hj => by cases hj; exact Nat.le_refl _)
                have b5 := b4.grown g5 b4.size (fun j hj => by cases hj; exact Nat.le_refl _)
                have b6 := b5.grown g6 b5.size (fun j hj => by cases hj; exact Nat.le_refl _)
                have b7 := b6.grown g7 b6.size (fun j hj => by cases hj; exact Nat.le_refl _)
                exact ⟨b7, u7.lt⟩)
              obtain ⟨DB, hown, hDB⟩ : UM v7 Try.prog 26 wq.heap.size fitB 7 := u7
              have HOWB := Lib.hid hown
              have HDB := Lib.hid hDB
              obtain ⟨nB, hnB⟩ : ∃ nB, Maps.size DB = nB := ⟨_, rfl⟩
              clear r1 g1 r2 g2 r3 g3 r4 g4 r5 g5 r6 g6 r7 g7 u1 u2 u3 u4 u5 u6 hown hDB
              have BW0 := Lib.hid HB.out.1
              clear HB HRG HDA HMr
              rcases hor with z4 | ⟨z4, zg⟩ <;>
              · go_wp2_with (first | (at_range; refine wpList_range_own _ rfl _ 53 rfl 26 26 LAW.out Try.underlying53 numR wq.heap.size 7 DB rfl HOWB.out ?_; intro w0' hrg0 hg0 hs0))
                have B0 : Hid (Below wq.heap.size wq w0') := Lib.hid (B7.out.1.grown (hg0.but none) B7.out.1.size (fun j hj => by cases hj))
                rw [hnB] at hrg0
                have HRG0 := Lib.hid hrg0
                have HP0 : Hid (Passed fitB (Maps.has DB) (fun k v => (gv m k = 0 ↔ gv m v = 0))) := Lib.hid (Passed.start HDB.out (fun k v hk => by
                  have := fitB_iff.1 hk
                  simp at this
                  omega))
                obtain ⟨rb, hrb⟩ : ∃ rb, v7.heap.size = rb := ⟨_, rfl⟩
                rw [hrb] at HRG0 ⊢
                have HRLB : Hid (wq.heap.size ≤ rb) := Lib.hid (by rw [← hrb]; exact B7.out.1.size)
                clear hrg0 hg0 hs0 s1 s2 s3 s4 s5 s6 s7 hnB hrb B7 HOWB la5 la10 la6 la4 lag z4 za5 za10 za6
                go_simp
                go_loopg [8] nB (fun f x wr => ∃ (left : Lit → Bool), Hid (Passed fitB left (fun k v => (gv m k = 0 ↔ gv m v = 0))) ∧ Hid (wr.ranges Try.prog 26 numR wq.heap.size rb 7 DB left f) ∧ Hid (Below wq.heap.size wq wr))
                case atStart => exact ⟨_, HP0, HRG0, B0⟩
                case round =>
                  clear HP0 HRG0 B0
                  obtain ⟨left, HP, HRG, HB⟩ := hrel
                  go_wp2_with (first | (at_next; refine wpList_next_ranges _ rfl _ rfl 26 LAW.out numR (Value.int .u64) (Value.int .u64) INVK.out INVV.out wq.heap.size rb 7 DB left gk rfl HRG.out ?_ ?_))
                  · intro hc0 hl0
                    have HPD := HP.out.done hl0
                    have HMz : Hid (UM wr Try.prog 26 gm m c) := Lib.hid ((H.out.of_block (BW0.out.block gm HGL.out)).of_block (HB.out.block gm (Nat.lt_of_lt_of_le HGL.out BW0.out.size)))
                    have lad : (Instr.lookup 53 (.map (some gm)) (.int .u64 1879048188) false).run Try.prog wr = .ok (.int .u64 ((gv m 1879048188 : Nat) : Int)) wr := HMz.out.look (T := 53) (E := 26) Try.underlying26 Try.underlying53 (u64_zeroF wr) (k := 1879048188) (by omega)
                    have lan : (Instr.lookup 53 (.map (some gm)) (.int .u64 1879048190) false).run Try.prog wr = .ok (.int .u64 ((gv m 1879048190 : Nat) : Int)) wr := HMz.out.look (T := 53) (E := 26) Try.underlying26 Try.underlying53 (u64_zeroF wr) (k := 1879048190) (by omega)
                    have lay : (Instr.lookup 53 (.map (some gm)) (.int .u64 1879048176) false).run Try.prog wr = .ok (.int .u64 ((gv m 1879048176 : Nat) : Int)) wr := HMz.out.look (T := 53) (E := 26) Try.underlying26 Try.underlying53 (u64_zeroF wr) (k := 1879048176) (by omega)
                    have HRT : Hid (((gv m 1879048188 = 0 ∧ gv m 1879048190 = 0) ∨ gv m 1879048176 ≠ 0) → R = true) := Lib.hid (HGOOD2.out HPD)
                    have HRN : Hid (¬ ((gv m 1879048188 = 0 ∧ gv m 1879048190 = 0) ∨ gv m 1879048176 ≠ 0) → R = false) := Lib.hid (fun hb => by
                      cases hR : R with
                      | false => rfl
                      | true => exact absurd (HI.out.1 hR).2.2.2 hb)
                    obtain ⟨ad, ead⟩ : ∃ a, gv m 1879048188 = a := ⟨_, rfl⟩
                    rw [ead] at lad HRT HRN
                    obtain ⟨an, ean⟩ : ∃ a, gv m 1879048190 = a := ⟨_, rfl⟩
                    rw [ean] at lan HRT HRN
                    obtain ⟨ay, eas⟩ : ∃ a, gv m 1879048176 = a := ⟨_, rfl⟩
                    rw [eas] at lay HRT HRN
                    have BF : Hid (Below w.heap.size w wr) := Lib.hid (bstep BW0.out HB.out)
                    clear HPD HP hl0 ead ean eas
                    have zs : ∀ b, (((ay : Int) != 0) = b) → ((ay : Int) != 0) = b := fun b h => h
                    by_cases d0 : ad = 0
                    · have zd : ((ad : Int) == 0) = true := by rw [beq_iff_eq]; omega
                      by_cases n0 : an = 0
                      · have zn : ((an : Int) == 0) = true := by rw [beq_iff_eq]; omega
                        obtain rfl : R = true := HRT.out (.inl ⟨d0, n0⟩)
                        clear d0 n0 zs HRT HRN
                        go_wp2_with fail
                        go_ret
                        exact ⟨rfl, BF.out⟩
                      · have zn : ((an : Int) == 0) = false := beq_eq_false_iff_ne.2 (by omega)
                        obtain rfl : R = ((ay : Int) != 0) := by
                          by_cases s0 : ay = 0
                          · rw [HRN.out (fun h => h.elim (fun h => n0 h.2) (fun h => h s0)), s0]; rfl
                          · rw [HRT.out (.inr s0)]; exact (bne_iff_ne.2 (by omega)).symm
                        clear d0 n0 zs HRT HRN
                        go_wp2_with fail
                        go_ret
                        exact ⟨rfl, BF.out⟩
                    · have zd : ((ad : Int) == 0) = false := beq_eq_false_iff_ne.2 (by omega)
                      obtain rfl : R = ((ay : Int) != 0) := by
                        by_cases s0 : ay = 0
                        · rw [HRN.out (fun h => h.elim (fun h => d0 h.1) (fun h => h s0)), s0]; rfl
                        · rw [HRT.out (.inr s0)]; exact (bne_iff_ne.2 (by omega)).symm
                      clear d0 zs HRT HRN
                      go_wp2_with fail
                      go_ret
                      exact ⟨rfl, BF.out⟩
                  · intro x o kl y ps wn cnt1 hkey hlk hRy hat hrg1 hlt hg1 hs1 hen
                    obtain ⟨k, v, rfl, rfl, rfl, hk64, hF⟩ := um_entry Try.underlying26 HDB.out hkey hRy hat
                    have BN : Hid (Below wq.heap.size wq wn) := Lib.hid (HB.out.grown hg1 HB.out.size (fun j hj => by cases hj; exact HRLB.out))
                    have HMz : Hid (UM wn Try.prog 26 gm m c) := Lib.hid ((H.out.of_block (BW0.out.block gm HGL.out)).of_block (BN.out.block gm (Nat.lt_of_lt_of_le HGL.out BW0.out.size)))
                    have hv64 : v < 18446744073709551616 := by
                      have := fitB_iff.1 hF
                      simp at this
                      omega
                    have hlk1 : (Instr.lookup 53 (.map (some gm)) (.int .u64 (k : Int)) false).run Try.prog wn = .ok (.int .u64 ((gv m k : Nat) : Int)) wn := HMz.out.look (T := 53) (E := 26) Try.underlying26 Try.underlying53 (u64_zeroF wn) (k := k) hk64
                    have hlk2 : (Instr.lookup 53 (.map (some gm)) (.int .u64 (v : Int)) false).run Try.prog wn = .ok (.int .u64 ((gv m v : Nat) : Int)) wn := HMz.out.look (T := 53) (E := 26) Try.underlying26 Try.underlying53 (u64_zeroF wn) (k := v) hv64
                    have HRN := Lib.hid hrg1
                    have hlt9 := Lib.hid hlt
                    have HFK := Lib.hid hF
                    obtain ⟨ak, hak⟩ : ∃ a, gv m k = a := ⟨_, rfl⟩
                    obtain ⟨av, hav⟩ : ∃ a, gv m v = a := ⟨_, rfl⟩
                    rw [hak] at hlk1
                    rw [hav] at hlk2
                    have HST : Hid ((ak = 0 ↔ av = 0) → Passed fitB (fun z => left z && !z.sameKey (nk k)) (fun k v => (gv m k = 0 ↔ gv m v = 0))) := Lib.hid (fun hh => HP.out.step HFK.out (by rw [hak, hav]; exact hh))
                    have HBAD : Hid (¬ (ak = 0 ↔ av = 0) → R = false) := Lib.hid (fun hh => by
                      cases hR : R with
                      | false => rfl
                      | true => exact absurd ((HI.out.1 hR).2.2.1 k v HFK.out) (by rw [hak, hav]; exact hh))
                    have BF : Hid (Below w.heap.size w wn) := Lib.hid (bstep BW0.out BN.out)
                    clear hrg1 hlt hg1 hs1 hat hRy hlk hkey hF hk64 hv64 hak hav HMz
                    by_cases c1 : ak = 0
                    · by_cases c2 : av = 0
                      · have y1 : ((ak : Int) == 0) = true := by rw [beq_iff_eq]; omega
                        have y2 : ((av : Int) == 0) = true := by rw [beq_iff_eq]; omega
                        have HPN := Lib.hid (HST.out (by omega))
                        clear c1 c2
                        go_wp2_with fail
                        go_roundg cnt1
                        case measure => exact hlt9.out
                        case rel => exact ⟨_, HPN, HRN, BN⟩
                      · have y1 : ((ak : Int) == 0) = true := by rw [beq_iff_eq]; omega
                        have y2 : ((av : Int) == 0) = false := beq_eq_false_iff_ne.2 (by omega)
                        obtain rfl : R = false := HBAD.out (by omega)
                        clear c1 c2
                        go_wp2_with fail
                        go_ret
                        exact ⟨rfl, BF.out⟩
                    · by_cases c2 : av = 0
                      · have y1 : ((ak : Int) == 0) = false := beq_eq_false_iff_ne.2 (by omega)
                        have y2 : ((av : Int) == 0) = true := by rw [beq_iff_eq]; omega
                        obtain rfl : R = false := HBAD.out (by omega)
                        clear c1 c2
                        go_wp2_with fail
                        go_ret
                        exact ⟨rfl, BF.out⟩
                      · have y1 : ((ak : Int) == 0) = false := beq_eq_false_iff_ne.2 (by omega)
                        have y2 : ((av : Int) == 0) = false := beq_eq_false_iff_ne.2 (by omega)
                        have HPN := Lib.hid (HST.out (by omega))
                        clear c1 c2
                        go_wp2_with fail
                        go_roundg cnt1
                        case measure => exact hlt9.out
                        case rel => exact ⟨_, HPN, HRN, BN⟩
    · intro x o kl y ps wn cnt1 hkey hlk hRy hat hrg1 hlt hg1 hs1 hen
      obtain ⟨k, v, rfl, rfl, rfl, hk64, hF⟩ := um_entry Try.underlying26 HDA.out hkey hRy hat
      have BN : Hid (Below w.heap.size w wn ∧ w.heap.size < wn.heap.size) := Lib.hid ⟨HB.out.1.grown hg1 HB.out.1.size (fun j hj => by cases hj; exact HRL.out), by rw [hs1]; exact HB.out.2⟩
      have hl0 := (H.out.of_block (BN.out.1.block gm HGL.out)).look_ok (T := 53) (E := 26) Try.underlying26 Try.underlying53 (u64_zeroF wn) (k := k) hk64
      obtain ⟨old, hold⟩ : ∃ old, (m k).getD 0 = old := ⟨_, rfl⟩
      rw [hold] at hl0
      have HRN := Lib.hid hrg1
      have hlt9 := Lib.hid hlt
      have HFK := Lib.hid hF
      have HOLD : Hid (gv m k = old) := Lib.hid hold
      clear hrg1 hlt hg1 hs1 hat hRy hlk hkey hF hold hk64
      cases hm : (m k).isSome with
      | false =>
        rw [hm] at hl0
        have HPN := Lib.hid (HP.out.step HFK.out (fun h => by rw [hm] at h; cases h))
        clear hm
        go_wp2_with fail
        go_roundg cnt1
        case measure => exact hlt9.out
        case rel => exact ⟨_, HPN, HRN, BN⟩
      | true =>
        rw [hm] at hl0
        by_cases ho : old = v
        · have z : ((old : Int) != (v : Int)) = false := by rw [ho]; simp
          have HPN := Lib.hid (HP.out.step HFK.out (fun _ => by rw [HOLD.out]; exact ho))
          clear hm ho
          go_wp2_with fail
          go_roundg cnt1
          case measure => exact hlt9.out
          case rel => exact ⟨_, HPN, HRN, BN⟩
        · have z : ((old : Int) != (v : Int)) = true := bne_iff_ne.2 (by omega)
          have HRF : Hid (R = false) := Lib.hid (by
            cases hR : R with
            | false => rfl
            | true => exact absurd (((HI.out.1 hR).1 k v HFK.out hm)) (by rw [HOLD.out]; exact ho))
          clear hm ho
          go_wp2_with fail
          go_ret
          exact ⟨by rw [HRF.out]; rfl, BN.out.1⟩
end Go.Proofs.Ytcjgljmeefbacaa
