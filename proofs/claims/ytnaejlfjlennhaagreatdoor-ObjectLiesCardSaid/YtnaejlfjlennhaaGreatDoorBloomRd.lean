/- Layer 7: a table of the second kind is read. -/
import Derived.Test.YtnaejlfjlennhaaGreatDoorBloomX
import Derived.Deep.RegionHeld3
namespace Go.Proofs.YtnaejlfjlennhaaGreatDoor
open Go.RowKit
set_option linter.unusedVariables false
set_option linter.unusedSimpArgs false

/-- a table of the second kind that is answered -/
def BloomAns (F : BT × Nat) (fa : Option Addr) (fl fc : Nat) (ty en : Int) (p : Option Addr) (n pc : Nat) (w : World) (e : Ending) (w' : World) : Prop :=
  Below w.heap.size w w' ∧ ((F.2 = 0 ∧ ∃ ba bc ua uc, e = .returned (.tuple #[bloomV fa fl fc ty en p n pc F.1 ba bc ua uc, .nilIface]) ∧ Row .u64 w' ba (toI F.1.bloom) ∧ Row .u32 w' ua (toI F.1.buckets)) ∨ (¬ F.2 = 0 ∧ e = .returned (.tuple #[bloomV none 0 0 0 0 none 0 0 .nil none 0 none 0, errV (F.2 : Int)])))

/-- a box that holds no table -/
theorem nil_box {w' : World} {b : Nat} (E : w'.heap[b]? = some (.cells #[.slice none 0 0, .int .i64 0, .int .u64 0, .slice none 0 0, .int .u32 0, .int .u32 0, .slice none 0 0, .slice none 0 0, .int .u64 0] 134)) : w'.cell? ⟨b, 0, none⟩ = some (.slice none 0 0) ∧ w'.frozen? ⟨b, 0, none⟩ = false ∧ w'.setCell ⟨b, 0, none⟩ (.slice none 0 0) = w' ∧ w'.cell? ⟨b, 1, none⟩ = some (.int .i64 0) ∧ w'.frozen? ⟨b, 1, none⟩ = false ∧ w'.setCell ⟨b, 1, none⟩ (.int .i64 0) = w' ∧ w'.cell? ⟨b, 2, none⟩ = some (.int .u64 0) ∧ w'.frozen? ⟨b, 2, none⟩ = false ∧ w'.setCell ⟨b, 2, none⟩ (.int .u64 0) = w' ∧ w'.cell? ⟨b, 3, none⟩ = some (.slice none 0 0) ∧ w'.frozen? ⟨b, 3, none⟩ = false ∧ w'.setCell ⟨b, 3, none⟩ (.slice none 0 0) = w' ∧ w'.cell? ⟨b, 4, none⟩ = some (.int .u32 0) ∧ w'.frozen? ⟨b, 4, none⟩ = false ∧ w'.setCell ⟨b, 4, none⟩ (.int .u32 0) = w' ∧ w'.cell? ⟨b, 5, none⟩ = some (.int .u32 0) ∧ w'.frozen? ⟨b, 5, none⟩ = false ∧ w'.setCell ⟨b, 5, none⟩ (.int .u32 0) = w' ∧ w'.cell? ⟨b, 6, none⟩ = some (.slice none 0 0) ∧ w'.frozen? ⟨b, 6, none⟩ = false ∧ w'.setCell ⟨b, 6, none⟩ (.slice none 0 0) = w' ∧ w'.cell? ⟨b, 7, none⟩ = some (.slice none 0 0) ∧ w'.frozen? ⟨b, 7, none⟩ = false ∧ w'.setCell ⟨b, 7, none⟩ (.slice none 0 0) = w' ∧ w'.cell? ⟨b, 8, none⟩ = some (.int .u64 0) ∧ w'.frozen? ⟨b, 8, none⟩ = false ∧ w'.setCell ⟨b, 8, none⟩ (.int .u64 0) = w' := by
  have hs : ∀ j v, (w'.heap[b]? = some (.cells #[.slice none 0 0, .int .i64 0, .int .u64 0, .slice none 0 0, .int .u32 0, .int .u32 0, .slice none 0 0, .slice none 0 0, .int .u64 0] 134)) → (#[.slice none 0 0, .int .i64 0, .int .u64 0, .slice none 0 0, .int .u32 0, .int .u32 0, .slice none 0 0, .slice none 0 0, .int .u64 0] : Array Value).setIfInBounds j v = #[.slice none 0 0, .int .i64 0, .int .u64 0, .slice none 0 0, .int .u32 0, .int .u32 0, .slice none 0 0, .slice none 0 0, .int .u64 0] → w'.setCell ⟨b, j, none⟩ v = w' := fun j v h h2 => by
    rw [setCell_eq_setRow _ _ _ _ _ _ _ h, h2]
    exact setRow_self _ _ _ _ _ h
  refine ⟨?_, ?_, ?_, ?_, ?_, ?_, ?_, ?_, ?_, ?_, ?_, ?_, ?_, ?_, ?_, ?_, ?_, ?_, ?_, ?_, ?_, ?_, ?_, ?_, ?_, ?_, ?_⟩
  all_goals first
    | exact frozen_of_row _ _ _ _ _ E
    | exact hs _ _ E rfl
    | (rw [cell_of_row _ _ _ _ _ _ E]; rfl)

set_option maxRecDepth 100000 in
set_option maxHeartbeats 4000000 in
theorem readBloomed_any (a : Option Addr) (cap : Nat) (bs : List Nat) (ty en : Int) (p : Option Addr) (pc : Nat) (ps : List PT) (addr : Nat) (w : World) (hb : BRow w a bs) (hbl : bs.length ≤ 140737488351232) (hbc : bs.length ≤ cap) (hbn : a = none → bs.length = 0 ∧ cap = 0)
    (h : PRow w p ps) (hl : ps.length ≤ 140737488351232) (ha : addr < 18446744073709551616) :
    Calls Tryz.prog 52 #[fileV a bs.length cap ty en p ps.length pc, .int .u64 addr] w (BloomAns (bloomF bs ps addr) a bs.length cap ty en p ps.length pc w) := by
  have HW := Lib.hid (fun (w1 : World) (hb1 : Below w.heap.size w w1) => words_any a cap bs ty en p pc ps addr 4 w1 (hb.below hb1) hbl hbc hbn (h.below hb1) hl ha (by omega))
  have HSL := Lib.hid (fun (w1 : World) (size : Nat) (hb1 : Below w.heap.size w w1) (hs : size < 18446744073709551616) => fslice_any a cap bs ty en p pc ps addr size w1 (hb.below hb1) hbl hbc hbn (h.below hb1) hl ha hs)
  have HBB := Lib.hid hb.2
  have B1 : Hid (Below w.heap.size w ((w.alloc (.cells #[.slice a bs.length cap, .int .i64 ty, .int .u64 en, .slice p ps.length pc] 127)).alloc (.cells #[.slice none 0 0, .int .i64 0, .int .u64 0, .slice none 0 0, .int .u32 0, .int .u32 0, .slice none 0 0, .slice none 0 0, .int .u64 0] 134))) := Lib.hid (((Below.refl _ _).alloc (Nat.le_refl _) _).alloc (by simp) _)
  clear hb h hbn
  unfold fileV at *
  rcases wordsF_alt bs ps addr 4 with ⟨f, hf, hfl⟩ | hf
  · match f, hfl with
    | [nb, fi, wd, sh], _ =>
      have HW2 := Lib.hid (HW.out _ B1.out)
      rw [hf] at HW2
      have hlt := wordsF_lt (ps := ps) (addr := addr) (n := 4) HBB.out
      rw [hf] at hlt
      have hnb : nb < 4294967296 := hlt nb (by simp)
      have hfi : fi < 4294967296 := hlt fi (by simp)
      have hwd : wd < 4294967296 := hlt wd (by simp)
      have hsh : sh < 4294967296 := hlt sh (by simp)
      clear hlt
      obtain ⟨R, hR⟩ : ∃ R, bloomF bs ps addr = R := ⟨_, rfl⟩
      have HForm : Hid (nb = 0 ∨ ¬ onesF wd = 1 ∨ 31 < sh → R = (.nil, 3)) := Lib.hid (fun h0 => hR ▸ bloomF_form hf h0)
      have HLong : Hid (¬ (nb = 0 ∨ ¬ onesF wd = 1 ∨ 31 < sh) → 4096 < nb ∨ 4096 < fi ∨ 4096 < wd → R = (.nil, 2)) := Lib.hid (fun h0 h1 => hR ▸ bloomF_long hf h0 h1)
      have HOut : Hid (¬ (nb = 0 ∨ ¬ onesF wd = 1 ∨ 31 < sh) → ¬ (4096 < nb ∨ 4096 < fi ∨ 4096 < wd) → sliceF bs ps addr (16 + 8 * wd + 4 * nb) = ([], 4) → R = (.nil, 4)) := Lib.hid (fun h0 h1 h2 => hR ▸ bloomF_out hf h0 h1 h2)
      have HLow : Hid (¬ (nb = 0 ∨ ¬ onesF wd = 1 ∨ 31 < sh) → ¬ (4096 < nb ∨ 4096 < fi ∨ 4096 < wd) → ∀ all, sliceF bs ps addr (16 + 8 * wd + 4 * nb) = (all, 0) → (splitF (all.drop (16 + 8 * wd))).any (lowB fi) = true → R = (.nil, 3)) := Lib.hid (fun h0 h1 all h2 h3 => hR ▸ bloomF_low hf h0 h1 h2 h3)
      have HYes : Hid (¬ (nb = 0 ∨ ¬ onesF wd = 1 ∨ 31 < sh) → ¬ (4096 < nb ∨ 4096 < fi ∨ 4096 < wd) → ∀ all, sliceF bs ps addr (16 + 8 * wd + 4 * nb) = (all, 0) → (splitF (all.drop (16 + 8 * wd))).any (lowB fi) = false → R = (bloomT all addr nb fi wd sh, 0)) := Lib.hid (fun h0 h1 all h2 h3 => hR ▸ bloomF_yes hf h0 h1 h2 h3)
      rw [hR]
      clear hR hf hfl
      · skip
        go_enter Tryz.func52, Tryz.ntmps52
        go_wp2_with fail
        refine HW2.out.mono ?_
        rintro e w2 ⟨ad, c, he, ho, hb2⟩
        replace he : e = .returned (.tuple #[.slice ad 4 c, .nilIface]) := he
        replace ho : OwnI w2 _ 52 .u32 (.slice ad 4 c) [(nb : Int), (fi : Int), (wd : Int), (sh : Int)] := ho
        obtain ⟨g, rfl⟩ := ho.shape2 (by omega)
        subst he
        have c0 := ho.get2 0 _ rfl; have c1 := ho.get2 1 _ rfl; have c2 := ho.get2 2 _ rfl; have c3 := ho.get2 3 _ rfl
        have B2 := Lib.hid (bstep B1.out hb2)
        have hglt := ho.ge2.2
        have HB2 := Lib.hid hb2
        clear ho hb2 HW HW2
        go_wp2_with fail
        have HK : Hid (∀ w', Below w2.heap.size w2 w' → w'.cell? ⟨g, 0, none⟩ = some (.int .u32 nb) ∧ w'.cell? ⟨g, 1, none⟩ = some (.int .u32 fi) ∧ w'.cell? ⟨g, 2, none⟩ = some (.int .u32 wd) ∧ w'.cell? ⟨g, 3, none⟩ = some (.int .u32 sh)) := Lib.hid (fun w' h => ⟨by rw [h.cell (p := ⟨g, 0, none⟩) hglt]; exact c0, by rw [h.cell (p := ⟨g, 1, none⟩) hglt]; exact c1, by rw [h.cell (p := ⟨g, 2, none⟩) hglt]; exact c2, by rw [h.cell (p := ⟨g, 3, none⟩) hglt]; exact c3⟩)
        have SA : ∀ v, (w2.alloc (.cells #[v] 52)).cell? ⟨g, 0, none⟩ = some (.int .u32 nb) ∧ (w2.alloc (.cells #[v] 52)).cell? ⟨g, 1, none⟩ = some (.int .u32 fi) ∧ (w2.alloc (.cells #[v] 52)).cell? ⟨g, 2, none⟩ = some (.int .u32 wd) ∧ (w2.alloc (.cells #[v] 52)).cell? ⟨g, 3, none⟩ = some (.int .u32 sh) := fun v => HK.out _ ((Below.refl _ _).alloc (Nat.le_refl _) _)
        go_region_held3 (fun w' => w'.cell? ⟨g, 0, none⟩ = some (.int .u32 nb) ∧ w'.cell? ⟨g, 1, none⟩ = some (.int .u32 fi) ∧ w'.cell? ⟨g, 2, none⟩ = some (.int .u32 wd) ∧ w'.cell? ⟨g, 3, none⟩ = some (.int .u32 sh)) (first | exact ⟨c0, c1, c2, c3⟩ | exact SA _ | assumption) (first | fail)
        have B3 : Hid (Below w2.heap.size w2 (w2.alloc (Obj.cells #[Value.int IntKind.u32 ↑fi] 52)).drew) := Lib.hid (by
          have := below_drewN ((Below.refl w2.heap.size w2).alloc (Nat.le_refl _) (Obj.cells #[Value.int IntKind.u32 ↑fi] 52)) 1
          exact this)
        have F3 : Hid (InBox (w2.alloc (Obj.cells #[Value.int IntKind.u32 ↑fi] 52)).drew w2.heap.size (.int .u32 fi) 52) := Lib.hid (InBox.new w2 _ _)
        have hlt3 : w2.heap.size < (w2.alloc (Obj.cells #[Value.int IntKind.u32 ↑fi] 52)).drew.heap.size := F3.out.lt
        generalize (w2.alloc (Obj.cells #[Value.int IntKind.u32 ↑fi] 52)).drew = w3 at *
        obtain ⟨e1, e2⟩ := two_boxes (bstep HB2.out B3.out)
        have E1 := Lib.hid e1; have E2 := Lib.hid e2
        clear e1 e2 c0 c1 c2 c3 HK SA
        have B32 := Lib.hid (bstep B2.out B3.out)
        by_cases h1 : nb = 0
        · have HE := Lib.hid (HForm.out (.inl h1))
          subst h1
          obtain ⟨n0, z0, s0, n1, z1, s1, n2, z2, s2, n3, z3, s3, n4, z4, s4, n5, z5, s5, n6, z6, s6, n7, z7, s7, n8, z8, s8⟩ := nil_box E2.out
          go_wp2_with fail
          refine bodyPost_ret (by simp [results, Tryz.results52, go_sem, n0, n1, n2, n3, n4, n5, n6, n7, n8]; try rfl) rfl ?_
          rw [HE.out]
          exact ⟨B32.out, .inr ⟨by simp, rfl⟩⟩
        · have hz : ((nb : Int) == 0) = false := beq_eq_false_iff_ne.2 (by omega)
          have H1 := Lib.hid h1
          have HON := Lib.hid (ones_any wd hwd w3)
          clear h1
          go_wp2_with fail
          refine HON.out.mono ?_
          rintro e w4 ⟨rfl, hb4⟩
          have B43 := Lib.hid (bstep B3.out hb4)
          have B42 := Lib.hid (bstep B2.out B43.out)
          have E4 := Lib.hid ((hb4.block _ (lt_of_block E2.out)).trans E2.out)
          have E14 := Lib.hid ((hb4.block _ (lt_of_block E1.out)).trans E1.out)
          have F4 := Lib.hid (F3.out.below hb4)
          clear hb4 E1 E2 F3 B3 B32 HON
          by_cases h2 : onesF wd = 1
          · have H2 := Lib.hid h2
            rw [h2]
            clear h2
            by_cases h3 : 31 < sh
            · have HE := Lib.hid (HForm.out (.inr (.inr h3)))
              have h3i : decide ((31 : Int) < (sh : Int)) = true := decide_eq_true (by omega)
              clear h3
              obtain ⟨n0, z0, s0, n1, z1, s1, n2, z2, s2, n3, z3, s3, n4, z4, s4, n5, z5, s5, n6, z6, s6, n7, z7, s7, n8, z8, s8⟩ := nil_box E4.out
              go_wp2_with fail
              refine bodyPost_ret (by simp [results, Tryz.results52, go_sem, n0, n1, n2, n3, n4, n5, n6, n7, n8]; try rfl) rfl ?_
              rw [HE.out]
              exact ⟨B42.out, .inr ⟨by simp, rfl⟩⟩
            · have h3i : decide ((31 : Int) < (sh : Int)) = false := decide_eq_false (by omega)
              have H0 : Hid (¬ (nb = 0 ∨ ¬ onesF wd = 1 ∨ 31 < sh)) := Lib.hid (fun h => h.elim H1.out (fun h => h.elim (fun h => h H2.out) h3))
              clear h3
              rcases Decidable.em (4096 < nb) with h4 | h4
              · have g1 : decide ((4096 : Int) < (nb : Int)) = true := decide_eq_true (by omega)
                have HE := Lib.hid (HLong.out H0.out (.inl h4))
                clear h4
                obtain ⟨n0, z0, s0, n1, z1, s1, n2, z2, s2, n3, z3, s3, n4, z4, s4, n5, z5, s5, n6, z6, s6, n7, z7, s7, n8, z8, s8⟩ := nil_box E4.out
                have hfc := F4.out.cell
                go_wp2_with fail
                refine bodyPost_ret (by simp [results, Tryz.results52, go_sem, n0, n1, n2, n3, n4, n5, n6, n7, n8]; try rfl) rfl ?_
                rw [HE.out]
                exact ⟨B42.out, .inr ⟨by simp, rfl⟩⟩
              · have g1 : decide ((4096 : Int) < (nb : Int)) = false := decide_eq_false (by omega)
                rcases Decidable.em (4096 < fi) with h5 | h5
                · have g2 : decide ((4096 : Int) < (fi : Int)) = true := decide_eq_true (by omega)
                  have HE := Lib.hid (HLong.out H0.out (.inr (.inl h5)))
                  clear h4 h5
                  obtain ⟨n0, z0, s0, n1, z1, s1, n2, z2, s2, n3, z3, s3, n4, z4, s4, n5, z5, s5, n6, z6, s6, n7, z7, s7, n8, z8, s8⟩ := nil_box E4.out
                  have hfc := F4.out.cell
                  go_wp2_with fail
                  refine bodyPost_ret (by simp [results, Tryz.results52, go_sem, n0, n1, n2, n3, n4, n5, n6, n7, n8]; try rfl) rfl ?_
                  rw [HE.out]
                  exact ⟨B42.out, .inr ⟨by simp, rfl⟩⟩
                · have g2 : decide ((4096 : Int) < (fi : Int)) = false := decide_eq_false (by omega)
                  rcases Decidable.em (4096 < wd) with h6 | h6
                  · have g3 : decide ((4096 : Int) < (wd : Int)) = true := decide_eq_true (by omega)
                    have HE := Lib.hid (HLong.out H0.out (.inr (.inr h6)))
                    clear h4 h5 h6
                    obtain ⟨n0, z0, s0, n1, z1, s1, n2, z2, s2, n3, z3, s3, n4, z4, s4, n5, z5, s5, n6, z6, s6, n7, z7, s7, n8, z8, s8⟩ := nil_box E4.out
                    have hfc := F4.out.cell
                    go_wp2_with fail
                    refine bodyPost_ret (by simp [results, Tryz.results52, go_sem, n0, n1, n2, n3, n4, n5, n6, n7, n8]; try rfl) rfl ?_
                    rw [HE.out]
                    exact ⟨B42.out, .inr ⟨by simp, rfl⟩⟩
                  · have g3 : decide ((4096 : Int) < (wd : Int)) = false := decide_eq_false (by omega)
                    have HL0 : Hid (¬ (4096 < nb ∨ 4096 < fi ∨ 4096 < wd)) := Lib.hid (by omega)
                    have hfc := F4.out.cell
                    have hk0 : w4.cell? ⟨w.heap.size, 0, none⟩ = some (.slice a bs.length cap) := by rw [cell_of_row _ _ _ _ _ _ E14.out]; rfl
                    have hk1 : w4.cell? ⟨w.heap.size, 1, none⟩ = some (.int .i64 ty) := by rw [cell_of_row _ _ _ _ _ _ E14.out]; rfl
                    have hk2 : w4.cell? ⟨w.heap.size, 2, none⟩ = some (.int .u64 en) := by rw [cell_of_row _ _ _ _ _ _ E14.out]; rfl
                    have hk3 : w4.cell? ⟨w.heap.size, 3, none⟩ = some (.slice p ps.length pc) := by rw [cell_of_row _ _ _ _ _ _ E14.out]; rfl
                    have HSZ := Lib.hid (HSL.out w4 (16 + 8 * wd + 4 * nb) B42.out (by omega))
                    have hcast : ((16 + 8 * wd + 4 * nb : Nat) : Int) = 16 + 8 * (wd : Int) + 4 * (nb : Int) := by omega
                    rw [hcast] at HSZ
                    clear h4 h5 h6 hcast
                    rcases sliceF_code bs ps addr (16 + 8 * wd + 4 * nb) with hc | hc
                    · obtain ⟨all, hall⟩ : ∃ all, sliceF bs ps addr (16 + 8 * wd + 4 * nb) = (all, 0) := ⟨(sliceF bs ps addr (16 + 8 * wd + 4 * nb)).1, by rw [← hc]⟩
                      have hal := sliceF_len bs ps addr (16 + 8 * wd + 4 * nb) hc
                      rw [hall] at hal HSZ
                      replace hal : all.length = 16 + 8 * wd + 4 * nb := hal
                      have HAB : Hid (∀ x ∈ all, x < 256) := Lib.hid (by
                        have h1 : all = (sliceF bs ps addr (16 + 8 * wd + 4 * nb)).1 := by rw [hall]
                        rw [h1]
                        intro x hx
                        unfold sliceF at hx
                        split at hx
                        · exact HBB.out x (List.mem_of_mem_drop (List.mem_of_mem_take hx))
                        · cases hx)
                      have HLO := Lib.hid (HLow.out H0.out HL0.out all hall)
                      have HYE := Lib.hid (HYes.out H0.out HL0.out all hall)
                      have HAL := Lib.hid hal
                      have hS : all.length ≤ 65536 := by have := HL0.out; omega
                      have hWD : wd ≤ 4096 := by have := HL0.out; omega
                      have hNB : nb ≤ 4096 := by have := HL0.out; omega
                      obtain ⟨base, hbase⟩ : ∃ base : Nat, IntKind.u64.wrap ((addr : Int) + (16 + 8 * (wd : Int) + 4 * (nb : Int))) = (base : Int) := ⟨(addr + (16 + 8 * wd + 4 * nb)) % 18446744073709551616, by rw [IntKind.wrap_u64]; omega⟩
                      have HBASE : Hid (base = (addr + (16 + 8 * wd + 4 * nb)) % 18446744073709551616) := Lib.hid (by rw [IntKind.wrap_u64] at hbase; omega)
                      clear hc hall hal HForm HLong HOut HLow HYes
                      go_wp2_with fail
                      refine HSZ.out.mono ?_
                      rintro e w5 ⟨ad5, c5, he, ho5, hb5⟩
                      replace he : e = .returned (.tuple #[.slice ad5 all.length c5, .nilIface]) := he
                      subst he
                      have B52 := Lib.hid (bstep B42.out hb5)
                      have E5 := Lib.hid ((hb5.block _ (lt_of_block E4.out)).trans E4.out)
                      have F5 := Lib.hid (F4.out.below hb5)
                      have R5 : Hid (BRow w5 ad5 all) := Lib.hid ⟨OwnI.row2 ho5, HAB.out⟩
                      have hcap : all.length ≤ c5 := OwnI.cap2 ho5
                      have E15 := Lib.hid ((hb5.block _ (lt_of_block E14.out)).trans E14.out)
                      obtain ⟨g5, rfl⟩ := ho5.shape2 (by rw [HAL.out]; omega)
                      clear hk0 hk1 hk2 hk3 hfc
                      have hk0 : w5.cell? ⟨w.heap.size, 0, none⟩ = some (.slice a bs.length cap) := by rw [cell_of_row _ _ _ _ _ _ E15.out]; rfl
                      have hk1 : w5.cell? ⟨w.heap.size, 1, none⟩ = some (.int .i64 ty) := by rw [cell_of_row _ _ _ _ _ _ E15.out]; rfl
                      have hk2 : w5.cell? ⟨w.heap.size, 2, none⟩ = some (.int .u64 en) := by rw [cell_of_row _ _ _ _ _ _ E15.out]; rfl
                      have hk3 : w5.cell? ⟨w.heap.size, 3, none⟩ = some (.slice p ps.length pc) := by rw [cell_of_row _ _ _ _ _ _ E15.out]; rfl
                      have hfc := F5.out.cell
                      have HFB := Lib.hid ho5.ge2
                      clear ho5 hb5 HSZ E14 E4 F4 hlt3
                      have BX : Hid (∀ X, (w5.alloc (.cells X 134)).heap[w5.heap.size]? = some (.cells X 134)) := Lib.hid (fun X => heap_alloc_new _ _)
                      have BA : Hid (∀ X, Below w5.heap.size w5 (w5.alloc (.cells X 134))) := Lib.hid (fun X => (Below.refl _ _).alloc (Nat.le_refl _) _)
                      go_wp2_with fail
                      have HBX0 := Lib.hid (BX.out (bCells a bs.length cap ty en p ps.length pc fi sh none 0 0 none 0 0 base))
                      have HBA0 := Lib.hid (BA.out (bCells a bs.length cap ty en p ps.length pc fi sh none 0 0 none 0 0 base))
                      have hw6 : w5.alloc (.cells (bCells a bs.length cap ty en p ps.length pc fi sh none 0 0 none 0 0 base) 134) = w5.alloc (.cells #[.slice a bs.length cap, .int .i64 ty, .int .u64 en, .slice p ps.length pc, .int .u32 (fi : Int), .int .u32 (sh : Int), .slice none 0 0, .slice none 0 0, .int .u64 (base : Int)] 134) := rfl
                      rw [← hw6]
                      have hs6 : w5.heap.size + 1 ≤ (w5.alloc (.cells (bCells a bs.length cap ty en p ps.length pc fi sh none 0 0 none 0 0 base) 134)).heap.size := by simp
                      have HS6 := Lib.hid hs6
                      generalize w5.alloc (.cells (bCells a bs.length cap ty en p ps.length pc fi sh none 0 0 none 0 0 base) 134) = w6 at *
                      clear hw6 hs6 BX BA
                      go_loopg [91] wd (fun gg i wr => ∃ (k : Nat) (ba : Option Addr) (bc : Nat), k + gg = wd ∧ i = .int .i64 (k : Int) ∧ Hid (wr.heap[w5.heap.size]? = some (.cells (bCells a bs.length cap ty en p ps.length pc fi sh ba k bc none 0 0 base) 134)) ∧
                        Hid (OwnI wr (w5.heap.size + 1) 24 .u64 (.slice ba k bc) (toI ((List.range k).map (eightAt all)))) ∧ Hid (Below w5.heap.size w5 wr) ∧ Hid (w5.heap.size + 1 ≤ wr.heap.size))
                      case atStart => exact ⟨0, none, 0, by omega, rfl, HBX0, Lib.hid (OwnI.nil _ _ _ _), HBA0, HS6⟩
                      case round =>
                        obtain ⟨k, ba, bc, hk, rfl, HBX, OW, BW, HSW⟩ := hrel
                        cases gk with
                        | zero =>
                          have hke : k = wd := by omega
                          subst hke
                          have hal := HAL.out
                          obtain ⟨m, hm⟩ : ∃ m : Nat, 16 + 8 * k = m := ⟨_, rfl⟩
                          obtain ⟨q, hq⟩ : ∃ q : Nat, 4 * nb = q := ⟨_, rfl⟩
                          have hal2 : all.length = m + q := by omega
                          have u1 : IntKind.u32.wrap (8 * (k : Int)) = 8 * (k : Int) := by rw [IntKind.wrap_u32]; omega
                          have u2 : IntKind.u32.wrap (16 + 8 * (k : Int)) = (m : Int) := by rw [IntKind.wrap_u32]; omega
                          have h1n := H1.out
                          have hne : ¬ c5 = m := by omega
                          have hmc : m ≤ c5 := by omega
                          have hm0 : (0 : Int) ≤ (m : Int) := by omega
                          have hm3 : (m : Int) ≤ (m : Int) + (q : Int) := by omega
                          have hRm := (R5.out.below BW.out).cut m q
                          simp only [Option.map_some, WideShapes.add_plain, Nat.zero_add] at hRm
                          rw [List.take_of_length_le (by simp; omega)] at hRm
                          have hlq : (all.drop m).length = q := by simp; omega
                          have hsp := split_any (some ⟨g5, m, none⟩) (c5 - m) (all.drop m) wr hRm (by omega) (by omega)
                          rw [hlq] at hsp
                          have hLl : (splitF (all.drop m)).length = nb := by rw [splitF_length, hlq]; omega
                          rw [hm] at HLO HYE
                          obtain ⟨L, hL⟩ : ∃ L, splitF (all.drop m) = L := ⟨_, rfl⟩
                          have HL := Lib.hid hL
                          rw [hL] at hsp hLl HLO HYE
                          have HSP := Lib.hid hsp
                          have HLL := Lib.hid hLl
                          have HM := Lib.hid hm
                          have hL2 : L.length ≤ 1048576 := by omega
                          rw [hal2]
                          clear hal2 hal hm hq hRm hlq hsp hL hLl hcap h1n
                          go_wp2_with fail
                          refine HSP.out.mono ?_
                          rintro e w7 ⟨ad7, c7, rfl, ho7, hb7⟩
                          have X7 := Lib.hid ((hb7.block _ (lt_of_block HBX.out)).trans HBX.out)
                          have hc7 : w7.cell? ⟨w5.heap.size, 7, none⟩ = some (.slice none 0 0) := (b_cells X7.out).2.2.2.2.2.2.2.1
                          have hf7 : w7.frozen? ⟨w5.heap.size, 7, none⟩ = false := frozen_of_row _ _ _ _ _ X7.out
                          have HS7 := Lib.hid hb7.size
                          have X8 := Lib.hid (b_put7 X7.out ad7 L.length c7)
                          have hne7 : ∀ b, ad7 = some b → b.block ≠ w5.heap.size := fun b hb => by
                            have := (World.ownsRow.lt ho7 b.block (by rw [hb]; rfl)).1
                            have := HSW.out
                            omega
                          have R8 := Lib.hid (Row.setO (p := ⟨w5.heap.size, 7, none⟩) ho7.row2 hne7 (.slice ad7 L.length c7))
                          have O8 := Lib.hid ((OW.out.below hb7).setO (a := ⟨w5.heap.size, 7, none⟩) (fun e => Nat.not_succ_le_self _ (World.ownsRow.lt (OW.out.below hb7) _ e).1) (.slice ad7 L.length c7))
                          have B57 := Lib.hid (BW.out.trans (hb7.mono BW.out.size))
                          have B58 := Lib.hid (B57.out.setCell (p := ⟨w5.heap.size, 7, none⟩) (Nat.le_refl _) (.slice ad7 L.length c7))
                          have F8 := Lib.hid (F5.out.below B58.out)
                          have E8 := Lib.hid ((B58.out.block _ (lt_of_block E5.out)).trans E5.out)
                          have HCL := Lib.hid (contains_low ad7 c7 L w2.heap.size fi _ R8.out hL2 F8.out.cell)
                          have B8 := Lib.hid (bstep B52.out B58.out)
                          have hlt5 := lt_of_block E5.out
                          have HLT5 := Lib.hid hlt5
                          have HU7 : Hid (∀ b, ad7 = some b → w5.heap.size < b.block) := Lib.hid (fun b hb => by
                            have := (World.ownsRow.lt ho7 b.block (by rw [hb]; rfl)).1
                            have := HSW.out
                            omega)
                          clear ho7 hb7 HSP hne7
                          obtain ⟨cl, hcl⟩ : ∃ cl, L.any (lowB fi) = cl := ⟨_, rfl⟩
                          rw [hcl] at HCL HLO HYE
                          clear hcl
                          go_wp2_with fail
                          refine HCL.out.mono ?_
                          rintro e w9 ⟨rfl, rfl⟩
                          generalize w7.setCell ⟨w5.heap.size, 7, none⟩ (.slice ad7 L.length c7) = w8 at *
                          cases cl
                          · have HE := Lib.hid (HYE.out rfl)
                            obtain ⟨x0, x1, x2, x3, x4, x5, x6, x7, x8⟩ := b_cells X8.out
                            obtain ⟨n0, z0, -, n1, z1, -, n2, z2, -, n3, z3, -, n4, z4, -, n5, z5, -, n6, z6, -, n7, z7, -, n8, z8, -⟩ := nil_box E8.out
                            have NS := Lib.hid (nine_stores E8.out (.slice a bs.length cap) (.int .i64 ty) (.int .u64 en) (.slice p ps.length pc) (.int .u32 (fi : Int)) (.int .u32 (sh : Int)) (.slice ba k bc) (.slice ad7 L.length c7) (.int .u64 (base : Int)))
                            clear HLO HYE
                            go_wp2_with fail
                            rw [NS.out]
                            have hr := fun j => cell_setRow_same w8 (w.heap.size + 1) j _ #[.slice a bs.length cap, .int .i64 ty, .int .u64 en, .slice p ps.length pc, .int .u32 (fi : Int), .int .u32 (sh : Int), .slice ba k bc, .slice ad7 L.length c7, .int .u64 (base : Int)] _ _ E8.out
                            have r0 := hr 0; have r1 := hr 1; have r2 := hr 2; have r3 := hr 3; have r4 := hr 4; have r5 := hr 5; have r6 := hr 6; have r7 := hr 7; have r8 := hr 8
                            simp only [List.getElem?_toArray, List.getElem?_cons_zero, List.getElem?_cons_succ] at r0 r1 r2 r3 r4 r5 r6 r7 r8
                            refine bodyPost_ret (by simp [results, Tryz.results52, go_sem, r0, r1, r2, r3, r4, r5, r6, r7, r8]; try rfl) rfl ?_
                            rw [HE.out]
                            have hnb : ∀ b, ba = some b → b.block ≠ w.heap.size + 1 := fun b hb => by
                              have := (World.ownsRow.lt O8.out b.block (by rw [hb]; rfl)).1
                              have := HLT5.out
                              omega
                            have hnu : ∀ b, ad7 = some b → b.block ≠ w.heap.size + 1 := fun b hb => by
                              have := HU7.out b hb
                              have := HLT5.out
                              omega
                            refine ⟨Below.setRow' B8.out (by omega) _, .inl ⟨rfl, ba, bc, ad7, c7, ?_, ?_, ?_⟩⟩
                            · simp only [bloomV, bloomT, HBASE.out, HM.out, HL.out, List.length_map, List.length_range]
                            · exact Row.setRowO O8.out.row2 hnb _
                            · have h1 := Row.setRowO R8.out hnu #[.slice a bs.length cap, .int .i64 ty, .int .u64 en, .slice p ps.length pc, .int .u32 (fi : Int), .int .u32 (sh : Int), .slice ba k bc, .slice ad7 L.length c7, .int .u64 (base : Int)]
                              simp only [bloomT, HM.out, HL.out]
                              exact h1
                          · have HE := Lib.hid (HLO.out rfl)
                            obtain ⟨n0, z0, s0, n1, z1, s1, n2, z2, s2, n3, z3, s3, n4, z4, s4, n5, z5, s5, n6, z6, s6, n7, z7, s7, n8, z8, s8⟩ := nil_box E8.out
                            clear HLO HYE
                            go_wp2_with fail
                            refine bodyPost_ret (by simp [results, Tryz.results52, go_sem, n0, n1, n2, n3, n4, n5, n6, n7, n8]; try rfl) rfl ?_
                            rw [HE.out]
                            exact ⟨B8.out, .inr ⟨by simp, rfl⟩⟩
                        | succ gg =>
                          have hlk : k < wd := by omega
                          have K6 : Hid (∀ w', Below wr.heap.size wr w' → w'.cell? ⟨w5.heap.size, 6, none⟩ = some (.slice ba k bc)) := Lib.hid (fun w' h => by
                            rw [h.cell (p := ⟨w5.heap.size, 6, none⟩) (lt_of_block HBX.out)]; exact (b_cells HBX.out).2.2.2.2.2.2.1)
                          obtain ⟨kk, hkk⟩ : ∃ kk : Nat, 16 + 8 * k = kk := ⟨_, rfl⟩
                          have hal := HAL.out
                          have hb1 : kk + 8 ≤ all.length := by omega
                          have s1 : IntKind.i64.wrap (8 * (k : Int)) = 8 * (k : Int) := by rw [IntKind.wrap_i64]; omega
                          have s2 : IntKind.i64.wrap (16 + 8 * (k : Int)) = (kk : Int) := by rw [IntKind.wrap_i64]; omega
                          have HNB : Hid (∀ w', Below w5.heap.size w5 w' → Calls Tryz.prog 48 #[.slice (some ⟨g5, kk, none⟩) 8 (c5 - kk)] w' fun e w'' => e = .returned (.int .u64 (eightAt all k : Int)) ∧ w'' = w') := Lib.hid (fun w' h => by
                            have hc := (R5.out.below h).cut kk 8
                            simp only [Option.map_some, WideShapes.add_plain, Nat.zero_add] at hc
                            have h8 : ((all.drop kk).take 8).length = 8 := by simp; omega
                            have := number_any (some ⟨g5, kk, none⟩) (c5 - kk) _ w' hc (by omega)
                            rw [h8] at this
                            refine this.mono ?_
                            rintro e w'' ⟨rfl, rfl⟩
                            exact ⟨by rw [eightAt, hkk], rfl⟩)
                          have HT : Hid (toI ((List.range (k + 1)).map (eightAt all)) = toI ((List.range k).map (eightAt all)) ++ [(eightAt all k : Int)]) := Lib.hid (by simp [toI, List.range_succ])
                          have HLL : Hid ((toI ((List.range k).map (eightAt all))).length = k) := Lib.hid (by simp [toI])
                          obtain ⟨q, hq⟩ : ∃ q, eightAt all k = q := ⟨_, rfl⟩
                          rw [hq] at HNB HT
                          have hne : ¬ c5 = kk := by omega
                          have hk0 : (0 : Int) ≤ (kk : Int) := by omega
                          have hk1 : (kk : Int) ≤ (all.length : Int) := by omega
                          have hk3 : (kk : Int) ≤ (c5 : Int) := by omega
                          obtain ⟨ck, hck⟩ : ∃ ck, c5 - kk = ck := ⟨_, rfl⟩
                          have hk4 : ((c5 : Int) - (kk : Int)).toNat = ck := by omega
                          have hk5 : (8 : Int) ≤ (ck : Int) := by omega
                          have hk6 : kk ≤ c5 := by omega
                          have hk7 : kk ≤ all.length := by omega
                          have hk8 : (all.length : Int) ≤ (c5 : Int) := by omega
                          rw [hck] at HNB
                          have HCK := Lib.hid hck
                          have HSZ1 := Lib.hid (show w5.heap.size + 1 ≤ (wr.alloc (.cells #[.int .u64 (q : Int)] 24)).drew.heap.size by have := HSW.out; show _ ≤ (wr.heap.push _).size; simp; omega)
                          have HKB := Lib.hid (show k ≤ 4096 by omega)
                          have HKG := Lib.hid hk
                          clear hal hkk hq hk
                          go_wp2_with fail
                          have HNW : Hid ((wr.alloc (.cells #[.int .u64 (q : Int)] 24)).drew.cell? ⟨wr.heap.size, 0, none⟩ = some (.int .u64 (q : Int))) := Lib.hid (by change (wr.alloc (.cells #[.int .u64 (q : Int)] 24)).cell? ⟨wr.heap.size, 0, none⟩ = _; rw [World.cell?_alloc_new]; rfl)
                          have OWA := Lib.hid (OW.out.below (((Below.refl _ _).alloc (Nat.le_refl _) (.cells #[.int .u64 (q : Int)] 24)).drew))
                          have BWA := Lib.hid ((BW.out.alloc BW.out.size (.cells #[.int .u64 (q : Int)] 24)).drew)
                          have HK1 : Hid (k + 1 ≤ maxLen) := Lib.hid (by have := HKB.out; unfold maxLen; omega)
                          have HK2 : Hid ((k + 1) * 8 ≤ 140737488355328) := Lib.hid (by have := HKB.out; omega)
                          have hc6 : wr.cell? ⟨w5.heap.size, 6, none⟩ = some (.slice ba k bc) := K6.out _ (Below.refl _ _)
                          have hlt6 : w5.heap.size < wr.heap.size := HSW.out
                          have hc6a : ∀ o, (wr.alloc o).cell? ⟨w5.heap.size, 6, none⟩ = some (.slice ba k bc) := fun o => K6.out _ ((Below.refl _ _).alloc (Nat.le_refl _) _)
                          go_region_law
                            (first
                              | (refine step_push_int rfl (.tmp 95) (.tmp 103) slice64u rfl (w5.heap.size + 1) w5.heap.size w5 (.slice ba k bc) (toI ((List.range k).map (eightAt all))) k (q : Int) (by simp only [Act.eval, Act.put]; rfl) ⟨wr.heap.size, 0, none⟩ 1 (by simp only [Act.eval, Act.put]; rfl) HNW.out HLL.out OWA.out HK1.out HK2.out BWA.out (Nat.le_succ _) HSZ1.out ?_; intro ad5 c6 w7 hown7 hbe7 hbt7; have X7 := Lib.hid (show w7.heap[w5.heap.size]? = _ from (hbt7.block _ (by omega)).trans ((heap_alloc_old wr _ (lt_of_block HBX.out)).trans HBX.out)); have hc7 : w7.cell? ⟨w5.heap.size, 6, none⟩ = some (.slice ba k bc) := (b_cells X7.out).2.2.2.2.2.2.1; have hf7 : w7.frozen? ⟨w5.heap.size, 6, none⟩ = false := frozen_of_row _ _ _ _ _ X7.out)
                              | (go_simp; refine (HNB.out _ BW.out.drew).mono ?_; rintro e' w7 ⟨rfl, rfl⟩))
                          all_goals
                            have X8 := Lib.hid (b_put6 X7.out ad5 (k + 1) c6)
                            have O8 := Lib.hid (hown7.setO (a := ⟨w5.heap.size, 6, none⟩) (fun e => Nat.not_succ_le_self _ (World.ownsRow.lt hown7 _ e).1) (.slice ad5 (k + 1) c6))
                            rw [← HT.out] at O8
                            have B8 := Lib.hid (hbe7.setCell (p := ⟨w5.heap.size, 6, none⟩) (Nat.le_refl _) (.slice ad5 (k + 1) c6))
                            have S8 : Hid (w5.heap.size + 1 ≤ (w7.setCell ⟨w5.heap.size, 6, none⟩ (.slice ad5 (k + 1) c6)).heap.size) := Lib.hid (by have := hbt7.size; have := HSZ1.out; simp [World.setCell] at *; omega)
                            clear hown7 hbe7 hbt7 X7 hc7 hf7 HNB K6 s1 s2
                            go_wp2
                            go_roundg gg
                            case measure => omega
                            case rel => exact ⟨k + 1, ad5, c6, by have := HKG.out; omega, by go_num, X8, O8, B8, S8⟩
                    · have HE := Lib.hid (HOut.out H0.out HL0.out hc)
                      rw [hc] at HSZ
                      clear hc
                      go_wp2_with fail
                      refine HSZ.out.mono ?_
                      rintro e w5 ⟨ad5, c5, he, ho5, hb5⟩
                      replace he : e = .returned (.tuple #[.slice ad5 0 c5, .iface 56 (.int .i64 4)]) := he
                      subst he
                      have B52 := Lib.hid (bstep B42.out hb5)
                      obtain ⟨n0, z0, s0, n1, z1, s1, n2, z2, s2, n3, z3, s3, n4, z4, s4, n5, z5, s5, n6, z6, s6, n7, z7, s7, n8, z8, s8⟩ := nil_box ((hb5.block _ (lt_of_block E4.out)).trans E4.out)
                      clear ho5 hb5 HSZ hk0 hk1 hk2 hk3 hfc
                      go_wp2_with fail
                      refine bodyPost_ret (by simp [results, Tryz.results52, go_sem, n0, n1, n2, n3, n4, n5, n6, n7, n8]; try rfl) rfl ?_
                      rw [HE.out]
                      exact ⟨B52.out, .inr ⟨by simp, rfl⟩⟩
          · have HE := Lib.hid (HForm.out (.inr (.inl h2)))
            have h2b : (onesF wd != 1) = true := bne_iff_ne.2 h2
            generalize onesF wd = oo at *
            clear h2
            obtain ⟨n0, z0, s0, n1, z1, s1, n2, z2, s2, n3, z3, s3, n4, z4, s4, n5, z5, s5, n6, z6, s6, n7, z7, s7, n8, z8, s8⟩ := nil_box E4.out
            go_wp2_with fail
            refine bodyPost_ret (by simp [results, Tryz.results52, go_sem, n0, n1, n2, n3, n4, n5, n6, n7, n8]; try rfl) rfl ?_
            rw [HE.out]
            exact ⟨B42.out, .inr ⟨by simp, rfl⟩⟩
  · rw [bloomF_no hf]
    have HW2 := Lib.hid (HW.out _ B1.out)
    rw [hf] at HW2
    clear hf HW HBB
    go_enter Tryz.func52, Tryz.ntmps52
    go_wp2_with fail
    refine HW2.out.mono ?_
    rintro e w2 ⟨ad, c, he, ho, hb2⟩
    replace he : e = .returned (.tuple #[.slice ad 0 c, .iface 56 (.int .i64 4)]) := he
    subst he
    have B2 := Lib.hid (bstep B1.out hb2)
    obtain ⟨e1, e2⟩ := two_boxes hb2
    obtain ⟨n0, z0, s0, n1, z1, s1, n2, z2, s2, n3, z3, s3, n4, z4, s4, n5, z5, s5, n6, z6, s6, n7, z7, s7, n8, z8, s8⟩ := nil_box e2
    clear ho hb2 HW2 B1 e1 e2
    go_wp2_with fail
    refine bodyPost_ret (by simp [results, Tryz.results52, go_sem, n0, n1, n2, n3, n4, n5, n6, n7, n8]; try rfl) rfl ?_
    exact ⟨B2.out, .inr ⟨by simp, rfl⟩⟩
end Go.Proofs.YtnaejlfjlennhaaGreatDoor
