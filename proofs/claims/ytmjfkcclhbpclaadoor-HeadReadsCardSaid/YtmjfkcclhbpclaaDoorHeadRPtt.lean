/- Layer 4: what the document asks of a program header: its own walk (tt). -/
import Derived.Test.YtmjfkcclhbpclaaDoorHeadRPg
import Derived.WalkSmall
namespace Go.Proofs.YtmjfkcclhbpclaaDoor
open Go.RowKit
set_option linter.unusedVariables false
set_option linter.unusedSimpArgs false
set_option maxRecDepth 100000

set_option maxHeartbeats 64000000 in
theorem rprog_tt (a : Option Addr) (m cap : Nat) (bs : List Nat) (p : PT) (at_ : Nat) (pa : Option Addr) (pn pc : Nat) (ps : List PT) (w : World) (hml0 : m ≤ 140737488351232) (hp : p.wf) (hat : at_ + 64 < 18446744073709551616) (hps : PRow w pa ps) (hl : ps.length = pn) (hpn : pn ≤ 1048576) (h2 : isOf p [1, 2, 3, 4, 7] = true) (h3 : isOf p [1, 2, 7, 1685382482] = true) :
    Calls Tryd.prog 41 #[.slice a m cap, p.hv, .int .u64 (at_ : Int), .slice pa pn pc] w (RProgPost m ps p at_ w) := by
  have HPF : Hid (∀ (c k : Nat) w', rOneF m ps p at_ = some (at_ + k, c) → Below w.heap.size w w' → RProgPost m ps p at_ w (.returned (.agg #[.int .i64 (c : Int), .bool true, .int .u64 ((at_ : Int) + (k : Int))])) w') := Lib.hid (fun c k w' e hb => ⟨by rw [e]; show _ = Ending.returned (.agg #[.int .i64 (c : Int), .bool true, .int .u64 ((at_ + k : Nat) : Int)]); rw [Int.natCast_add], hb⟩)
  have HPF0 : Hid (∀ (c : Nat) w', rOneF m ps p at_ = some (at_ + 0, c) → Below w.heap.size w w' → RProgPost m ps p at_ w (.returned (.agg #[.int .i64 (c : Int), .bool true, .int .u64 (at_ : Int)])) w') := Lib.hid (fun c w' e hb => ⟨by rw [e]; rfl, hb⟩)
  have HPN : Hid (∀ w', rOneF m ps p at_ = none → Below w.heap.size w w' → RProgPost m ps p at_ w (.returned (.agg #[.int .i64 0, .bool false, .int .u64 0])) w') := Lib.hid (fun w' e hb => ⟨by rw [e]; rfl, hb⟩)
  generalize RProgPost m ps p at_ w = P at *
  have HAM1 : Hid (∀ wx : World, Calls Tryd.prog 60 #[.int .u32 (p.ty : Int), .slice (some ⟨wx.heap.size, 0, none⟩) 5 5] (wx.alloc (.cells #[.int .u32 2, .int .u32 3, .int .u32 7, .int .u32 1685382482, .int .u32 1685382481] 35)) fun e w' => e = .returned (.bool (isOf p [2, 3, 7, 1685382482, 1685382481])) ∧ wx.alloc (.cells #[.int .u32 2, .int .u32 3, .int .u32 7, .int .u32 1685382482, .int .u32 1685382481] 35) = w') := Lib.hid (fun wx => ramong_any p.ty wx.heap.size 5 5 [2, 3, 7, 1685382482, 1685382481] _ (URow.lit wx [2, 3, 7, 1685382482, 1685382481] _ rfl _) rfl (by decide))
  have HAM2 : Hid (∀ wx : World, Calls Tryd.prog 60 #[.int .u32 (p.ty : Int), .slice (some ⟨wx.heap.size, 0, none⟩) 5 5] (wx.alloc (.cells #[.int .u32 1, .int .u32 2, .int .u32 3, .int .u32 4, .int .u32 7] 35)) fun e w' => e = .returned (.bool (isOf p [1, 2, 3, 4, 7])) ∧ wx.alloc (.cells #[.int .u32 1, .int .u32 2, .int .u32 3, .int .u32 4, .int .u32 7] 35) = w') := Lib.hid (fun wx => ramong_any p.ty wx.heap.size 5 5 [1, 2, 3, 4, 7] _ (URow.lit wx [1, 2, 3, 4, 7] _ rfl _) rfl (by decide))
  have HAM3 : Hid (∀ wx : World, Calls Tryd.prog 60 #[.int .u32 (p.ty : Int), .slice (some ⟨wx.heap.size, 0, none⟩) 4 4] (wx.alloc (.cells #[.int .u32 1, .int .u32 2, .int .u32 7, .int .u32 1685382482] 35)) fun e w' => e = .returned (.bool (isOf p [1, 2, 7, 1685382482])) ∧ wx.alloc (.cells #[.int .u32 1, .int .u32 2, .int .u32 7, .int .u32 1685382482] 35) = w') := Lib.hid (fun wx => ramong_any p.ty wx.heap.size 4 4 [1, 2, 7, 1685382482] _ (URow.lit wx [1, 2, 7, 1685382482] _ rfl _) rfl (by decide))
  have HIN2 : Hid (∀ wx : World, Calls Tryd.prog 37 #[.int .u64 (m : Int), .int .u64 (p.off : Int), .int .u64 (p.filesz : Int)] wx fun e w' => e = .returned (.bool (inB m p.off p.filesz)) ∧ wx = w') := Lib.hid (fun wx => refIn m p.off p.filesz wx (by omega) hp.2.2.1 hp.2.2.2.2.1)
  have HIN3 : Hid (∀ wx : World, Calls Tryd.prog 37 #[.int .u64 140737488355328, .int .u64 (p.vaddr : Int), .int .u64 (p.memsz : Int)] wx fun e w' => e = .returned (.bool (inB 140737488355328 p.vaddr p.memsz)) ∧ wx = w') := Lib.hid (fun wx => refIn 140737488355328 p.vaddr p.memsz wx (by omega) hp.2.2.2.1 hp.2.2.2.2.2.1)
  have HPOW : Hid (∀ wx : World, Calls Tryd.prog 61 #[.int .u64 (p.align : Int)] wx fun e w' => e = .returned (.bool (powerF p.align)) ∧ wx = w') := Lib.hid (fun wx => rpower_any p.align hp.2.2.2.2.2.2 wx)
  have HAT : Hid (∀ (c k : Nat) (wx : World), k ≤ 48 → Calls Tryd.prog 32 #[.int .i64 (c : Int), .int .u64 ((at_ : Int) + (k : Int))] wx fun e w' => e = .returned (.agg #[.int .i64 (c : Int), .bool true, .int .u64 ((at_ : Int) + (k : Int))]) ∧ Below wx.heap.size wx w') := Lib.hid (fun c k wx hk => by
    have := rat_any (c : Int) (at_ + k) wx
    rwa [Int.natCast_add] at this)
  have HAT0 : Hid (∀ (c : Nat) (wx : World), Calls Tryd.prog 32 #[.int .i64 (c : Int), .int .u64 (at_ : Int)] wx fun e w' => e = .returned (.agg #[.int .i64 (c : Int), .bool true, .int .u64 (at_ : Int)]) ∧ Below wx.heap.size wx w') := Lib.hid (fun c wx => rat_any (c : Int) at_ wx)
  have HRR0 : rOneF m ps p at_ = rOneF m ps p at_ := rfl
  conv at HRR0 => rhs; unfold rOneF
  have HRR := Lib.hid HRR0
  clear HRR0
  generalize rOneF m ps p at_ = RR at *
  have HANY : Hid (∀ k, (hk : k < ps.length) → (ps[k].ty == p.ty) = true → ps.any (fun q => q.ty == p.ty) = true) := Lib.hid (fun k hk h => List.any_eq_true.2 ⟨_, List.getElem_mem hk, h⟩)
  have HANN : Hid ((∀ k, (hk : k < ps.length) → (ps[k].ty == p.ty) = false) → ps.any (fun q => q.ty == p.ty) = false) := Lib.hid (fun h => by
    rw [List.any_eq_false]
    intro q hq
    obtain ⟨k, hk, rfl⟩ := List.getElem_of_mem hq
    rw [h k hk]
    decide)
  generalize ps.any (fun q => q.ty == p.ty) = T1 at *
  have HRE : Hid (rend (ps.take ps.length) = rend ps) := Lib.hid (by rw [List.take_length])
  generalize rend ps = EE at *
  have q8 : IntKind.u64.wrap ((at_ : Int) + 8) = (at_ : Int) + 8 := by rw [IntKind.wrap_u64]; omega
  have q16 : IntKind.u64.wrap ((at_ : Int) + 16) = (at_ : Int) + 16 := by rw [IntKind.wrap_u64]; omega
  have q32 : IntKind.u64.wrap ((at_ : Int) + 32) = (at_ : Int) + 32 := by rw [IntKind.wrap_u64]; omega
  have q40 : IntKind.u64.wrap ((at_ : Int) + 40) = (at_ : Int) + 40 := by rw [IntKind.wrap_u64]; omega
  have q48 : IntKind.u64.wrap ((at_ : Int) + 48) = (at_ : Int) + 48 := by rw [IntKind.wrap_u64]; omega
  have qm : IntKind.u64.wrap (m : Int) = (m : Int) := by rw [IntKind.wrap_u64]; omega
  have HL := Lib.hid hl
  have hpnl : (pn : Int) ≤ 1048576 := by omega
  obtain ⟨a0, a1, a2, a3, a4, a5, a6⟩ := p
  have HWF := Lib.hid (show a2 < 18446744073709551616 ∧ a3 < 18446744073709551616 ∧ a4 < 18446744073709551616 ∧ a5 < 18446744073709551616 ∧ a6 < 18446744073709551616 from ⟨hp.2.2.1, hp.2.2.2.1, hp.2.2.2.2.1, hp.2.2.2.2.2.1, hp.2.2.2.2.2.2⟩)
  generalize isOf _ [2, 3, 7, 1685382482, 1685382481] = R1 at *
  generalize isOf _ [1, 2, 3, 4, 7] = R2 at *
  generalize isOf _ [1, 2, 7, 1685382482] = R3 at *
  subst h2
  subst h3
  simp only [] at *
  generalize inB m a2 a4 = I2 at *
  generalize inB 140737488355328 a3 a5 = I3 at *
  generalize powerF a6 = W at *
  unfold PT.hv PT.cells
  simp only []
  obtain ⟨w1, hw1⟩ : ∃ w1, w.alloc (.cells #[.int .u32 (a0 : Int), .int .u32 (a1 : Int), .int .u64 (a2 : Int), .int .u64 (a3 : Int), .int .u64 (a4 : Int), .int .u64 (a5 : Int), .int .u64 (a6 : Int)] 37) = w1 := ⟨_, rfl⟩
  obtain ⟨xb, hxb⟩ : ∃ xb, w.heap.size = xb := ⟨_, rfl⟩
  obtain ⟨w2, hw2⟩ : ∃ w2, w1.alloc (.cells #[.int .i64 0, .bool false, .int .u64 0] 43) = w2 := ⟨_, rfl⟩
  obtain ⟨rbk, hrbk⟩ : ∃ rbk, w1.heap.size = rbk := ⟨_, rfl⟩
  have B1 : Hid (Below w.heap.size w w1) := Lib.hid (by rw [← hw1]; exact ballo (Below.refl _ _) _)
  have B12 : Hid (Below w1.heap.size w1 w2) := Lib.hid (by rw [← hw2]; exact ballo (Below.refl _ _) _)
  have X1 : Hid (w1.heap[xb]? = some (.cells #[.int .u32 (a0 : Int), .int .u32 (a1 : Int), .int .u64 (a2 : Int), .int .u64 (a3 : Int), .int .u64 (a4 : Int), .int .u64 (a5 : Int), .int .u64 (a6 : Int)] 37)) := Lib.hid (by rw [← hw1, ← hxb]; exact heap_alloc_new _ _)
  have Xw2 := Lib.hid ((B12.out.block _ (lt_of_block X1.out)).trans X1.out)
  have Rw2 : Hid (w2.heap[rbk]? = some (.cells #[.int .i64 0, .bool false, .int .u64 0] 43)) := Lib.hid (by rw [← hw2, ← hrbk]; exact heap_alloc_new _ _)
  have Bw2 := Lib.hid (bstep B1.out B12.out)
  have HRB : Hid (w.heap.size ≤ rbk) := Lib.hid (by rw [← hrbk]; exact B1.out.size)
  have HPS := Lib.hid hps
  clear hps hl hpn hp hat
  go_enter Tryd.func41, Tryd.ntmps41
  have HA1 : Hid (Calls Tryd.prog 60 #[.int .u32 (a0 : Int), .slice (some ⟨w2.heap.size, 0, none⟩) 5 5] (w2.alloc (.cells #[.int .u32 2, .int .u32 3, .int .u32 7, .int .u32 1685382482, .int .u32 1685382481] 35)) fun e w' => e = .returned (.bool R1) ∧ w2.alloc (.cells #[.int .u32 2, .int .u32 3, .int .u32 7, .int .u32 1685382482, .int .u32 1685382481] 35) = w') := Lib.hid (HAM1.out w2)
  have x0 : w2.cell? ⟨xb, 0, none⟩ = some (.int .u32 (a0 : Int)) := by rw [cell_of_row _ _ 0 _ _ _ Xw2.out]; rfl
  have x2 : w2.cell? ⟨xb, 2, none⟩ = some (.int .u64 (a2 : Int)) := by rw [cell_of_row _ _ 2 _ _ _ Xw2.out]; rfl
  have x3 : w2.cell? ⟨xb, 3, none⟩ = some (.int .u64 (a3 : Int)) := by rw [cell_of_row _ _ 3 _ _ _ Xw2.out]; rfl
  have x4 : w2.cell? ⟨xb, 4, none⟩ = some (.int .u64 (a4 : Int)) := by rw [cell_of_row _ _ 4 _ _ _ Xw2.out]; rfl
  have x5 : w2.cell? ⟨xb, 5, none⟩ = some (.int .u64 (a5 : Int)) := by rw [cell_of_row _ _ 5 _ _ _ Xw2.out]; rfl
  have x6 : w2.cell? ⟨xb, 6, none⟩ = some (.int .u64 (a6 : Int)) := by rw [cell_of_row _ _ 6 _ _ _ Xw2.out]; rfl
  go_wp2_with fail
  refine HA1.out.mono ?_
  rintro eA1 w3 ⟨rfl, hal1⟩
  have b1 : Below w2.heap.size w2 w3 := by rw [← hal1]; exact ballo (Below.refl _ _) _
  have Bw3 := Lib.hid (bstep Bw2.out b1)
  have Xw3 := Lib.hid ((b1.block _ (lt_of_block Xw2.out)).trans Xw2.out)
  have Rw3 := Lib.hid ((b1.block _ (lt_of_block Rw2.out)).trans Rw2.out)
  clear hal1 b1 HA1 x0 x2 x3 x4 x5 x6
  clear hw1 hw2 hxb hrbk
  go_wp2_with fail
  go_loopg [10, 11] pn (fun g ev iv wr => ∃ (k E : Nat), k + g = pn ∧ iv = .int .i64 (k : Int) ∧ ev = .int .u64 (E : Int) ∧ Hid (E = rend (ps.take k)) ∧ Hid (R1 = true → ∀ j, (hj : j < ps.length) → j < k → (ps[j].ty == a0) = false) ∧ Hid (Below w3.heap.size w3 wr))
  case atStart => exact ⟨0, 0, by omega, rfl, rfl, Lib.hid rfl, Lib.hid (fun _ j _ h => by omega), Lib.hid (Below.refl _ _)⟩
  case round =>
    obtain ⟨k, E, hk, rfl, rfl, HE0, HJ, HB⟩ := hrel
    have Bwr := Lib.hid (bstep Bw3.out HB.out)
    have Xwr := Lib.hid ((HB.out.block _ (lt_of_block Xw3.out)).trans Xw3.out)
    have Rwr := Lib.hid ((HB.out.block _ (lt_of_block Rw3.out)).trans Rw3.out)
    cases gk with
    | zero =>
      have hkn : k = pn := by omega
      have HEE : Hid (E = EE) := Lib.hid (by rw [HE0.out, ← HRE.out, HL.out, hkn])
      have HNT : Hid ((R1 && T1) = false) := Lib.hid (by
        cases R1 with
        | false => rfl
        | true => exact HANN.out (fun j hj => HJ.out rfl j hj (by have := HL.out; omega)))
      have HRR2 := Lib.hid (HRR.out.trans (by rw [HNT.out, ← HEE.out]))
      clear HRR
      have HRR := HRR2
      clear HRR2
      subst hkn
      clear hk
      have HA2 : Hid (Calls Tryd.prog 60 #[.int .u32 (a0 : Int), .slice (some ⟨wr.heap.size, 0, none⟩) 5 5] (wr.alloc (.cells #[.int .u32 1, .int .u32 2, .int .u32 3, .int .u32 4, .int .u32 7] 35)) fun e w' => e = .returned (.bool true) ∧ wr.alloc (.cells #[.int .u32 1, .int .u32 2, .int .u32 3, .int .u32 4, .int .u32 7] 35) = w') := Lib.hid (HAM2.out wr)
      have x0 : wr.cell? ⟨xb, 0, none⟩ = some (.int .u32 (a0 : Int)) := by rw [cell_of_row _ _ 0 _ _ _ Xwr.out]; rfl
      have x2 : wr.cell? ⟨xb, 2, none⟩ = some (.int .u64 (a2 : Int)) := by rw [cell_of_row _ _ 2 _ _ _ Xwr.out]; rfl
      have x3 : wr.cell? ⟨xb, 3, none⟩ = some (.int .u64 (a3 : Int)) := by rw [cell_of_row _ _ 3 _ _ _ Xwr.out]; rfl
      have x4 : wr.cell? ⟨xb, 4, none⟩ = some (.int .u64 (a4 : Int)) := by rw [cell_of_row _ _ 4 _ _ _ Xwr.out]; rfl
      have x5 : wr.cell? ⟨xb, 5, none⟩ = some (.int .u64 (a5 : Int)) := by rw [cell_of_row _ _ 5 _ _ _ Xwr.out]; rfl
      have x6 : wr.cell? ⟨xb, 6, none⟩ = some (.int .u64 (a6 : Int)) := by rw [cell_of_row _ _ 6 _ _ _ Xwr.out]; rfl
      go_wp2_with fail
      refine HA2.out.mono ?_
      rintro eA2 w6 ⟨rfl, hal2⟩
      have b2 : Below wr.heap.size wr w6 := by rw [← hal2]; exact ballo (Below.refl _ _) _
      have Bw6 := Lib.hid (bstep Bwr.out b2)
      have Xw6 := Lib.hid ((b2.block _ (lt_of_block Xwr.out)).trans Xwr.out)
      have Rw6 := Lib.hid ((b2.block _ (lt_of_block Rwr.out)).trans Rwr.out)
      clear hal2 b2 HA2 x0 x2 x3 x4 x5 x6
      have x0 : w6.cell? ⟨xb, 0, none⟩ = some (.int .u32 (a0 : Int)) := by rw [cell_of_row _ _ 0 _ _ _ Xw6.out]; rfl
      have x2 : w6.cell? ⟨xb, 2, none⟩ = some (.int .u64 (a2 : Int)) := by rw [cell_of_row _ _ 2 _ _ _ Xw6.out]; rfl
      have x3 : w6.cell? ⟨xb, 3, none⟩ = some (.int .u64 (a3 : Int)) := by rw [cell_of_row _ _ 3 _ _ _ Xw6.out]; rfl
      have x4 : w6.cell? ⟨xb, 4, none⟩ = some (.int .u64 (a4 : Int)) := by rw [cell_of_row _ _ 4 _ _ _ Xw6.out]; rfl
      have x5 : w6.cell? ⟨xb, 5, none⟩ = some (.int .u64 (a5 : Int)) := by rw [cell_of_row _ _ 5 _ _ _ Xw6.out]; rfl
      have x6 : w6.cell? ⟨xb, 6, none⟩ = some (.int .u64 (a6 : Int)) := by rw [cell_of_row _ _ 6 _ _ _ Xw6.out]; rfl
      go_wp2_with fail
      refine (HIN2.out w6).mono ?_
      rintro eI w7 ⟨rfl, rfl⟩
      have Bw7 := Bw6
      have Xw7 := Xw6
      have Rw7 := Rw6
      clear x0 x2 x3 x4 x5 x6
      cases I2 with
      | false =>
        have HE : Hid (RR = some (at_ + 8, 4)) := Lib.hid (by
          rw [HRR.out]; simp)
        go_wp2_with fail
        refine (HAT.out 4 8 w6 (by omega)).mono ?_
        rintro e6 w6 ⟨rfl, hb6⟩
        have R6 := Lib.hid ((hb6.block _ (lt_of_block Rw6.out)).trans Rw6.out)
        have B6 := Lib.hid (bstep Bw6.out hb6)
        have g0 : w6.cell? ⟨rbk, 0, none⟩ = some (.int .i64 0) := by rw [cell_of_row _ _ 0 _ _ _ R6.out]; rfl
        have g1 : w6.cell? ⟨rbk, 1, none⟩ = some (.bool false) := by rw [cell_of_row _ _ 1 _ _ _ R6.out]; rfl
        have g2 : w6.cell? ⟨rbk, 2, none⟩ = some (.int .u64 0) := by rw [cell_of_row _ _ 2 _ _ _ R6.out]; rfl
        have f0 : w6.frozen? ⟨rbk, 0, none⟩ = false := frozen_of_row _ _ _ _ _ R6.out
        have f1 : w6.frozen? ⟨rbk, 1, none⟩ = false := frozen_of_row _ _ _ _ _ R6.out
        have f2 : w6.frozen? ⟨rbk, 2, none⟩ = false := frozen_of_row _ _ _ _ _ R6.out
        obtain ⟨wf, hwf, z0, z1, z2, ez⟩ := set3_cells R6.out (.int .i64 4) (.bool true) (.int .u64 ((at_ : Int) + 8))
        have BF : Hid (Below w.heap.size w wf) := Lib.hid (by rw [← ez]; exact below_set3 B6.out HRB.out _ _ _)
        clear ez hb6
        go_wp2_with fail
        refine bodyPost_ret (by simp [results, Tryd.results41, go_sem, z0, z1, z2]; try rfl) rfl ?_
        exact HPF.out 4 8 wf HE.out BF.out
      | true =>
        have HA3 : Hid (Calls Tryd.prog 60 #[.int .u32 (a0 : Int), .slice (some ⟨w6.heap.size, 0, none⟩) 4 4] (w6.alloc (.cells #[.int .u32 1, .int .u32 2, .int .u32 7, .int .u32 1685382482] 35)) fun e w' => e = .returned (.bool true) ∧ w6.alloc (.cells #[.int .u32 1, .int .u32 2, .int .u32 7, .int .u32 1685382482] 35) = w') := Lib.hid (HAM3.out w6)
        have x0 : w6.cell? ⟨xb, 0, none⟩ = some (.int .u32 (a0 : Int)) := by rw [cell_of_row _ _ 0 _ _ _ Xw6.out]; rfl
        have x2 : w6.cell? ⟨xb, 2, none⟩ = some (.int .u64 (a2 : Int)) := by rw [cell_of_row _ _ 2 _ _ _ Xw6.out]; rfl
        have x3 : w6.cell? ⟨xb, 3, none⟩ = some (.int .u64 (a3 : Int)) := by rw [cell_of_row _ _ 3 _ _ _ Xw6.out]; rfl
        have x4 : w6.cell? ⟨xb, 4, none⟩ = some (.int .u64 (a4 : Int)) := by rw [cell_of_row _ _ 4 _ _ _ Xw6.out]; rfl
        have x5 : w6.cell? ⟨xb, 5, none⟩ = some (.int .u64 (a5 : Int)) := by rw [cell_of_row _ _ 5 _ _ _ Xw6.out]; rfl
        have x6 : w6.cell? ⟨xb, 6, none⟩ = some (.int .u64 (a6 : Int)) := by rw [cell_of_row _ _ 6 _ _ _ Xw6.out]; rfl
        go_wp2_with fail
        refine HA3.out.mono ?_
        rintro eA3 w8 ⟨rfl, hal3⟩
        have b3 : Below w6.heap.size w6 w8 := by rw [← hal3]; exact ballo (Below.refl _ _) _
        have Bw8 := Lib.hid (bstep Bw6.out b3)
        have Xw8 := Lib.hid ((b3.block _ (lt_of_block Xw6.out)).trans Xw6.out)
        have Rw8 := Lib.hid ((b3.block _ (lt_of_block Rw6.out)).trans Rw6.out)
        clear hal3 b3 HA3 x0 x2 x3 x4 x5 x6
        have x0 : w8.cell? ⟨xb, 0, none⟩ = some (.int .u32 (a0 : Int)) := by rw [cell_of_row _ _ 0 _ _ _ Xw8.out]; rfl
        have x2 : w8.cell? ⟨xb, 2, none⟩ = some (.int .u64 (a2 : Int)) := by rw [cell_of_row _ _ 2 _ _ _ Xw8.out]; rfl
        have x3 : w8.cell? ⟨xb, 3, none⟩ = some (.int .u64 (a3 : Int)) := by rw [cell_of_row _ _ 3 _ _ _ Xw8.out]; rfl
        have x4 : w8.cell? ⟨xb, 4, none⟩ = some (.int .u64 (a4 : Int)) := by rw [cell_of_row _ _ 4 _ _ _ Xw8.out]; rfl
        have x5 : w8.cell? ⟨xb, 5, none⟩ = some (.int .u64 (a5 : Int)) := by rw [cell_of_row _ _ 5 _ _ _ Xw8.out]; rfl
        have x6 : w8.cell? ⟨xb, 6, none⟩ = some (.int .u64 (a6 : Int)) := by rw [cell_of_row _ _ 6 _ _ _ Xw8.out]; rfl
        go_wp2_with fail
        refine (HIN3.out w8).mono ?_
        rintro eB w9 ⟨rfl, rfl⟩
        have Bw9 := Bw8
        have Xw9 := Xw8
        have Rw9 := Rw8
        clear x0 x2 x3 x4 x5 x6
        have x0 : w8.cell? ⟨xb, 0, none⟩ = some (.int .u32 (a0 : Int)) := by rw [cell_of_row _ _ 0 _ _ _ Xw8.out]; rfl
        have x2 : w8.cell? ⟨xb, 2, none⟩ = some (.int .u64 (a2 : Int)) := by rw [cell_of_row _ _ 2 _ _ _ Xw8.out]; rfl
        have x3 : w8.cell? ⟨xb, 3, none⟩ = some (.int .u64 (a3 : Int)) := by rw [cell_of_row _ _ 3 _ _ _ Xw8.out]; rfl
        have x4 : w8.cell? ⟨xb, 4, none⟩ = some (.int .u64 (a4 : Int)) := by rw [cell_of_row _ _ 4 _ _ _ Xw8.out]; rfl
        have x5 : w8.cell? ⟨xb, 5, none⟩ = some (.int .u64 (a5 : Int)) := by rw [cell_of_row _ _ 5 _ _ _ Xw8.out]; rfl
        have x6 : w8.cell? ⟨xb, 6, none⟩ = some (.int .u64 (a6 : Int)) := by rw [cell_of_row _ _ 6 _ _ _ Xw8.out]; rfl
        cases I3 with
        | false =>
          have HE : Hid (RR = some (at_ + 16, 4)) := Lib.hid (by
            rw [HRR.out]; simp)
          go_wp2_with fail
          refine (HAT.out 4 16 w8 (by omega)).mono ?_
          rintro e6 w6 ⟨rfl, hb6⟩
          have R6 := Lib.hid ((hb6.block _ (lt_of_block Rw8.out)).trans Rw8.out)
          have B6 := Lib.hid (bstep Bw8.out hb6)
          have g0 : w6.cell? ⟨rbk, 0, none⟩ = some (.int .i64 0) := by rw [cell_of_row _ _ 0 _ _ _ R6.out]; rfl
          have g1 : w6.cell? ⟨rbk, 1, none⟩ = some (.bool false) := by rw [cell_of_row _ _ 1 _ _ _ R6.out]; rfl
          have g2 : w6.cell? ⟨rbk, 2, none⟩ = some (.int .u64 0) := by rw [cell_of_row _ _ 2 _ _ _ R6.out]; rfl
          have f0 : w6.frozen? ⟨rbk, 0, none⟩ = false := frozen_of_row _ _ _ _ _ R6.out
          have f1 : w6.frozen? ⟨rbk, 1, none⟩ = false := frozen_of_row _ _ _ _ _ R6.out
          have f2 : w6.frozen? ⟨rbk, 2, none⟩ = false := frozen_of_row _ _ _ _ _ R6.out
          obtain ⟨wf, hwf, z0, z1, z2, ez⟩ := set3_cells R6.out (.int .i64 4) (.bool true) (.int .u64 ((at_ : Int) + 16))
          have BF : Hid (Below w.heap.size w wf) := Lib.hid (by rw [← ez]; exact below_set3 B6.out HRB.out _ _ _)
          clear ez hb6
          go_wp2_with fail
          refine bodyPost_ret (by simp [results, Tryd.results41, go_sem, z0, z1, z2]; try rfl) rfl ?_
          exact HPF.out 4 16 wf HE.out BF.out
        | true =>
          by_cases h1 : a0 = 1
          · have h7 : ¬ a0 = 7 := by omega
            have tL1 : ((a0 : Int) != 1) = false := by rw [h1]; rfl
            have tL7 : ((a0 : Int) != 7) = true := by rw [bne_iff_ne]; omega
            have tL7b : ((a0 : Int) == 7) = false := beq_eq_false_iff_ne.2 (by omega)
            go_wp2_with fail
            refine (HPOW.out w8).mono ?_
            rintro e10 w10 ⟨rfl, rfl⟩
            by_cases h5 : a5 < a4
            · have t5 : decide ((a5 : Int) < (a4 : Int)) = true := decide_eq_true (by omega)
              have HE : Hid (RR = some (at_ + 32, 3)) := Lib.hid (by
                rw [HRR.out]; simp [h5, h1, h7])
              go_wp2_with fail
              refine (HAT.out 3 32 w8 (by omega)).mono ?_
              rintro e6 w6 ⟨rfl, hb6⟩
              have R6 := Lib.hid ((hb6.block _ (lt_of_block Rw8.out)).trans Rw8.out)
              have B6 := Lib.hid (bstep Bw8.out hb6)
              have g0 : w6.cell? ⟨rbk, 0, none⟩ = some (.int .i64 0) := by rw [cell_of_row _ _ 0 _ _ _ R6.out]; rfl
              have g1 : w6.cell? ⟨rbk, 1, none⟩ = some (.bool false) := by rw [cell_of_row _ _ 1 _ _ _ R6.out]; rfl
              have g2 : w6.cell? ⟨rbk, 2, none⟩ = some (.int .u64 0) := by rw [cell_of_row _ _ 2 _ _ _ R6.out]; rfl
              have f0 : w6.frozen? ⟨rbk, 0, none⟩ = false := frozen_of_row _ _ _ _ _ R6.out
              have f1 : w6.frozen? ⟨rbk, 1, none⟩ = false := frozen_of_row _ _ _ _ _ R6.out
              have f2 : w6.frozen? ⟨rbk, 2, none⟩ = false := frozen_of_row _ _ _ _ _ R6.out
              obtain ⟨wf, hwf, z0, z1, z2, ez⟩ := set3_cells R6.out (.int .i64 3) (.bool true) (.int .u64 ((at_ : Int) + 32))
              have BF : Hid (Below w.heap.size w wf) := Lib.hid (by rw [← ez]; exact below_set3 B6.out HRB.out _ _ _)
              clear ez hb6
              go_wp2_with fail
              refine bodyPost_ret (by simp [results, Tryd.results41, go_sem, z0, z1, z2]; try rfl) rfl ?_
              exact HPF.out 3 32 wf HE.out BF.out
            · have t5 : decide ((a5 : Int) < (a4 : Int)) = false := decide_eq_false (by omega)
              cases W with
              | false =>
                have HE : Hid (RR = some (at_ + 48, 3)) := Lib.hid (by
                  rw [HRR.out]; simp [h5, h1, h7])
                go_wp2_with fail
                refine (HAT.out 3 48 w8 (by omega)).mono ?_
                rintro e6 w6 ⟨rfl, hb6⟩
                have R6 := Lib.hid ((hb6.block _ (lt_of_block Rw8.out)).trans Rw8.out)
                have B6 := Lib.hid (bstep Bw8.out hb6)
                have g0 : w6.cell? ⟨rbk, 0, none⟩ = some (.int .i64 0) := by rw [cell_of_row _ _ 0 _ _ _ R6.out]; rfl
                have g1 : w6.cell? ⟨rbk, 1, none⟩ = some (.bool false) := by rw [cell_of_row _ _ 1 _ _ _ R6.out]; rfl
                have g2 : w6.cell? ⟨rbk, 2, none⟩ = some (.int .u64 0) := by rw [cell_of_row _ _ 2 _ _ _ R6.out]; rfl
                have f0 : w6.frozen? ⟨rbk, 0, none⟩ = false := frozen_of_row _ _ _ _ _ R6.out
                have f1 : w6.frozen? ⟨rbk, 1, none⟩ = false := frozen_of_row _ _ _ _ _ R6.out
                have f2 : w6.frozen? ⟨rbk, 2, none⟩ = false := frozen_of_row _ _ _ _ _ R6.out
                obtain ⟨wf, hwf, z0, z1, z2, ez⟩ := set3_cells R6.out (.int .i64 3) (.bool true) (.int .u64 ((at_ : Int) + 48))
                have BF : Hid (Below w.heap.size w wf) := Lib.hid (by rw [← ez]; exact below_set3 B6.out HRB.out _ _ _)
                clear ez hb6
                go_wp2_with fail
                refine bodyPost_ret (by simp [results, Tryd.results41, go_sem, z0, z1, z2]; try rfl) rfl ?_
                exact HPF.out 3 48 wf HE.out BF.out
              | true =>
                by_cases hm0 : a5 = 0
                · have tm : ((a5 : Int) == 0) = true := beq_iff_eq.2 (by omega)
                  have HE : Hid (RR = some (at_ + 40, 3)) := Lib.hid (by
                    have h4z : a4 = 0 := by omega
                    rw [HRR.out]; simp [h4z, h1, h7, hm0])
                  go_wp2_with fail
                  refine (HAT.out 3 40 w8 (by omega)).mono ?_
                  rintro e6 w6 ⟨rfl, hb6⟩
                  have R6 := Lib.hid ((hb6.block _ (lt_of_block Rw8.out)).trans Rw8.out)
                  have B6 := Lib.hid (bstep Bw8.out hb6)
                  have g0 : w6.cell? ⟨rbk, 0, none⟩ = some (.int .i64 0) := by rw [cell_of_row _ _ 0 _ _ _ R6.out]; rfl
                  have g1 : w6.cell? ⟨rbk, 1, none⟩ = some (.bool false) := by rw [cell_of_row _ _ 1 _ _ _ R6.out]; rfl
                  have g2 : w6.cell? ⟨rbk, 2, none⟩ = some (.int .u64 0) := by rw [cell_of_row _ _ 2 _ _ _ R6.out]; rfl
                  have f0 : w6.frozen? ⟨rbk, 0, none⟩ = false := frozen_of_row _ _ _ _ _ R6.out
                  have f1 : w6.frozen? ⟨rbk, 1, none⟩ = false := frozen_of_row _ _ _ _ _ R6.out
                  have f2 : w6.frozen? ⟨rbk, 2, none⟩ = false := frozen_of_row _ _ _ _ _ R6.out
                  obtain ⟨wf, hwf, z0, z1, z2, ez⟩ := set3_cells R6.out (.int .i64 3) (.bool true) (.int .u64 ((at_ : Int) + 40))
                  have BF : Hid (Below w.heap.size w wf) := Lib.hid (by rw [← ez]; exact below_set3 B6.out HRB.out _ _ _)
                  clear ez hb6
                  go_wp2_with fail
                  refine bodyPost_ret (by simp [results, Tryd.results41, go_sem, z0, z1, z2]; try rfl) rfl ?_
                  exact HPF.out 3 40 wf HE.out BF.out
                · have tm : ((a5 : Int) == 0) = false := beq_eq_false_iff_ne.2 (by omega)
                  by_cases hal : a6 < 4096
                  · have ta : decide ((a6 : Int) < 4096) = true := decide_eq_true (by omega)
                    have HE : Hid (RR = some (at_ + 48, 3)) := Lib.hid (by
                      rw [HRR.out]; simp [h5, h1, h7, hm0, hal])
                    go_wp2_with fail
                    refine (HAT.out 3 48 w8 (by omega)).mono ?_
                    rintro e6 w6 ⟨rfl, hb6⟩
                    have R6 := Lib.hid ((hb6.block _ (lt_of_block Rw8.out)).trans Rw8.out)
                    have B6 := Lib.hid (bstep Bw8.out hb6)
                    have g0 : w6.cell? ⟨rbk, 0, none⟩ = some (.int .i64 0) := by rw [cell_of_row _ _ 0 _ _ _ R6.out]; rfl
                    have g1 : w6.cell? ⟨rbk, 1, none⟩ = some (.bool false) := by rw [cell_of_row _ _ 1 _ _ _ R6.out]; rfl
                    have g2 : w6.cell? ⟨rbk, 2, none⟩ = some (.int .u64 0) := by rw [cell_of_row _ _ 2 _ _ _ R6.out]; rfl
                    have f0 : w6.frozen? ⟨rbk, 0, none⟩ = false := frozen_of_row _ _ _ _ _ R6.out
                    have f1 : w6.frozen? ⟨rbk, 1, none⟩ = false := frozen_of_row _ _ _ _ _ R6.out
                    have f2 : w6.frozen? ⟨rbk, 2, none⟩ = false := frozen_of_row _ _ _ _ _ R6.out
                    obtain ⟨wf, hwf, z0, z1, z2, ez⟩ := set3_cells R6.out (.int .i64 3) (.bool true) (.int .u64 ((at_ : Int) + 48))
                    have BF : Hid (Below w.heap.size w wf) := Lib.hid (by rw [← ez]; exact below_set3 B6.out HRB.out _ _ _)
                    clear ez hb6
                    go_wp2_with fail
                    refine bodyPost_ret (by simp [results, Tryd.results41, go_sem, z0, z1, z2]; try rfl) rfl ?_
                    exact HPF.out 3 48 wf HE.out BF.out
                  · have ta : decide ((a6 : Int) < 4096) = false := decide_eq_false (by omega)
                    obtain ⟨XM, hXm⟩ : ∃ XM, a2 % a6 = XM := ⟨_, rfl⟩
                    obtain ⟨YM, hYm⟩ : ∃ YM, a3 % a6 = YM := ⟨_, rfl⟩
                    have hx64 : XM < 18446744073709551616 := by have := Nat.mod_lt a2 (show 0 < a6 by omega); have := HWF.out; omega
                    have hy64 : YM < 18446744073709551616 := by have := Nat.mod_lt a3 (show 0 < a6 by omega); have := HWF.out; omega
                    have q0 : ¬ a6 = 0 := by omega
                    have q0' : ¬ (a6 : Int) = 0 := by omega
                    have q3 : (a2 : Int).tmod (a6 : Int) = (XM : Int) := by rw [← hXm]; exact (Int.ofNat_tmod a2 a6).symm
                    have q4 : (a3 : Int).tmod (a6 : Int) = (YM : Int) := by rw [← hYm]; exact (Int.ofNat_tmod a3 a6).symm
                    have q3w : IntKind.u64.wrap (XM : Int) = (XM : Int) := by rw [IntKind.wrap_u64]; omega
                    have q4w : IntKind.u64.wrap (YM : Int) = (YM : Int) := by rw [IntKind.wrap_u64]; omega
                    obtain ⟨Q, hQ⟩ : ∃ Q, a3 / 4096 = Q := ⟨_, rfl⟩
                    have hQl : Q * 4096 < 18446744073709551616 := by have := HWF.out; omega
                    have q6 : (a3 : Int).tdiv 4096 = (Q : Int) := by rw [← hQ]; exact (Int.ofNat_tdiv a3 4096).symm
                    have q6b : (a3 : Int) / 4096 = (Q : Int) := by rw [← hQ]; omega
                    have q6w : IntKind.u64.wrap (Q : Int) = (Q : Int) := by rw [IntKind.wrap_u64]; omega
                    have q7 : IntKind.u64.wrap ((Q : Int) * 4096) = (Q : Int) * 4096 := by rw [IntKind.wrap_u64]; omega
                    have HXY : Hid (a2 % a6 = XM ∧ a3 % a6 = YM ∧ a3 / 4096 = Q) := Lib.hid ⟨hXm, hYm, hQ⟩
                    clear hXm hYm hQ
                    by_cases hd : XM = YM
                    · have td : ((XM : Int) != (YM : Int)) = false := by rw [hd]; simp
                      by_cases he : Q * 4096 < E
                      · have te : decide ((Q : Int) * 4096 < (E : Int)) = true := decide_eq_true (by omega)
                        go_wp2_with fail
                        go_quiet (fail)
                        have RWN := Lib.hid (show (w8.drewN nq).heap[rbk]? = _ from Rw8.out)
                        have BWN := Lib.hid (below_drewN Bw8.out nq)
                        generalize w8.drewN nq = wn at *
                        have Rwn := RWN
                        have Bwn := BWN
                        have HE : Hid (RR = some (at_ + 16, 3)) := Lib.hid (by
                          rw [HRR.out]; simp [h5, h1, h7, hm0, hal, HXY.out.1, HXY.out.2.1, HXY.out.2.2, hd, he])
                        go_wp2_with fail
                        refine (HAT.out 3 16 wn (by omega)).mono ?_
                        rintro e6 w6 ⟨rfl, hb6⟩
                        have R6 := Lib.hid ((hb6.block _ (lt_of_block Rwn.out)).trans Rwn.out)
                        have B6 := Lib.hid (bstep Bwn.out hb6)
                        have g0 : w6.cell? ⟨rbk, 0, none⟩ = some (.int .i64 0) := by rw [cell_of_row _ _ 0 _ _ _ R6.out]; rfl
                        have g1 : w6.cell? ⟨rbk, 1, none⟩ = some (.bool false) := by rw [cell_of_row _ _ 1 _ _ _ R6.out]; rfl
                        have g2 : w6.cell? ⟨rbk, 2, none⟩ = some (.int .u64 0) := by rw [cell_of_row _ _ 2 _ _ _ R6.out]; rfl
                        have f0 : w6.frozen? ⟨rbk, 0, none⟩ = false := frozen_of_row _ _ _ _ _ R6.out
                        have f1 : w6.frozen? ⟨rbk, 1, none⟩ = false := frozen_of_row _ _ _ _ _ R6.out
                        have f2 : w6.frozen? ⟨rbk, 2, none⟩ = false := frozen_of_row _ _ _ _ _ R6.out
                        obtain ⟨wf, hwf, z0, z1, z2, ez⟩ := set3_cells R6.out (.int .i64 3) (.bool true) (.int .u64 ((at_ : Int) + 16))
                        have BF : Hid (Below w.heap.size w wf) := Lib.hid (by rw [← ez]; exact below_set3 B6.out HRB.out _ _ _)
                        clear ez hb6
                        go_wp2_with fail
                        refine bodyPost_ret (by simp [results, Tryd.results41, go_sem, z0, z1, z2]; try rfl) rfl ?_
                        exact HPF.out 3 16 wf HE.out BF.out
                      · have te : decide ((Q : Int) * 4096 < (E : Int)) = false := decide_eq_false (by omega)
                        go_wp2_with fail
                        go_quiet (fail)
                        have RWN := Lib.hid (show (w8.drewN nq).heap[rbk]? = _ from Rw8.out)
                        have BWN := Lib.hid (below_drewN Bw8.out nq)
                        generalize w8.drewN nq = wn at *
                        have Rwn := RWN
                        have Bwn := BWN
                        have HE : Hid (RR = none) := Lib.hid (by rw [HRR.out]; simp [h5, h1, h7, hm0, hal, HXY.out.1, HXY.out.2.1, HXY.out.2.2, hd, he])
                        have g0 : wn.cell? ⟨rbk, 0, none⟩ = some (.int .i64 0) := by rw [cell_of_row _ _ 0 _ _ _ Rwn.out]; rfl
                        have g1 : wn.cell? ⟨rbk, 1, none⟩ = some (.bool false) := by rw [cell_of_row _ _ 1 _ _ _ Rwn.out]; rfl
                        have g2 : wn.cell? ⟨rbk, 2, none⟩ = some (.int .u64 0) := by rw [cell_of_row _ _ 2 _ _ _ Rwn.out]; rfl
                        have f0 : wn.frozen? ⟨rbk, 0, none⟩ = false := frozen_of_row _ _ _ _ _ Rwn.out
                        have f1 : wn.frozen? ⟨rbk, 1, none⟩ = false := frozen_of_row _ _ _ _ _ Rwn.out
                        have f2 : wn.frozen? ⟨rbk, 2, none⟩ = false := frozen_of_row _ _ _ _ _ Rwn.out
                        obtain ⟨wf, hwf, z0, z1, z2, ez⟩ := set3_cells Rwn.out (.int .i64 0) (.bool false) (.int .u64 0)
                        have BF : Hid (Below w.heap.size w wf) := Lib.hid (by rw [← ez]; exact below_set3 Bwn.out HRB.out _ _ _)
                        clear ez
                        go_wp2_with fail
                        refine bodyPost_ret (by simp [results, Tryd.results41, go_sem, z0, z1, z2]; try rfl) rfl ?_
                        exact HPN.out wf HE.out BF.out
                    · have td : ((XM : Int) != (YM : Int)) = true := by rw [bne_iff_ne]; omega
                      go_wp2_with fail
                      go_quiet (fail)
                      have RWN := Lib.hid (show (w8.drewN nq).heap[rbk]? = _ from Rw8.out)
                      have BWN := Lib.hid (below_drewN Bw8.out nq)
                      generalize w8.drewN nq = wn at *
                      have Rwn := RWN
                      have Bwn := BWN
                      have HE : Hid (RR = some (at_ + 16, 3)) := Lib.hid (by
                        rw [HRR.out]; simp [h5, h1, h7, hm0, hal, HXY.out.1, HXY.out.2.1, HXY.out.2.2, hd])
                      go_wp2_with fail
                      refine (HAT.out 3 16 wn (by omega)).mono ?_
                      rintro e6 w6 ⟨rfl, hb6⟩
                      have R6 := Lib.hid ((hb6.block _ (lt_of_block Rwn.out)).trans Rwn.out)
                      have B6 := Lib.hid (bstep Bwn.out hb6)
                      have g0 : w6.cell? ⟨rbk, 0, none⟩ = some (.int .i64 0) := by rw [cell_of_row _ _ 0 _ _ _ R6.out]; rfl
                      have g1 : w6.cell? ⟨rbk, 1, none⟩ = some (.bool false) := by rw [cell_of_row _ _ 1 _ _ _ R6.out]; rfl
                      have g2 : w6.cell? ⟨rbk, 2, none⟩ = some (.int .u64 0) := by rw [cell_of_row _ _ 2 _ _ _ R6.out]; rfl
                      have f0 : w6.frozen? ⟨rbk, 0, none⟩ = false := frozen_of_row _ _ _ _ _ R6.out
                      have f1 : w6.frozen? ⟨rbk, 1, none⟩ = false := frozen_of_row _ _ _ _ _ R6.out
                      have f2 : w6.frozen? ⟨rbk, 2, none⟩ = false := frozen_of_row _ _ _ _ _ R6.out
                      obtain ⟨wf, hwf, z0, z1, z2, ez⟩ := set3_cells R6.out (.int .i64 3) (.bool true) (.int .u64 ((at_ : Int) + 16))
                      have BF : Hid (Below w.heap.size w wf) := Lib.hid (by rw [← ez]; exact below_set3 B6.out HRB.out _ _ _)
                      clear ez hb6
                      go_wp2_with fail
                      refine bodyPost_ret (by simp [results, Tryd.results41, go_sem, z0, z1, z2]; try rfl) rfl ?_
                      exact HPF.out 3 16 wf HE.out BF.out
          · have tL1 : ((a0 : Int) != 1) = true := by rw [bne_iff_ne]; omega
            by_cases h7 : a0 = 7
            · have tL7 : ((a0 : Int) != 7) = false := by rw [h7]; rfl
              have tL7b : ((a0 : Int) == 7) = true := beq_iff_eq.2 (by omega)
              go_wp2_with fail
              refine (HPOW.out w8).mono ?_
              rintro e10 w10 ⟨rfl, rfl⟩
              by_cases h5 : a5 < a4
              · have t5 : decide ((a5 : Int) < (a4 : Int)) = true := decide_eq_true (by omega)
                have HE : Hid (RR = some (at_ + 32, 3)) := Lib.hid (by
                  rw [HRR.out]; simp [h5, h1, h7])
                go_wp2_with fail
                refine (HAT.out 3 32 w8 (by omega)).mono ?_
                rintro e6 w6 ⟨rfl, hb6⟩
                have R6 := Lib.hid ((hb6.block _ (lt_of_block Rw8.out)).trans Rw8.out)
                have B6 := Lib.hid (bstep Bw8.out hb6)
                have g0 : w6.cell? ⟨rbk, 0, none⟩ = some (.int .i64 0) := by rw [cell_of_row _ _ 0 _ _ _ R6.out]; rfl
                have g1 : w6.cell? ⟨rbk, 1, none⟩ = some (.bool false) := by rw [cell_of_row _ _ 1 _ _ _ R6.out]; rfl
                have g2 : w6.cell? ⟨rbk, 2, none⟩ = some (.int .u64 0) := by rw [cell_of_row _ _ 2 _ _ _ R6.out]; rfl
                have f0 : w6.frozen? ⟨rbk, 0, none⟩ = false := frozen_of_row _ _ _ _ _ R6.out
                have f1 : w6.frozen? ⟨rbk, 1, none⟩ = false := frozen_of_row _ _ _ _ _ R6.out
                have f2 : w6.frozen? ⟨rbk, 2, none⟩ = false := frozen_of_row _ _ _ _ _ R6.out
                obtain ⟨wf, hwf, z0, z1, z2, ez⟩ := set3_cells R6.out (.int .i64 3) (.bool true) (.int .u64 ((at_ : Int) + 32))
                have BF : Hid (Below w.heap.size w wf) := Lib.hid (by rw [← ez]; exact below_set3 B6.out HRB.out _ _ _)
                clear ez hb6
                go_wp2_with fail
                refine bodyPost_ret (by simp [results, Tryd.results41, go_sem, z0, z1, z2]; try rfl) rfl ?_
                exact HPF.out 3 32 wf HE.out BF.out
              · have t5 : decide ((a5 : Int) < (a4 : Int)) = false := decide_eq_false (by omega)
                cases W with
                | false =>
                  by_cases ha0 : a6 = 0
                  · have ta0 : ((a6 : Int) != 0) = false := by rw [ha0]; rfl
                    have HE : Hid (RR = none) := Lib.hid (by rw [HRR.out]; simp [h5, h1, h7, ha0])
                    have g0 : w8.cell? ⟨rbk, 0, none⟩ = some (.int .i64 0) := by rw [cell_of_row _ _ 0 _ _ _ Rw8.out]; rfl
                    have g1 : w8.cell? ⟨rbk, 1, none⟩ = some (.bool false) := by rw [cell_of_row _ _ 1 _ _ _ Rw8.out]; rfl
                    have g2 : w8.cell? ⟨rbk, 2, none⟩ = some (.int .u64 0) := by rw [cell_of_row _ _ 2 _ _ _ Rw8.out]; rfl
                    have f0 : w8.frozen? ⟨rbk, 0, none⟩ = false := frozen_of_row _ _ _ _ _ Rw8.out
                    have f1 : w8.frozen? ⟨rbk, 1, none⟩ = false := frozen_of_row _ _ _ _ _ Rw8.out
                    have f2 : w8.frozen? ⟨rbk, 2, none⟩ = false := frozen_of_row _ _ _ _ _ Rw8.out
                    obtain ⟨wf, hwf, z0, z1, z2, ez⟩ := set3_cells Rw8.out (.int .i64 0) (.bool false) (.int .u64 0)
                    have BF : Hid (Below w.heap.size w wf) := Lib.hid (by rw [← ez]; exact below_set3 Bw8.out HRB.out _ _ _)
                    clear ez
                    go_wp2_with fail
                    refine bodyPost_ret (by simp [results, Tryd.results41, go_sem, z0, z1, z2]; try rfl) rfl ?_
                    exact HPN.out wf HE.out BF.out
                  · have ta0 : ((a6 : Int) != 0) = true := by rw [bne_iff_ne]; omega
                    have HE : Hid (RR = some (at_ + 48, 3)) := Lib.hid (by
                      rw [HRR.out]; simp [h5, h1, h7, ha0])
                    go_wp2_with fail
                    refine (HAT.out 3 48 w8 (by omega)).mono ?_
                    rintro e6 w6 ⟨rfl, hb6⟩
                    have R6 := Lib.hid ((hb6.block _ (lt_of_block Rw8.out)).trans Rw8.out)
                    have B6 := Lib.hid (bstep Bw8.out hb6)
                    have g0 : w6.cell? ⟨rbk, 0, none⟩ = some (.int .i64 0) := by rw [cell_of_row _ _ 0 _ _ _ R6.out]; rfl
                    have g1 : w6.cell? ⟨rbk, 1, none⟩ = some (.bool false) := by rw [cell_of_row _ _ 1 _ _ _ R6.out]; rfl
                    have g2 : w6.cell? ⟨rbk, 2, none⟩ = some (.int .u64 0) := by rw [cell_of_row _ _ 2 _ _ _ R6.out]; rfl
                    have f0 : w6.frozen? ⟨rbk, 0, none⟩ = false := frozen_of_row _ _ _ _ _ R6.out
                    have f1 : w6.frozen? ⟨rbk, 1, none⟩ = false := frozen_of_row _ _ _ _ _ R6.out
                    have f2 : w6.frozen? ⟨rbk, 2, none⟩ = false := frozen_of_row _ _ _ _ _ R6.out
                    obtain ⟨wf, hwf, z0, z1, z2, ez⟩ := set3_cells R6.out (.int .i64 3) (.bool true) (.int .u64 ((at_ : Int) + 48))
                    have BF : Hid (Below w.heap.size w wf) := Lib.hid (by rw [← ez]; exact below_set3 B6.out HRB.out _ _ _)
                    clear ez hb6
                    go_wp2_with fail
                    refine bodyPost_ret (by simp [results, Tryd.results41, go_sem, z0, z1, z2]; try rfl) rfl ?_
                    exact HPF.out 3 48 wf HE.out BF.out
                | true =>
                  have HE : Hid (RR = none) := Lib.hid (by rw [HRR.out]; simp [h5, h1, h7])
                  have g0 : w8.cell? ⟨rbk, 0, none⟩ = some (.int .i64 0) := by rw [cell_of_row _ _ 0 _ _ _ Rw8.out]; rfl
                  have g1 : w8.cell? ⟨rbk, 1, none⟩ = some (.bool false) := by rw [cell_of_row _ _ 1 _ _ _ Rw8.out]; rfl
                  have g2 : w8.cell? ⟨rbk, 2, none⟩ = some (.int .u64 0) := by rw [cell_of_row _ _ 2 _ _ _ Rw8.out]; rfl
                  have f0 : w8.frozen? ⟨rbk, 0, none⟩ = false := frozen_of_row _ _ _ _ _ Rw8.out
                  have f1 : w8.frozen? ⟨rbk, 1, none⟩ = false := frozen_of_row _ _ _ _ _ Rw8.out
                  have f2 : w8.frozen? ⟨rbk, 2, none⟩ = false := frozen_of_row _ _ _ _ _ Rw8.out
                  obtain ⟨wf, hwf, z0, z1, z2, ez⟩ := set3_cells Rw8.out (.int .i64 0) (.bool false) (.int .u64 0)
                  have BF : Hid (Below w.heap.size w wf) := Lib.hid (by rw [← ez]; exact below_set3 Bw8.out HRB.out _ _ _)
                  clear ez
                  go_wp2_with fail
                  refine bodyPost_ret (by simp [results, Tryd.results41, go_sem, z0, z1, z2]; try rfl) rfl ?_
                  exact HPN.out wf HE.out BF.out
            · have tL7 : ((a0 : Int) != 7) = true := by rw [bne_iff_ne]; omega
              have HE : Hid (RR = none) := Lib.hid (by rw [HRR.out]; simp [h1, h7])
              have g0 : w8.cell? ⟨rbk, 0, none⟩ = some (.int .i64 0) := by rw [cell_of_row _ _ 0 _ _ _ Rw8.out]; rfl
              have g1 : w8.cell? ⟨rbk, 1, none⟩ = some (.bool false) := by rw [cell_of_row _ _ 1 _ _ _ Rw8.out]; rfl
              have g2 : w8.cell? ⟨rbk, 2, none⟩ = some (.int .u64 0) := by rw [cell_of_row _ _ 2 _ _ _ Rw8.out]; rfl
              have f0 : w8.frozen? ⟨rbk, 0, none⟩ = false := frozen_of_row _ _ _ _ _ Rw8.out
              have f1 : w8.frozen? ⟨rbk, 1, none⟩ = false := frozen_of_row _ _ _ _ _ Rw8.out
              have f2 : w8.frozen? ⟨rbk, 2, none⟩ = false := frozen_of_row _ _ _ _ _ Rw8.out
              obtain ⟨wf, hwf, z0, z1, z2, ez⟩ := set3_cells Rw8.out (.int .i64 0) (.bool false) (.int .u64 0)
              have BF : Hid (Below w.heap.size w wf) := Lib.hid (by rw [← ez]; exact below_set3 Bw8.out HRB.out _ _ _)
              clear ez
              go_wp2_with fail
              refine bodyPost_ret (by simp [results, Tryd.results41, go_sem, z0, z1, z2]; try rfl) rfl ?_
              exact HPN.out wf HE.out BF.out
    | succ g2 =>
      have hkl : k < ps.length := by have := HL.out; omega
      obtain ⟨hwf, b, o, hpa, hb, hc⟩ := (HPS.out.below Bwr.out) k hkl
      obtain ⟨q, hq⟩ : ∃ q, ps[k] = q := ⟨_, rfl⟩
      have HTA : Hid (rend (ps.take (k + 1)) = if q.ty = 1 then (q.vaddr + q.memsz + 4095) % 18446744073709551616 / 4096 * 4096 else E) := Lib.hid (by rw [List.take_succ_eq_append_getElem hkl, hq, rend_snoc, HE0.out])
      have HYE : Hid ((q.ty == a0) = true → T1 = true) := Lib.hid (fun h => HANY.out k hkl (by rw [hq]; exact h))
      have HJN : Hid ((R1 = true → (q.ty == a0) = false) → R1 = true → ∀ j, (hj : j < ps.length) → j < k + 1 → (ps[j].ty == a0) = false) := Lib.hid (fun h hr j hj hjk => by
        by_cases hh : j < k
        · exact HJ.out hr j hj hh
        · obtain rfl : j = k := by omega
          rw [hq]; exact h hr)
      rw [hq] at hwf hc
      have c0 := hc 0 (by omega)
      have c3 := hc 3 (by omega)
      have c5 := hc 5 (by omega)
      simp only [PT.cells, List.getElem?_cons_zero, List.getElem?_cons_succ, Nat.add_zero] at c0 c3 c5
      obtain ⟨y0, y1, y2, y3, y4, y5, y6⟩ := q
      obtain ⟨-, -, -, hy3, -, hy5, -⟩ := hwf
      simp only [] at HTA HYE HJN c0 c3 c5 hy3 hy5
      have HK := Lib.hid hk
      have i0 : (0 : Int) ≤ (k : Int) := by omega
      have i1 : (k : Int) < (pn : Int) := by have := HL.out; omega
      obtain ⟨S1, hS1⟩ : ∃ S1, (y3 + y5) % 18446744073709551616 = S1 := ⟨_, rfl⟩
      obtain ⟨S2, hS2⟩ : ∃ S2, (S1 + 4095) % 18446744073709551616 = S2 := ⟨_, rfl⟩
      obtain ⟨Q1, hQ1⟩ : ∃ Q1, S2 / 4096 = Q1 := ⟨_, rfl⟩
      have HQE : Hid ((y3 + y5 + 4095) % 18446744073709551616 / 4096 * 4096 = Q1 * 4096) := Lib.hid (by rw [← hQ1, ← hS2, ← hS1]; omega)
      have r1 : IntKind.u64.wrap ((y3 : Int) + (y5 : Int)) = (S1 : Int) := by rw [IntKind.wrap_u64]; omega
      have r2 : IntKind.u64.wrap ((S1 : Int) + 4095) = (S2 : Int) := by rw [IntKind.wrap_u64]; omega
      have r3 : (S2 : Int).tdiv 4096 = (Q1 : Int) := by rw [← hQ1]; exact (Int.ofNat_tdiv S2 4096).symm
      have r3b : (S2 : Int) / 4096 = (Q1 : Int) := by rw [← hQ1]; omega
      have r3w : IntKind.u64.wrap (Q1 : Int) = (Q1 : Int) := by rw [IntKind.wrap_u64]; omega
      have r4 : IntKind.u64.wrap ((Q1 : Int) * 4096) = (Q1 : Int) * 4096 := by rw [IntKind.wrap_u64]; omega
      clear hc hq hkl hk hS1 hS2 hQ1 hy3 hy5
      subst hpa
      have x0 : wr.cell? ⟨xb, 0, none⟩ = some (.int .u32 (a0 : Int)) := by rw [cell_of_row _ _ 0 _ _ _ Xwr.out]; rfl
      have x2 : wr.cell? ⟨xb, 2, none⟩ = some (.int .u64 (a2 : Int)) := by rw [cell_of_row _ _ 2 _ _ _ Xwr.out]; rfl
      have x3 : wr.cell? ⟨xb, 3, none⟩ = some (.int .u64 (a3 : Int)) := by rw [cell_of_row _ _ 3 _ _ _ Xwr.out]; rfl
      have x4 : wr.cell? ⟨xb, 4, none⟩ = some (.int .u64 (a4 : Int)) := by rw [cell_of_row _ _ 4 _ _ _ Xwr.out]; rfl
      have x5 : wr.cell? ⟨xb, 5, none⟩ = some (.int .u64 (a5 : Int)) := by rw [cell_of_row _ _ 5 _ _ _ Xwr.out]; rfl
      have x6 : wr.cell? ⟨xb, 6, none⟩ = some (.int .u64 (a6 : Int)) := by rw [cell_of_row _ _ 6 _ _ _ Xwr.out]; rfl
      by_cases hs : (R1 && (y0 == a0)) = true
      · obtain ⟨hr, hy⟩ := Bool.and_eq_true_iff.1 hs
        have HT := Lib.hid (HYE.out hy)
        subst hr
        have ty : ((y0 : Int) == (a0 : Int)) = true := beq_iff_eq.2 (by have := beq_iff_eq.1 hy; omega)
        clear hs hy
        go_wp2_with fail
        go_quiet (fail)
        have Rwn := Lib.hid (show (wr.drewN nq).heap[rbk]? = _ from Rwr.out)
        have Bwn := Lib.hid (below_drewN Bwr.out nq)
        generalize wr.drewN nq = wn at *
        have HE : Hid (RR = some (at_ + 0, 5)) := Lib.hid (by rw [HRR.out, HT.out]; simp)
        go_wp2_with fail
        refine (HAT0.out 5 wn).mono ?_
        rintro e6 w6 ⟨rfl, hb6⟩
        have R6 := Lib.hid ((hb6.block _ (lt_of_block Rwn.out)).trans Rwn.out)
        have B6 := Lib.hid (bstep Bwn.out hb6)
        have g0 : w6.cell? ⟨rbk, 0, none⟩ = some (.int .i64 0) := by rw [cell_of_row _ _ 0 _ _ _ R6.out]; rfl
        have g1 : w6.cell? ⟨rbk, 1, none⟩ = some (.bool false) := by rw [cell_of_row _ _ 1 _ _ _ R6.out]; rfl
        have g2 : w6.cell? ⟨rbk, 2, none⟩ = some (.int .u64 0) := by rw [cell_of_row _ _ 2 _ _ _ R6.out]; rfl
        have f0 : w6.frozen? ⟨rbk, 0, none⟩ = false := frozen_of_row _ _ _ _ _ R6.out
        have f1 : w6.frozen? ⟨rbk, 1, none⟩ = false := frozen_of_row _ _ _ _ _ R6.out
        have f2 : w6.frozen? ⟨rbk, 2, none⟩ = false := frozen_of_row _ _ _ _ _ R6.out
        obtain ⟨wf, hwf, z0, z1, z2, ez⟩ := set3_cells R6.out (.int .i64 5) (.bool true) (.int .u64 (at_ : Int))
        have BF : Hid (Below w.heap.size w wf) := Lib.hid (by rw [← ez]; exact below_set3 B6.out HRB.out _ _ _)
        clear ez hb6
        go_wp2_with fail
        refine bodyPost_ret (by simp [results, Tryd.results41, go_sem, z0, z1, z2]; try rfl) rfl ?_
        exact HPF0.out 5 wf HE.out BF.out
      · have hn : R1 = true → (y0 == a0) = false := fun hr => by
          cases hh : (y0 == a0) with
          | false => rfl
          | true => rw [hr, hh] at hs; exact absurd rfl hs
        have HJ2 := Lib.hid (HJN.out hn)
        by_cases h1 : y0 = 1
        · have HE2 : Hid (Q1 * 4096 = rend (ps.take (k + 1))) := Lib.hid (by rw [HTA.out, if_pos h1, HQE.out])
          have t1 : ((y0 : Int) == 1) = true := beq_iff_eq.2 (by omega)
          cases R1 with
          | false =>
            clear hs hn h1
            go_wp2_with fail
            go_quiet (fail)
            have hcv : ∀ q, (wr.drewN nq).cell? q = wr.cell? q := fun q => rfl
            have Bd := Lib.hid (below_drewN HB.out nq)
            have c0d := (hcv ⟨b, o + k * 7, none⟩).trans c0
            have c3d := (hcv ⟨b, o + k * 7 + 3, none⟩).trans c3
            have c5d := (hcv ⟨b, o + k * 7 + 5, none⟩).trans c5
            clear hcv c0 c3 c5 x0 x2 x3 x4 x5 x6
            generalize wr.drewN nq = wn at *
            go_wp2_with fail
            go_quiet (fail)
            have Be := Lib.hid (below_drewN Bd.out nq)
            generalize wn.drewN nq = we at *
            go_wp2_with fail
            go_roundg g2
            case measure => have := HK.out; omega
            case rel => exact ⟨k + 1, Q1 * 4096, by have := HK.out; omega, by go_num, by rw [Int.natCast_mul]; rfl, HE2, HJ2, Be⟩
          | true =>
            have ty : ((y0 : Int) == (a0 : Int)) = false := beq_eq_false_iff_ne.2 (by have := beq_eq_false_iff_ne.1 (hn rfl); omega)
            clear hs hn h1
            go_wp2_with fail
            go_quiet (fail)
            have hcv : ∀ q, (wr.drewN nq).cell? q = wr.cell? q := fun q => rfl
            have Bd := Lib.hid (below_drewN HB.out nq)
            have c0d := (hcv ⟨b, o + k * 7, none⟩).trans c0
            have c3d := (hcv ⟨b, o + k * 7 + 3, none⟩).trans c3
            have c5d := (hcv ⟨b, o + k * 7 + 5, none⟩).trans c5
            clear hcv c0 c3 c5 x0 x2 x3 x4 x5 x6
            generalize wr.drewN nq = wn at *
            go_wp2_with fail
            go_quiet (fail)
            have Be := Lib.hid (below_drewN Bd.out nq)
            generalize wn.drewN nq = we at *
            go_wp2_with fail
            go_roundg g2
            case measure => have := HK.out; omega
            case rel => exact ⟨k + 1, Q1 * 4096, by have := HK.out; omega, by go_num, by rw [Int.natCast_mul]; rfl, HE2, HJ2, Be⟩
        · have HE2 : Hid (E = rend (ps.take (k + 1))) := Lib.hid (by rw [HTA.out, if_neg h1])
          have t1 : ((y0 : Int) == 1) = false := beq_eq_false_iff_ne.2 (by omega)
          cases R1 with
          | false =>
            clear hs hn h1
            go_wp2_with fail
            go_quiet (fail)
            have hcv : ∀ q, (wr.drewN nq).cell? q = wr.cell? q := fun q => rfl
            have Bd := Lib.hid (below_drewN HB.out nq)
            have c0d := (hcv ⟨b, o + k * 7, none⟩).trans c0
            have c3d := (hcv ⟨b, o + k * 7 + 3, none⟩).trans c3
            have c5d := (hcv ⟨b, o + k * 7 + 5, none⟩).trans c5
            clear hcv c0 c3 c5 x0 x2 x3 x4 x5 x6
            generalize wr.drewN nq = wn at *
            go_wp2_with fail
            go_roundg g2
            case measure => have := HK.out; omega
            case rel => exact ⟨k + 1, E, by have := HK.out; omega, by go_num, rfl, HE2, HJ2, Bd⟩
          | true =>
            have ty : ((y0 : Int) == (a0 : Int)) = false := beq_eq_false_iff_ne.2 (by have := beq_eq_false_iff_ne.1 (hn rfl); omega)
            clear hs hn h1
            go_wp2_with fail
            go_quiet (fail)
            have hcv : ∀ q, (wr.drewN nq).cell? q = wr.cell? q := fun q => rfl
            have Bd := Lib.hid (below_drewN HB.out nq)
            have c0d := (hcv ⟨b, o + k * 7, none⟩).trans c0
            have c3d := (hcv ⟨b, o + k * 7 + 3, none⟩).trans c3
            have c5d := (hcv ⟨b, o + k * 7 + 5, none⟩).trans c5
            clear hcv c0 c3 c5 x0 x2 x3 x4 x5 x6
            generalize wr.drewN nq = wn at *
            go_wp2_with fail
            go_roundg g2
            case measure => have := HK.out; omega
            case rel => exact ⟨k + 1, E, by have := HK.out; omega, by go_num, rfl, HE2, HJ2, Bd⟩
end Go.Proofs.YtmjfkcclhbpclaaDoor
