/- Layer 3: may a node's path, and what it leads to, be? -/
import Derived.Test.YtpblgbegdfdgdaaDoorVfsMust
namespace Go.Proofs.YtpblgbegdfdgdaaDoor
open Go.RowKit
set_option linter.unusedVariables false
set_option linter.unusedSimpArgs false

/-- a node: its path, kind, bytes, where it leads to, may it be run as another user -/
structure Nd where
  path : ByteArray
  kind : Int
  da : Option Addr
  dn : Nat
  dc : Nat
  tgt : ByteArray
  su : Bool
def Nd.cells (n : Nd) : Array Value := #[.string n.path, .int .i64 n.kind, .slice n.da n.dn n.dc, .string n.tgt, .bool n.su]
def Nd.v (n : Nd) : Value := .agg n.cells
def namedF (n : Nd) : Bool := cleanF n.path && (if n.kind = 2 then withinF n.tgt 4096 else if n.kind = 3 then cleanF n.tgt else true)

set_option maxRecDepth 100000 in
set_option maxHeartbeats 8000000 in
theorem named_any (n : Nd) (w : World) (hp : n.path.size ≤ 140737488355328) (ht : n.tgt.size ≤ 140737488355328) :
    Calls Tryd.prog 22 #[n.v] w fun e w' => e = .returned (.bool (namedF n)) ∧ Below w.heap.size w w' := by
  have HCP : Hid (∀ wx, Calls Tryd.prog 36 #[.string n.path] wx fun e w' => e = .returned (.bool (cleanF n.path)) ∧ Below wx.heap.size wx w') := Lib.hid (fun wx => clean_any n.path wx hp)
  have HCT : Hid (∀ wx, Calls Tryd.prog 36 #[.string n.tgt] wx fun e w' => e = .returned (.bool (cleanF n.tgt)) ∧ Below wx.heap.size wx w') := Lib.hid (fun wx => clean_any n.tgt wx ht)
  have HWT : Hid (∀ wx, Calls Tryd.prog 24 #[.string n.tgt, .int .i64 4096] wx fun e w' => e = .returned (.bool (withinF n.tgt 4096)) ∧ wx = w') := Lib.hid (fun wx => within3_any n.tgt 4096 wx (by omega))
  obtain ⟨R, hR⟩ : ∃ R, namedF n = R := ⟨_, rfl⟩
  rw [hR]
  unfold namedF at hR
  obtain ⟨path, kind, da, dn, dc, tgt, su⟩ := n
  unfold Nd.v Nd.cells
  simp only [] at hR HCP HCT HWT hp ht ⊢
  have HB : Hid (Below w.heap.size w (w.alloc (.cells #[.string path, .int .i64 kind, .slice da dn dc, .string tgt, .bool su] 36))) := Lib.hid ((Below.refl _ _).alloc (Nat.le_refl _) _)
  have HX : Hid ((w.alloc (.cells #[.string path, .int .i64 kind, .slice da dn dc, .string tgt, .bool su] 36)).heap[w.heap.size]? = some (.cells #[.string path, .int .i64 kind, .slice da dn dc, .string tgt, .bool su] 36)) := Lib.hid (heap_alloc_new _ _)
  go_enter Tryd.func22, Tryd.ntmps22
  go_wp2_with fail
  generalize w.alloc (.cells #[.string path, .int .i64 kind, .slice da dn dc, .string tgt, .bool su] 36) = w1 at *
  refine (HCP.out w1).mono ?_
  rintro e w2 ⟨rfl, hb2⟩
  have B2 := Lib.hid (bstep HB.out hb2)
  have X2 := (hb2.block _ (lt_of_block HX.out)).trans HX.out
  have c1 := cell_of_row _ _ 1 _ _ _ X2
  have c3 := cell_of_row _ _ 3 _ _ _ X2
  simp only [List.getElem?_toArray, List.getElem?_cons_zero, List.getElem?_cons_succ] at c1 c3
  clear hb2 HCP X2 HX HB
  cases hc : cleanF path with
  | false =>
    have HE : Hid (R = false) := Lib.hid (by rw [← hR, hc]; rfl)
    clear hR hc
    go_wp2_with fail
    go_ret
    rw [HE.out]
    exact ⟨rfl, B2.out⟩
  | true =>
    rw [hc, Bool.true_and] at hR
    by_cases h2 : kind = 2
    · have HE : Hid (R = withinF tgt 4096) := Lib.hid (by rw [← hR, if_pos h2])
      clear hR hc
      subst h2
      go_wp2_with fail
      refine (HWT.out w2).mono ?_
      rintro e w3 ⟨rfl, rfl⟩
      go_wp2_with fail
      go_ret
      rw [HE.out]
      exact ⟨rfl, B2.out⟩
    · by_cases h3 : kind = 3
      · have HE : Hid (R = cleanF tgt) := Lib.hid (by rw [← hR, if_neg h2, if_pos h3])
        clear hR hc h2
        subst h3
        go_wp2_with fail
        refine (HCT.out w2).mono ?_
        rintro e w3 ⟨rfl, hb3⟩
        have B3 := Lib.hid (bstep B2.out hb3)
        clear hb3
        go_wp2_with fail
        go_ret
        rw [HE.out]
        exact ⟨rfl, B3.out⟩
      · have HE : Hid (R = true) := Lib.hid (by rw [← hR, if_neg h2, if_neg h3])
        have k2 : (kind == 2) = false := beq_eq_false_iff_ne.2 h2
        have k3 : (kind == 3) = false := beq_eq_false_iff_ne.2 h3
        clear hR hc h2 h3
        go_wp2_with fail
        go_ret
        rw [HE.out]
        exact ⟨rfl, B2.out⟩
end Go.Proofs.YtpblgbegdfdgdaaDoor
