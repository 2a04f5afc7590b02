/- Layer 3: what a node must find; may a node be named so? -/
import Derived.Test.YtcabpidbdnlomaaGreatDoorVfsFollow
namespace Go.Proofs.YtcabpidbdnlomaaGreatDoor
open Go.RowKit
set_option linter.unusedVariables false
set_option linter.unusedSimpArgs false

/-- is there what is of a kind? The error's number -/
def mustF (F : ByteArray → Option Ent) (path : ByteArray) (kind : Int) : Nat := match F path with
  | none => 6
  | some e => if e.kind = kind then 0 else 16
theorem errV0z : errV ((0 : Nat) : Int) = .nilIface := rfl

set_option maxRecDepth 100000 in
set_option maxHeartbeats 8000000 in
theorem must_any (tb g c : Nat) (F : ByteArray → Option Ent) (path : ByteArray) (kind : Int) (w : World) (h : TreeAt w tb g c F) (hp : path.size ≤ 1048576) :
    Calls Tryz.prog 39 #[.pointer (some ⟨tb, 0, none⟩), .string path, .int .i64 kind] w fun e w' => e = .returned (errV ((mustF F path kind : Nat) : Int)) ∧ Below w.heap.size w w' := by
  have ht0 : w.cell? ⟨tb, 0, none⟩ = some (.map (some g)) := by
    have := cell_of_row _ _ 0 _ _ _ h.box
    simpa using this
  have hl2 := h.map.look_ok (T := 57) (E := 56) Tryz.underlying9 Tryz.underlying57 (ent_zeroV w) (k := path) (by unfold maxLen; omega)
  obtain ⟨e2, he2⟩ : ∃ e2, (F path).getD Ent.zero = e2 := ⟨_, rfl⟩
  rw [he2] at hl2
  have HZ : Hid ((w.alloc (.cells #[.pointer none, .int .i64 0, .string ⟨#[]⟩] 56)).heap[w.heap.size]? = some (.cells #[.pointer none, .int .i64 0, .string ⟨#[]⟩] 56)) := Lib.hid (heap_alloc_new _ _)
  have HIE : Hid ((Tryz.prog.info? 56).map (·.size) = some (#[ptrV e2.sh, .int .i64 e2.kind, .string e2.to] : Array Value).size) := Lib.hid (by kernel_rfl)
  have HOE : Hid ((#[ptrV e2.sh, .int .i64 e2.kind, .string e2.to] : Array Value).all (·.oneCell') = true) := Lib.hid (by obtain ⟨s', k', t'⟩ := e2; cases s' <;> simp [ptrV, Value.oneCell'])
  obtain ⟨w8, hw8⟩ : ∃ w8, (w.alloc (.cells #[.pointer none, .int .i64 0, .string ⟨#[]⟩] 56)).setRow w.heap.size #[ptrV e2.sh, .int .i64 e2.kind, .string e2.to] = w8 := ⟨_, rfl⟩
  have HW8 := Lib.hid hw8
  have hx8 : w8.heap[w.heap.size]? = some (.cells #[ptrV e2.sh, .int .i64 e2.kind, .string e2.to] 56) := by rw [← hw8]; exact setRow_heap _ _ _ _ _ _ HZ.out
  have B8 : Hid (Below w.heap.size w w8) := Lib.hid (by
    rw [← hw8]
    have h := (Below.refl w.heap.size w).alloc (Nat.le_refl _) (.cells #[.pointer none, .int .i64 0, .string ⟨#[]⟩] 56)
    exact ⟨h.os, h.tape, h.output, by rw [setRow_size]; exact h.size, fun k hk => (setRow_other _ _ _ _ (by omega)).trans (h.block k hk)⟩)
  have d1 : w8.cell? ⟨w.heap.size, 1, none⟩ = some (.int .i64 e2.kind) := by rw [cell_of_row _ _ 1 _ _ _ hx8]; rfl
  unfold Ent.v at hl2
  clear hw8 hx8 h
  cases hfx : F path with
  | none =>
    have hm : mustF F path kind = 6 := by unfold mustF; rw [hfx]
    rw [hm, errV6]
    rw [hfx] at hl2
    clear hm hfx he2
    go_enter Tryz.func39, Tryz.ntmps39
    go_wp2_with (refine wpList_store_row rfl 56 _ _ rfl w.heap.size #[ptrV e2.sh, .int .i64 e2.kind, .string e2.to] rfl rfl 56 _ HZ.out HIE.out rfl HOE.out ?_; rw [HW8.out])
    go_ret
    exact ⟨rfl, B8.out⟩
  | some e3 =>
    obtain rfl : e3 = e2 := by rw [hfx] at he2; exact he2
    rw [hfx] at hl2
    by_cases hk : e3.kind = kind
    · have hm : mustF F path kind = 0 := by unfold mustF; rw [hfx]; exact if_pos hk
      rw [hm, errV0z]
      have hk4 : (e3.kind != kind) = false := by rw [hk]; simp
      clear hm hfx he2 hk
      go_enter Tryz.func39, Tryz.ntmps39
      go_wp2_with (refine wpList_store_row rfl 56 _ _ rfl w.heap.size #[ptrV e3.sh, .int .i64 e3.kind, .string e3.to] rfl rfl 56 _ HZ.out HIE.out rfl HOE.out ?_; rw [HW8.out])
      go_ret
      exact ⟨rfl, B8.out⟩
    · have hm : mustF F path kind = 16 := by unfold mustF; rw [hfx]; exact if_neg hk
      rw [hm, errV16]
      have hk4 : (e3.kind != kind) = true := by rw [bne_iff_ne]; exact hk
      clear hm hfx he2 hk
      go_enter Tryz.func39, Tryz.ntmps39
      go_wp2_with (refine wpList_store_row rfl 56 _ _ rfl w.heap.size #[ptrV e3.sh, .int .i64 e3.kind, .string e3.to] rfl rfl 56 _ HZ.out HIE.out rfl HOE.out ?_; rw [HW8.out])
      go_ret
      exact ⟨rfl, B8.out⟩
end Go.Proofs.YtcabpidbdnlomaaGreatDoor
/- Layer 3: may a node's path, and what it leads to, be? -/
namespace Go.Proofs.YtcabpidbdnlomaaGreatDoor
open Go.RowKit
set_option linter.unusedVariables false
set_option linter.unusedSimpArgs false

/-- a node: its path, kind, bytes, where it leads to, may it be run as another user -/
structure Nd where
  path : ByteArray
  kind : Int
  da : Option Addr
  dn : Nat
  dc : Nat
  tgt : ByteArray
  su : Bool
def Nd.cells (n : Nd) : Array Value := #[.string n.path, .int .i64 n.kind, .slice n.da n.dn n.dc, .string n.tgt, .bool n.su]
def Nd.v (n : Nd) : Value := .agg n.cells
def namedF (n : Nd) : Bool := cleanF n.path && (if n.kind = 2 then withinF n.tgt 4096 else if n.kind = 3 then cleanF n.tgt else true)

set_option maxRecDepth 100000 in
set_option maxHeartbeats 8000000 in
theorem named_any (n : Nd) (w : World) (hp : n.path.size ≤ 140737488355328) (ht : n.tgt.size ≤ 140737488355328) :
    Calls Tryz.prog 38 #[n.v] w fun e w' => e = .returned (.bool (namedF n)) ∧ Below w.heap.size w w' := by
  have HCP : Hid (∀ wx, Calls Tryz.prog 62 #[.string n.path] wx fun e w' => e = .returned (.bool (cleanF n.path)) ∧ Below wx.heap.size wx w') := Lib.hid (fun wx => clean_any n.path wx hp)
  have HCT : Hid (∀ wx, Calls Tryz.prog 62 #[.string n.tgt] wx fun e w' => e = .returned (.bool (cleanF n.tgt)) ∧ Below wx.heap.size wx w') := Lib.hid (fun wx => clean_any n.tgt wx ht)
  have HWT : Hid (∀ wx, Calls Tryz.prog 30 #[.string n.tgt, .int .i64 4096] wx fun e w' => e = .returned (.bool (withinF n.tgt 4096)) ∧ wx = w') := Lib.hid (fun wx => within3_any n.tgt 4096 wx (by omega))
  obtain ⟨R, hR⟩ : ∃ R, namedF n = R := ⟨_, rfl⟩
  rw [hR]
  unfold namedF at hR
  obtain ⟨path, kind, da, dn, dc, tgt, su⟩ := n
  unfold Nd.v Nd.cells
  simp only [] at hR HCP HCT HWT hp ht ⊢
  have HB : Hid (Below w.heap.size w (w.alloc (.cells #[.string path, .int .i64 kind, .slice da dn dc, .string tgt, .bool su] 49))) := Lib.hid ((Below.refl _ _).alloc (Nat.le_refl _) _)
  have HX : Hid ((w.alloc (.cells #[.string path, .int .i64 kind, .slice da dn dc, .string tgt, .bool su] 49)).heap[w.heap.size]? = some (.cells #[.string path, .int .i64 kind, .slice da dn dc, .string tgt, .bool su] 49)) := Lib.hid (heap_alloc_new _ _)
  go_enter Tryz.func38, Tryz.ntmps38
  go_wp2_with fail
  generalize w.alloc (.cells #[.string path, .int .i64 kind, .slice da dn dc, .string tgt, .bool su] 49) = w1 at *
  refine (HCP.out w1).mono ?_
  rintro e w2 ⟨rfl, hb2⟩
  have B2 := Lib.hid (bstep HB.out hb2)
  have X2 := (hb2.block _ (lt_of_block HX.out)).trans HX.out
  have c1 := cell_of_row _ _ 1 _ _ _ X2
  have c3 := cell_of_row _ _ 3 _ _ _ X2
  simp only [List.getElem?_toArray, List.getElem?_cons_zero, List.getElem?_cons_succ] at c1 c3
  clear hb2 HCP X2 HX HB
  cases hc : cleanF path with
  | false =>
    have HE : Hid (R = false) := Lib.hid (by rw [← hR, hc]; rfl)
    clear hR hc
    go_wp2_with fail
    go_ret
    rw [HE.out]
    exact ⟨rfl, B2.out⟩
  | true =>
    rw [hc, Bool.true_and] at hR
    by_cases h2 : kind = 2
    · have HE : Hid (R = withinF tgt 4096) := Lib.hid (by rw [← hR, if_pos h2])
      clear hR hc
      subst h2
      go_wp2_with fail
      refine (HWT.out w2).mono ?_
      rintro e w3 ⟨rfl, rfl⟩
      go_wp2_with fail
      go_ret
      rw [HE.out]
      exact ⟨rfl, B2.out⟩
    · by_cases h3 : kind = 3
      · have HE : Hid (R = cleanF tgt) := Lib.hid (by rw [← hR, if_neg h2, if_pos h3])
        clear hR hc h2
        subst h3
        go_wp2_with fail
        refine (HCT.out w2).mono ?_
        rintro e w3 ⟨rfl, hb3⟩
        have B3 := Lib.hid (bstep B2.out hb3)
        clear hb3
        go_wp2_with fail
        go_ret
        rw [HE.out]
        exact ⟨rfl, B3.out⟩
      · have HE : Hid (R = true) := Lib.hid (by rw [← hR, if_neg h2, if_neg h3])
        have k2 : (kind == 2) = false := beq_eq_false_iff_ne.2 h2
        have k3 : (kind == 3) = false := beq_eq_false_iff_ne.2 h3
        clear hR hc h2 h3
        go_wp2_with fail
        go_ret
        rw [HE.out]
        exact ⟨rfl, B2.out⟩
end Go.Proofs.YtcabpidbdnlomaaGreatDoor
