/- Layer 3: nodes, as they come in. -/
import Derived.Test.YtcabpidbdnlomaaGreatDoorOpenF
import Derived.Test.YtcabpidbdnlomaaGreatDoorVfsNew
namespace Go.Proofs.YtcabpidbdnlomaaGreatDoor
open Go.RowKit Go.WideShapes Go.Deep
set_option linter.unusedVariables false
set_option linter.unusedSimpArgs false

section
variable {H : Type} {enc : TypeId × Value → H} {w : World} {base : Nat} {held : Bool}

theorem u8_wf {n : Int} (h : (Lit.int .u8 n).wf = true) : 0 ≤ n ∧ n < 256 := by
  simp [Lit.wf, IntKind.min, IntKind.max, IntKind.signed, IntKind.bits] at h
  omega
set_option maxRecDepth 100000 in
theorem open_vbytes {fuel : Nat} {c : Value} {x : DataW H × List MemPlace} (h : DataW.trod enc Tryz.prog w base (fun _ => true) held fuel 41 [c] = some x) (hw : ∀ n ∈ x.1.weights Tryz.prog 41, n ≤ reachBytes) :
    ∃ (a : Option Addr) (n cap : Nat) (l : List Nat), c = .slice a n cap ∧ l.length = n ∧ Row .u8 w a (toI l) ∧ (a = none → n = 0 ∧ cap = 0) ∧ n ≤ 140737488351232 := by
  rcases open_slice_w Tryz.underlying41 h hw with rfl | ⟨ad, len, cap, n, rfl, hl, hm, hb, hx⟩
  · exact ⟨none, 0, 0, [], rfl, rfl, (fun i hi => by cases hi), fun _ => ⟨rfl, rfl⟩, by decide⟩
  · have hc : Tryz.prog.cellsOf 5 = 1 := by kernel_rfl
    have hby : Tryz.prog.bytesOf 5 = 1 := by kernel_rfl
    rw [hby] at hb
    have each : ∀ i, i < len → ∃ t : Nat, w.cell? (ad.add i) = some (.int .u8 (t : Int)) := by
      intro i hi
      obtain ⟨cs, y, h2, h3, h4⟩ := hx i (by omega)
      rw [hc, Nat.mul_one] at h2
      obtain ⟨-, hlen, h5⟩ := World.cells?_some h2
      match cs, hlen with
      | [v], _ =>
        obtain ⟨t, rfl, ht⟩ := field_int Tryz.underlying5 h3
        have hb8 := u8_wf ht
        have := h5 0 (by omega)
        refine ⟨t.toNat, ?_⟩
        rw [show ((t.toNat : Nat) : Int) = t by omega]
        simpa [Addr.add] using this
    obtain ⟨q, hq⟩ := choose_lt each
    refine ⟨some ad, len, cap, (List.range len).map q, rfl, by simp, ?_, (fun h => by cases h), by simp [reachBytes] at hb ⊢; omega⟩
    intro i hi
    have hi' : i < len := by simpa [toI] using hi
    obtain ⟨b, off, spot⟩ := ad
    have hs : spot = none := by simpa [Addr.add] using World.cell?_spot (hq 0 (by omega))
    subst hs
    have := hq i hi'
    rw [WideShapes.add_plain] at this
    refine ⟨b, off, rfl, ?_⟩
    rw [this]
    simp [toI, hi', List.getD]
set_option maxRecDepth 100000 in
theorem open_nodes {fuel : Nat} {c : Value} {x : DataW H × List MemPlace} (h : DataW.trod enc Tryz.prog w base (fun _ => true) held fuel 22 [c] = some x) (hw : ∀ n ∈ x.1.weights Tryz.prog 22, n ≤ reachBytes) :
    ∃ (a : Option Addr) (cap : Nat) (L : List Nd) (D : Nat → List Nat), c = .slice a L.length cap ∧ NdRow w a L ∧ L.length ≤ 140737488351232 ∧ ∀ i, (hi : i < L.length) → NdOk w L[i] (D i) := by
  rcases open_slice_w Tryz.underlying22 h hw with rfl | ⟨ad, len, cap, n, rfl, hl, hm, hb, hx⟩
  · exact ⟨none, 0, [], fun _ => [], rfl, (fun i hi => by cases hi), by simp, fun i hi => by cases hi⟩
  · have hc : Tryz.prog.cellsOf 49 = 5 := by kernel_rfl
    have hby : Tryz.prog.bytesOf 49 = 72 := by kernel_rfl
    have hr : reachBytes ≤ 140737488351232 := by decide
    rw [hby] at hb
    have each : ∀ i, i < len → ∃ m : Nd × List Nat, (∀ j, j < 5 → w.cell? ((ad.add (i * 5)).add j) = m.1.cells[j]?) ∧ NdOk w m.1 m.2 := by
      intro i hi
      obtain ⟨cs, y, h2, h3, h4⟩ := hx i (by omega)
      rw [hc] at h2
      obtain ⟨-, hlen, h5⟩ := World.cells?_some h2
      match cs, hlen with
      | [c0, c1, c2, c3, c4], _ =>
        obtain ⟨m0, x0, t0, u0⟩ : ∃ m x, DataW.trod enc Tryz.prog w base (fun _ => true) held m 9 (([c0, c1, c2, c3, c4].drop 0).take (Tryz.prog.cellsOf 9)) = some x ∧ ∀ k ∈ x.1.weights Tryz.prog 9, k ≤ reachBytes := field_w Tryz.underlying49 h3 (h4 hi) (j := 0) rfl
        obtain ⟨m1, x1, t1, u1⟩ : ∃ m x, DataW.trod enc Tryz.prog w base (fun _ => true) held m 3 (([c0, c1, c2, c3, c4].drop 1).take (Tryz.prog.cellsOf 3)) = some x ∧ ∀ k ∈ x.1.weights Tryz.prog 3, k ≤ reachBytes := field_w Tryz.underlying49 h3 (h4 hi) (j := 1) rfl
        obtain ⟨m2, x2, t2, u2⟩ : ∃ m x, DataW.trod enc Tryz.prog w base (fun _ => true) held m 41 (([c0, c1, c2, c3, c4].drop 2).take (Tryz.prog.cellsOf 41)) = some x ∧ ∀ k ∈ x.1.weights Tryz.prog 41, k ≤ reachBytes := field_w Tryz.underlying49 h3 (h4 hi) (j := 2) rfl
        obtain ⟨m3, x3, t3, u3⟩ : ∃ m x, DataW.trod enc Tryz.prog w base (fun _ => true) held m 9 (([c0, c1, c2, c3, c4].drop 3).take (Tryz.prog.cellsOf 9)) = some x ∧ ∀ k ∈ x.1.weights Tryz.prog 9, k ≤ reachBytes := field_w Tryz.underlying49 h3 (h4 hi) (j := 3) rfl
        obtain ⟨m4, x4, t4, u4⟩ : ∃ m x, DataW.trod enc Tryz.prog w base (fun _ => true) held m 4 (([c0, c1, c2, c3, c4].drop 4).take (Tryz.prog.cellsOf 4)) = some x ∧ ∀ k ∈ x.1.weights Tryz.prog 4, k ≤ reachBytes := field_w Tryz.underlying49 h3 (h4 hi) (j := 4) rfl
        have k0 : Tryz.prog.cellsOf 9 = 1 := by kernel_rfl
        have k1 : Tryz.prog.cellsOf 3 = 1 := by kernel_rfl
        have k2 : Tryz.prog.cellsOf 41 = 1 := by kernel_rfl
        have k4 : Tryz.prog.cellsOf 4 = 1 := by kernel_rfl
        simp only [k0, k1, k2, k4, List.drop_succ_cons, List.drop_zero, List.take_succ_cons, List.take_zero] at t0 t1 t2 t3 t4
        obtain ⟨s0, rfl, z0⟩ := field_string_w Tryz.underlying9 t0 u0
        obtain ⟨kd, rfl, -⟩ := field_int Tryz.underlying3 t1
        obtain ⟨da, dn, dc, l, rfl, d1, d2, d3, d4⟩ := open_vbytes t2 u2
        obtain ⟨s3, rfl, z3⟩ := field_string_w Tryz.underlying9 t3 u3
        obtain ⟨su, rfl⟩ := field_bool Tryz.underlying4 t4
        exact ⟨(⟨s0, kd, da, dn, dc, s3, su⟩, l), fun j hj => by
          have := h5 j hj
          simpa [Nd.cells] using this, ⟨d2, d1, by show dn ≤ _; omega, d3, by show s0.size ≤ _; omega, by show s3.size ≤ _; omega⟩⟩
    haveI : Inhabited (Nd × List Nat) := ⟨(⟨⟨#[]⟩, 0, none, 0, 0, ⟨#[]⟩, false⟩, [])⟩
    obtain ⟨q, hq⟩ := choose_lt each
    refine ⟨some ad, cap, (List.range len).map (fun i => (q i).1), fun i => (q i).2, by simp, ?_, by simp; omega, ?_⟩
    · intro i hi
      have hi' : i < len := by simpa using hi
      have g0 := (hq 0 (by omega)).1 0 (by omega)
      rw [Nat.zero_mul] at g0
      have g1 : w.cell? ((ad.add 0).add 0) = some (.string (q 0).1.path) := g0
      have e : (ad.add 0).add 0 = ad.add 0 := by obtain ⟨b, o, sp⟩ := ad; cases sp <;> rfl
      rw [e] at g1
      obtain ⟨b, off, rfl⟩ := adN g1
      refine ⟨b, off, rfl, ?_, fun j hj => ?_⟩
      · have := World.block_lt_of_cell? w _ g1
        simpa [Addr.add] using this
      · have h2 := (hq i hi').1 j hj
        rw [WideShapes.add_plain, WideShapes.add_plain] at h2
        rw [h2]
        simp
    · intro i hi
      have hi' : i < len := by simpa using hi
      have := (hq i hi').2
      simpa using this
end
end Go.Proofs.YtcabpidbdnlomaaGreatDoor
/- Layer 3: nodes, as they come in: how many bytes they take. -/
namespace Go.Proofs.YtcabpidbdnlomaaGreatDoor
open Go.RowKit Go.WideShapes Go.Deep
set_option linter.unusedVariables false
set_option linter.unusedSimpArgs false

set_option maxRecDepth 100000 in
theorem nodes_bytes {H : Type} {enc : TypeId × Value → H} {w : World} {base : Nat} {held : Bool} {fuel : Nat} {c : Value} {x : DataW H × List MemPlace} (h : DataW.trod enc Tryz.prog w base (fun _ => true) held fuel 22 [c] = some x) (hw : ∀ n ∈ x.1.weights Tryz.prog 22, n ≤ reachBytes) :
    ∀ (a : Option Addr) (len cap : Nat), c = .slice a len cap → len * 72 ≤ 140737488351232 := by
  intro a len' cap' he
  rcases open_slice_w Tryz.underlying22 h hw with rfl | ⟨ad, len, cap, n, rfl, hl, hm, hb, hx⟩
  · simp only [Value.slice.injEq] at he
    omega
  · have hby : Tryz.prog.bytesOf 49 = 72 := by kernel_rfl
    have hr : reachBytes ≤ 140737488351232 := by decide
    rw [hby] at hb
    simp only [Value.slice.injEq] at he
    obtain ⟨-, rfl, rfl⟩ := he
    omega
end Go.Proofs.YtcabpidbdnlomaaGreatDoor
