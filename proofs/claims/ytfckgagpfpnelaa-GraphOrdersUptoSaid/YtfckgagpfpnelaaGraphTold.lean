/- Layer 16: the function values of Begin and of Loop. -/
import Derived.Test.YtfckgagpfpnelaaGraphClient
namespace Go.Proofs.Ytfckgagpfpnelaa
open Go.RowKit
set_option linter.unusedVariables false
set_option linter.unusedSimpArgs false

/-- Begin's: the list of those that were told -/
def BegI (B bl : Nat) (w : World) (G : Nat → Prop) (o : List Nat) (r : Bool) : Prop :=
  ∃ al cl, InBox w bl (.slice al o.length cl) 23 ∧ OwnI w B 3 .i64 (.slice al o.length cl) (toI o) ∧ B ≤ w.heap.size ∧ ∀ g, G g ↔ g = bl ∨ (Value.slice al o.length cl).ownBlock = some g
/-- Loop's: whether an object was met again -/
def RingI (bq : Nat) (w : World) (G : Nat → Prop) (o : List Nat) (r : Bool) : Prop := InBox w bq (.bool r) 4 ∧ ∀ g, G g ↔ g = bq

theorem begTell_any (w : World) (B bl n : Nat) (G : Nat → Prop) (o : List Nat) (r : Bool) (x : Nat) (hn : n ≤ 1048576) (h : BegI B bl w G o r) (hx : x < n) (hol : o.length < n) :
    Calls Try.prog 23 #[.int .i64 (x : Int), .pointer (some ⟨bl, 0, none⟩)] w fun e w' => e = .returned (.tuple #[]) ∧ ∃ G', BegI B bl w' G' (o ++ [x]) r ∧ Aside G w w' ∧ ∀ g, G' g → G g ∨ w.heap.size ≤ g := by
  obtain ⟨al, cl, hbx, hown, hB, hG⟩ := h
  have hc := hbx.cell
  have HA : (Value.slice al o.length cl).ownBlock ≠ some bl := hbx.apart hown (by decide)
  have HBX := Lib.hid hbx
  have HOW := Lib.hid hown
  have HB := Lib.hid hB
  have HGG := Lib.hid hG
  have HA3 := Lib.hid HA
  clear hbx hown hG HA
  go_enter Try.func23, Try.ntmps23
  go_wp2_with (at_builtin; go_loud (refine wpList_grow_lies rfl (.tmp 3) (.tmp 5) slice64 rfl B (.slice al o.length cl) (toI o) o.length (x : Int) rfl (by rfl) (toI_length _) HOW.out (by unfold maxLen; omega) (by omega) HB.out ?_); intro g5 c5 w6 hown5 hgr5 hor5 hlt5; have O5 := Lib.hid hown5; have G5 := Lib.hid hgr5; have R5 := Lib.hid hor5; have L5 := Lib.hid hlt5; have hb6 := ((HBX.out.alloc (.cells #[.int .i64 (x : Int)] 3)).grown hgr5 HA3.out); have hf6 := hb6.free; have hc6 := hb6.cell; have X6 := Lib.hid hb6; clear hown5 hgr5 hb6 hor5 hlt5)
  go_returns
  have hT : toI o ++ [(x : Int)] = toI (o ++ [x]) := by simp [toI]
  have o5 := O5.out
  rw [hT] at o5
  have hap : (Value.slice (some ⟨g5, 0, none⟩) (o.length + 1) c5).ownBlock ≠ some bl := X6.out.apart o5 (by decide)
  refine ⟨rfl, fun g => g = bl ∨ g = g5, ⟨some ⟨g5, 0, none⟩, c5, ?_, ?_, ?_, ?_⟩, ?_, ?_⟩
  · have := X6.out.set (.slice (some ⟨g5, 0, none⟩) (o.length + 1) c5)
    simpa using this
  · have := o5.setO (a := ⟨bl, 0, none⟩) hap (.slice (some ⟨g5, 0, none⟩) (o.length + 1) c5)
    simpa using this
  · have := G5.out.size
    have := HB.out
    simp [World.setCell] at *
    omega
  · intro g
    simp [Value.ownBlock, eq_comm]
  · have a1 : Aside G w (w.alloc (.cells #[.int .i64 (x : Int)] 3)) := (Aside.alloc w _).mono (fun g _ h => h.elim)
    have a2 : Aside G (w.alloc (.cells #[.int .i64 (x : Int)] 3)) w6 := (Aside.grown G5.out).mono (fun g _ h => (HGG.out g).2 (.inr h))
    exact (a1.trans a2).trans ((Aside.setCell w6 ⟨bl, 0, none⟩ _).mono (fun g _ h => (HGG.out g).2 (.inl h)))
  · rintro g (rfl | rfl)
    · exact .inl ((HGG.out _).2 (.inl rfl))
    · rcases R5.out with h | h
      · exact .inl ((HGG.out _).2 (.inr h))
      · exact .inr (by omega)

theorem begNone_any (w : World) (x : Int) : Calls Try.prog 24 #[.int .i64 x] w fun e w' => e = .returned (.tuple #[]) ∧ w' = w := by
  go_enter Try.func24, Try.ntmps24
  go_wp2
  go_returns
  exact ⟨rfl, rfl⟩
theorem loopNone_any (w : World) (x : Int) : Calls Try.prog 26 #[.int .i64 x] w fun e w' => e = .returned (.tuple #[]) ∧ w' = w := by
  go_enter Try.func26, Try.ntmps26
  go_wp2
  go_returns
  exact ⟨rfl, rfl⟩
theorem loopAgain_any (w : World) (x : Int) (bq : Nat) (r : Bool) (h : InBox w bq (.bool r) 4) : Calls Try.prog 27 #[.int .i64 x, .pointer (some ⟨bq, 0, none⟩)] w fun e w' => e = .returned (.tuple #[]) ∧ w' = w.setCell ⟨bq, 0, none⟩ (.bool true) := by
  have hc := h.cell
  have hf := h.free
  clear h
  go_enter Try.func27, Try.ntmps27
  go_wp2
  go_returns
  exact ⟨rfl, rfl⟩

theorem beg_client (B bl n : Nat) (hn : n ≤ 1048576) : Client Try.prog 23 #[.pointer (some ⟨bl, 0, none⟩)] 24 #[] n (BegI B bl) where
  tellRun := fun _ _ => rfl
  againRun := fun _ _ => rfl
  lt := by
    rintro w G o r ⟨al, cl, h1, h2, h3, h4⟩ g hg
    rcases (h4 g).1 hg with rfl | h
    · exact h1.lt
    · exact (World.ownsRow.lt h2 g h).2
  aside := by
    rintro w w' G o r ⟨al, cl, h1, h2, h3, h4⟩ h
    exact ⟨al, cl, h1.aside h (fun h5 => h5 ((h4 _).2 (.inl rfl))), own_aside h2 h (fun g hg h5 => h5 ((h4 _).2 (.inr hg))), Nat.le_trans h3 h.size, h4⟩
  tell := by
    intro w G o r x h hx ho
    exact begTell_any w B bl n G o r x hn h hx ho
  again := by
    intro w G o r x h hx
    refine (begNone_any w x).mono ?_
    rintro e w' ⟨rfl, rfl⟩
    exact ⟨rfl, G, h, Aside.refl _ _, fun g hg => .inl hg⟩
theorem ring_client (bq n : Nat) : Client Try.prog 26 #[] 27 #[.pointer (some ⟨bq, 0, none⟩)] n (RingI bq) where
  tellRun := fun _ _ => rfl
  againRun := fun _ _ => rfl
  lt := by
    rintro w G o r ⟨h1, h2⟩ g hg
    rw [(h2 g).1 hg]
    exact h1.lt
  aside := by
    rintro w w' G o r ⟨h1, h2⟩ h
    exact ⟨h1.aside h (fun h5 => h5 ((h2 _).2 rfl)), h2⟩
  tell := by
    intro w G o r x h hx ho
    refine (loopNone_any w x).mono ?_
    rintro e w' ⟨rfl, rfl⟩
    exact ⟨rfl, G, h, Aside.refl _ _, fun g hg => .inl hg⟩
  again := by
    rintro w G o r x ⟨h1, h2⟩ hx
    refine (loopAgain_any w x bq r h1).mono ?_
    rintro e w' ⟨rfl, rfl⟩
    exact ⟨rfl, G, ⟨h1.set _, h2⟩, (Aside.setCell w ⟨bq, 0, none⟩ _).mono (fun g _ h => (h2 g).2 h), fun g hg => .inl hg⟩
end Go.Proofs.Ytfckgagpfpnelaa
