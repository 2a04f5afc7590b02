/- Layer 8: the names of a definition, read one behind the other. -/
import Derived.Test.YtikpkblemegggaaVersBox
namespace Go.Proofs.Ytikpkblemegggaa
open Go.RowKit Go.Maps
set_option linter.unusedVariables false
set_option linter.unusedSimpArgs false

theorem rowT : RowSlice Try.prog 40 9 (.string .empty) 1 16 := ⟨Try.underlying40, by kernel_rfl, rfl, by decide⟩
def nameRows (l : List ByteArray) : List (List Value) := l.map fun t => [Value.string t]
theorem nameRows_length (l : List ByteArray) : (nameRows l).length = l.length := by simp [nameRows]
theorem nameRows_snoc (l : List ByteArray) (x : ByteArray) : nameRows (l ++ [x]) = nameRows l ++ [[Value.string x]] := by simp [nameRows]
theorem textF_small (s : List Nat) (off : Nat) : (textF s off).2 < 30 := by
  rcases textF_code s off with h | h | h <;> rw [h] <;> decide

def NQ (r : RD) (told : List Nat) (wc : World) (Rb L : Nat) (k : Nat) (l : List ByteArray) (w : World) : Prop :=
  LK r told wc Rb L #[] 40 9 1 (nameRows l) w ∧ l.length + k ≤ 64

set_option maxRecDepth 100000 in
set_option maxHeartbeats 4000000 in
theorem name_step (r : RD) (told : List Nat) (wc : World) (Rb L : Nat) : Stepper r (nameStep r.ss) 8 47 (.pointer (some ⟨Rb, 0, none⟩)) (.pointer (some ⟨L, 0, none⟩)) (NQ r told wc Rb L) := by
  refine ⟨fun args w => rfl, fun h => h.1.ok, fun h hb => ⟨h.1.below hb, h.2⟩, fun s b a => textF_small _ _, ?_⟩
  intro k l w1 w b at_ c ad hq hbel hown hb256 hlen hat
  have hw := hq.1.below hbel
  have hok := hw.ok
  obtain ⟨g, rfl⟩ := hown.shape2 (by omega)
  have hcap := hown.cap2
  have hrow : BRow w (some ⟨g, 0, none⟩) b := ⟨hown.row2, hb256⟩
  have hrow4 : BRow w (some ⟨g, 0, none⟩) (b.take 4) := by
    have := hrow.cut 0 4
    exact this
  have e4 : (b.take 4).length = 4 := by rw [List.length_take]; omega
  have HT : Hid (∀ n, Calls Try.prog 48 #[rdV r, .slice (some ⟨g, 0, none⟩) 4 c] (w.drewN n) fun e w' => e = .returned (.tuple #[.string (textF r.ss (numOf (b.take 4))).1, errV ((textF r.ss (numOf (b.take 4))).2 : Int)]) ∧ ∃ m, w' = w.drewN m) := Lib.hid (fun n => by
    have hd : Below w.heap.size w (w.drewN n) := below_drewN (Below.refl _ _) _
    have := vtext_any r (w.drewN n) (hok.below hd) (some ⟨g, 0, none⟩) c (b.take 4) (hrow4.below hd) (by omega)
    rw [e4] at this
    refine this.mono ?_
    rintro e w' ⟨rfl, m, rfl⟩
    exact ⟨rfl, n + m, by rw [World.drewN_drewN]⟩)
  unfold nameStep
  generalize textF r.ss (numOf (b.take 4)) = F at *
  have HLK := Lib.hid hw
  have HROOM := hq.2
  have HO := Lib.hid hown
  have cR := hw.rbox.cell
  unfold rdV at cR HT
  have hcap8 : (8 : Int) ≤ (c : Int) := by omega
  have HLEN := Lib.hid hlen
  rw [hlen]
  clear hw hok hown hrow hrow4 e4 hq hbel hb256 hlen
  go_enter Try.func47, Try.ntmps47
  go_wp2_with fail
  go_quiet ((go_at_call 48; exact HT.out _))
  have HK := HLK.out.below (below_drewN (Below.refl _ _) nq)
  have HO2 : Hid (OwnI (w.drewN nq) w1.heap.size 5 .u8 (.slice (some ⟨g, 0, none⟩) b.length c) (toI b)) := Lib.hid (OwnI.below HO.out (below_drewN (Below.refl _ _) nq))
  have HLK2 := Lib.hid HK
  clear HK HLK HO HT cR
  generalize w.drewN nq = wd at *
  obtain ⟨la, lc, hbox, hl⟩ := HLK2.out.lbox
  have cL : wd.cell? ⟨L, 0, none⟩ = some (.slice la (nameRows l).length lc) := hbox.cell
  have HBX := Lib.hid hbox
  have HL := Lib.hid hl
  have hbs : wc.heap.size ≤ wd.heap.size := HLK2.out.kp.size
  have HBS := Lib.hid hbs
  rw [nameRows_length] at cL
  rw [nameRows_length] at HL HBX
  clear hbox hl hbs
  go_wp2_with (at_builtin; go_loud (refine wpList_grow_row rfl (.tmp 16) (.tmp 18) rowT rfl wc.heap.size (.slice la l.length lc) (nameRows l) l.length [.string F.1] rfl rfl (nameRows_length l) rfl (by intro u hu; simp only [List.mem_cons, List.not_mem_nil, or_false] at hu; subst hu; rfl) HL.out (by unfold maxLen; omega) (by omega) HBS.out ?_); intro la2 lc2 w2 ho2 hg2; have O2 := Lib.hid ho2; have G2 := Lib.hid hg2; have cL2 : w2.frozen? ⟨L, 0, none⟩ = false := ((HBX.out.alloc _).grown hg2 (HBX.out.apart HL.out.1 (by decide))).free 0; have cl2 : w2.cell? ⟨L, 0, none⟩ = some (.slice la l.length lc) := ((HBX.out.alloc _).grown hg2 (HBX.out.apart HL.out.1 (by decide))).cell; clear ho2 hg2)
  go_ret
  have hpush := HLK2.out.push (T := 40) (q := [Value.string F.1]) (by rw [nameRows_length]; exact HBX.out) (by rw [nameRows_length]; exact HL.out) _ (by rw [nameRows_length]; exact G2.out) (by rw [nameRows_length]; exact O2.out) (by decide) (by decide)
  rw [nameRows_length, ← nameRows_snoc] at hpush
  refine ⟨rfl, ⟨hpush, by rw [List.length_append]; simp only [List.length_cons, List.length_nil]; omega⟩, ?_⟩
  have ho2 := HO2.out
  rw [HLEN.out] at ho2
  exact LK.keep (T := 40) (rows := nameRows l) (by rw [nameRows_length]; exact HBX.out) (by rw [nameRows_length]; exact HL.out) _ (by rw [nameRows_length]; exact G2.out) ho2 (by decide) (by decide) (by decide) _ _
end Go.Proofs.Ytikpkblemegggaa
