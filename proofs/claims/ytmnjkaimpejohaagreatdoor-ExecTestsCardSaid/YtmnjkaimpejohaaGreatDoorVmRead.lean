/- Layer 2: Read, Fetch, Peek, Poke, Perm, Used, Quota. -/
import Derived.Test.YtmnjkaimpejohaaGreatDoorVmLoad
namespace Go.Proofs.YtmnjkaimpejohaaGreatDoor
open Go.RowKit
set_option linter.unusedVariables false
set_option linter.unusedSimpArgs false

/-- what Read, Fetch and Peek answer -/
def loaded (w : World) (V : Nat → Option Pg) (a n code : Nat) (o : Option Nat) (e : Ending) (w' : World) : Prop :=
  match o with
  | some x => e = .returned (.tuple #[.slice none 0 0, spotV w.heap.size]) ∧ w' = w.alloc (SpotObj x code)
  | none => ∃ gb, e = .returned (.tuple #[.slice (some ⟨gb, 0, none⟩) n n, .nilIface]) ∧ w.heap.size ≤ gb ∧ OwnI w' w.heap.size 5 .u8 (.slice (some ⟨gb, 0, none⟩) n n) (toI (bytesAt V a n)) ∧ (∀ b ∈ bytesAt V a n, b < 256) ∧ Below w.heap.size w w'
theorem load_any (mb : Nat) (S : Nat → Prop) (q c : Nat) (V : Nat → Option Pg) (g : Nat) (F : Nat → Option Nat) (a n perm code : Nat) (w : World) (h : VmAt w mb S q c V g F) (ha : a < 18446744073709551616) (hn : n ≤ 140737488355328) (hp : perm < 8) :
    Calls Tryz.prog 57 #[.pointer (some ⟨mb, 0, none⟩), .int .u64 (a : Int), .int .u64 (n : Int), .int .i64 (perm : Int), .int .i64 (code : Int)] w (loaded w V a n code (barredF V perm a n)) := by
  cases hbar : barredF V perm a n with
  | some x => exact load_bad mb S q c V g F a n perm code x w h ha (by omega) hp hbar
  | none => exact load_good mb S q c V g F a n perm code w h ha hn hp hbar
theorem loaded_tuple {w : World} {V : Nat → Option Pg} {a n code : Nat} {o : Option Nat} {e : Ending} {w' : World} (h : loaded w V a n code o e w') : ∃ v u, e = .returned (.tuple #[v, u]) := by
  unfold loaded at h
  split at h
  · exact ⟨_, _, h.1⟩
  · obtain ⟨gb, h1, -⟩ := h
    exact ⟨_, _, h1⟩


theorem read_any (mb : Nat) (S : Nat → Prop) (q c : Nat) (V : Nat → Option Pg) (g : Nat) (F : Nat → Option Nat) (a n : Nat) (w : World) (h : VmAt w mb S q c V g F) (ha : a < 18446744073709551616) (hn : n ≤ 140737488355328) :
    Calls Tryz.prog 81 #[.pointer (some ⟨mb, 0, none⟩), .int .u64 (a : Int), .int .u64 (n : Int)] w (loaded w V a n 10 (barredF V 4 a n)) := by
  have HS := Lib.hid (load_any mb S q c V g F a n 4 10 w h ha hn (by omega))
  obtain ⟨P, hP⟩ : ∃ P, loaded w V a n 10 (barredF V 4 a n) = P := ⟨_, rfl⟩
  have HR : Hid (∀ e w', P e w' → ∃ v u, e = .returned (.tuple #[v, u])) := Lib.hid (fun e w' hh => by rw [← hP] at hh; exact loaded_tuple hh)
  rw [hP] at HS ⊢
  clear h hP
  go_enter Tryz.func81, Tryz.ntmps81
  go_wp2_with fail
  refine HS.out.mono ?_
  intro e w' he
  obtain ⟨v, u, rfl⟩ := HR.out e w' he
  have HE := Lib.hid he
  clear he HS HR
  go_wp2_with fail
  exact HE.out



theorem fetch_any (mb : Nat) (S : Nat → Prop) (q c : Nat) (V : Nat → Option Pg) (g : Nat) (F : Nat → Option Nat) (a n : Nat) (w : World) (h : VmAt w mb S q c V g F) (ha : a < 18446744073709551616) (hn : n ≤ 140737488355328) :
    Calls Tryz.prog 36 #[.pointer (some ⟨mb, 0, none⟩), .int .u64 (a : Int), .int .u64 (n : Int)] w (loaded w V a n 12 (barredF V 1 a n)) := by
  have HS := Lib.hid (load_any mb S q c V g F a n 1 12 w h ha hn (by omega))
  obtain ⟨P, hP⟩ : ∃ P, loaded w V a n 12 (barredF V 1 a n) = P := ⟨_, rfl⟩
  have HR : Hid (∀ e w', P e w' → ∃ v u, e = .returned (.tuple #[v, u])) := Lib.hid (fun e w' hh => by rw [← hP] at hh; exact loaded_tuple hh)
  rw [hP] at HS ⊢
  clear h hP
  go_enter Tryz.func36, Tryz.ntmps36
  go_wp2_with fail
  refine HS.out.mono ?_
  intro e w' he
  obtain ⟨v, u, rfl⟩ := HR.out e w' he
  have HE := Lib.hid he
  clear he HS HR
  go_wp2_with fail
  exact HE.out






















theorem poke_any0 (mb : Nat) (S : Nat → Prop) (q c : Nat) (V : Nat → Option Pg) (g : Nat) (F : Nat → Option Nat) (a : Nat) (fa : Option Addr) (fl fc : Nat) (bs : List Nat) (w : World) (h : VmAt w mb S q c V g F) (ha : a < 18446744073709551616) (hb : BRow w fa bs) (hbl : bs.length = fl) (hlc : fl ≤ fc) (hl : fl ≤ 140737488355328) (hsrc : 0 < fl → ∀ b o, fa = some ⟨b, o, none⟩ → ¬ S b) :
    Calls Tryz.prog 14 #[.pointer (some ⟨mb, 0, none⟩), .int .u64 (a : Int), .slice fa fl fc] w (stored w mb S q c V g F a fl bs 6 (barredF V 0 a fl)) := by
  have HS := Lib.hid (store_any0 mb S q c V g F a fa fl fc 0 6 bs w h ha hb hbl hlc hl (by omega) hsrc)
  obtain ⟨P, hP⟩ : ∃ P, stored w mb S q c V g F a fl bs 6 (barredF V 0 a fl) = P := ⟨_, rfl⟩
  have HR : Hid (∀ e w', P e w' → ∃ v, e = .returned v) := Lib.hid (fun e w' hh => by
    rw [← hP] at hh
    unfold stored at hh
    split at hh
    · exact ⟨_, hh.1⟩
    · exact ⟨_, hh.1⟩)
  rw [hP] at HS ⊢
  clear h hb hsrc hP
  go_enter Tryz.func14, Tryz.ntmps14
  go_wp2_with fail
  refine HS.out.mono ?_
  intro e w' he
  obtain ⟨v, rfl⟩ := HR.out e w' he
  have HE := Lib.hid he
  clear he HS HR
  go_wp2_with fail
  exact HE.out
theorem poke_any (mb : Nat) (S : Nat → Prop) (q c : Nat) (V : Nat → Option Pg) (g : Nat) (F : Nat → Option Nat) (a : Nat) (fa : Option Addr) (fl fc : Nat) (bs : List Nat) (w : World) (h : VmAt w mb S q c V g F) (ha : a < 18446744073709551616) (hb : BRow w fa bs) (hbl : bs.length = fl) (hlc : fl ≤ fc) (hl : fl ≤ 140737488355328) (hsrc : ∀ b o, fa = some ⟨b, o, none⟩ → ¬ S b) :
    Calls Tryz.prog 14 #[.pointer (some ⟨mb, 0, none⟩), .int .u64 (a : Int), .slice fa fl fc] w (stored w mb S q c V g F a fl bs 6 (barredF V 0 a fl)) :=
  poke_any0 mb S q c V g F a fa fl fc bs w h ha hb hbl hlc hl (fun _ => hsrc)

















































end Go.Proofs.YtmnjkaimpejohaaGreatDoor
