/- Layer 7: is a bucket below the first symbol? -/
import Derived.Test.YtpilccalgegadaaBloomC
import Derived.Test.YtpilccalgegadaaBox
namespace Go.Proofs.Ytpilccalgegadaa
open Go.RowKit
set_option linter.unusedVariables false
set_option linter.unusedSimpArgs false

def lowB (first x : Nat) : Bool := decide (¬ x = 0) && decide (x < first)
theorem lowB_zero (first : Nat) : lowB first 0 = false := by simp [lowB]
theorem lowB_pos {first x : Nat} (h : ¬ x = 0) : lowB first x = decide (x < first) := by simp [lowB, h]

theorem low_any (bl first x : Nat) (w : World) (hc : w.cell? ⟨bl, 0, none⟩ = some (.int .u32 (first : Int))) :
    Calls Try.prog 29 #[.int .u32 (x : Int), .pointer (some ⟨bl, 0, none⟩)] w fun e w' => e = .returned (.bool (lowB first x)) ∧ w = w' := by
  by_cases h0 : x = 0
  · subst h0
    rw [lowB_zero]
    go_enter Try.func29, Try.ntmps29
    go_wp2
    go_ret
    exact ⟨rfl, rfl⟩
  · rw [lowB_pos h0]
    have h1 : ((x : Int) != 0) = true := bne_iff_ne.2 (by omega)
    have h2 : decide ((x : Int) < (first : Int)) = decide (x < first) := by
      rw [Bool.eq_iff_iff, decide_eq_true_eq, decide_eq_true_eq]; omega
    have H2 := Lib.hid h2
    clear h0 h2
    go_enter Try.func29, Try.ntmps29
    go_wp2
    go_ret
    exact ⟨by rw [← H2.out]; rfl, rfl⟩

/-- where the first one is, that is below; -1: there is none -/
def lowAt (first : Nat) (l : List Nat) : Int := if l.any (lowB first) then (l.findIdx (lowB first) : Int) else -1
theorem lowAt_ge (first : Nat) (l : List Nat) : decide ((0 : Int) ≤ lowAt first l) = l.any (lowB first) := by
  unfold lowAt
  cases h : l.any (lowB first)
  · rfl
  · simp

set_option maxRecDepth 100000 in
set_option maxHeartbeats 4000000 in
theorem index_low (a : Option Addr) (cap : Nat) (l : List Nat) (bl first : Nat) (w : World) (h : Row .u32 w a (toI l)) (hl : l.length ≤ 1048576) (hc : w.cell? ⟨bl, 0, none⟩ = some (.int .u32 (first : Int))) :
    Calls Try.prog 35 #[.slice a l.length cap, .func (.func 29) #[] #[.pointer (some ⟨bl, 0, none⟩)]] w fun e w' => e = .returned (.int .i64 (lowAt first l)) ∧ w = w' := by
  have H := Lib.hid h
  have HL := Lib.hid (fun (x : Nat) => low_any bl first x w hc)
  have HA : Hid (∀ k, k < l.length → (l.take (k + 1)).any (lowB first) = ((l.take k).any (lowB first) || lowB first (l.getD k 0))) := Lib.hid (fun k hk => by
    rw [List.take_succ_eq_append_getElem hk, List.any_append, List.getD, List.getElem?_eq_getElem hk]; simp)
  have HX : Hid (∀ k, (hk : k < l.length) → (l.take k).any (lowB first) = false → lowB first (l.getD k 0) = true → lowAt first l = (k : Int)) := Lib.hid (fun k hk h1 h2 => by
    have h2' : lowB first l[k] = true := by rwa [List.getD, List.getElem?_eq_getElem hk] at h2
    unfold lowAt
    rw [if_pos (List.any_eq_true.2 ⟨l[k], List.getElem_mem _, h2'⟩)]
    congr 1
    rw [List.findIdx_eq hk]
    refine ⟨h2', fun j hj => ?_⟩
    have h3 := List.any_eq_false.1 h1 l[j] (by
      rw [List.mem_take_iff_getElem]
      exact ⟨j, by omega, rfl⟩)
    simpa using h3)
  have HZ : Hid ((l.take l.length).any (lowB first) = false → lowAt first l = -1) := Lib.hid (fun h1 => by
    rw [List.take_length] at h1
    unfold lowAt
    rw [h1]
    rfl)
  generalize lowAt first l = R at *
  clear h hc
  go_enter Try.func35, Try.ntmps35
  go_wp2
  go_loopg [8] l.length (fun g i wr => ∃ (k : Nat), k + g = l.length ∧ i = .int .i64 (k : Int) ∧ Hid ((l.take k).any (lowB first) = false) ∧ w = wr)
  case atStart => exact ⟨0, by omega, rfl, Lib.hid (by simp), rfl⟩
  case round =>
    obtain ⟨k, hk, rfl, HN, rfl⟩ := hrel
    cases gk with
    | zero =>
      have hke : k = l.length := by omega
      have HF : Hid (R = -1) := Lib.hid (HZ.out (by rw [← hke]; exact HN.out))
      clear hk
      subst hke
      go_wp2
      go_ret
      exact ⟨by rw [HF.out]; rfl, rfl⟩
    | succ g =>
      have hlk : k < l.length := by omega
      obtain ⟨b, o, rfl, hc⟩ := H.out k (by rw [toI_length]; exact hlk)
      rw [toI_getD] at hc
      have H1 := Lib.hid (HA.out k hlk)
      have H2 := Lib.hid (HX.out k hlk HN.out)
      have HLX := Lib.hid (HL.out (l.getD k 0))
      generalize l.getD k 0 = x at *
      go_wp2_with fail
      refine HLX.out.mono ?_
      rintro e w' ⟨rfl, rfl⟩
      cases hv : lowB first x
      · have H3 : Hid ((l.take (k + 1)).any (lowB first) = false) := Lib.hid (by rw [H1.out, HN.out, hv]; rfl)
        clear hv
        go_wp2_with fail
        go_roundg g
        case measure => omega
        case rel => exact ⟨k + 1, by omega, by go_num, H3, rfl⟩
      · have H3 : Hid (R = (k : Int)) := Lib.hid (H2.out hv)
        clear hv
        go_wp2_with fail
        go_ret
        exact ⟨by rw [H3.out]; rfl, rfl⟩

theorem contains_low (a : Option Addr) (cap : Nat) (l : List Nat) (bl first : Nat) (w : World) (h : Row .u32 w a (toI l)) (hl : l.length ≤ 1048576) (hc : w.cell? ⟨bl, 0, none⟩ = some (.int .u32 (first : Int))) :
    Calls Try.prog 28 #[.slice a l.length cap, .func (.func 29) #[] #[.pointer (some ⟨bl, 0, none⟩)]] w fun e w' => e = .returned (.bool (l.any (lowB first))) ∧ w = w' := by
  have HI := Lib.hid (index_low a cap l bl first w h hl hc)
  have HG := Lib.hid (lowAt_ge first l)
  clear h hc
  generalize lowAt first l = R at *
  go_enter Try.func28, Try.ntmps28
  go_wp2_with fail
  refine HI.out.mono ?_
  rintro e w' ⟨rfl, rfl⟩
  go_wp2_with fail
  go_ret
  exact ⟨by rw [← HG.out]; rfl, rfl⟩
end Go.Proofs.Ytpilccalgegadaa
