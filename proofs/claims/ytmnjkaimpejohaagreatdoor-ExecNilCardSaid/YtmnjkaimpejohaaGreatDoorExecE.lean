/- Layer 13: the two memories that all statements begin with. -/
import Derived.Test.YtmnjkaimpejohaaGreatDoorRmPut
import Derived.Test.YtmnjkaimpejohaaGreatDoorVmRead
import Derived.Test.YtmnjkaimpejohaaGreatDoorVmMapG
namespace Go.Proofs.YtmnjkaimpejohaaGreatDoor
open Go.RowKit
set_option linter.unusedVariables false
set_option linter.unusedSimpArgs false

def rAd (k : Nat) : Nat := rAds.getD k 0
def rPm (k : Nat) : Nat := [5, 6, 6, 4].getD k 0
def atC : Array Value := #[.int .u64 65536, .int .u64 131072, .int .u64 135168, .int .u64 196608]
def pmC : Array Value := #[.int .i64 5, .int .i64 6, .int .i64 6, .int .i64 4]
def vAt : Nat → Nat → Option Pg
  | 0 => fun _ => none
  | k + 1 => mapV (vAt k) (rAd k / 4096) 1 (rPm k)
theorem rAd_ok : ∀ k : Fin 4, rAd k.val % 4096 = 0 ∧ 4096 ≤ rAd k.val ∧ rAd k.val < 140737488355328 ∧ rPm k.val < 8 ∧ checkF (rAd k.val) 1 (rPm k.val : Nat) = 0 ∧ ∀ x ∈ rAds.take k.val, x < rAd k.val := by decide
theorem take_ok : ∀ k, k < 4 → takeF (vAt k) 1 (rAd k / 4096) = none ∧ rAds.take (k + 1) = rAds.take k ++ [rAd k] ∧ atC[k]? = some (.int .u64 (rAd k : Int)) ∧ pmC[k]? = some (.int .i64 (rPm k : Int))
  | 0, _ => ⟨rfl, rfl, rfl, rfl⟩
  | 1, _ => ⟨rfl, rfl, rfl, rfl⟩
  | 2, _ => ⟨rfl, rfl, rfl, rfl⟩
  | 3, _ => ⟨rfl, rfl, rfl, rfl⟩
  | k + 4, h => by omega
/-- how the two memories stand: so many pages are mapped -/
structure BSt (w0 w : World) (mb rb gm kv kr ba bp : Nat) : Prop where
  ex : ∃ (S R : Nat → Prop) (F : Nat → Option Nat) (ad : Option Addr) (n c : Nat) (L : List RP), VmAt w mb S 8 kv (vAt kv) gm F ∧ RM w rb R ad n c L ∧ L.map (·.1) = rAds.take kr ∧ (∀ j, S j ∨ R j ∨ j = mb → w0.heap.size ≤ j ∧ j < w.heap.size) ∧ (∀ j, R j → j ≠ mb ∧ ¬ S j) ∧ (¬ S ba ∧ ¬ R ba ∧ ba ≠ mb ∧ ¬ S bp ∧ ¬ R bp ∧ bp ≠ mb)
  bel : Below w0.heap.size w0 w
  at_ : w.heap[ba]? = some (.cells atC 22)
  pm : w.heap[bp]? = some (.cells pmC 3)
section
variable {w0 w w' : World} {mb rb gm kv kr ba bp : Nat}
theorem BSt.below (h : BSt w0 w mb rb gm kv kr ba bp) (hb : Below w.heap.size w w') : BSt w0 w' mb rb gm kv kr ba bp := by
  obtain ⟨⟨S, R, F, ad, n, c, L, h1, h2, h3, h4, h5, h6⟩, hbel, hat, hpm⟩ := h
  exact ⟨⟨S, R, F, ad, n, c, L, h1.below hb, h2.below hb, h3, fun j hj => ⟨(h4 j hj).1, Nat.lt_of_lt_of_le (h4 j hj).2 hb.size⟩, h5, h6⟩, hbel.trans (hb.mono hbel.size), (hb.block _ (lt_of_block hat)).trans hat, (hb.block _ (lt_of_block hpm)).trans hpm⟩
theorem BSt.cells (h : BSt w0 w mb rb gm kv kr ba bp) {k : Nat} (hk : k < 4) : w.cell? ⟨ba, k, none⟩ = some (.int .u64 (rAd k : Int)) ∧ w.cell? ⟨bp, k, none⟩ = some (.int .i64 (rPm k : Int)) :=
  ⟨(cell_of_row _ _ k _ _ _ h.at_).trans (take_ok k hk).2.2.1, (cell_of_row _ _ k _ _ _ h.pm).trans (take_ok k hk).2.2.2⟩
end
theorem bst_map (w0 w : World) (mb rb gm k ba bp : Nat) (h : BSt w0 w mb rb gm k k ba bp) (hk : k < 4) :
    Calls Tryz.prog 12 #[.pointer (some ⟨mb, 0, none⟩), .int .u64 (rAd k : Int), .int .i64 1, .int .i64 (rPm k : Int)] w fun e w' => e = .returned .nilIface ∧ BSt w0 w' mb rb gm (k + 1) k ba bp := by
  obtain ⟨⟨S, R, F, ad, n, c, L, h1, h2, h3, h4, h5, h6⟩, hbel, hat, hpm⟩ := h
  obtain ⟨a1, a2, a3, a4, a5, -⟩ := rAd_ok ⟨k, hk⟩
  simp only at a1 a2 a3 a4 a5
  have hla := lt_of_block hat
  have hlp := lt_of_block hpm
  refine (map_good mb S 8 k (vAt k) gm F (rAd k) 1 (rPm k) w h1 (by omega) (by omega) a5 (take_ok k hk).1 (by omega)).mono ?_
  rintro e w' ⟨rfl, hkp, F', hv⟩
  have hs := hkp.size
  refine ⟨rfl, ⟨VGrow S w w', R, F', ad, n, c, L, hv, h2.kept (fun j hj hR => hkp.block j hj (fun hS => (h5 j hR).2 hS)), h3, fun j hj => ?_, fun j hj => ⟨(h5 j hj).1, fun hg => ?_⟩, ?_⟩, hbel.trans (hkp.below hbel.size (fun j hj hS => by have := (h4 j (.inl hS)).1; omega)), (hkp.block _ hla h6.1).trans hat, (hkp.block _ hlp h6.2.2.2.1).trans hpm⟩
  · rcases hj with (hj | ⟨g1, g2⟩) | hj | hj
    · have := h4 j (.inl hj); exact ⟨this.1, by omega⟩
    · exact ⟨Nat.le_trans hbel.size g1, g2⟩
    · have := h4 j (.inr (.inl hj)); exact ⟨this.1, by omega⟩
    · have := h4 j (.inr (.inr hj)); exact ⟨this.1, by omega⟩
  · rcases hg with hg | ⟨g1, g2⟩
    · exact (h5 j hj).2 hg
    · have := (h4 j (.inr (.inl hj))).2; omega
  · refine ⟨fun hg => ?_, h6.2.1, h6.2.2.1, fun hg => ?_, h6.2.2.2.2⟩
    · rcases hg with hg | ⟨g1, g2⟩
      · exact h6.1 hg
      · omega
    · rcases hg with hg | ⟨g1, g2⟩
      · exact h6.2.2.2.1 hg
      · omega
theorem bst_rmap (w0 w : World) (mb rb gm k ba bp : Nat) (h : BSt w0 w mb rb gm (k + 1) k ba bp) (hk : k < 4) (hn : ba ≠ rb ∧ bp ≠ rb) :
    Calls Tryz.prog 13 #[.pointer (some ⟨rb, 0, none⟩), .int .u64 (rAd k : Int), .int .i64 1, .int .i64 (rPm k : Int)] w fun e w' => (∃ v, e = .returned v) ∧ BSt w0 w' mb rb gm (k + 1) (k + 1) ba bp := by
  obtain ⟨⟨S, R, F, ad, n, c, L, h1, h2, h3, h4, h5, h6⟩, hbel, hat, hpm⟩ := h
  obtain ⟨a1, a2, a3, a4, a5, a6⟩ := rAd_ok ⟨k, hk⟩
  simp only at a1 a2 a3 a4 a5 a6
  have hla := lt_of_block hat
  have hlp := lt_of_block hpm
  have hln : n = k := by
    have := h2.len
    have e := congrArg List.length h3
    rw [List.length_map, List.length_take] at e
    have : rAds.length = 4 := rfl
    omega
  refine (rmap_ok rb R ad n c L (rAd k) (rPm k) w h2 (fun j hj => (h4 j (.inr (.inl hj))).2) a1 a2 a3 a4 (fun p hp => a6 p.1 (by rw [← h3]; exact List.mem_map_of_mem hp)) (by omega)).mono ?_
  rintro e w' ⟨hv, hkp, b, hb, ad', c', hm⟩
  have hs := hkp.size
  have hrb : ∀ j, j = mb ∨ S j → j ≠ rb := fun j hj e => by
    subst e
    rcases hj with hj | hj
    · exact (h5 j h2.self).1 hj
    · exact (h5 j h2.self).2 hj
  refine ⟨hv, ⟨S, VGrow R w w', F, ad', n + 1, c', _, h1.kept (fun j hj hS => hkp.block j hj (hrb j hS)), hm, ?_, fun j hj => ?_, fun j hj => ?_, ?_⟩, hbel.trans (hkp.below hbel.size (fun j hj hS => by have := (h4 j (.inr (.inl (hS ▸ h2.self)))).1; omega)), (hkp.block _ hla hn.1).trans hat, (hkp.block _ hlp hn.2).trans hpm⟩
  · rw [List.map_append, h3, (take_ok k hk).2.1]
    rfl
  · rcases hj with hj | (hj | ⟨g1, g2⟩) | hj
    · have := h4 j (.inl hj); exact ⟨this.1, by omega⟩
    · have := h4 j (.inr (.inl hj)); exact ⟨this.1, by omega⟩
    · exact ⟨Nat.le_trans hbel.size g1, g2⟩
    · have := h4 j (.inr (.inr hj)); exact ⟨this.1, by omega⟩
  · rcases hj with hj | ⟨g1, g2⟩
    · exact h5 j hj
    · have m1 := (h4 mb (.inr (.inr rfl))).2
      refine ⟨by omega, fun hS => ?_⟩
      have := (h4 j (.inl hS)).2
      omega
  · refine ⟨h6.1, fun hg => ?_, h6.2.2.1, h6.2.2.2.1, fun hg => ?_, h6.2.2.2.2.2⟩
    · rcases hg with hg | ⟨g1, g2⟩
      · exact h6.2.1 hg
      · omega
    · rcases hg with hg | ⟨g1, g2⟩
      · exact h6.2.2.2.2.1 hg
      · omega
/-- bytes within one page may be got at -/
theorem bar_one {V : Nat → Option Pg} {perm a n : Nat} {p : Pg} (hv : V (a / 4096) = some p) (hp : p.perm &&& perm = perm) (h : a % 4096 + n ≤ 4096) : barredF V perm a n = none := by
  unfold barredF
  rw [barF]
  by_cases h0 : n = 0
  · rw [if_pos h0]
  · rw [if_neg h0, hv]
    simp only
    rw [if_pos hp]
    have hs : stepF a n = n := by unfold stepF; omega
    rw [hs, Nat.sub_self]
    obtain ⟨f, rfl⟩ : ∃ f, n = f + 1 := ⟨n - 1, by omega⟩
    rw [barF, if_pos rfl]
theorem bar_none {V : Nat → Option Pg} {perm a : Nat} : barredF V perm a 0 = none := rfl
end Go.Proofs.YtmnjkaimpejohaaGreatDoor
