/- Layer 16, the document's own answer: which objects are left. -/
import Derived.Test.YtfckgagpfpnelaaGraphLive
namespace Go.Proofs.Ytfckgagpfpnelaa
open Go.RowKit
set_option linter.unusedVariables false
set_option linter.unusedSimpArgs false

theorem marks_put {n i : Nat} (l : List Nat) (h : i < n) (hl : i ∉ l) (z : Bool) : (marks n l).set i (.bool z) = marks n (if z then l ++ [i] else l) := by
  cases z with
  | true => exact marks_set l h
  | false =>
    apply List.ext_getElem?
    intro j
    rw [List.getElem?_set]
    by_cases hij : i = j
    · subst hij
      rw [if_pos rfl, if_pos (by rw [marks_length]; exact h), if_neg (by decide), marks_at l h]
      simp [hl]
    · rw [if_neg hij]
      rfl
theorem OwnB.put {w : World} {B g n : Nat} {e : TypeId} {l : List Nat} (h : OwnB w B e g n l) {i : Nat} (hi : i < n) (hl : i ∉ l) (z : Bool) : OwnB (w.setCell ⟨g, i, none⟩ (.bool z)) B e g n (if z then l ++ [i] else l) := by
  have := (World.ownsRow.stored h i (.bool z)).1
  rw [marks_put l hi hl z] at this
  exact this

/-- marks that are on their way: all of them reached, all that is asked for among them -/
structure Lv (deps : List (List Int)) (counts : List Int) (M : List Nat) : Prop where
  good : Good deps.length M
  sub : ∀ x ∈ M, Reach deps (asked counts) x
  root : ∀ x, x < counts.length → x < deps.length → 0 < counts.getD x 0 → x ∈ M
theorem Lv.add {deps : List (List Int)} {counts : List Int} {M : List Nat} (h : Lv deps counts M) {i x : Nat} (hi : i ∈ M) (he : Edge deps i x) (hx : x ∉ M) : Lv deps counts (M ++ [x]) := by
  refine ⟨⟨?_, fun z hz => ?_⟩, fun z hz => ?_, fun z h1 h2 h3 => by simp [h.root z h1 h2 h3]⟩
  · rw [List.nodup_append]
    refine ⟨h.good.1, by simp, ?_⟩
    intro a ha b hb e
    simp only [List.mem_singleton] at hb
    subst hb
    exact hx (e ▸ ha)
  · rcases List.mem_append.1 hz with hz | hz
    · exact h.good.2 z hz
    · simp only [List.mem_singleton] at hz
      subst hz
      exact he.2
  · rcases List.mem_append.1 hz with hz | hz
    · exact h.sub z hz
    · simp only [List.mem_singleton] at hz
      subst hz
      exact .step (h.sub i hi) he
theorem mem_asked {counts : List Int} {x : Nat} : (x : Int) ∈ asked counts ↔ x < counts.length ∧ 0 < counts.getD x 0 := by
  rw [asked, mem_toI (by omega), Int.toNat_natCast, askedTo, List.mem_filter, List.mem_range, decide_eq_true_eq]
/-- when nothing more comes they are all -/
theorem Lv.done {deps : List (List Int)} {counts : List Int} {M : List Nat} (h : Lv deps counts M) (hc : ∀ i ∈ M, ∀ x, Edge deps i x → x ∈ M) : ∀ x, x ∈ M ↔ x ∈ scopeF deps (asked counts) := by
  intro x
  rw [mem_scopeF]
  constructor
  · exact h.sub x
  · intro hr
    induction hr with
    | root h1 h2 =>
      obtain ⟨h3, h4⟩ := mem_asked.1 h1
      exact h.root _ h3 h2 h4
    | step _ h2 ih => exact hc _ ih _ h2
/-- the marks of the first k that are asked for -/
def firsts (n : Nat) (counts : List Int) (k : Nat) : List Nat := askedTo counts k
theorem lv_start {deps : List (List Int)} {counts : List Int} {k : Nat} (hk : k = min deps.length counts.length) : Lv deps counts (askedTo counts k) := by
  have hm : ∀ x, x ∈ askedTo counts k ↔ x < k ∧ 0 < counts.getD x 0 := fun x => by
    rw [askedTo, List.mem_filter, List.mem_range, decide_eq_true_eq]
  refine ⟨⟨?_, fun x hx => by have := (hm x).1 hx; omega⟩, fun x hx => ?_, fun x h1 h2 h3 => (hm x).2 ⟨by omega, h3⟩⟩
  · unfold askedTo
    exact List.nodup_range.filter _
  · obtain ⟨h1, h2⟩ := (hm x).1 hx
    exact .root (mem_asked.2 ⟨by omega, h2⟩) (by omega)
/-- a pass: nothing has come up to here, or something has -/
def Pass (deps : List (List Int)) (M M' : List Nat) (more : Bool) (C : Prop) : Prop := (more = false ∧ M' = M ∧ C) ∨ (more = true ∧ M.length < M'.length)
/-- the edges of the objects ahead of one, and its first ones, lead to what is marked -/
def Upto (deps : List (List Int)) (M : List Nat) (i k : Nat) : Prop := (∀ j, j < i → j ∈ M → ∀ x, Edge deps j x → x ∈ M) ∧ (i ∈ M → ∀ q, q < k → ∀ x : Nat, (deps.getD i []).getD q 0 = (x : Int) → x < deps.length → x ∈ M)
theorem Upto.turn {deps : List (List Int)} {M : List Nat} {i : Nat} (h : Upto deps M i (deps.getD i []).length) : Upto deps M (i + 1) 0 := by
  refine ⟨fun j hj hm x hx => ?_, fun _ q hq => by omega⟩
  by_cases hji : j = i
  · subst hji
    obtain ⟨q, hq, he⟩ := List.getElem_of_mem hx.1
    exact h.2 hm q hq x (by rw [getD_at hq]; exact he) hx.2
  · exact h.1 j (by omega) hm x hx
theorem Upto.all {deps : List (List Int)} {M : List Nat} (h : Upto deps M deps.length 0) (hg : Good deps.length M) : ∀ i ∈ M, ∀ x, Edge deps i x → x ∈ M := fun i hi x hx => h.1 i (hg.2 i hi) hi x hx
theorem Upto.next {deps : List (List Int)} {M : List Nat} {i k : Nat} (h : Upto deps M i k) (hn : i ∈ M → ∀ x : Nat, (deps.getD i []).getD k 0 = (x : Int) → x < deps.length → x ∈ M) : Upto deps M i (k + 1) :=
  ⟨h.1, fun hm q hq x he hx => by
    by_cases hqk : q = k
    · subst hqk; exact hn hm x he hx
    · exact h.2 hm q (by omega) x he hx⟩
theorem Pass.imp {deps : List (List Int)} {M M' : List Nat} {b : Bool} {C C' : Prop} (h : Pass deps M M' b C) (hi : C → C') : Pass deps M M' b C' := by
  rcases h with ⟨h1, h2, h3⟩ | h
  · exact .inl ⟨h1, h2, hi h3⟩
  · exact .inr h
theorem Pass.grow {deps : List (List Int)} {M M' : List Nat} {b : Bool} {C C' : Prop} (h : Pass deps M M' b C) (x : Nat) : Pass deps M (M' ++ [x]) true C' := by
  refine .inr ⟨rfl, ?_⟩
  rcases h with ⟨_, h2, _⟩ | ⟨_, h2⟩
  · rw [h2]; simp
  · rw [List.length_append]; simp; omega

set_option maxRecDepth 100000 in
set_option maxHeartbeats 4000000 in
theorem refLive_any (w : World) (da : Option Addr) (dc : Nat) (deps : List (List Int)) (ca : Option Addr) (cc : Nat) (counts : List Int) (hn : deps.length ≤ 1048576) (hd : DRow w da deps) (hr : Row .i64 w ca counts) (hx : I64s counts) (hcl : counts.length ≤ 1048576) :
    Calls Try.prog 15 #[.slice da deps.length dc, .slice ca counts.length cc] w (MarkAns deps.length (scopeF deps (asked counts)) w) := by
  have HD := Lib.hid hd
  have HR := Lib.hid hr
  have HX := Lib.hid hx
  have HAS := Lib.hid (askedTo_succ counts)
  have HLT := Lib.hid (fun k x => @askedTo_lt counts k x)
  have HST := Lib.hid (fun k => @lv_start deps counts k)
  have HDN := Lib.hid (fun M => @Lv.done deps counts M)
  obtain ⟨n, hnn⟩ : ∃ n, deps.length = n := ⟨_, rfl⟩
  have HN := Lib.hid hnn
  rw [hnn] at HST hn ⊢
  obtain ⟨cn, hcn⟩ : ∃ cn, counts.length = cn := ⟨_, rfl⟩
  have HCN := Lib.hid hcn
  rw [hcn] at HST hcl ⊢
  obtain ⟨S, hS⟩ : ∃ S, scopeF deps (asked counts) = S := ⟨_, rfl⟩
  rw [hS] at HDN ⊢
  clear hd hr hx hnn hS hcn
  have B0 := Lib.hid (Below.refl w.heap.size w)
  go_enter Try.func15, Try.ntmps15
  go_wp2_with (at_make; go_loud (refine wpList_make_marks rfl (.tmp 12) (.tmp 12) bools boolInfo rfl w.heap.size w n .i64 .i64 (n : Int) (n : Int) rfl rfl rfl rfl hn B0.out (Nat.le_refl _) ?_); intro lb w4 ho4 hg4 hb4 hb4'; have O4 := Lib.hid ho4; have B4 := Lib.hid hb4; clear ho4 hg4 hb4 hb4' B0)
  go_loopg [6] (min n cn) (fun g i wr => ∃ k : Nat, k + g = min n cn ∧ i = .int .i64 (k : Int) ∧ Hid (OwnB wr w.heap.size 4 lb n (askedTo counts k)) ∧ Hid (Below w.heap.size w wr))
  case atStart => exact ⟨0, by omega, rfl, Lib.hid (by simpa [askedTo] using O4.out), B4⟩
  case round =>
    obtain ⟨k, hk, rfl, OW, BW⟩ := hrel
    cases gk with
    | succ g =>
      have hlk : k < n := by omega
      have hlc : k < cn := by omega
      obtain ⟨b3, o3, rfl, hc3⟩ := (HR.out.below BW.out) k (by rw [HCN.out]; exact hlc)
      have hmk := OW.out.cell hlk
      have hmf := OW.out.free k
      have HK := Lib.hid (HAS.out k)
      have HNM : Hid (k ∉ askedTo counts k) := Lib.hid (fun h => by have := HLT.out k k h; omega)
      generalize counts.getD k 0 = z at *
      obtain ⟨A, hA⟩ : ∃ A, askedTo counts k = A := ⟨_, rfl⟩
      rw [hA] at OW HK HNM hmk
      clear hA
      go_wp2
      go_roundg g
      case measure => omega
      case rel =>
        refine ⟨k + 1, by omega, by go_num, Lib.hid ?_, Lib.hid (BW.out.setCell OW.out.blockGe.1 _)⟩
        have := OW.out.put hlk HNM.out (decide (0 < z))
        rw [HK.out]
        simpa using this
    | zero =>
      have HL := Lib.hid (HST.out k (by omega))
      generalize askedTo counts k = M0 at *
      have hM0 : n + 1 ≤ M0.length + (n + 1) := by omega
      have hway : (k < n ∧ ¬ k < cn) ∨ ¬ k < n := by omega
      have HM0 := Lib.hid OW.out
      have HB0 := Lib.hid BW.out
      clear OW BW O4 B4 HAS HLT HR HX
      rcases hway with ⟨hlk, hlc⟩ | hlk
      all_goals
        go_wp2
        go_loopg [7] (n + 1) (fun g v wr => ∃ (b : Bool) (M : List Nat), v = .bool b ∧ (b = false ∨ n + 1 ≤ M.length + g) ∧ Hid (b = false → ∀ i ∈ M, ∀ x, Edge deps i x → x ∈ M) ∧ Hid (Lv deps counts M) ∧ Hid (OwnB wr w.heap.size 4 lb n M) ∧ Hid (Below w.heap.size w wr))
        case atStart => exact ⟨true, M0, rfl, .inr (by omega), Lib.hid (fun h => by cases h), HL, HM0, HB0⟩
        case round =>
          obtain ⟨b, M, rfl, hb, HC, LV, OW, BW⟩ := hrel
          have hml : M.length ≤ n := by have := nodup_le LV.out.good; rw [HN.out] at this; exact this
          cases b with
          | false =>
            have HS := Lib.hid (HDN.out M LV.out (HC.out rfl))
            go_wp2
            go_ret
            exact ⟨lb, rfl, OW.out.congr HS.out, BW.out⟩
          | true =>
            clear HC
            have hb' : n + 1 ≤ M.length + gk := by rcases hb with hb | hb; cases hb; exact hb
            clear hb
            obtain ⟨g, rfl⟩ : ∃ g, gk = g + 1 := ⟨gk - 1, by omega⟩
            have HP0 : Hid (Pass deps M M false (Upto deps M 0 0)) := Lib.hid (.inl ⟨rfl, rfl, fun j hj => by omega, fun _ q hq => by omega⟩)
            go_wp2
            go_loopg [7, 8] n (fun g v i wr => ∃ (k : Nat) (b : Bool) (M' : List Nat), k + g = n ∧ i = .int .i64 (k : Int) ∧ v = .bool b ∧ Hid (Pass deps M M' b (Upto deps M' k 0)) ∧ Hid (Lv deps counts M') ∧ Hid (OwnB wr w.heap.size 4 lb n M') ∧ Hid (Below w.heap.size w wr))
            case atStart => exact ⟨0, false, M, by omega, rfl, rfl, HP0, LV, OW, BW⟩
            clear HP0 LV OW BW
            case round =>
              obtain ⟨k, b, M', hk, rfl, rfl, HP, LV, OW, BW⟩ := hrel
              cases gk with
              | zero =>
                have hke : k = n := by omega
                subst hke
                go_wp2
                go_roundg g
                case measure => omega
                case rel =>
                  refine ⟨b, M', rfl, ?_, Lib.hid ?_, LV, OW, BW⟩
                  · rcases HP.out with ⟨h1, -, -⟩ | ⟨-, h2⟩
                    · exact .inl h1
                    · exact .inr (by omega)
                  · intro hbf
                    rcases HP.out with ⟨-, h2, h3⟩ | ⟨h1, -⟩
                    · exact Upto.all (by rw [HN.out]; exact h3) LV.out.good
                    · rw [h1] at hbf; cases hbf
              | succ g2 =>
                have hlk : k < n := by omega
                obtain ⟨b2, o2, ai, ci, rfl, hlt3, hcdd, hri, hxi, hli⟩ := HD.out k (by rw [HN.out]; exact hlk)
                have hcd := (BW.out.cell (p := ⟨b2, o2 + k, none⟩) hlt3).trans hcdd
                have HRI := Lib.hid hri
                have HXI := Lib.hid hxi
                obtain ⟨L, hL⟩ : ∃ L, (deps.getD k []).length = L := ⟨_, rfl⟩
                have HL := Lib.hid hL
                rw [hL] at hli
                have hcc := Lib.hid hcdd
                clear hri hxi hL
                have HEDGE : Hid (∀ q, q < L → ∀ x : Nat, (deps.getD k []).getD q 0 = (x : Int) → x < n → Edge deps k x) := Lib.hid (fun q hq x he hx => ⟨by
                  rw [← he, getD_at (by rw [HL.out]; exact hq)]; exact List.getElem_mem _, by rw [HN.out]; exact hx⟩)
                have HP1 : Hid (Pass deps M M' b (Upto deps M' k 0)) := HP
                have HUT : Hid (∀ M2, Upto deps M2 k L → Upto deps M2 (k + 1) 0) := Lib.hid (fun M2 h => by rw [← HL.out] at h; exact Upto.turn h)
                have HUN : Hid (∀ M2 q, Upto deps M2 k q → (k ∈ M2 → ∀ x : Nat, (deps.getD k []).getD q 0 = (x : Int) → x < n → x ∈ M2) → Upto deps M2 k (q + 1)) := Lib.hid (fun M2 q h h2 => h.next (fun a x b c => h2 a x b (by rw [← HN.out]; exact c)))
                rw [HL.out] at hcd hcc
                clear HP
                go_wp2
                go_loopg [7, 9] L (fun g v i wq => ∃ (q : Nat) (b : Bool) (M2 : List Nat), q + g = L ∧ i = .int .i64 (q : Int) ∧ v = .bool b ∧ Hid (Pass deps M M2 b (Upto deps M2 k q)) ∧ Hid (Lv deps counts M2) ∧ Hid (OwnB wq w.heap.size 4 lb n M2) ∧ Hid (Below w.heap.size w wq))
                case atStart => exact ⟨0, b, M', by omega, rfl, rfl, HP1, LV, OW, BW⟩
                clear HP1 LV OW BW hcd
                case round =>
                  obtain ⟨q, b, M2, hq, rfl, rfl, HP, LV, OW, BW⟩ := hrel
                  have hcd := (BW.out.cell (p := ⟨b2, o2 + k, none⟩) hlt3).trans hcc.out
                  cases gk with
                  | zero =>
                    have hqe : q = L := by omega
                    subst hqe
                    go_wp2
                    go_roundg g2
                    case measure => omega
                    case rel => exact ⟨k + 1, b, M2, by omega, by go_num, rfl, Lib.hid (HP.out.imp (HUT.out M2)), LV, OW, BW⟩
                  | succ g3 =>
                    have hlq : q < L := by omega
                    obtain ⟨b6, o6, rfl, hc6⟩ := (HRI.out.below BW.out) q (by rw [HL.out]; exact hlq)
                    have hxb := HXI.out.at (show q < (deps.getD k []).length by rw [HL.out]; exact hlq)
                    have HE := Lib.hid (HEDGE.out q hlq)
                    have HU := Lib.hid (HUN.out M2 q)
                    generalize (deps.getD k []).getD q 0 = x at *
                    have hmk := OW.out.cell hlk
                    have hmf := OW.out.free k
                    by_cases hkm : k ∈ M2
                    · rw [decide_eq_true hkm] at hmk
                      have HKM := Lib.hid hkm
                      clear hkm
                      by_cases hx0 : 0 ≤ x
                      · obtain ⟨y, rfl⟩ : ∃ y : Nat, x = (y : Int) := ⟨x.toNat, by omega⟩
                        by_cases hxn : y < n
                        · have hxn' : (y : Int) < (n : Int) := by omega
                          have hyk := OW.out.cell hxn
                          have hyf := OW.out.free y
                          by_cases hym : y ∈ M2
                          · rw [decide_eq_true hym] at hyk
                            have HYM := Lib.hid hym
                            clear hym
                            go_wp2
                            go_roundg g3
                            case measure => omega
                            case rel => exact ⟨q + 1, b, M2, by omega, by go_num, rfl, Lib.hid (HP.out.imp (fun h => HU.out h (fun _ z e _ => (show y = z by omega) ▸ HYM.out))), LV, OW, BW⟩
                          · rw [decide_eq_false hym] at hyk
                            have HYM := Lib.hid hym
                            clear hym
                            go_wp2
                            go_roundg g3
                            case measure => omega
                            case rel => exact ⟨q + 1, true, M2 ++ [y], by omega, by go_num, rfl, Lib.hid (HP.out.grow y), Lib.hid (LV.out.add HKM.out (HE.out y rfl hxn) HYM.out), Lib.hid (OW.out.set hxn), Lib.hid (BW.out.setCell OW.out.blockGe.1 _)⟩
                        · have hxn' : ¬ (y : Int) < (n : Int) := by omega
                          go_wp2
                          go_roundg g3
                          case measure => omega
                          case rel => exact ⟨q + 1, b, M2, by omega, by go_num, rfl, Lib.hid (HP.out.imp (fun h => HU.out h (fun _ z e hz => by omega))), LV, OW, BW⟩
                      · go_wp2
                        go_roundg g3
                        case measure => omega
                        case rel => exact ⟨q + 1, b, M2, by omega, by go_num, rfl, Lib.hid (HP.out.imp (fun h => HU.out h (fun _ z e hz => by omega))), LV, OW, BW⟩
                    · rw [decide_eq_false hkm] at hmk
                      have HKM := Lib.hid hkm
                      clear hkm
                      go_wp2
                      go_roundg g3
                      case measure => omega
                      case rel => exact ⟨q + 1, b, M2, by omega, by go_num, rfl, Lib.hid (HP.out.imp (fun h => HU.out h (fun hm => absurd hm HKM.out))), LV, OW, BW⟩
end Go.Proofs.Ytfckgagpfpnelaa
