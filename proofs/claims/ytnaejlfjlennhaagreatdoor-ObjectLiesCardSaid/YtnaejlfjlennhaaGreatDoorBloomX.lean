/- Layer 7: a word of a file, a chain word, the greatest bucket. -/
import Derived.Test.YtnaejlfjlennhaaGreatDoorOnes
import Derived.Test.YtnaejlfjlennhaaGreatDoorBox
import Derived.Deep.AppendLies
import Derived.Deep.RegionHeld3
import Derived.Laws.CopyOwn
import Derived.Laws.Tables
namespace Go.Proofs.YtnaejlfjlennhaaGreatDoor
open Go.RowKit
set_option linter.unusedVariables false
set_option linter.unusedSimpArgs false

def NumErr (F : Nat × Nat) (k : IntKind) (w : World) (e : Ending) (w' : World) : Prop := e = .returned (.tuple #[.int k (F.1 : Int), errV (F.2 : Int)]) ∧ Below w.heap.size w w'

set_option maxRecDepth 100000 in
set_option maxHeartbeats 4000000 in
theorem word_any (a : Option Addr) (cap : Nat) (bs : List Nat) (ty en : Int) (p : Option Addr) (pc : Nat) (ps : List PT) (addr : Nat) (w : World) (hb : BRow w a bs) (hbl : bs.length ≤ 140737488351232) (hbc : bs.length ≤ cap)
    (h : PRow w p ps) (hl : ps.length ≤ 140737488351232) (ha : addr < 18446744073709551616) :
    Calls Tryz.prog 104 #[fileV a bs.length cap ty en p ps.length pc, .int .u64 addr] w (NumErr (wordF bs ps addr) .u32 w) := by
  have HO := Lib.hid (fun (w1 : World) (hb1 : Below w.heap.size w w1) => offset_any ty en p pc ps addr 4 w1 (h.below hb1) hl ha (by omega))
  have HB := Lib.hid hb
  have hlt := offF_lt ps addr 4
  have B1 : Hid (Below w.heap.size w (w.alloc (.cells #[.slice a bs.length cap, .int .i64 ty, .int .u64 en, .slice p ps.length pc] 127))) := Lib.hid ((Below.refl _ _).alloc (Nat.le_refl _) _)
  clear hb h
  have FB : Hid (∀ w1, Below (w.alloc (.cells #[.slice a bs.length cap, .int .i64 ty, .int .u64 en, .slice p ps.length pc] 127)).heap.size (w.alloc (.cells #[.slice a bs.length cap, .int .i64 ty, .int .u64 en, .slice p ps.length pc] 127)) w1 → w1.cell? ⟨w.heap.size, 0, none⟩ = some (.slice a bs.length cap)) := Lib.hid (by
    intro w1 h1
    have e1 : w1.heap[w.heap.size]? = some (.cells #[.slice a bs.length cap, .int .i64 ty, .int .u64 en, .slice p ps.length pc] 127) := by
      rw [h1.block _ (by simp)]
      exact heap_alloc_new _ _
    rw [cell_of_row _ _ _ _ _ _ e1]
    rfl)
  unfold fileV headV at *
  rcases offF_code ps addr 4 with hc | hc
  · obtain ⟨o, ho⟩ : ∃ o, offF ps addr 4 = (o, 0) := ⟨(offF ps addr 4).1, by rw [← hc]⟩
    rw [ho] at HO hlt
    simp only at hlt
    by_cases h1 : o ≤ bs.length ∧ 4 ≤ bs.length - o
    · rw [wordF_yes ho h1.1 h1.2]
      obtain ⟨h1, h2⟩ := h1
      have h3 : ((bs.drop o).take 4).length = 4 := by simp; omega
      have HN := Lib.hid (fun (w1 : World) (hb1 : Below w.heap.size w w1) => by
        have := number_any (a.map (·.add o)) (cap - o) ((bs.drop o).take 4) w1 ((HB.out.below hb1).cut o 4) (by omega)
        rwa [h3] at this)
      have hq1 := numOf_lt ((bs.drop o).take 4) (fun b h => HB.out.2 b (List.mem_of_mem_drop (List.mem_of_mem_take h)))
      rw [h3] at hq1
      have hq : numOf ((bs.drop o).take 4) < 4294967296 := hq1
      have hwr : IntKind.u32.wrap ((numOf ((bs.drop o).take 4) : Nat) : Int) = ((numOf ((bs.drop o).take 4) : Nat) : Int) := by rw [IntKind.wrap_u32]; omega
      generalize numOf ((bs.drop o).take 4) = q at *
      obtain ⟨b, off, rfl, -, -, -⟩ := HB.out.at (i := o) (by omega)
      simp only [Option.map_some, WideShapes.add_plain] at HN
      have hne : ¬ cap = o := by omega
      clear hq hq1 h3 ho hc
      go_enter Tryz.func104, Tryz.ntmps104
      go_wp2_with fail
      refine (HO.out _ B1.out).mono ?_
      rintro e w2 ⟨rfl, hb2⟩
      have hf := FB.out w2 hb2
      have B2 := Lib.hid (bstep B1.out hb2)
      clear hb2 FB
      rw [errV0]
      go_wp2_with fail
      refine (HN.out w2 B2.out).mono ?_
      rintro e w3 ⟨rfl, rfl⟩
      go_wp2_with fail
      go_ret2
      exact ⟨rfl, B2.out⟩
    · rw [wordF_out ho h1]
      rcases Decidable.em (o ≤ bs.length) with h2 | h2
      · have h3 : (bs.length : Int) - (o : Int) < 4 := by omega
        clear ho hc h1
        go_enter Tryz.func104, Tryz.ntmps104
        go_wp2_with fail
        refine (HO.out _ B1.out).mono ?_
        rintro e w2 ⟨rfl, hb2⟩
        have hf := FB.out w2 hb2
        have B2 := Lib.hid (bstep B1.out hb2)
        clear hb2 FB
        rw [errV0]
        go_wp2_with fail
        go_ret2
        exact ⟨rfl, B2.out⟩
      · have h3 : (bs.length : Int) < (o : Int) := by omega
        clear ho hc h1 h2
        go_enter Tryz.func104, Tryz.ntmps104
        go_wp2_with fail
        refine (HO.out _ B1.out).mono ?_
        rintro e w2 ⟨rfl, hb2⟩
        have hf := FB.out w2 hb2
        have B2 := Lib.hid (bstep B1.out hb2)
        clear hb2 FB
        rw [errV0]
        go_wp2_with fail
        go_ret2
        exact ⟨rfl, B2.out⟩
  · rw [wordF_off hc]
    rw [hc] at HO
    clear hc hlt
    go_enter Tryz.func104, Tryz.ntmps104
    go_wp2_with fail
    refine (HO.out _ B1.out).mono ?_
    rintro e w2 ⟨rfl, hb2⟩
    have hf := FB.out w2 hb2
    have B2 := Lib.hid (bstep B1.out hb2)
    clear hb2 FB
    rw [errV4]
    go_wp2_with fail
    go_ret2
    exact ⟨rfl, B2.out⟩
end Go.Proofs.YtnaejlfjlennhaaGreatDoor
/- Layer 7: a chain word, the greatest bucket, how many symbols a table of the second kind tells. -/
namespace Go.Proofs.YtnaejlfjlennhaaGreatDoor
open Go.RowKit
set_option linter.unusedVariables false
set_option linter.unusedSimpArgs false

/-- a table of the second kind as a value -/
def bloomV (a : Option Addr) (len cap : Nat) (ty en : Int) (p : Option Addr) (n pc : Nat) (t : BT) (ba : Option Addr) (bc : Nat) (ua : Option Addr) (uc : Nat) : Value :=
  .agg #[.slice a len cap, .int .i64 ty, .int .u64 en, .slice p n pc, .int .u32 (t.first : Int), .int .u32 (t.shift : Int), .slice ba t.bloom.length bc, .slice ua t.buckets.length uc, .int .u64 (t.base : Int)]

theorem link_num (base first i : Nat) (hb : base < 18446744073709551616) (hf : first < 4294967296) (hi : i < 4294967296) :
    IntKind.u32.wrap ((i : Int) - (first : Int)) = (((i + 4294967296 - first) % 4294967296 : Nat) : Int) := by
  rw [IntKind.wrap_u32]
  omega
theorem link_num2 (base d : Nat) : IntKind.u64.wrap ((base : Int) + 4 * (d : Int)) = (((base + 4 * d) % 18446744073709551616 : Nat) : Int) := by
  rw [IntKind.wrap_u64]
  omega

set_option maxRecDepth 100000 in
set_option maxHeartbeats 4000000 in
theorem bchain_any (a : Option Addr) (cap : Nat) (bs : List Nat) (ty en : Int) (p : Option Addr) (pc : Nat) (ps : List PT) (t : BT) (ba : Option Addr) (bc : Nat) (ua : Option Addr) (uc : Nat) (i : Nat) (w : World) (hb : BRow w a bs) (hbl : bs.length ≤ 140737488351232) (hbc : bs.length ≤ cap)
    (h : PRow w p ps) (hl : ps.length ≤ 140737488351232) (hf : t.first < 4294967296) (hbase : t.base < 18446744073709551616) (hi : i < 4294967296) :
    Calls Tryz.prog 87 #[bloomV a bs.length cap ty en p ps.length pc t ba bc ua uc, .int .u32 (i : Int)] w (NumErr (linkF bs ps t i) .u32 w) := by
  have HW := Lib.hid (fun (w1 : World) (addr : Nat) (hb1 : Below w.heap.size w w1) (ha : addr < 18446744073709551616) => word_any a cap bs ty en p pc ps addr w1 (hb.below hb1) hbl hbc (h.below hb1) hl ha)
  clear hb h
  unfold linkF linkAt
  have e1 := link_num t.base t.first i hbase hf hi
  have hd : (i + 4294967296 - t.first) % 4294967296 < 4294967296 := Nat.mod_lt _ (by omega)
  obtain ⟨fi, hfi⟩ : ∃ fi, t.first = fi := ⟨_, rfl⟩
  obtain ⟨bl, hbl0⟩ : ∃ bl, t.bloom.length = bl := ⟨_, rfl⟩
  obtain ⟨ul, hul0⟩ : ∃ ul, t.buckets.length = ul := ⟨_, rfl⟩
  obtain ⟨ba0, hba0⟩ : ∃ ba0, t.base = ba0 := ⟨_, rfl⟩
  obtain ⟨sh, hsh⟩ : ∃ sh, t.shift = sh := ⟨_, rfl⟩
  unfold bloomV fileV at *
  rw [hfi, hbl0, hul0, hba0, hsh]
  rw [hfi] at e1 hd
  clear hfi hbl0 hul0 hsh hf
  rw [hba0] at hbase
  generalize (i + 4294967296 - fi) % 4294967296 = d at *
  have e2 := link_num2 ba0 d
  have hL : (ba0 + 4 * d) % 18446744073709551616 < 18446744073709551616 := Nat.mod_lt _ (by omega)
  generalize (ba0 + 4 * d) % 18446744073709551616 = L at *
  have hwd : wrap64 (d : Int) = (d : Int) := wrap_word hd
  have B1 : Hid (Below w.heap.size w (w.alloc (.cells #[.slice a bs.length cap, .int .i64 ty, .int .u64 en, .slice p ps.length pc, .int .u32 (fi : Int), .int .u32 (sh : Int), .slice ba bl bc, .slice ua ul uc, .int .u64 (ba0 : Int)] 134))) := Lib.hid ((Below.refl _ _).alloc (Nat.le_refl _) _)
  have HWL := Lib.hid (HW.out _ L B1.out hL)
  clear HW hL hba0 hbase
  generalize wordF bs ps L = F at *
  go_enter Tryz.func87, Tryz.ntmps87
  go_wp2_with fail
  refine HWL.out.mono ?_
  rintro e w2 ⟨rfl, hb2⟩
  have B2 := Lib.hid (bstep B1.out hb2)
  clear hb2 HWL B1
  go_wp2_with fail
  go_ret2
  exact ⟨rfl, B2.out⟩

set_option maxRecDepth 100000 in
set_option maxHeartbeats 4000000 in
theorem max_any (a : Option Addr) (cap : Nat) (l : List Nat) (w : World) (h : Row .u32 w a (toI l)) (h0 : 0 < l.length) (hl : l.length ≤ 1048576) :
    Calls Tryz.prog 86 #[.slice a l.length cap] w fun e w' => e = .returned (.int .u32 ((maxF l : Nat) : Int)) ∧ w = w' := by
  have H := Lib.hid h
  obtain ⟨b0, o0, rfl, hc0⟩ := h 0 (by rw [toI_length]; exact h0)
  rw [toI_getD] at hc0
  have HS : Hid (∀ k, k < l.length → maxF (l.take (k + 1)) = Nat.max (maxF (l.take k)) (l.getD k 0)) := Lib.hid (fun k hk => by
    rw [List.take_succ_eq_append_getElem hk, maxF_snoc, List.getD, List.getElem?_eq_getElem hk]; rfl)
  have H1 : Hid (l.getD 0 0 = maxF (l.take 1)) := Lib.hid (by
    rw [HS.out 0 h0]
    simp [maxF])
  have HE : Hid (maxF (l.take l.length) = maxF l) := Lib.hid (by rw [List.take_length])
  rw [Nat.add_zero] at hc0
  generalize l.getD 0 0 = x0 at *
  clear h
  go_enter Tryz.func86, Tryz.ntmps86
  go_wp2
  go_loopg [3, 4] (l.length - 1) (fun g m i wr => ∃ (k : Nat) (x : Nat), k + g = l.length ∧ 0 < k ∧ i = .int .i64 (k : Int) ∧ m = .int .u32 (x : Int) ∧ Hid (x = maxF (l.take k)) ∧ w = wr)
  case atStart => exact ⟨1, x0, by omega, by omega, rfl, rfl, H1, rfl⟩
  case round =>
    obtain ⟨k, x, hk, hk0, rfl, rfl, HX, rfl⟩ := hrel
    cases gk with
    | zero =>
      have hke : k = l.length := by omega
      have HF : Hid (x = maxF l) := Lib.hid (by rw [HX.out, hke, HE.out])
      clear hk hk0
      subst hke
      go_wp2
      go_ret
      exact ⟨by rw [← HF.out]; rfl, rfl⟩
    | succ g =>
      have hlk : k < l.length := by omega
      obtain ⟨b, o, e, hc⟩ := H.out k (by rw [toI_length]; exact hlk)
      cases e
      rw [toI_getD] at hc
      have HN := HS.out k hlk
      generalize l.getD k 0 = y at *
      have HY : Hid (maxF (l.take (k + 1)) = Nat.max x y) := Lib.hid (by rw [HN, HX.out])
      clear HN
      have hmx : max (x : Int) (y : Int) = ((Nat.max x y : Nat) : Int) := by
        show max (x : Int) (y : Int) = ((max x y : Nat) : Int)
        omega
      have HMX := Lib.hid hmx
      clear hmx
      go_wp2_with fail
      go_roundg g
      case measure => omega
      case rel => exact ⟨k + 1, Nat.max x y, by omega, by omega, by go_num, by rw [HMX.out], by rw [HY.out]; exact Lib.hid rfl, rfl⟩
end Go.Proofs.YtnaejlfjlennhaaGreatDoor
/- Layer 7: is a bucket below the first symbol? -/
namespace Go.Proofs.YtnaejlfjlennhaaGreatDoor
open Go.RowKit
set_option linter.unusedVariables false
set_option linter.unusedSimpArgs false

def lowB (first x : Nat) : Bool := decide (¬ x = 0) && decide (x < first)
theorem lowB_zero (first : Nat) : lowB first 0 = false := by simp [lowB]
theorem lowB_pos {first x : Nat} (h : ¬ x = 0) : lowB first x = decide (x < first) := by simp [lowB, h]

theorem low_any (bl first x : Nat) (w : World) (hc : w.cell? ⟨bl, 0, none⟩ = some (.int .u32 (first : Int))) :
    Calls Tryz.prog 85 #[.int .u32 (x : Int), .pointer (some ⟨bl, 0, none⟩)] w fun e w' => e = .returned (.bool (lowB first x)) ∧ w = w' := by
  by_cases h0 : x = 0
  · subst h0
    rw [lowB_zero]
    go_enter Tryz.func85, Tryz.ntmps85
    go_wp2
    go_ret
    exact ⟨rfl, rfl⟩
  · rw [lowB_pos h0]
    have h1 : ((x : Int) != 0) = true := bne_iff_ne.2 (by omega)
    have h2 : decide ((x : Int) < (first : Int)) = decide (x < first) := by
      rw [Bool.eq_iff_iff, decide_eq_true_eq, decide_eq_true_eq]; omega
    have H2 := Lib.hid h2
    clear h0 h2
    go_enter Tryz.func85, Tryz.ntmps85
    go_wp2
    go_ret
    exact ⟨by rw [← H2.out]; rfl, rfl⟩

/-- where the first one is, that is below; -1: there is none -/
def lowAt (first : Nat) (l : List Nat) : Int := if l.any (lowB first) then (l.findIdx (lowB first) : Int) else -1
theorem lowAt_ge (first : Nat) (l : List Nat) : decide ((0 : Int) ≤ lowAt first l) = l.any (lowB first) := by
  unfold lowAt
  cases h : l.any (lowB first)
  · rfl
  · simp

set_option maxRecDepth 100000 in
set_option maxHeartbeats 4000000 in
theorem index_low (a : Option Addr) (cap : Nat) (l : List Nat) (bl first : Nat) (w : World) (h : Row .u32 w a (toI l)) (hl : l.length ≤ 1048576) (hc : w.cell? ⟨bl, 0, none⟩ = some (.int .u32 (first : Int))) :
    Calls Tryz.prog 103 #[.slice a l.length cap, .func (.func 85) #[] #[.pointer (some ⟨bl, 0, none⟩)]] w fun e w' => e = .returned (.int .i64 (lowAt first l)) ∧ w = w' := by
  have H := Lib.hid h
  have HL := Lib.hid (fun (x : Nat) => low_any bl first x w hc)
  have HA : Hid (∀ k, k < l.length → (l.take (k + 1)).any (lowB first) = ((l.take k).any (lowB first) || lowB first (l.getD k 0))) := Lib.hid (fun k hk => by
    rw [List.take_succ_eq_append_getElem hk, List.any_append, List.getD, List.getElem?_eq_getElem hk]; simp)
  have HX : Hid (∀ k, (hk : k < l.length) → (l.take k).any (lowB first) = false → lowB first (l.getD k 0) = true → lowAt first l = (k : Int)) := Lib.hid (fun k hk h1 h2 => by
    have h2' : lowB first l[k] = true := by rwa [List.getD, List.getElem?_eq_getElem hk] at h2
    unfold lowAt
    rw [if_pos (List.any_eq_true.2 ⟨l[k], List.getElem_mem _, h2'⟩)]
    congr 1
    rw [List.findIdx_eq hk]
    refine ⟨h2', fun j hj => ?_⟩
    have h3 := List.any_eq_false.1 h1 l[j] (by
      rw [List.mem_take_iff_getElem]
      exact ⟨j, by omega, rfl⟩)
    simpa using h3)
  have HZ : Hid ((l.take l.length).any (lowB first) = false → lowAt first l = -1) := Lib.hid (fun h1 => by
    rw [List.take_length] at h1
    unfold lowAt
    rw [h1]
    rfl)
  generalize lowAt first l = R at *
  clear h hc
  go_enter Tryz.func103, Tryz.ntmps103
  go_wp2
  go_loopg [8] l.length (fun g i wr => ∃ (k : Nat), k + g = l.length ∧ i = .int .i64 (k : Int) ∧ Hid ((l.take k).any (lowB first) = false) ∧ w = wr)
  case atStart => exact ⟨0, by omega, rfl, Lib.hid (by simp), rfl⟩
  case round =>
    obtain ⟨k, hk, rfl, HN, rfl⟩ := hrel
    cases gk with
    | zero =>
      have hke : k = l.length := by omega
      have HF : Hid (R = -1) := Lib.hid (HZ.out (by rw [← hke]; exact HN.out))
      clear hk
      subst hke
      go_wp2
      go_ret
      exact ⟨by rw [HF.out]; rfl, rfl⟩
    | succ g =>
      have hlk : k < l.length := by omega
      obtain ⟨b, o, rfl, hc⟩ := H.out k (by rw [toI_length]; exact hlk)
      rw [toI_getD] at hc
      have H1 := Lib.hid (HA.out k hlk)
      have H2 := Lib.hid (HX.out k hlk HN.out)
      have HLX := Lib.hid (HL.out (l.getD k 0))
      generalize l.getD k 0 = x at *
      go_wp2_with fail
      refine HLX.out.mono ?_
      rintro e w' ⟨rfl, rfl⟩
      cases hv : lowB first x
      · have H3 : Hid ((l.take (k + 1)).any (lowB first) = false) := Lib.hid (by rw [H1.out, HN.out, hv]; rfl)
        clear hv
        go_wp2_with fail
        go_roundg g
        case measure => omega
        case rel => exact ⟨k + 1, by omega, by go_num, H3, rfl⟩
      · have H3 : Hid (R = (k : Int)) := Lib.hid (H2.out hv)
        clear hv
        go_wp2_with fail
        go_ret
        exact ⟨by rw [H3.out]; rfl, rfl⟩

theorem contains_low (a : Option Addr) (cap : Nat) (l : List Nat) (bl first : Nat) (w : World) (h : Row .u32 w a (toI l)) (hl : l.length ≤ 1048576) (hc : w.cell? ⟨bl, 0, none⟩ = some (.int .u32 (first : Int))) :
    Calls Tryz.prog 84 #[.slice a l.length cap, .func (.func 85) #[] #[.pointer (some ⟨bl, 0, none⟩)]] w fun e w' => e = .returned (.bool (l.any (lowB first))) ∧ w = w' := by
  have HI := Lib.hid (index_low a cap l bl first w h hl hc)
  have HG := Lib.hid (lowAt_ge first l)
  clear h hc
  generalize lowAt first l = R at *
  go_enter Tryz.func84, Tryz.ntmps84
  go_wp2_with fail
  refine HI.out.mono ?_
  rintro e w' ⟨rfl, rfl⟩
  go_wp2_with fail
  go_ret
  exact ⟨by rw [← HG.out]; rfl, rfl⟩
end Go.Proofs.YtnaejlfjlennhaaGreatDoor
/- Layer 7: how many symbols a table of the second kind tells. -/
namespace Go.Proofs.YtnaejlfjlennhaaGreatDoor
open Go.RowKit
set_option linter.unusedVariables false
set_option linter.unusedSimpArgs false

theorem and_one (x : Nat) (h : x < 4294967296) : bits .and .u32 (x : Int) 1 = ((x % 2 : Nat) : Int) := by
  have := show bits .and .u32 (x : Int) 1 = (x : Int) % 2 from by
    have h0 : (0 : Int) ≤ (x : Int) := by omega
    have h1 : (x : Int) < 4294967296 := by omega
    generalize (x : Int) = z at *
    go_bits2
  rw [this]
  omega

set_option maxRecDepth 100000 in
set_option maxHeartbeats 4000000 in
theorem bcount_any (a : Option Addr) (cap : Nat) (bs : List Nat) (ty en : Int) (p : Option Addr) (pc : Nat) (ps : List PT) (t : BT) (ba : Option Addr) (bc : Nat) (ua : Option Addr) (uc : Nat) (w : World) (hb : BRow w a bs) (hbl : bs.length ≤ 140737488351232) (hbc : bs.length ≤ cap)
    (h : PRow w p ps) (hl : ps.length ≤ 140737488351232) (hf : t.first < 4294967296) (hbase : t.base < 18446744073709551616) (hu : Row .u32 w ua (toI t.buckets)) (hu0 : 0 < t.buckets.length) (hul : t.buckets.length ≤ 4096) (hum : maxF t.buckets < 4294967296) :
    Calls Tryz.prog 53 #[bloomV a bs.length cap ty en p ps.length pc t ba bc ua uc] w (NumErr (bcountF bs ps t) .i64 w) := by
  have HC := Lib.hid (fun (w1 : World) (i : Nat) (hb1 : Below w.heap.size w w1) (hi : i < 4294967296) => bchain_any a cap bs ty en p pc ps t ba bc ua uc i w1 (hb.below hb1) hbl hbc (h.below hb1) hl hf hbase hi)
  have HM := Lib.hid (fun (w1 : World) (hb1 : Below w.heap.size w w1) => max_any ua uc t.buckets w1 (Row.below hu hb1) hu0 (by omega))
  have HLT := Lib.hid (fun i => wordF_lt (bs := bs) hb.2 ps (linkAt t i))
  have hwf := wrap_word hf
  obtain ⟨R, hR⟩ : ∃ R, bcountF bs ps t = R := ⟨_, rfl⟩
  have HR := Lib.hid hR
  rw [hR]
  unfold bloomV at *
  have hC2 : ∀ i, linkF bs ps t i = wordF bs ps (linkAt t i) := fun i => rfl
  have HF0 : Hid (maxF t.buckets = 0 → R = (t.first, 0)) := Lib.hid (fun h0 => by rw [← HR.out]; unfold bcountF; rw [if_pos h0])
  have HF1 : Hid (¬ maxF t.buckets = 0 → countGo bs ps t (4096 - maxF t.buckets) (maxF t.buckets) = R) := Lib.hid (fun h0 => by rw [← HR.out]; unfold bcountF; rw [if_neg h0])
  have HG := Lib.hid (fun f i => countGo_bad (bs := bs) (ps := ps) (t := t) (f := f) (i := i))
  have HG2 := Lib.hid (fun f i => countGo_end (bs := bs) (ps := ps) (t := t) (f := f) (i := i))
  have HG3 := Lib.hid (fun f i => countGo_next (bs := bs) (ps := ps) (t := t) (f := f) (i := i))
  have HLT2 : Hid (∀ i, (linkF bs ps t i).1 < 4294967296) := Lib.hid HLT.out
  have HAL : Hid (∀ i, (linkF bs ps t i).2 = 0 ∨ linkF bs ps t i = (0, 4)) := Lib.hid (fun i => wordF_alt bs ps (linkAt t i))
  obtain ⟨GO, hGO⟩ : ∃ GO : Nat → Nat → Nat × Nat, countGo bs ps t = GO := ⟨_, rfl⟩
  obtain ⟨LI, hLI⟩ : ∃ LI : Nat → Nat × Nat, linkF bs ps t = LI := ⟨_, rfl⟩
  rw [hGO] at HF1 HG HG2 HG3
  rw [hLI] at HC HG HG2 HG3 HLT2 HAL
  have HZ : Hid (∀ i, GO 0 i = (0, 2)) := Lib.hid (fun i => by rw [← hGO]; rfl)
  clear hGO hLI hC2 HLT hR HR hb h hu
  generalize maxF t.buckets = m at *
  obtain ⟨fi, hfi⟩ : ∃ fi, t.first = fi := ⟨_, rfl⟩
  obtain ⟨bl, hbl0⟩ : ∃ bl, t.bloom.length = bl := ⟨_, rfl⟩
  obtain ⟨ul, hul0⟩ : ∃ ul, t.buckets.length = ul := ⟨_, rfl⟩
  obtain ⟨ba0, hba0⟩ : ∃ ba0, t.base = ba0 := ⟨_, rfl⟩
  obtain ⟨sh, hsh⟩ : ∃ sh, t.shift = sh := ⟨_, rfl⟩
  rw [hfi, hbl0, hul0, hba0, hsh] at HC
  rw [hfi] at HF0 hwf hf
  rw [hul0] at HM hu0 hul
  rw [hfi, hbl0, hul0, hba0, hsh]
  clear hfi hbl0 hul0 hba0 hsh hbase
  have B1 : Hid (Below w.heap.size w (w.alloc (.cells #[.slice a bs.length cap, .int .i64 ty, .int .u64 en, .slice p ps.length pc, .int .u32 (fi : Int), .int .u32 (sh : Int), .slice ba bl bc, .slice ua ul uc, .int .u64 (ba0 : Int)] 134))) := Lib.hid ((Below.refl _ _).alloc (Nat.le_refl _) _)
  have hsz : (w.alloc (.cells #[.slice a bs.length cap, .int .i64 ty, .int .u64 en, .slice p ps.length pc, .int .u32 (fi : Int), .int .u32 (sh : Int), .slice ba bl bc, .slice ua ul uc, .int .u64 (ba0 : Int)] 134)).heap.size = w.heap.size + 1 := by simp
  have FB : Hid (∀ w1, Below (w.heap.size + 1) (w.alloc (.cells #[.slice a bs.length cap, .int .i64 ty, .int .u64 en, .slice p ps.length pc, .int .u32 (fi : Int), .int .u32 (sh : Int), .slice ba bl bc, .slice ua ul uc, .int .u64 (ba0 : Int)] 134)) w1 →
      w1.cell? ⟨w.heap.size, 0, none⟩ = some (.slice a bs.length cap) ∧ w1.cell? ⟨w.heap.size, 1, none⟩ = some (.int .i64 ty) ∧ w1.cell? ⟨w.heap.size, 2, none⟩ = some (.int .u64 en) ∧ w1.cell? ⟨w.heap.size, 3, none⟩ = some (.slice p ps.length pc) ∧ w1.cell? ⟨w.heap.size, 4, none⟩ = some (.int .u32 (fi : Int)) ∧
      w1.cell? ⟨w.heap.size, 5, none⟩ = some (.int .u32 (sh : Int)) ∧ w1.cell? ⟨w.heap.size, 6, none⟩ = some (.slice ba bl bc) ∧ w1.cell? ⟨w.heap.size, 7, none⟩ = some (.slice ua ul uc) ∧ w1.cell? ⟨w.heap.size, 8, none⟩ = some (.int .u64 (ba0 : Int))) := Lib.hid (by
    intro w1 h1
    have e1 : w1.heap[w.heap.size]? = some (.cells #[.slice a bs.length cap, .int .i64 ty, .int .u64 en, .slice p ps.length pc, .int .u32 (fi : Int), .int .u32 (sh : Int), .slice ba bl bc, .slice ua ul uc, .int .u64 (ba0 : Int)] 134) := by
      rw [h1.block _ (by omega)]
      exact heap_alloc_new _ _
    refine ⟨?_, ?_, ?_, ?_, ?_, ?_, ?_, ?_, ?_⟩ <;> (rw [cell_of_row _ _ _ _ _ _ e1]; rfl))
  have HSZ := Lib.hid hsz
  clear hsz
  go_enter Tryz.func53, Tryz.ntmps53
  go_wp2_with fail
  refine (HM.out _ B1.out).mono ?_
  rintro e w' ⟨rfl, rfl⟩
  clear HM
  by_cases h0 : m = 0
  · have HE := Lib.hid (HF0.out h0)
    subst h0
    go_wp2_with fail
    go_ret2
    rw [HE.out]
    exact ⟨rfl, B1.out⟩
  · have h1 : ((m : Int) == 0) = false := beq_eq_false_iff_ne.2 (by omega)
    have HE := Lib.hid (HF1.out h0)
    have HM0 := Lib.hid hum
    clear h0 hum HF0 HF1 hwf hf
    go_wp2_with fail
    generalize (w.alloc (.cells #[.slice a bs.length cap, .int .i64 ty, .int .u64 en, .slice p ps.length pc, .int .u32 (fi : Int), .int .u32 (sh : Int), .slice ba bl bc, .slice ua ul uc, .int .u64 (ba0 : Int)] 134)) = w1 at *
    go_loopg [4] (4096 - m) (fun g i wr => ∃ iv : Nat, g = 4096 - iv ∧ iv < 4294967296 ∧ i = .int .u32 (iv : Int) ∧ Hid (GO g iv = R) ∧ Hid (Below w1.heap.size w1 wr))
    case atStart => exact ⟨m, rfl, HM0.out, rfl, HE, Lib.hid (Below.refl _ _)⟩
    case round =>
      obtain ⟨iv, hg, hiv, rfl, HGO, BW⟩ := hrel
      have BWW := Lib.hid (bstep B1.out BW.out)
      obtain ⟨k0, k1, k2, k3, k4, k5, k6, k7, k8⟩ := FB.out wr (by have := BW.out; rwa [HSZ.out] at this)
      cases gk with
      | zero =>
        have h2 : (4096 : Int) ≤ (iv : Int) := by omega
        have HRR : Hid (R = (0, 2)) := Lib.hid (by rw [← HGO.out]; exact HZ.out iv)
        clear hg hiv
        go_wp2_with fail
        go_ret2
        rw [HRR.out]
        exact ⟨rfl, BWW.out⟩
      | succ g =>
        have h2 : ¬ (4096 : Int) ≤ (iv : Int) := by omega
        have HCI := Lib.hid (HC.out wr iv BWW.out hiv)
        have HIV := Lib.hid hg
        clear hg hiv
        rcases HAL.out iv with h3 | h3
        · obtain ⟨x, hx⟩ : ∃ x, LI iv = (x, 0) := ⟨(LI iv).1, by rw [← h3]⟩
          have hxl := HLT2.out iv
          have HHE := Lib.hid (HG2.out g iv)
          have HHN := Lib.hid (HG3.out g iv)
          rw [hx] at HCI hxl HHE HHN
          simp only at hxl
          have ha := and_one x hxl
          clear h3 hx hxl
          by_cases h4 : x % 2 = 1
          · have HRR : Hid (R = (iv + 1, 0)) := Lib.hid (by rw [← HGO.out]; exact HHE.out rfl h4)
            rw [h4] at ha
            have hiv2 : iv < 4096 := by omega
            have hwi : wrap64 (iv : Int) = (iv : Int) := wrap_word (by omega)
            clear h4
            go_wp2_with fail
            refine HCI.out.mono ?_
            rintro e w5 ⟨rfl, hb5⟩
            have B5 := Lib.hid (bstep BWW.out hb5)
            clear hb5
            rw [errV0]
            go_wp2_with fail
            go_ret2
            rw [HRR.out]
            exact ⟨rfl, B5.out⟩
          · have HRR : Hid (GO g (iv + 1) = R) := Lib.hid (by rw [← HGO.out]; exact (HHN.out rfl h4).symm)
            have h5 : x % 2 = 0 := by omega
            rw [h5] at ha
            have hwi : IntKind.u32.wrap ((iv : Int) + 1) = (iv : Int) + 1 := by rw [IntKind.wrap_u32]; omega
            clear h4 h5
            go_wp2_with fail
            refine HCI.out.mono ?_
            rintro e w5 ⟨rfl, hb5⟩
            have B5 := Lib.hid (bstep BW.out hb5)
            clear hb5
            rw [errV0]
            go_wp2_with fail
            go_roundg g
            case measure => omega
            case rel => exact ⟨iv + 1, by have := HIV.out; omega, by omega, by go_num, HRR, B5⟩
        · have HRR : Hid (R = (0, 4)) := Lib.hid (by rw [← HGO.out]; exact HG.out g iv h3)
          rw [h3] at HCI
          clear h3
          go_wp2_with fail
          refine HCI.out.mono ?_
          rintro e w5 ⟨rfl, hb5⟩
          have B5 := Lib.hid (bstep BWW.out hb5)
          clear hb5
          rw [errV4]
          go_wp2_with fail
          go_ret2
          rw [HRR.out]
          exact ⟨rfl, B5.out⟩
end Go.Proofs.YtnaejlfjlennhaaGreatDoor
/- Layer 7: do the bloom words let a hash through? -/
namespace Go.Proofs.YtnaejlfjlennhaaGreatDoor
open Go.RowKit
set_option linter.unusedVariables false
set_option linter.unusedSimpArgs false

theorem and_one64 (x e : Nat) (h : x < 18446744073709551616) : bits .and .u64 ((x : Int) / 2 ^ e) 1 = ((x / 2 ^ e % 2 : Nat) : Int) := by
  have h2 : (x : Int) / 2 ^ e = ((x / 2 ^ e : Nat) : Int) := by rw [Int.natCast_ediv, Int.natCast_pow]; rfl
  rw [h2]
  have h3 : x / 2 ^ e ≤ x := Nat.div_le_self _ _
  generalize x / 2 ^ e = y at *
  have := show bits .and .u64 (y : Int) 1 = (y : Int) % 2 from by
    have h0 : (0 : Int) ≤ (y : Int) := by omega
    have h1 : (y : Int) < 18446744073709551616 := by omega
    generalize (y : Int) = z at *
    go_bits2
  rw [this]
  omega














































































end Go.Proofs.YtnaejlfjlennhaaGreatDoor
/- Layer 7: a table of the second kind is asked. -/
namespace Go.Proofs.YtnaejlfjlennhaaGreatDoor
open Go.RowKit
set_option linter.unusedVariables false
set_option linter.unusedSimpArgs false

def gnuN (l : List UInt8) : Nat := (gnuOf l).toNat
theorem gnuN_cast (l : List UInt8) : ((gnuN l : Nat) : Int) = gnuOf l := Int.toNat_of_nonneg (gnuOf_bounds l).1
theorem gnuN_lt (l : List UInt8) : gnuN l < 4294967296 := by have := gnuOf_bounds l; have := gnuN_cast l; omega






theorem or_one_nat (x : Nat) : x ||| 1 = x / 2 * 2 + 1 := by
  have h1 := Nat.two_pow_add_eq_or_of_lt (i := 1) (b := x % 2) (by omega) (x / 2)
  have h2 := Nat.two_pow_add_eq_or_of_lt (i := 1) (b := 1) (by omega) (x / 2)
  have hx : 2 ^ 1 * (x / 2) + x % 2 = x := by omega
  rw [hx] at h1
  have hb : x % 2 ||| 1 = 1 := by
    rcases (show x % 2 = 0 ∨ x % 2 = 1 from by omega) with h | h <;> rw [h] <;> rfl
  conv => lhs; rw [h1, Nat.or_assoc, hb, ← h2]
  omega
theorem or_one (x : Nat) (h : x < 4294967296) : bits .or .u32 (x : Int) 1 = ((x / 2 * 2 + 1 : Nat) : Int) := by
  have := show bits .or .u32 (x : Int) 1 = ((x ||| 1 : Nat) : Int) from by
    have h0 : (0 : Int) ≤ (x : Int) := by omega
    have h1 : (x : Int) < 4294967296 := by omega
    have h2 : x = (x : Int).toNat := rfl
    generalize (x : Int) = z at *
    subst h2
    go_bits2
  rw [this, or_one_nat]

theorem le_maxF {l : List Nat} {x : Nat} (h : x ∈ l) : x ≤ maxF l := by
  induction l using snocInd with
  | nil => cases h
  | snoc l y ih =>
    rw [maxF_snoc]
    show x ≤ max (maxF l) y
    rcases List.mem_append.1 h with h | h
    · have := ih h; omega
    · obtain rfl := List.mem_singleton.1 h; omega
theorem countGo_tells {bs : List Nat} {ps : List PT} {t : BT} {f i n : Nat} (h : countGo bs ps t f i = (n, 0)) : ∃ ee, i ≤ ee ∧ ee < i + f ∧ (linkF bs ps t ee).1 % 2 = 1 := by
  induction f generalizing i with
  | zero => simp [countGo] at h
  | succ f ih =>
    by_cases h1 : (linkF bs ps t i).2 = 0
    · by_cases h2 : (linkF bs ps t i).1 % 2 = 1
      · exact ⟨i, by omega, by omega, h2⟩
      · rw [countGo_next h1 h2] at h
        obtain ⟨ee, h3, h4, h5⟩ := ih h
        exact ⟨ee, by omega, by omega, h5⟩
    · rw [countGo, if_neg h1] at h
      simp at h
/-- where the chains end, once they are counted -/
theorem bcount_end {bs : List Nat} {ps : List PT} {t : BT} {n : Nat} (h : bcountF bs ps t = (n, 0)) : maxF t.buckets = 0 ∨ ∃ ee, maxF t.buckets ≤ ee ∧ ee < 4096 ∧ (linkF bs ps t ee).1 % 2 = 1 := by
  unfold bcountF at h
  split at h
  · rename_i h0; exact .inl h0
  · obtain ⟨ee, h1, h2, h3⟩ := countGo_tells h
    exact .inr ⟨ee, h1, by omega, h3⟩

























































































































































































































































































end Go.Proofs.YtnaejlfjlennhaaGreatDoor
/- Layer 7: a table of the second kind is read: what is answered, as lists. -/
namespace Go.Proofs.YtnaejlfjlennhaaGreatDoor
open Go.RowKit
set_option linter.unusedVariables false
set_option linter.unusedSimpArgs false

/-- the number of 8 bytes at a place of the bloom words -/
def eightAt (all : List Nat) (i : Nat) : Nat := numOf ((all.drop (16 + 8 * i)).take 8)
theorem eightAt_lt {all : List Nat} (h : ∀ b ∈ all, b < 256) (i : Nat) : eightAt all i < 18446744073709551616 := by
  have h1 := numOf_lt ((all.drop (16 + 8 * i)).take 8) (fun b hb => h b (List.mem_of_mem_drop (List.mem_of_mem_take hb)))
  have h2 : 256 ^ ((all.drop (16 + 8 * i)).take 8).length ≤ 256 ^ 8 := Nat.pow_le_pow_right (by omega) (by simp; omega)
  have h3 : (256 : Nat) ^ 8 = 18446744073709551616 := by decide
  unfold eightAt
  omega
/-- the table that lies in so many bytes -/
def bloomT (all : List Nat) (addr nb fi wd sh : Nat) : BT := ⟨fi, sh, (List.range wd).map (eightAt all), splitF (all.drop (16 + 8 * wd)), (addr + (16 + 8 * wd + 4 * nb)) % 18446744073709551616⟩
/-- a table of the second kind at an address; an error's number behind -/
def bloomF (bs : List Nat) (ps : List PT) (addr : Nat) : BT × Nat :=
  if (wordsF bs ps addr 4).2 = 0 then
    (if (wordsF bs ps addr 4).1.getD 0 0 = 0 ∨ ¬ onesF ((wordsF bs ps addr 4).1.getD 2 0) = 1 ∨ 31 < (wordsF bs ps addr 4).1.getD 3 0 then (.nil, 3)
     else if 4096 < (wordsF bs ps addr 4).1.getD 0 0 ∨ 4096 < (wordsF bs ps addr 4).1.getD 1 0 ∨ 4096 < (wordsF bs ps addr 4).1.getD 2 0 then (.nil, 2)
     else if (sliceF bs ps addr (16 + 8 * (wordsF bs ps addr 4).1.getD 2 0 + 4 * (wordsF bs ps addr 4).1.getD 0 0)).2 = 0 then
       (if (splitF ((sliceF bs ps addr (16 + 8 * (wordsF bs ps addr 4).1.getD 2 0 + 4 * (wordsF bs ps addr 4).1.getD 0 0)).1.drop (16 + 8 * (wordsF bs ps addr 4).1.getD 2 0))).any (lowB ((wordsF bs ps addr 4).1.getD 1 0)) then (.nil, 3)
        else (bloomT (sliceF bs ps addr (16 + 8 * (wordsF bs ps addr 4).1.getD 2 0 + 4 * (wordsF bs ps addr 4).1.getD 0 0)).1 addr ((wordsF bs ps addr 4).1.getD 0 0) ((wordsF bs ps addr 4).1.getD 1 0) ((wordsF bs ps addr 4).1.getD 2 0) ((wordsF bs ps addr 4).1.getD 3 0), 0))
     else (.nil, 4))
  else (.nil, 4)
section
variable {bs : List Nat} {ps : List PT} {addr nb fi wd sh : Nat} {all : List Nat}
theorem bloomF_no (h : wordsF bs ps addr 4 = ([], 4)) : bloomF bs ps addr = (.nil, 4) := by
  unfold bloomF
  rw [h, if_neg (by simp)]
theorem bloomF_form (h : wordsF bs ps addr 4 = ([nb, fi, wd, sh], 0)) (h0 : nb = 0 ∨ ¬ onesF wd = 1 ∨ 31 < sh) : bloomF bs ps addr = (.nil, 3) := by
  unfold bloomF
  rw [h, if_pos rfl]
  simp only [List.getD_cons_zero, List.getD_cons_succ]
  rw [if_pos h0]
theorem bloomF_long (h : wordsF bs ps addr 4 = ([nb, fi, wd, sh], 0)) (h0 : ¬ (nb = 0 ∨ ¬ onesF wd = 1 ∨ 31 < sh)) (h1 : 4096 < nb ∨ 4096 < fi ∨ 4096 < wd) : bloomF bs ps addr = (.nil, 2) := by
  unfold bloomF
  rw [h, if_pos rfl]
  simp only [List.getD_cons_zero, List.getD_cons_succ]
  rw [if_neg h0, if_pos h1]
theorem bloomF_out (h : wordsF bs ps addr 4 = ([nb, fi, wd, sh], 0)) (h0 : ¬ (nb = 0 ∨ ¬ onesF wd = 1 ∨ 31 < sh)) (h1 : ¬ (4096 < nb ∨ 4096 < fi ∨ 4096 < wd)) (h2 : sliceF bs ps addr (16 + 8 * wd + 4 * nb) = ([], 4)) : bloomF bs ps addr = (.nil, 4) := by
  unfold bloomF
  rw [h, if_pos rfl]
  simp only [List.getD_cons_zero, List.getD_cons_succ]
  rw [if_neg h0, if_neg h1, h2, if_neg (by simp)]
theorem bloomF_low (h : wordsF bs ps addr 4 = ([nb, fi, wd, sh], 0)) (h0 : ¬ (nb = 0 ∨ ¬ onesF wd = 1 ∨ 31 < sh)) (h1 : ¬ (4096 < nb ∨ 4096 < fi ∨ 4096 < wd)) (h2 : sliceF bs ps addr (16 + 8 * wd + 4 * nb) = (all, 0)) (h3 : (splitF (all.drop (16 + 8 * wd))).any (lowB fi) = true) : bloomF bs ps addr = (.nil, 3) := by
  unfold bloomF
  rw [h, if_pos rfl]
  simp only [List.getD_cons_zero, List.getD_cons_succ]
  rw [if_neg h0, if_neg h1, h2, if_pos rfl, if_pos h3]
theorem bloomF_yes (h : wordsF bs ps addr 4 = ([nb, fi, wd, sh], 0)) (h0 : ¬ (nb = 0 ∨ ¬ onesF wd = 1 ∨ 31 < sh)) (h1 : ¬ (4096 < nb ∨ 4096 < fi ∨ 4096 < wd)) (h2 : sliceF bs ps addr (16 + 8 * wd + 4 * nb) = (all, 0)) (h3 : (splitF (all.drop (16 + 8 * wd))).any (lowB fi) = false) : bloomF bs ps addr = (bloomT all addr nb fi wd sh, 0) := by
  unfold bloomF
  rw [h, if_pos rfl]
  simp only [List.getD_cons_zero, List.getD_cons_succ]
  rw [if_neg h0, if_neg h1, h2, if_pos rfl, if_neg (by rw [h3]; simp)]
end
end Go.Proofs.YtnaejlfjlennhaaGreatDoor
/- append of one number to a slice of numbers that a call makes itself, as one step of a statement whose order is left open. Nothing of the program is named. -/
namespace Go.Proofs.YtnaejlfjlennhaaGreatDoor
open Go.RowKit
set_option linter.unusedVariables false
set_option linter.unusedSimpArgs false

theorem step_push_int {P : Program} {w : World} {ops : Array Oper} {o : Oper} {a : Act} {K : Act → World → Prop} {Q : Exit → Act → World → Prop} {E : Prop} (hgd : o.guard = none) (s x : Operand) {t e : TypeId} {k : IntKind} {bytes : Nat} (F : IntSlice P t e k bytes)
    (ho : o.op = .call { callee := .builtin .append, args := #[s, x], argTypes := #[t, t] })
    (B : Nat) (B0 : Nat) (w0 : World) (v : Value) (xs : List Int) (n : Nat) (y : Int) (hs : a.eval s = v) (ad : Addr) (c : Nat) (hx : a.eval x = .slice (some ad) 1 c) (hnews : w.cell? ad = some (.int k y))
    (hn : xs.length = n) (hown : OwnI w B e k v xs) (h63 : n + 1 ≤ maxLen) (hlen : (n + 1) * bytes ≤ 140737488355328) (bel : Below B0 w0 w) (hB0 : B0 ≤ B) (hb : B ≤ w.heap.size)
    (h : ∀ ad' cap w', OwnI w' B e k (.slice ad' (n + 1) cap) (xs ++ [y]) → Below B0 w0 w' → Below B w w' → K (a.put o.dst (.slice ad' (n + 1) cap)) w') :
    if Region.wanted o (yielded ops a.tmps) = true then Oper.wp P o a w K Q else E := by
  subst hn
  obtain ⟨ht, hinfo⟩ := F
  obtain ⟨i, hi, hz0, hz1, hz2⟩ := info_parts hinfo
  refine step_append_lies _ hgd s x t ho B e i (.int k 0) 1 bytes ht hi hz0 hz1 hz2 rfl (by decide) v xs.length (xs.map (Value.int k)) hs hown ad 1 c [.int k y] hx rfl ?_ (by intro u hu; simp only [List.mem_cons, List.not_mem_nil, or_false] at hu; subst hu; rfl) (by omega) h63 hlen hb _ rfl ?_
  · intro j u hj
    match j, hj with
    | 0, hj =>
      simp only [List.getElem?_cons_zero, Option.some.injEq] at hj
      subst hj
      have : ad.add 0 = ad := by cases ad; rfl
      rw [this]
      exact hnews
  · intro g cap w1 hown' hgr _ _
    refine h (some ⟨g, 0, none⟩) cap w1 ?_ (bel.grown hgr (Nat.le_trans hB0 hb) fun j hj => Nat.le_trans hB0 (World.ownsRow.lt hown j hj).1) ((Below.refl B w).grown hgr hb fun j hj => (World.ownsRow.lt hown j hj).1)
    unfold OwnI
    rw [List.length_append, List.length_cons, List.length_nil, List.map_append]
    exact hown'
end Go.Proofs.YtnaejlfjlennhaaGreatDoor
/- Layer 7: stores into the box of a table of the second kind. -/
namespace Go.Proofs.YtnaejlfjlennhaaGreatDoor
open Go.RowKit
set_option linter.unusedVariables false
set_option linter.unusedSimpArgs false

theorem slice64u : IntSlice Tryz.prog 28 24 .u64 8 := ⟨Tryz.underlying28, by kernel_rfl⟩
/-- the cells of a table in memory -/
def bCells (a : Option Addr) (len cap : Nat) (ty en : Int) (p : Option Addr) (n pc : Nat) (fi sh : Nat) (ba : Option Addr) (bl bc : Nat) (ua : Option Addr) (ul uc : Nat) (base : Nat) : Array Value :=
  #[.slice a len cap, .int .i64 ty, .int .u64 en, .slice p n pc, .int .u32 (fi : Int), .int .u32 (sh : Int), .slice ba bl bc, .slice ua ul uc, .int .u64 (base : Int)]
/-- nine stores into a block that is known -/
theorem nine_stores {w : World} {b : Nat} {T : TypeId} {u0 u1 u2 u3 u4 u5 u6 u7 u8 : Value} (E : w.heap[b]? = some (.cells #[u0, u1, u2, u3, u4, u5, u6, u7, u8] T)) (v0 v1 v2 v3 v4 v5 v6 v7 v8 : Value) :
    (((((((((w.setCell ⟨b, 0, none⟩ v0).setCell ⟨b, 1, none⟩ v1).setCell ⟨b, 2, none⟩ v2).setCell ⟨b, 3, none⟩ v3).setCell ⟨b, 4, none⟩ v4).setCell ⟨b, 5, none⟩ v5).setCell ⟨b, 6, none⟩ v6).setCell ⟨b, 7, none⟩ v7).setCell ⟨b, 8, none⟩ v8) = w.setRow b #[v0, v1, v2, v3, v4, v5, v6, v7, v8] := by
  have step : ∀ (cs : Array Value) (i : Nat) (v : Value), (w.setRow b cs).setCell ⟨b, i, none⟩ v = w.setRow b (cs.setIfInBounds i v) := fun cs i v => by
    rw [setCell_eq_setRow _ _ _ _ _ _ _ (setRow_heap w b _ cs T (0, 0) E), setRow_setRow]
  rw [setCell_eq_setRow w b 0 _ _ _ _ E, step, step, step, step, step, step, step, step]
  simp only [List.setIfInBounds_toArray, List.set_cons_zero, List.set_cons_succ]
theorem Row.setRowO {k : IntKind} {w : World} {a : Option Addr} {xs : List Int} (h : Row k w a xs) {g : Nat} (hp : ∀ b, a = some b → b.block ≠ g) (cs : Array Value) : Row k (w.setRow g cs) a xs := by
  intro i hi
  obtain ⟨b, o, e, hc⟩ := h i hi
  refine ⟨b, o, e, ?_⟩
  rw [cell_setRow_other w g cs ⟨b, o + i, none⟩ (show b ≠ g from hp ⟨b, o, none⟩ e)]
  exact hc
theorem Below.setRow' {B g : Nat} {w0 w : World} (hb : Below B w0 w) (hBg : B ≤ g) (cs : Array Value) : Below B w0 (w.setRow g cs) := below_setRow hb hBg cs
/-- the cells of a table that lies in a block -/
theorem b_cells {w : World} {b : Nat} {a : Option Addr} {len cap : Nat} {ty en : Int} {p : Option Addr} {n pc fi sh : Nat} {ba : Option Addr} {bl bc : Nat} {ua : Option Addr} {ul uc base : Nat} (h : w.heap[b]? = some (.cells (bCells a len cap ty en p n pc fi sh ba bl bc ua ul uc base) 134)) :
    w.cell? ⟨b, 0, none⟩ = some (.slice a len cap) ∧ w.cell? ⟨b, 1, none⟩ = some (.int .i64 ty) ∧ w.cell? ⟨b, 2, none⟩ = some (.int .u64 en) ∧ w.cell? ⟨b, 3, none⟩ = some (.slice p n pc) ∧ w.cell? ⟨b, 4, none⟩ = some (.int .u32 (fi : Int)) ∧ w.cell? ⟨b, 5, none⟩ = some (.int .u32 (sh : Int)) ∧
      w.cell? ⟨b, 6, none⟩ = some (.slice ba bl bc) ∧ w.cell? ⟨b, 7, none⟩ = some (.slice ua ul uc) ∧ w.cell? ⟨b, 8, none⟩ = some (.int .u64 (base : Int)) := by
  refine ⟨?_, ?_, ?_, ?_, ?_, ?_, ?_, ?_, ?_⟩ <;> (rw [cell_of_row _ _ _ _ _ _ h]; rfl)
theorem b_put6 {w : World} {b : Nat} {a : Option Addr} {len cap : Nat} {ty en : Int} {p : Option Addr} {n pc fi sh : Nat} {ba : Option Addr} {bl bc : Nat} {ua : Option Addr} {ul uc base : Nat} (h : w.heap[b]? = some (.cells (bCells a len cap ty en p n pc fi sh ba bl bc ua ul uc base) 134)) (ba' : Option Addr) (bl' bc' : Nat) :
    (w.setCell ⟨b, 6, none⟩ (.slice ba' bl' bc')).heap[b]? = some (.cells (bCells a len cap ty en p n pc fi sh ba' bl' bc' ua ul uc base) 134) := by
  rw [heap_setCell_same w b 6 _ _ _ h]
  simp only [bCells, List.setIfInBounds_toArray, List.set_cons_zero, List.set_cons_succ]
theorem b_put7 {w : World} {b : Nat} {a : Option Addr} {len cap : Nat} {ty en : Int} {p : Option Addr} {n pc fi sh : Nat} {ba : Option Addr} {bl bc : Nat} {ua : Option Addr} {ul uc base : Nat} (h : w.heap[b]? = some (.cells (bCells a len cap ty en p n pc fi sh ba bl bc ua ul uc base) 134)) (ua' : Option Addr) (ul' uc' : Nat) :
    (w.setCell ⟨b, 7, none⟩ (.slice ua' ul' uc')).heap[b]? = some (.cells (bCells a len cap ty en p n pc fi sh ba bl bc ua' ul' uc' base) 134) := by
  rw [heap_setCell_same w b 7 _ _ _ h]
  simp only [bCells, List.setIfInBounds_toArray, List.set_cons_zero, List.set_cons_succ]
end Go.Proofs.YtnaejlfjlennhaaGreatDoor
