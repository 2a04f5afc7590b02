/- Layer 2: bytes out of pages: load (Read, Fetch, Peek). -/
import Derived.Test.YtmnjkaimpejohaaGreatDoorVmStore
import Derived.Test.YtmnjkaimpejohaaGreatDoorOwnPut
import Derived.Test.YtmnjkaimpejohaaGreatDoorMakeN
namespace Go.Proofs.YtmnjkaimpejohaaGreatDoor
open Go.RowKit
set_option linter.unusedVariables false
set_option linter.unusedSimpArgs false

theorem slice8v : IntSlice Tryz.prog 39 5 .u8 1 := ⟨Tryz.underlying39, by kernel_rfl⟩

set_option maxRecDepth 100000 in
set_option maxHeartbeats 16000000 in
theorem load_bad (mb : Nat) (S : Nat → Prop) (q c : Nat) (V : Nat → Option Pg) (g : Nat) (F : Nat → Option Nat) (a n perm code x : Nat) (w : World) (h : VmAt w mb S q c V g F) (ha : a < 18446744073709551616) (hn : n < 18446744073709551616) (hp : perm < 8) (hbar : barredF V perm a n = some x) :
    Calls Tryz.prog 57 #[.pointer (some ⟨mb, 0, none⟩), .int .u64 (a : Int), .int .u64 (n : Int), .int .i64 (perm : Int), .int .i64 (code : Int)] w fun e w' => e = .returned (.tuple #[.slice none 0 0, spotV w.heap.size]) ∧ w' = w.alloc (SpotObj x code) := by
  have HB := barred_any mb S q c V g F a n perm w h ha hn hp
  rw [hbar] at HB
  simp only [barV] at HB
  have HBR := Lib.hid HB
  clear h ha hn hp hbar HB
  go_enter Tryz.func57, Tryz.ntmps57
  go_wp2_with (go_at_call 32; refine HBR.out.mono ?_; rintro e w' ⟨rfl, rfl⟩)
  go_ret2
  exact ⟨rfl, rfl⟩

set_option maxRecDepth 100000 in
set_option maxHeartbeats 4000000 in
theorem get_any (pb off : Nat) (p : Pg) (tb tw tl tc : Nat) (k : Nat) (w : World) (hp : w.heap[pb]? = some (.cells p.cells.toArray 76)) (hok : p.Ok) (hoff : off < 4096)
    (hc : ∀ j, j < tl → (w.cell? ⟨tb, tw + j, none⟩).isSome = true) (hf : ∀ j, w.frozen? ⟨tb, tw + j, none⟩ = false) (hk : k = min tl (4096 - off)) :
    Calls Tryz.prog 82 #[.pointer (some ⟨pb, 0, none⟩), .int .u64 (off : Int), .slice (some ⟨tb, tw, none⟩) tl tc] w fun e w' => e = .returned (.int .i64 (k : Int)) ∧ w' = w.setCells tb tw (bcells ((p.bytes.drop off).take k)) := by
  have hlen : ((p.bytes.drop off).take k).length = k := by rw [List.length_take, List.length_drop, hok.len]; omega
  have hcp : ∀ ty, (Builtin.copy_ #[39, 39] ty #[.slice (some ⟨tb, tw, none⟩) tl tc, .slice (some ⟨pb, off, none⟩) (4096 - off) (4096 - off)]).run Tryz.prog w = .ok (.int .i64 (k : Int)) (w.setCells tb tw (bcells ((p.bytes.drop off).take k))) := by
    intro ty
    have := run_copy_cells (P := Tryz.prog) w 39 39 ty 5 tb tw tl tc ⟨pb, off, none⟩ (4096 - off) (4096 - off) (bcells ((p.bytes.drop off).take k)) Tryz.underlying39 (by kernel_rfl)
      (by simp only [bcells, List.length_map, hlen]; show k = min (4096 - off) tl; omega)
      (fun j v hj => by
        have hjl : j < k := by
          have := (List.getElem?_eq_some_iff.1 hj).1
          rw [bcells, List.length_map, hlen] at this
          exact this
        rw [WideShapes.add_plain, page_cell hok hp (by omega), ← hj]
        simp [bcells, List.getElem?_take, hjl, List.getElem?_drop, List.getD, hok.len, show off + j < 4096 by omega])
      (fun j hj => hc j (by rw [bcells, List.length_map, hlen] at hj; omega))
      (fun j hj => hf j) bcells_one
    rw [this]
    simp only [bcells, List.length_map, hlen]
    rfl
  have h1 : (off : Int) ≤ 4096 := by omega
  have h2 : ¬ 4096 = off := by omega
  have h3 : off ≤ 4096 := by omega
  generalize bcells ((p.bytes.drop off).take k) = C2 at *
  generalize hD : 4096 - off = d at *
  clear hp hok hc hf hk hlen hoff
  go_enter Tryz.func82, Tryz.ntmps82
  go_wp2_with fail
  go_ret
  exact ⟨rfl, rfl⟩

/-- what has been read so far -/
theorem laid_from {f : Nat → Nat} {n d : Nat} {r : List Nat} (hd : d + r.length ≤ n) (hr : ∀ i, i < r.length → r.getD i 0 = f (d + i)) : setFrom ((laidTo f n d).map (Value.int .u8)) d (bcells r) = (laidTo f n (d + r.length)).map (Value.int .u8) := by
  apply List.ext_getElem?
  intro m
  by_cases hm : m < n
  · rw [setFrom_get _ _ _ _ (by rw [List.length_map, laidTo_length]; exact hm)]
    simp only [List.getElem?_map, laidTo, List.getElem?_range hm, Option.map_some, bcells, List.length_map]
    by_cases h1 : d ≤ m ∧ m < d + r.length
    · rw [if_pos h1, if_pos (by omega)]
      have := hr (m - d) (by omega)
      rw [show d + (m - d) = m by omega] at this
      rw [← this]
      simp [List.getD, show m - d < r.length by omega]
    · rw [if_neg h1]
      by_cases h2 : m < d
      · rw [if_pos h2, if_pos (by omega)]
      · rw [if_neg h2, if_neg (by omega)]
  · rw [List.getElem?_eq_none (by rw [setFrom_length, List.length_map, laidTo_length]; omega), List.getElem?_eq_none (by rw [List.length_map, laidTo_length]; omega)]
theorem OwnI.putCells {w : World} {B g n d : Nat} {f : Nat → Nat} {r : List Nat} (h : OwnI w B 5 .u8 (.slice (some ⟨g, 0, none⟩) n n) (laidTo f n d)) (hd : d + r.length ≤ n) (hr : ∀ i, i < r.length → r.getD i 0 = f (d + i)) :
    OwnI (w.setCells g d (bcells r)) B 5 .u8 (.slice (some ⟨g, 0, none⟩) n n) (laidTo f n (d + r.length)) ∧ w.grownBy (w.setCells g d (bcells r)) (some g) := by
  unfold OwnI at h ⊢
  rw [laidTo_length] at h ⊢
  have := own_setCells (bcells r) d w _ h
  rw [laid_from hd hr] at this
  exact this

/-- the bytes from an address on -/
def bytesAt (V : Nat → Option Pg) (a n : Nat) : List Nat := (List.range n).map fun i => byteAt V (a + i)
theorem bytesAt_lt {V : Nat → Option Pg} {a n : Nat} (h : ∀ k p, V k = some p → p.Ok) : ∀ b ∈ bytesAt V a n, b < 256 := by
  intro b hb
  obtain ⟨i, -, rfl⟩ := List.mem_map.1 hb
  show byteAt V (a + i) < 256
  unfold byteAt
  cases hv : V ((a + i) / 4096) with
  | none => show 0 < 256; omega
  | some p =>
    have hp := h _ p hv
    have hl : (a + i) % 4096 < p.bytes.length := by rw [hp.len]; omega
    show p.bytes.getD _ 0 < 256
    have e : p.bytes.getD ((a + i) % 4096) 0 = p.bytes[(a + i) % 4096] := by simp [List.getD, hl]
    rw [e]
    exact hp.byte _ (List.getElem_mem hl)

set_option maxRecDepth 100000 in
set_option maxHeartbeats 16000000 in
theorem load_good (mb : Nat) (S : Nat → Prop) (q c : Nat) (V : Nat → Option Pg) (g : Nat) (F : Nat → Option Nat) (a n perm code : Nat) (w : World) (h : VmAt w mb S q c V g F) (ha : a < 18446744073709551616) (hn : n ≤ 140737488355328) (hp : perm < 8) (hbar : barredF V perm a n = none) :
    Calls Tryz.prog 57 #[.pointer (some ⟨mb, 0, none⟩), .int .u64 (a : Int), .int .u64 (n : Int), .int .i64 (perm : Int), .int .i64 (code : Int)] w fun e w' => ∃ gb, e = .returned (.tuple #[.slice (some ⟨gb, 0, none⟩) n n, .nilIface]) ∧ w.heap.size ≤ gb ∧ OwnI w' w.heap.size 5 .u8 (.slice (some ⟨gb, 0, none⟩) n n) (toI (bytesAt V a n)) ∧ (∀ b ∈ bytesAt V a n, b < 256) ∧ Below w.heap.size w w' := by
  have HB := barred_any mb S q c V g F a n perm w h ha (by omega) hp
  rw [hbar] at HB
  simp only [barV] at HB
  have HBR := Lib.hid HB
  have HALL : Hid (∀ i, i < n → ∃ p, V ((a + i) / 4096) = some p) := Lib.hid (fun i hi => by
    obtain ⟨p, h1, -⟩ := barredF_none hbar hi
    exact ⟨p, h1⟩)
  have HLOW : Hid (∀ k, V k ≠ none → k < 34359738368) := Lib.hid h.low
  have HLT : Hid (∀ b ∈ bytesAt V a n, b < 256) := Lib.hid (bytesAt_lt (fun k p hv => by obtain ⟨b, -, -, h3, -⟩ := h.at_page hv; exact h3))
  have H := Lib.hid h
  have HN := Lib.hid hn
  clear h ha hn hp hbar HB
  go_enter Tryz.func57, Tryz.ntmps57
  go_wp2_with (first
    | (go_at_call 32; refine HBR.out.mono ?_; rintro e w' ⟨rfl, rfl⟩)
    | (at_make; (refine wpList_make_nums rfl (.tmp 32) (.tmp 32) slice8v rfl w.heap.size w n .u64 .u64 (n : Int) (n : Int) rfl rfl rfl rfl (by have := HN.out; omega) (by have := HN.out; unfold maxLen; omega) (Below.refl _ _) (Nat.le_refl _) ?_); intro gb w4 ho hge hb hb2; have O4 := Lib.hid ho; have B4 := Lib.hid hb; have HGE := Lib.hid hge; clear ho hge hb hb2))
  clear HBR
  go_loopg [15, 16] n (fun f y s16 wr => ∃ d : Nat, y = .int .i64 (d : Int) ∧ Hid (d ≤ n ∧ n - d ≤ f) ∧ Hid (OwnI wr w.heap.size 5 .u8 (.slice (some ⟨gb, 0, none⟩) n n) (laidTo (fun i => byteAt V (a + i)) n d)) ∧ Hid (Below w.heap.size w wr))
  case atStart => exact ⟨0, rfl, Lib.hid ⟨by omega, by omega⟩, by rw [laidTo_zero]; exact O4, B4⟩
  case round =>
    clear O4 B4
    obtain ⟨d, rfl, HD, OW, BW⟩ := hrel
    obtain ⟨hd1, hd2⟩ := HD.out
    by_cases hend : d = n
    · subst hend
      clear hd1 hd2 HD HALL
      go_wp2_with fail
      go_ret2
      have ho := OW.out
      rw [laidTo_all] at ho
      exact ⟨gb, rfl, HGE.out, ho, HLT.out, BW.out⟩
    · have hdl : d < n := by omega
      cases gk with
      | zero => omega
      | succ f =>
        obtain ⟨p, hpv⟩ := HALL.out d hdl
        have hk35 := HLOW.out _ (by rw [hpv]; simp)
        have hVm : VmAt wr.drew mb S q c V g F := H.out.below BW.out.drew
        obtain ⟨b, hf, hSb, hok, hpb⟩ := hVm.at_page hpv
        have m1 : wr.drew.cell? ⟨mb, 1, none⟩ = some (.map (some g)) := by rw [cell_of_row _ _ 1 _ _ _ hVm.box]; rfl
        have hl0 := hVm.map.look (T := 61) Tryz.underlying22 Tryz.underlying61 (page_zero wr.drew) (k := (a + d) / 4096) (by omega)
        rw [hf] at hl0
        have hl : (Instr.lookup 61 (.map (some g)) (.int .u64 (((a + d) / 4096 : Nat) : Int)) false).run Tryz.prog wr.drew = .ok (.pointer (some ⟨b, 0, none⟩)) wr.drew := hl0
        obtain ⟨K, hK⟩ : ∃ K, K = min (n - d) (4096 - (a + d) % 4096) := ⟨_, rfl⟩
        have hOD : OwnI wr.drew w.heap.size 5 .u8 (.slice (some ⟨gb, 0, none⟩) n n) (laidTo (fun i => byteAt V (a + i)) n d) := OW.out.below (Below.refl _ _).drew
        have HGET := Lib.hid (get_any b ((a + d) % 4096) p gb d (n - d) (n - d) K wr.drew hpb hok (by omega) (fun j hj => by
          have hx : (laidTo (fun i => byteAt V (a + i)) n d)[d + j]? = some _ := List.getElem?_eq_getElem (by rw [laidTo_length]; omega)
          rw [hOD.get2 (d + j) _ hx]; rfl) (fun j => hOD.free2 (d + j)) hK)
        have hrl : ((p.bytes.drop ((a + d) % 4096)).take K).length = K := by rw [List.length_take, List.length_drop, hok.len]; omega
        obtain ⟨hO2, hG2⟩ := hOD.putCells (r := (p.bytes.drop ((a + d) % 4096)).take K) (by rw [hrl]; omega) (fun i hi => by
          rw [hrl] at hi
          have e1 : (a + (d + i)) / 4096 = (a + d) / 4096 := by omega
          have e2 : (a + (d + i)) % 4096 = (a + d) % 4096 + i := by omega
          show _ = byteAt V (a + (d + i))
          unfold byteAt
          rw [e1, hpv]
          show _ = p.bytes.getD ((a + (d + i)) % 4096) 0
          rw [e2]
          simp [List.getD, List.getElem?_take, hi, List.getElem?_drop])
        rw [hrl] at hO2
        have hgb := HGE.out
        have hB2 : Below w.heap.size w (wr.drew.setCells gb d (bcells ((p.bytes.drop ((a + d) % 4096)).take K))) := BW.out.drew.grown hG2 BW.out.size (fun j hj => by
          obtain rfl : gb = j := Option.some.inj hj
          exact hgb)
        have hVm2 := H.out.below hB2
        have m1w : (wr.drew.setCells gb d (bcells ((p.bytes.drop ((a + d) % 4096)).take K))).cell? ⟨mb, 1, none⟩ = some (.map (some g)) := by rw [cell_of_row _ _ 1 _ _ _ hVm2.box]; rfl
        have hlw0 := hVm2.map.look (T := 61) Tryz.underlying22 Tryz.underlying61 (page_zero _) (k := (a + d) / 4096) (by omega)
        rw [hf] at hlw0
        have hlw : (Instr.lookup 61 (.map (some g)) (.int .u64 (((a + d) / 4096 : Nat) : Int)) false).run Tryz.prog (wr.drew.setCells gb d (bcells ((p.bytes.drop ((a + d) % 4096)).take K))) = .ok (.pointer (some ⟨b, 0, none⟩)) (wr.drew.setCells gb d (bcells ((p.bytes.drop ((a + d) % 4096)).take K))) := hlw0
        have HNX : Hid (d + K ≤ n ∧ n - (d + K) ≤ f ∧ OwnI (wr.drew.setCells gb d (bcells ((p.bytes.drop ((a + d) % 4096)).take K))) w.heap.size 5 .u8 (.slice (some ⟨gb, 0, none⟩) n n) (laidTo (fun i => byteAt V (a + i)) n (d + K)) ∧ Below w.heap.size w (wr.drew.setCells gb d (bcells ((p.bytes.drop ((a + d) % 4096)).take K)))) := Lib.hid ⟨by omega, by omega, hO2, hB2⟩
        have e2 : IntKind.u64.wrap (d : Int) = (d : Int) := by rw [IntKind.wrap_u64]; have := HN.out; omega
        have e3 : IntKind.u64.wrap ((a : Int) + (d : Int)) = ((a + d : Nat) : Int) := by rw [IntKind.wrap_u64]; omega
        have e4 : ((a + d : Nat) : Int).tdiv 4096 = (((a + d) / 4096 : Nat) : Int) := by rw [Int.tdiv_eq_ediv_of_nonneg (by omega)]; omega
        have e5 : ((a + d : Nat) : Int).tmod 4096 = (((a + d) % 4096 : Nat) : Int) := by rw [Int.tmod_eq_emod_of_nonneg (by omega)]; omega
        have e6 : IntKind.u64.wrap (((a + d) / 4096 : Nat) : Int) = (((a + d) / 4096 : Nat) : Int) := by rw [IntKind.wrap_u64]; omega
        have e7 : IntKind.u64.wrap (((a + d) % 4096 : Nat) : Int) = (((a + d) % 4096 : Nat) : Int) := by rw [IntKind.wrap_u64]; omega
        have e8 : IntKind.i64.wrap ((d : Int) + (K : Int)) = ((d + K : Nat) : Int) := by rw [IntKind.wrap_i64]; have := HN.out; omega
        have i1 : (d : Int) < (n : Int) := by omega
        have i2 : (0 : Int) ≤ (d : Int) := by omega
        have i3 : (d : Int) ≤ (n : Int) := by omega
        have i4 : d ≤ n := by omega
        have i5 : ¬ n = d := by omega
        clear hlw0 hd1 hd2 HD hk35 hVm hf hSb hok hpb hl0 hK hVm2 hend hdl hpv hOD hrl hO2 hG2 hgb hB2
        generalize wr.drew.setCells gb d (bcells ((p.bytes.drop ((a + d) % 4096)).take K)) = w2 at *
        generalize (a + d) / 4096 = k at *
        generalize (a + d) % 4096 = r at *
        generalize hrl : n - d = rl at *
        generalize d + K = d2 at *
        generalize a + d = x2 at *
        go_upto_region 8 with fail
        go_region_held3 (fun wx => wx.cell? ⟨mb, 1, none⟩ = some (.map (some g)) ∧ (Instr.lookup 61 (.map (some g)) (.int .u64 (k : Int)) false).run Tryz.prog wx = .ok (.pointer (some ⟨b, 0, none⟩)) wx) (first | exact ⟨m1, hl⟩ | exact ⟨m1w, hlw⟩) (first | (go_at_call 82; refine HGET.out.mono ?_; rintro e w6 ⟨rfl, rfl⟩))
        obtain ⟨n1, n2, n3, n4⟩ := HNX.out
        have HN3 := Lib.hid n3
        have HN4 := Lib.hid n4
        have HN1 := Lib.hid (And.intro n1 n2)
        clear HNX HGET m1 hl m1w hlw n1 n2 n3 n4
        go_wp2_with fail
        go_roundg f
        case measure => omega
        case rel => exact ⟨d2, rfl, HN1, HN3, HN4⟩
end Go.Proofs.YtmnjkaimpejohaaGreatDoor
