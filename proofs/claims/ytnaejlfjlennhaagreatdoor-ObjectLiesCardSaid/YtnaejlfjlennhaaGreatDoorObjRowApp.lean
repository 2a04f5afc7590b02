/- Layer 4: the tests of a program header, as they are made; is there a PtLoad? -/
import Derived.Test.YtnaejlfjlennhaaGreatDoorHeadLoad
import Derived.Test.YtnaejlfjlennhaaGreatDoorBox
import Derived.Deep.AppendLies
import Derived.Deep.RegionHeld3
import Derived.Deep.RegionLaw
import Derived.Laws.IdiomCopy
import Derived.Laws.OwnMore
import Derived.Test.YtnaejlfjlennhaaGreatDoorSymbol
import Derived.Test.YtnaejlfjlennhaaGreatDoorVersItem
import Derived.Laws.AppendOwnNone
namespace Go.Proofs.YtnaejlfjlennhaaGreatDoor
open Go.RowKit
set_option linter.unusedVariables false
set_option linter.unusedSimpArgs false

/-- what makes a test -/
def MakePost (r : Option (Nat × Nat)) (w : World) (e : Ending) (w' : World) : Prop := (∃ F b d, e = .returned (.func (.func F) b d) ∧ TestV (.func (.func F) b d) w' r) ∧ Below w.heap.size w w'
theorem alone_make (r : HRd) (ps : List PT) (p : PT) (at_ : Nat) (w : World) (h : r.at w) (hp : PRow w r.pa ps) (hn : ps.length = r.pn) (hnl : r.pn ≤ 140737488351232) (ha : at_ < 18446744073709551616) :
    Calls Tryz.prog 43 #[.pointer (some ⟨r.rb, 0, none⟩), p.hv, .int .u64 (at_ : Int)] w (MakePost (unF (aloneF ps p) at_ 5) w) := by
  refine (alone_any r ps p at_ w h hp hn hnl ha).mono ?_
  rintro e w' ⟨⟨v, rfl, hv⟩, hb⟩
  obtain ⟨F, b, d, rfl, -⟩ := hv.is
  exact ⟨⟨F, b, d, rfl, hv⟩, hb⟩
theorem enters_inside1 : ∀ (args : Array Value) (w : World), (callFunc 73 args).run Tryz.prog w = .ok (.enter 73 args) w := enters_of Tryz.func73 (by kernel_rfl) rfl
theorem enters_load1 : ∀ (args : Array Value) (w : World), (callFunc 77 args).run Tryz.prog w = .ok (.enter 77 args) w := enters_of Tryz.func77 (by kernel_rfl) rfl
theorem three_new (w : World) (o1 o2 o3 : Obj) : Below w.heap.size w (((w.alloc o1).alloc o2).alloc o3) ∧ (((w.alloc o1).alloc o2).alloc o3).heap[w.heap.size]? = some o1 ∧ (((w.alloc o1).alloc o2).alloc o3).heap[w.heap.size + 1]? = some o2 ∧ (((w.alloc o1).alloc o2).alloc o3).heap[w.heap.size + 2]? = some o3 := by
  refine ⟨ballo (ballo (ballo (Below.refl _ _) _) _) _, ?_, ?_, ?_⟩
  · rw [heap_alloc_old _ _ (by simp; omega), heap_alloc_old _ _ (by simp)]
    exact heap_alloc_new _ _
  · rw [heap_alloc_old _ _ (by simp)]
    have := heap_alloc_new (w.alloc o1) o2
    rwa [World.size_alloc] at this
  · have := heap_alloc_new ((w.alloc o1).alloc o2) o3
    rwa [World.size_alloc, World.size_alloc] at this
theorem two_new (w : World) (o1 o2 : Obj) : Below w.heap.size w ((w.alloc o1).alloc o2) ∧ ((w.alloc o1).alloc o2).heap[w.heap.size]? = some o1 ∧ ((w.alloc o1).alloc o2).heap[w.heap.size + 1]? = some o2 := by
  refine ⟨ballo (ballo (Below.refl _ _) _) _, ?_, ?_⟩
  · rw [heap_alloc_old _ _ (by simp)]
    exact heap_alloc_new _ _
  · have := heap_alloc_new (w.alloc o1) o2
    rwa [World.size_alloc] at this
set_option maxRecDepth 100000 in
set_option maxHeartbeats 4000000 in
theorem inside_make (r : HRd) (p : PT) (at_ : Nat) (w : World) (hr : r.at w) (hm : r.m ≤ 140737488351232) (hp : p.wf) (ha : at_ + 64 < 18446744073709551616) :
    Calls Tryz.prog 44 #[.pointer (some ⟨r.rb, 0, none⟩), p.hv, .int .u64 (at_ : Int)] w (MakePost (insideF r.m p at_) w) := by
  obtain ⟨w3, hw3⟩ : ∃ w3, ((w.alloc (.cells #[.pointer (some ⟨r.rb, 0, none⟩)] 115)).alloc (.cells p.cells.toArray 54)).alloc (.cells #[.int .u64 (at_ : Int)] 24) = w3 := ⟨_, rfl⟩
  have hx := three_new w (.cells #[.pointer (some ⟨r.rb, 0, none⟩)] 115) (.cells p.cells.toArray 54) (.cells #[.int .u64 (at_ : Int)] 24)
  rw [hw3] at hx
  obtain ⟨hb, x0, x1, x2⟩ := hx
  have HP : Hid (MakePost (insideF r.m p at_) w (.returned (.func (.func 73) #[] #[.pointer (some ⟨w.heap.size + 1, 0, none⟩), .pointer (some ⟨w.heap.size, 0, none⟩), .pointer (some ⟨w.heap.size + 2, 0, none⟩)])) w3) := Lib.hid ⟨⟨_, _, _, rfl, ⟨_, _, _, rfl, enters_inside1, fun wx hx => inside1_any r p at_ (w.heap.size + 1) w.heap.size (w.heap.size + 2) wx (hr.below (bstep hb hx)) hm hp ha ((hx.block _ (lt_of_block x1)).trans x1) ((hx.block _ (lt_of_block x0)).trans x0) ((hx.block _ (lt_of_block x2)).trans x2)⟩⟩, hb⟩
  generalize MakePost (insideF r.m p at_) w = P at *
  obtain ⟨a0, a1, a2, a3, a4, a5, a6⟩ := p
  unfold PT.hv PT.cells at *
  simp only [] at *
  generalize r.rb = rb at *
  clear hr hm hp ha hb x0 x1 x2
  go_enter Tryz.func44, Tryz.ntmps44
  go_wp2_with fail
  exact HP.out
set_option maxRecDepth 100000 in
set_option maxHeartbeats 4000000 in
theorem load_make (r : HRd) (ps : List PT) (p : PT) (at_ : Nat) (w : World) (hr : r.at w) (hps : PRow w r.pa ps) (hpn : ps.length = r.pn) (hpl : r.pn ≤ 140737488351232) (hwf : ∀ p ∈ ps, p.wf) (hp : p.wf) (ha : at_ + 64 < 18446744073709551616) :
    Calls Tryz.prog 46 #[.pointer (some ⟨r.rb, 0, none⟩), p.hv, .int .u64 (at_ : Int)] w (MakePost (loadF ps p at_) w) := by
  obtain ⟨w3, hw3⟩ : ∃ w3, ((w.alloc (.cells #[.pointer (some ⟨r.rb, 0, none⟩)] 115)).alloc (.cells p.cells.toArray 54)).alloc (.cells #[.int .u64 (at_ : Int)] 24) = w3 := ⟨_, rfl⟩
  have hx := three_new w (.cells #[.pointer (some ⟨r.rb, 0, none⟩)] 115) (.cells p.cells.toArray 54) (.cells #[.int .u64 (at_ : Int)] 24)
  rw [hw3] at hx
  obtain ⟨hb, x0, x1, x2⟩ := hx
  have HP : Hid (MakePost (loadF ps p at_) w (.returned (.func (.func 77) #[] #[.pointer (some ⟨w.heap.size + 1, 0, none⟩), .pointer (some ⟨w.heap.size + 2, 0, none⟩), .pointer (some ⟨w.heap.size, 0, none⟩)])) w3) := Lib.hid ⟨⟨_, _, _, rfl, ⟨_, _, _, rfl, enters_load1, fun wx hx => load1_any r ps p at_ (w.heap.size + 1) (w.heap.size + 2) w.heap.size wx (hr.below (bstep hb hx)) (fun i hi => by
      obtain ⟨q, b, o, e, hl, hcs⟩ := hps i hi
      have hbx := bstep hb hx
      exact ⟨q, b, o, e, Nat.lt_of_lt_of_le hl hbx.size, fun j hj => (hbx.cell (p := ⟨b, o + i * 7 + j, none⟩) hl).trans (hcs j hj)⟩) hpn hpl hwf hp ha ((hx.block _ (lt_of_block x1)).trans x1) ((hx.block _ (lt_of_block x2)).trans x2) ((hx.block _ (lt_of_block x0)).trans x0)⟩⟩, hb⟩
  generalize MakePost (loadF ps p at_) w = P at *
  obtain ⟨a0, a1, a2, a3, a4, a5, a6⟩ := p
  unfold PT.hv PT.cells at *
  simp only [] at *
  generalize r.rb = rb at *
  clear hr hps hpn hpl hwf hp ha hb x0 x1 x2
  go_enter Tryz.func46, Tryz.ntmps46
  go_wp2_with fail
  exact HP.out
set_option maxRecDepth 100000 in
set_option maxHeartbeats 4000000 in
theorem sized_make (t : Value) (p : PT) (at_ : Nat) (w : World) (hp : p.wf) (ha : at_ + 64 < 18446744073709551616) :
    Calls Tryz.prog 45 #[t, p.hv, .int .u64 (at_ : Int)] w (MakePost (sizedF p at_) w) := by
  obtain ⟨w3, hw3⟩ : ∃ w3, (w.alloc (.cells p.cells.toArray 54)).alloc (.cells #[.int .u64 (at_ : Int)] 24) = w3 := ⟨_, rfl⟩
  have hx := two_new w (.cells p.cells.toArray 54) (.cells #[.int .u64 (at_ : Int)] 24)
  rw [hw3] at hx
  obtain ⟨hb, x0, x1⟩ := hx
  have HP : Hid (MakePost (sizedF p at_) w (.returned (.func (.func 75) #[] #[.pointer (some ⟨w.heap.size, 0, none⟩), .pointer (some ⟨w.heap.size + 1, 0, none⟩)])) w3) := Lib.hid ⟨⟨_, _, _, rfl, ⟨_, _, _, rfl, enters_sized1, fun wx hx => sized1_any p at_ w.heap.size (w.heap.size + 1) wx hp ha ((hx.block _ (lt_of_block x0)).trans x0) ((hx.block _ (lt_of_block x1)).trans x1)⟩⟩, hb⟩
  generalize MakePost (sizedF p at_) w = P at *
  obtain ⟨a0, a1, a2, a3, a4, a5, a6⟩ := p
  unfold PT.hv PT.cells at *
  simp only [] at *
  clear hp ha hb x0 x1
  go_enter Tryz.func45, Tryz.ntmps45
  go_wp2_with fail
  exact HP.out
set_option maxRecDepth 100000 in
set_option maxHeartbeats 4000000 in
theorem loads_any (r : HRd) (ps : List PT) (w : World) (h : r.at w) (hp : PRow w r.pa ps) (hn : ps.length = r.pn) (hnl : r.pn ≤ 140737488351232) :
    Calls Tryz.prog 21 #[.pointer (some ⟨r.rb, 0, none⟩)] w fun e w' => e = .returned (match lastF ps with | none => .iface 56 (.int .i64 6) | some _ => .nilIface) ∧ Below w.heap.size w w' := by
  have HL := Lib.hid (lastload_any r ps w h hp hn hnl)
  obtain ⟨q, hq⟩ : ∃ q, (lastF ps).getD PT.zero = q := ⟨_, rfl⟩
  rw [hq] at HL
  generalize r.rb = rb at *
  have HB1 : Hid (∀ wx, Below w.heap.size w wx → Below w.heap.size w (wx.alloc (.cells q.cells.toArray 54))) := Lib.hid (fun wx hb => ballo hb _)
  clear h hp hn hnl hq
  obtain ⟨a0, a1, a2, a3, a4, a5, a6⟩ := q
  unfold PT.hv PT.cells at *
  simp only [] at *
  cases hl : lastF ps with
  | none =>
    rw [hl] at HL
    clear hl
    go_enter Tryz.func21, Tryz.ntmps21
    go_wp2_with fail
    refine HL.out.mono ?_
    rintro e w2 ⟨hpost, hb2⟩
    obtain rfl : e = .returned (.tuple #[.agg #[.int .u32 a0, .int .u32 a1, .int .u64 a2, .int .u64 a3, .int .u64 a4, .int .u64 a5, .int .u64 a6], .bool false]) := hpost
    have B2 := Lib.hid (HB1.out w2 hb2)
    clear hb2
    go_wp2_with fail
    go_ret
    exact ⟨rfl, B2.out⟩
  | some x =>
    rw [hl] at HL
    clear hl
    go_enter Tryz.func21, Tryz.ntmps21
    go_wp2_with fail
    refine HL.out.mono ?_
    rintro e w2 ⟨hpost, hb2⟩
    obtain rfl : e = .returned (.tuple #[.agg #[.int .u32 a0, .int .u32 a1, .int .u64 a2, .int .u64 a3, .int .u64 a4, .int .u64 a5, .int .u64 a6], .bool true]) := hpost
    have B2 := Lib.hid (HB1.out w2 hb2)
    clear hb2
    go_wp2_with fail
    go_ret
    exact ⟨rfl, B2.out⟩
end Go.Proofs.YtnaejlfjlennhaaGreatDoor
/- append of a struct to a slice of structs that a call makes itself, as one step of a statement whose order is left open. Nothing of the program is named. -/
namespace Go.Proofs.YtnaejlfjlennhaaGreatDoor
open Go.RowKit
set_option linter.unusedVariables false
set_option linter.unusedSimpArgs false

theorem step_push_row {P : Program} {w : World} {ops : Array Oper} {o : Oper} {a : Act} {K : Act → World → Prop} {Q : Exit → Act → World → Prop} {E : Prop} (hgd : o.guard = none) (s x : Operand) {t e : TypeId} {z : Value} {sz bytes : Nat} (F : RowSlice P t e z sz bytes)
    (ho : o.op = .call { callee := .builtin .append, args := #[s, x], argTypes := #[t, t] })
    (B : Nat) (w0 : World) (v : Value) (rows : List (List Value)) (n : Nat) (r : List Value) (hs : a.eval s = v) (ad : Addr) (c : Nat) (hx : a.eval x = .slice (some ad) 1 c) (hnews : ∀ j u, r[j]? = some u → w.cell? (ad.add j) = some u)
    (hn : rows.length = n) (hr : r.length = sz) (hr1 : ∀ u ∈ r, u.oneCell' = true)
    (hown : OwnS w B e sz v rows) (h63 : n + 1 ≤ maxLen) (hlen : (n + 1) * bytes ≤ 140737488355328) (bel : Below B w0 w) (hb : B ≤ w.heap.size)
    (h : ∀ ad' cap w', OwnS w' B e sz (.slice ad' (n + 1) cap) (rows ++ [r]) → Below B w0 w' → K (a.put o.dst (.slice ad' (n + 1) cap)) w') :
    if Region.wanted o (yielded ops a.tmps) = true then Oper.wp P o a w K Q else E := by
  subst hn
  obtain ⟨ht, hinfo, hz, hsz⟩ := F
  obtain ⟨i, hi, hz0, hz1, hz2⟩ := info_parts hinfo
  obtain ⟨hown1, hown2⟩ := hown
  refine step_append_lies _ hgd s x t ho B e i z sz bytes ht hi hz0 hz1 hz2 hz hsz v rows.length rows.flatten hs hown1 ad 1 c r hx (by rw [hr, Nat.one_mul]) hnews hr1 (by omega) h63 hlen hb _ rfl ?_
  intro g cap w1 hown' hgr _ _
  refine h (some ⟨g, 0, none⟩) cap w1 ⟨?_, fun q hq => ?_⟩ (bel.grown hgr hb fun j hj => (World.ownsRow.lt hown1 j hj).1)
  · rw [List.length_append, List.length_cons, List.length_nil, List.flatten_append, List.flatten_cons, List.flatten_nil, List.append_nil]
    exact hown'
  · rcases List.mem_append.1 hq with h | h
    · exact hown2 q h
    · simp only [List.mem_cons, List.not_mem_nil, or_false] at h
      subst h
      exact hr
theorem step_grow_row {P : Program} {w : World} {ops : Array Oper} {o : Oper} {a : Act} {K : Act → World → Prop} {Q : Exit → Act → World → Prop} {E : Prop} (hgd : o.guard = none) (s x : Operand) {t e : TypeId} {z : Value} {sz bytes : Nat} (F : RowSlice P t e z sz bytes)
    (ho : o.op = .call { callee := .builtin .append, args := #[s, x], argTypes := #[t, t] })
    (B : Nat) (v : Value) (rows : List (List Value)) (n : Nat) (r : List Value) (hs : a.eval s = v) (ad : Addr) (c : Nat) (hx : a.eval x = .slice (some ad) 1 c) (hnews : ∀ j u, r[j]? = some u → w.cell? (ad.add j) = some u)
    (hn : rows.length = n) (hr : r.length = sz) (hr1 : ∀ u ∈ r, u.oneCell' = true)
    (hown : OwnS w B e sz v rows) (h63 : n + 1 ≤ maxLen) (hlen : (n + 1) * bytes ≤ 140737488355328) (hb : B ≤ w.heap.size)
    (h : ∀ ad' cap w', OwnS w' B e sz (.slice ad' (n + 1) cap) (rows ++ [r]) → w.grownBy w' v.ownBlock → K (a.put o.dst (.slice ad' (n + 1) cap)) w') :
    if Region.wanted o (yielded ops a.tmps) = true then Oper.wp P o a w K Q else E := by
  subst hn
  obtain ⟨ht, hinfo, hz, hsz⟩ := F
  obtain ⟨i, hi, hz0, hz1, hz2⟩ := info_parts hinfo
  obtain ⟨hown1, hown2⟩ := hown
  refine step_append_lies _ hgd s x t ho B e i z sz bytes ht hi hz0 hz1 hz2 hz hsz v rows.length rows.flatten hs hown1 ad 1 c r hx (by rw [hr, Nat.one_mul]) hnews hr1 (by omega) h63 hlen hb _ rfl ?_
  intro g cap w1 hown' hgr _ _
  refine h (some ⟨g, 0, none⟩) cap w1 ⟨?_, fun q hq => ?_⟩ hgr
  · rw [List.length_append, List.length_cons, List.length_nil, List.flatten_append, List.flatten_cons, List.flatten_nil, List.append_nil]
    exact hown'
  · rcases List.mem_append.1 hq with h | h
    · exact hown2 q h
    · simp only [List.mem_cons, List.not_mem_nil, or_false] at h
      subst h
      exact hr
theorem news_alloc (w : World) (r : List Value) (T : TypeId) : ∀ j u, r[j]? = some u → (w.alloc (.cells r.toArray T)).cell? ((⟨w.heap.size, 0, none⟩ : Addr).add j) = some u := fun j u hu => by
  rw [WideShapes.add_plain, World.cell?_alloc_new]
  simpa using hu
end Go.Proofs.YtnaejlfjlennhaaGreatDoor
/- Layer 4: the program headers are read, one behind the other. -/
namespace Go.Proofs.YtnaejlfjlennhaaGreatDoor
open Go.RowKit
set_option linter.unusedVariables false
set_option linter.unusedSimpArgs false

/-- bytes as a slice value -/
structure BSl (w : World) (a : Option Addr) (m cap : Nat) (bs : List Nat) : Prop where
  row : BRow w a bs
  len : bs.length = m
  most : m ≤ 1048576
  none : a = none → m = 0 ∧ cap = 0
  cap : m ≤ cap
theorem BSl.below {w w' : World} {a : Option Addr} {m cap : Nat} {bs : List Nat} (h : BSl w a m cap bs) (hb : Below w.heap.size w w') : BSl w' a m cap bs := ⟨h.row.below hb, h.len, h.most, h.none, h.cap⟩
theorem BSl.number {w : World} {a : Option Addr} {m cap : Nat} {bs : List Nat} (h : BSl w a m cap bs) (at_ n : Nat) (ha : at_ < 18446744073709551616) (hw : wide n = true) : Calls Tryz.prog 39 #[.slice a m cap, .int .u64 (at_ : Int), .int .i64 (n : Int)] w fun e w' => e = .returned (.int .u64 (numF bs at_ n : Int)) ∧ Below w.heap.size w w' := hnumber_any a m cap at_ n bs w h.row h.len (by have := h.most; omega) h.none h.cap ha hw
set_option maxRecDepth 100000 in
set_option maxHeartbeats 8000000 in
theorem prog_any (a : Option Addr) (m cap : Nat) (bs : List Nat) (w : World) (h : BSl w a m cap bs) :
    Calls Tryz.prog 42 #[.slice a m cap] w fun e w' => e = .returned (progF bs).hv ∧ Below w.heap.size w w' := by
  have hwf := progF_wf h.row.2
  have HN : Hid (∀ (at_ n : Nat) wx, at_ < 18446744073709551616 → wide n = true → Below w.heap.size w wx → Calls Tryz.prog 39 #[.slice a m cap, .int .u64 (at_ : Int), .int .i64 (n : Int)] wx fun e w' => e = .returned (.int .u64 (numF bs at_ n : Int)) ∧ Below wx.heap.size wx w') := Lib.hid (fun at_ n wx ha hw hb => (h.below hb).number at_ n ha hw)
  have N0 : Hid (∀ wx, Below w.heap.size w wx → Calls Tryz.prog 39 #[.slice a m cap, .int .u64 0, .int .i64 4] wx fun e w' => e = .returned (.int .u64 (numF bs 0 4 : Int)) ∧ Below wx.heap.size wx w') := Lib.hid (fun wx hb => HN.out 0 4 wx (by decide) (by decide) hb)
  have N1 : Hid (∀ wx, Below w.heap.size w wx → Calls Tryz.prog 39 #[.slice a m cap, .int .u64 4, .int .i64 4] wx fun e w' => e = .returned (.int .u64 (numF bs 4 4 : Int)) ∧ Below wx.heap.size wx w') := Lib.hid (fun wx hb => HN.out 4 4 wx (by decide) (by decide) hb)
  have N2 : Hid (∀ wx, Below w.heap.size w wx → Calls Tryz.prog 39 #[.slice a m cap, .int .u64 8, .int .i64 8] wx fun e w' => e = .returned (.int .u64 (numF bs 8 8 : Int)) ∧ Below wx.heap.size wx w') := Lib.hid (fun wx hb => HN.out 8 8 wx (by decide) (by decide) hb)
  have N3 : Hid (∀ wx, Below w.heap.size w wx → Calls Tryz.prog 39 #[.slice a m cap, .int .u64 16, .int .i64 8] wx fun e w' => e = .returned (.int .u64 (numF bs 16 8 : Int)) ∧ Below wx.heap.size wx w') := Lib.hid (fun wx hb => HN.out 16 8 wx (by decide) (by decide) hb)
  have N4 : Hid (∀ wx, Below w.heap.size w wx → Calls Tryz.prog 39 #[.slice a m cap, .int .u64 32, .int .i64 8] wx fun e w' => e = .returned (.int .u64 (numF bs 32 8 : Int)) ∧ Below wx.heap.size wx w') := Lib.hid (fun wx hb => HN.out 32 8 wx (by decide) (by decide) hb)
  have N5 : Hid (∀ wx, Below w.heap.size w wx → Calls Tryz.prog 39 #[.slice a m cap, .int .u64 40, .int .i64 8] wx fun e w' => e = .returned (.int .u64 (numF bs 40 8 : Int)) ∧ Below wx.heap.size wx w') := Lib.hid (fun wx hb => HN.out 40 8 wx (by decide) (by decide) hb)
  have N6 : Hid (∀ wx, Below w.heap.size w wx → Calls Tryz.prog 39 #[.slice a m cap, .int .u64 48, .int .i64 8] wx fun e w' => e = .returned (.int .u64 (numF bs 48 8 : Int)) ∧ Below wx.heap.size wx w') := Lib.hid (fun wx hb => HN.out 48 8 wx (by decide) (by decide) hb)
  obtain ⟨hw0, hw1, -⟩ := hwf
  unfold progF at *
  simp only [] at hw0 hw1
  clear HN h
  generalize numF bs 0 4 = a0 at *
  generalize numF bs 4 4 = a1 at *
  generalize numF bs 8 8 = a2 at *
  generalize numF bs 16 8 = a3 at *
  generalize numF bs 32 8 = a4 at *
  generalize numF bs 40 8 = a5 at *
  generalize numF bs 48 8 = a6 at *
  have u0 : IntKind.u32.wrap (a0 : Int) = (a0 : Int) := by rw [IntKind.wrap_u32]; omega
  have u1 : IntKind.u32.wrap (a1 : Int) = (a1 : Int) := by rw [IntKind.wrap_u32]; omega
  obtain ⟨vb, hvb⟩ : ∃ vb, w.heap.size = vb := ⟨_, rfl⟩
  obtain ⟨w1, hw1'⟩ : ∃ w1, w.alloc (.cells #[.int .u32 0, .int .u32 0, .int .u64 0, .int .u64 0, .int .u64 0, .int .u64 0, .int .u64 0] 54) = w1 := ⟨_, rfl⟩
  have B1 : Hid (Below w.heap.size w w1) := Lib.hid (by rw [← hw1']; exact ballo (Below.refl _ _) _)
  have X1 : Hid (w1.heap[vb]? = some (.cells #[.int .u32 0, .int .u32 0, .int .u64 0, .int .u64 0, .int .u64 0, .int .u64 0, .int .u64 0] 54)) := Lib.hid (by rw [← hw1', ← hvb]; exact heap_alloc_new _ _)
  have HI : Hid ((Tryz.prog.info? 54).map (·.size) = some (#[.int .u32 (a0 : Int), .int .u32 (a1 : Int), .int .u64 (a2 : Int), .int .u64 (a3 : Int), .int .u64 (a4 : Int), .int .u64 (a5 : Int), .int .u64 (a6 : Int)] : Array Value).size) := Lib.hid (by kernel_rfl)
  have HO : Hid ((#[.int .u32 (a0 : Int), .int .u32 (a1 : Int), .int .u64 (a2 : Int), .int .u64 (a3 : Int), .int .u64 (a4 : Int), .int .u64 (a5 : Int), .int .u64 (a6 : Int)] : Array Value).all (·.oneCell') = true) := Lib.hid (by simp [Value.oneCell'])
  have HW1 := Lib.hid hw1'
  have HVB := Lib.hid hvb
  unfold PT.hv PT.cells
  simp only []
  clear hw0 hw1 hw1'
  go_enter Tryz.func42, Tryz.ntmps42
  go_wp2_with fail
  rw [HW1.out]
  refine (N0.out w1 B1.out).mono ?_
  rintro e w2 ⟨rfl, hb⟩
  have B2 := Lib.hid (bstep B1.out hb)
  have X2 := Lib.hid ((hb.block _ (lt_of_block X1.out)).trans X1.out)
  clear hb
  go_wp2_with fail
  refine (N1.out w2 B2.out).mono ?_
  rintro e w3 ⟨rfl, hb⟩
  have B3 := Lib.hid (bstep B2.out hb)
  have X3 := Lib.hid ((hb.block _ (lt_of_block X2.out)).trans X2.out)
  clear hb
  go_wp2_with fail
  refine (N2.out w3 B3.out).mono ?_
  rintro e w4 ⟨rfl, hb⟩
  have B4 := Lib.hid (bstep B3.out hb)
  have X4 := Lib.hid ((hb.block _ (lt_of_block X3.out)).trans X3.out)
  clear hb
  go_wp2_with fail
  refine (N3.out w4 B4.out).mono ?_
  rintro e w5 ⟨rfl, hb⟩
  have B5 := Lib.hid (bstep B4.out hb)
  have X5 := Lib.hid ((hb.block _ (lt_of_block X4.out)).trans X4.out)
  clear hb
  go_wp2_with fail
  refine (N4.out w5 B5.out).mono ?_
  rintro e w6 ⟨rfl, hb⟩
  have B6 := Lib.hid (bstep B5.out hb)
  have X6 := Lib.hid ((hb.block _ (lt_of_block X5.out)).trans X5.out)
  clear hb
  go_wp2_with fail
  refine (N5.out w6 B6.out).mono ?_
  rintro e w7 ⟨rfl, hb⟩
  have B7 := Lib.hid (bstep B6.out hb)
  have X7 := Lib.hid ((hb.block _ (lt_of_block X6.out)).trans X6.out)
  clear hb
  go_wp2_with fail
  refine (N6.out w7 B7.out).mono ?_
  rintro e w8 ⟨rfl, hb⟩
  have B8 := Lib.hid (bstep B7.out hb)
  have X8 := Lib.hid ((hb.block _ (lt_of_block X7.out)).trans X7.out)
  clear hb
  obtain ⟨w9, hw9⟩ : ∃ w9, w8.setRow vb #[.int .u32 (a0 : Int), .int .u32 (a1 : Int), .int .u64 (a2 : Int), .int .u64 (a3 : Int), .int .u64 (a4 : Int), .int .u64 (a5 : Int), .int .u64 (a6 : Int)] = w9 := ⟨_, rfl⟩
  have HW9 := Lib.hid hw9
  have Y9 : Hid (w9.heap[vb]? = some (.cells #[.int .u32 (a0 : Int), .int .u32 (a1 : Int), .int .u64 (a2 : Int), .int .u64 (a3 : Int), .int .u64 (a4 : Int), .int .u64 (a5 : Int), .int .u64 (a6 : Int)] 54)) := Lib.hid (by rw [← hw9]; exact setRow_heap _ _ _ _ _ _ X8.out)
  have B9 : Hid (Below w.heap.size w w9) := Lib.hid (by rw [← hw9]; exact below_setRow B8.out (by have := HVB.out; omega) _)
  clear hw9
  go_wp2_with (refine wpList_store_row rfl 54 _ _ rfl vb #[.int .u32 (a0 : Int), .int .u32 (a1 : Int), .int .u64 (a2 : Int), .int .u64 (a3 : Int), .int .u64 (a4 : Int), .int .u64 (a5 : Int), .int .u64 (a6 : Int)] rfl rfl 54 _ X8.out HI.out rfl HO.out ?_; rw [HW9.out])
  refine bodyPost_ret_by (results_cell_row Tryz.results42 _ _ vb 54 #[.int .u32 (a0 : Int), .int .u32 (a1 : Int), .int .u64 (a2 : Int), .int .u64 (a3 : Int), .int .u64 (a4 : Int), .int .u64 (a5 : Int), .int .u64 (a6 : Int)] (0, 0) _ rfl Y9.out Tryz.underlying54 rfl HI.out) (by rfl) ?_
  exact ⟨rfl, by first | exact B9.out | (rw [HVB.out] at B9; exact B9.out)⟩
end Go.Proofs.YtnaejlfjlennhaaGreatDoor
/- Slices of structs that a call makes itself, by make: what they are, and a store of one struct. Nothing of the program is named. -/
namespace Go.Proofs.YtnaejlfjlennhaaGreatDoor
open Go.RowKit
set_option linter.unusedVariables false
set_option linter.unusedSimpArgs false

theorem flatten_len {sz : Nat} : ∀ (rows : List (List Value)) (h : ∀ r ∈ rows, r.length = sz), rows.flatten.length = rows.length * sz
  | [], _ => by simp
  | r :: rows, h => by
    rw [List.flatten_cons, List.length_append, h r (by simp), flatten_len rows (fun x hx => h x (by simp [hx])), List.length_cons, Nat.add_mul]
    omega
/-- every place of the cells is one of a row -/
theorem flatten_get {sz : Nat} (hs : 0 < sz) (rows : List (List Value)) (h : ∀ r ∈ rows, r.length = sz) (m : Nat) (hm : m < rows.length * sz) : ∃ (hi : m / sz < rows.length), m % sz < sz ∧ rows.flatten[m]? = rows[m / sz][m % sz]? := by
  have hi : m / sz < rows.length := (Nat.div_lt_iff_lt_mul hs).2 hm
  have hj : m % sz < sz := Nat.mod_lt _ hs
  refine ⟨hi, hj, ?_⟩
  have := flatten_at rows h (m / sz) (m % sz) hi hj
  rwa [Nat.mul_comm, Nat.div_add_mod] at this

theorem made_rows {z : List Value} {n sz : Nat} (hz : z.length = sz) (hs : 0 < sz) : (madeCells z.toArray (n * sz)).toList = (List.replicate n z).flatten := by
  apply List.ext_getElem?
  intro m
  have hr : ∀ r ∈ List.replicate n z, r.length = sz := fun r hr => by rw [(List.mem_replicate.1 hr).2]; exact hz
  by_cases hm : m < n * sz
  · obtain ⟨hi, hj, e⟩ := flatten_get hs (List.replicate n z) hr m (by simpa using hm)
    rw [e]
    simp only [List.getElem_replicate]
    simp only [madeCells, Array.toList_map, Array.toList_range, List.getElem?_map, List.getElem?_range hm, Option.map_some, List.size_toArray, hz]
    have hj' : m % sz < z.length := by omega
    simp [hj']
  · rw [List.getElem?_eq_none (by rw [Array.length_toList, size_madeCells]; omega), List.getElem?_eq_none (by rw [flatten_len _ hr]; simpa using hm)]

def setFrom : List Value → Nat → List Value → List Value
  | xs, _, [] => xs
  | xs, o, v :: vs => setFrom (xs.set o v) (o + 1) vs
theorem setFrom_length : ∀ (vs : List Value) (xs : List Value) (o : Nat), (setFrom xs o vs).length = xs.length
  | [], _, _ => rfl
  | v :: vs, xs, o => by rw [setFrom, setFrom_length vs, List.length_set]
theorem setFrom_get : ∀ (vs : List Value) (xs : List Value) (o m : Nat), m < xs.length → (setFrom xs o vs)[m]? = if o ≤ m ∧ m < o + vs.length then vs[m - o]? else xs[m]?
  | [], xs, o, m, hm => by
    rw [setFrom, if_neg (by simp)]
  | v :: vs, xs, o, m, hm => by
    rw [setFrom, setFrom_get vs (xs.set o v) (o + 1) m (by simpa using hm)]
    by_cases h1 : m = o
    · subst h1
      rw [if_neg (by omega), if_pos (by simp), List.getElem?_set_self hm]
      simp
    · rw [List.getElem?_set_ne (by omega)]
      by_cases h2 : o + 1 ≤ m ∧ m < o + 1 + vs.length
      · rw [if_pos h2, if_pos (by simp only [List.length_cons]; omega)]
        have : m - o = (m - (o + 1)) + 1 := by omega
        rw [this, List.getElem?_cons_succ]
      · rw [if_neg h2, if_neg (by simp only [List.length_cons]; omega)]
theorem setFrom_rows {sz : Nat} (hs : 0 < sz) (rows : List (List Value)) (h : ∀ r ∈ rows, r.length = sz) (k : Nat) (hk : k < rows.length) (r : List Value) (hr : r.length = sz) : setFrom rows.flatten (k * sz) r = (rows.set k r).flatten := by
  have h' : ∀ q ∈ rows.set k r, q.length = sz := fun q hq => by
    rcases List.mem_or_eq_of_mem_set hq with h1 | h1
    · exact h q h1
    · rw [h1]; exact hr
  apply List.ext_getElem?
  intro m
  by_cases hm : m < rows.length * sz
  · obtain ⟨hi, hj, e⟩ := flatten_get hs rows h m hm
    obtain ⟨hi', -, e'⟩ := flatten_get hs (rows.set k r) h' m (by simpa using hm)
    rw [setFrom_get r _ _ _ (by rw [flatten_len rows h]; exact hm), e, e']
    by_cases hmk : m / sz = k
    · have hd := Nat.div_add_mod m sz
      rw [hmk, Nat.mul_comm] at hd
      rw [if_pos (by omega)]
      have : (rows.set k r)[m / sz] = r := by
        rw [List.getElem_set]
        simp [hmk]
      rw [this, show m - k * sz = m % sz from by omega]
    · rw [if_neg (by
        intro hh
        apply hmk
        refine Nat.div_eq_of_lt_le (by omega) ?_
        rw [Nat.add_mul]
        omega)]
      have : (rows.set k r)[m / sz] = rows[m / sz] := by
        rw [List.getElem_set]
        simp [Ne.symm hmk]
      rw [this]
  · rw [List.getElem?_eq_none (by rw [setFrom_length, flatten_len rows h]; omega), List.getElem?_eq_none (by rw [flatten_len _ h']; simpa using hm)]

theorem own_setCells {B : Nat} {e : TypeId} {sz g n cap : Nat} : ∀ (vs : List Value) (o : Nat) (w : World) (xs : List Value), w.ownsRow B e sz (.slice (some ⟨g, 0, none⟩) n cap) n xs →
    (w.setCells g o vs).ownsRow B e sz (.slice (some ⟨g, 0, none⟩) n cap) n (setFrom xs o vs) ∧ w.grownBy (w.setCells g o vs) (some g)
  | [], _, w, _, h => ⟨h, ⟨rfl, rfl, rfl, Nat.le_refl _, fun _ _ _ => rfl⟩⟩
  | v :: vs, o, w, xs, h => by
    obtain ⟨h1, g1⟩ := h.stored o v
    obtain ⟨h2, g2⟩ := own_setCells vs (o + 1) _ _ h1
    exact ⟨h2, g1.trans g2⟩

section
variable {w : World} {B : Nat} {e : TypeId} {sz g n cap : Nat} {rows : List (List Value)}
theorem OwnS.putRow (h : OwnS w B e sz (.slice (some ⟨g, 0, none⟩) n cap) rows) (hs : 0 < sz) (k : Nat) (hk : k < rows.length) (r : List Value) (hr : r.length = sz) :
    OwnS (w.setCells g (k * sz) r) B e sz (.slice (some ⟨g, 0, none⟩) n cap) (rows.set k r) ∧ w.grownBy (w.setCells g (k * sz) r) (some g) := by
  have hn := h.at.1
  obtain ⟨h1, h2⟩ := h
  rw [← hn] at h1
  obtain ⟨h3, h4⟩ := own_setCells r (k * sz) w _ h1
  refine ⟨⟨?_, fun q hq => ?_⟩, h4⟩
  · rw [List.length_set, ← hn, ← setFrom_rows hs rows h2 k hk r hr]
    exact h3
  · rcases List.mem_or_eq_of_mem_set hq with h5 | h5
    · exact h2 q h5
    · rw [h5]; exact hr
theorem OwnS.cellAt (h : OwnS w B e sz (.slice (some ⟨g, 0, none⟩) n cap) rows) (k j : Nat) (hk : k < rows.length) (hj : j < sz) : w.cell? ⟨g, k * sz + j, none⟩ = rows[k][j]? := by
  obtain ⟨b, o, e, -, hc⟩ := h.at.2.1 k hk
  simp only [Option.some.injEq, Addr.mk.injEq, and_true] at e
  obtain ⟨rfl, rfl⟩ := e
  have := hc j hj
  rwa [Nat.zero_add] at this
theorem OwnS.freeAt (h : OwnS w B e sz (.slice (some ⟨g, 0, none⟩) n cap) rows) (j : Nat) : w.frozen? ⟨g, j, none⟩ = false := by
  have hn := h.at.1
  obtain ⟨h1, h2⟩ := h
  rw [← hn] at h1
  exact h1.frozenAt j
theorem OwnS.blockGe (h : OwnS w B e sz (.slice (some ⟨g, 0, none⟩) n cap) rows) : B ≤ g ∧ g < w.heap.size := World.ownsRow.lt h.1 g rfl
end

/-- make([]T, n), T a struct -/
theorem wpList_make_row {P : Program} {w : World} {ops : Array Oper} {rest : List Oper} {o : Oper} {a : Act} {Q : Exit → Act → World → Prop} (hgd : o.guard = none) (l c : Operand) {t e : TypeId} {z : Value} {sz bytes : Nat} (F : RowSlice P t e z sz bytes)
    (ho : o.op = Op.makeSlice t l c) (zr : List Value) (hzr : z.cells = zr.toArray) (B : Nat) (w0 : World) (n : Nat) (kl kc : IntKind) (L C : Int) (hl : a.eval l = .int kl L) (hc : a.eval c = .int kc C) (hL : L = (n : Int)) (hC : C = (n : Int)) (hby : bytes * n ≤ 281474976710656) (h63 : n ≤ maxLen) (bel : Below B w0 w) (hb : B ≤ w.heap.size)
    (h : ∀ g w', OwnS w' B e sz (.slice (some ⟨g, 0, none⟩) n n) (List.replicate n zr) → w.heap.size ≤ g → Below B w0 w' → Below w.heap.size w w' → wpList P ops Q rest (a.put o.dst (.slice (some ⟨g, 0, none⟩) n n)) w') : wpList P ops Q (o :: rest) a w := by
  obtain ⟨ht, hinfo, hz, hsz⟩ := F
  obtain ⟨i, hi, hz0, hz1, hz2⟩ := info_parts hinfo
  refine wpList_make_full w hgd l c t ho B e i z sz ht hi hz0 hz1 kl kc L C n hl hc hL hC (by rw [hz2]; exact hby) h63 hb ?_
  intro w' hown hgr
  have hzl : zr.length = sz := by rw [← hz, hzr]; simp
  rw [hzr, made_rows hzl hsz] at hown
  refine h w.heap.size w' ⟨by simpa using hown, fun r hr => by rw [(List.mem_replicate.1 hr).2]; exact hzl⟩ (Nat.le_refl _) (bel.grown hgr hb (fun j hj => by cases hj)) ((Below.refl _ _).grown hgr (Nat.le_refl _) (fun j hj => by cases hj))
end Go.Proofs.YtnaejlfjlennhaaGreatDoor
/- Layer 6: the symbols of a file: the program's answer. -/
namespace Go.Proofs.YtnaejlfjlennhaaGreatDoor
open Go.RowKit
set_option linter.unusedVariables false
set_option linter.unusedSimpArgs false

/-- the k-th symbol of a table -/
def symAt (s t : List Nat) (k : Nat) : List Value × Nat := symF s ((t.drop (24 * k)).take 24)
/-- an error's number of the k-th symbol -/
def symErr (s t : List Nat) (k : Nat) : Nat := if k = 0 ∧ t.take 24 ≠ List.replicate 24 0 then 3 else (symAt s t k).2
/-- the first error's number of the first n symbols -/
def symsErr (s t : List Nat) : Nat → Nat
  | 0 => 0
  | k + 1 => if symsErr s t k ≠ 0 then symsErr s t k else symErr s t k
def symsTo (s t : List Nat) (n : Nat) : List (List Value) := (List.range n).map fun k => (symAt s t k).1
theorem symF_len (s bs : List Nat) : (symF s bs).1.length = 7 := by
  unfold symF
  split
  · split <;> rfl
  · rfl
theorem symF_shape (s bs : List Nat) : ∃ (nm : ByteArray) (x1 x2 x3 x4 x5 x6 : Int), (symF s bs).1 = [.string nm, .int .i64 x1, .int .i64 x2, .int .i64 x3, .int .i64 x4, .int .u64 x5, .int .u64 x6] := by
  unfold symF
  split
  · split
    · exact ⟨_, _, _, _, _, _, _, rfl⟩
    · exact ⟨_, _, _, _, _, _, _, rfl⟩
  · exact ⟨_, _, _, _, _, _, _, rfl⟩
theorem symErr_code (s t : List Nat) (k : Nat) : symErr s t k = 0 ∨ symErr s t k = 2 ∨ symErr s t k = 3 ∨ symErr s t k = 4 := by
  unfold symErr
  split
  · omega
  · unfold symAt symF
    split
    · split
      · left; rfl
      · right; right; left; rfl
    · rcases textF_code s (numOf (((t.drop (24 * k)).take 24).take 4)) with h | h | h
      · left; exact h
      · rw [h]; omega
      · rw [h]; omega
theorem symsErr_code (s t : List Nat) (n : Nat) : symsErr s t n = 0 ∨ symsErr s t n = 2 ∨ symsErr s t n = 3 ∨ symsErr s t n = 4 := by
  induction n with
  | zero => left; rfl
  | succ n ih =>
    unfold symsErr
    split
    · exact ih
    · exact symErr_code s t n
/-- a first error stays the first -/
theorem symsErr_stays {s t : List Nat} {k : Nat} (h0 : symsErr s t k = 0) (h : symErr s t k ≠ 0) : ∀ n, k < n → symsErr s t n = symErr s t k := by
  intro n
  induction n with
  | zero => intro h1; omega
  | succ n ih =>
    intro h1
    unfold symsErr
    by_cases hk : k = n
    · subst hk
      rw [if_neg (by omega)]
    · rw [ih (by omega), if_pos h]
theorem symsErr_next {s t : List Nat} {k : Nat} (h0 : symsErr s t k = 0) (h : symErr s t k = 0) : symsErr s t (k + 1) = 0 := by
  unfold symsErr
  rw [if_neg (by omega), h]

/-- the rows when k of n symbols are laid -/
def symsLaid (s t : List Nat) (k n : Nat) : List (List Value) := symsTo s t k ++ List.replicate (n - k) symZero
theorem symsLaid_length {s t : List Nat} {k n : Nat} (h : k ≤ n) : (symsLaid s t k n).length = n := by simp [symsLaid, symsTo]; omega
theorem symsLaid_all (s t : List Nat) (n : Nat) : symsLaid s t n n = symsTo s t n := by simp [symsLaid]
theorem symsLaid_none (s t : List Nat) (n : Nat) : symsLaid s t 0 n = List.replicate n symZero := by simp [symsLaid, symsTo]
theorem symsLaid_at {s t : List Nat} {k n : Nat} (h : k < n) (hi : k < (symsLaid s t k n).length) : (symsLaid s t k n)[k] = symZero := by
  have h1 : (symsLaid s t k n)[k]? = some symZero := by
    unfold symsLaid
    rw [List.getElem?_append_right (by simp [symsTo])]
    have h2 : k - (symsTo s t k).length < n - k := by simp [symsTo]; omega
    rw [List.getElem?_replicate, if_pos h2]
  rw [List.getElem?_eq_getElem hi] at h1
  exact Option.some.inj h1
theorem symsLaid_set {s t : List Nat} {k n : Nat} (h : k < n) : (symsLaid s t k n).set k (symAt s t k).1 = symsLaid s t (k + 1) n := by
  unfold symsLaid
  rw [List.set_append_right _ _ (by simp [symsTo])]
  have : n - k = (n - (k + 1)) + 1 := by omega
  rw [this, List.replicate_succ]
  simp [symsTo, List.range_succ]

theorem symSlice : RowSlice Tryz.prog 32 48 (.agg symZero.toArray) 7 64 := ⟨Tryz.underlying32, by kernel_rfl, rfl, by omega⟩

/-- symbol, whatever it answers -/
theorem symbol_any (b o cap : Nat) (bs : List Nat) (sa : Option Addr) (sc : Nat) (s : List Nat) (w : World) (h : BRow w (some ⟨b, o, none⟩) bs) (hl : bs.length = 24) (hc : 24 ≤ cap)
    (hs : BRow w sa s) (hsl : s.length ≤ 140737488351232) (hsc : s.length ≤ sc) :
    Calls Tryz.prog 57 #[.slice (some ⟨b, o, none⟩) 24 cap, .slice sa s.length sc] w fun e w' => e = .returned (.tuple #[.agg (symF s bs).1.toArray, errV ((symF s bs).2 : Int)]) ∧ Below w.heap.size w w' := by
  obtain ⟨nm, c, ht⟩ : ∃ nm c, textF s (numOf (bs.take 4)) = (nm, c) := ⟨_, _, rfl⟩
  unfold symF
  rw [ht]
  by_cases h0 : c = 0
  · subst h0
    rw [if_pos rfl]
    refine (symbol_good b o cap bs sa sc s w h hl hc hs hsl hsc nm ht).mono ?_
    rintro e w' ⟨rfl, hb⟩
    refine ⟨?_, hb⟩
    cases symOk bs <;> rfl
  · rw [if_neg h0]
    exact symbol_bad b o cap bs sa sc s w h hl hc hs hsl hsc nm c ht h0

theorem second_cells (w : World) (o : Obj) (cs : Array Value) (T : TypeId) (j : Nat) : ((w.alloc o).alloc (.cells cs T)).cell? ⟨w.heap.size + 1, j, none⟩ = cs[j]? := by
  have hsz : (w.alloc o).heap.size = w.heap.size + 1 := by simp
  rw [← hsz]
  exact World.cell?_alloc_new _ _ _ _
theorem toI_inj {xs ys : List Nat} (h : toI xs = toI ys) : xs = ys := by
  have := congrArg (List.map Int.toNat) h
  simpa [toI, Function.comp_def] using this
theorem bytesOf_inj {xs ys : List Nat} (hx : ∀ b ∈ xs, b < 256) (hy : ∀ b ∈ ys, b < 256) (h : Lib.bytesOf (toI xs) = Lib.bytesOf (toI ys)) : xs = ys := by
  have h1 := congrArg (List.map UInt8.toNat) h
  have e : ∀ zs : List Nat, (∀ b ∈ zs, b < 256) → (Lib.bytesOf (toI zs)).map UInt8.toNat = zs := by
    intro zs hz
    unfold Lib.bytesOf toI
    rw [List.map_map, List.map_map]
    conv => rhs; rw [← List.map_id zs]
    apply List.map_congr_left
    intro b hb
    have := hz b hb
    simp
    omega
  rwa [e xs hx, e ys hy] at h1
theorem equal_zero (b o cap : Nat) (bs : List Nat) (c : Nat) (w : World) (h : BRow w (some ⟨b, o, none⟩) bs) (hl : bs.length = 24) (g : Nat) (hz : BRow w (some ⟨g, 0, none⟩) (List.replicate 24 0)) :
    Calls Tryz.prog 56 #[.slice (some ⟨b, o, none⟩) 24 cap, .slice (some ⟨g, 0, none⟩) 24 c] w fun e w' => e = .returned (.bool (decide (bs = List.replicate 24 0))) ∧ w' = w := by
  have cells : ∀ (b o : Nat) (xs : List Nat), xs.length = 24 → BRow w (some ⟨b, o, none⟩) xs → Lib.BytesIn w (some ⟨b, o, none⟩) 24 (toI xs) := by
    intro b o xs hx hr
    refine Lib.BytesIn.of_cells (fun i hi => ?_)
    obtain ⟨b', o', e, hc⟩ := hr.1 i (by rw [toI_length, hx]; exact hi)
    simp only [Option.some.injEq, Addr.mk.injEq, and_true] at e
    obtain ⟨rfl, rfl⟩ := e
    rw [WideShapes.add_plain]
    exact hc
  refine (Tryz.bytes_Equal_all (some ⟨b, o, none⟩) (some ⟨g, 0, none⟩) 24 cap 24 c (toI bs) (toI (List.replicate 24 0)) w (by rw [toI_length, hl]) (by simp [toI]) (cells b o bs hl h) (cells g 0 _ (by simp) hz)).mono ?_
  · rintro e w' ⟨rfl, rfl⟩
    refine ⟨?_, rfl⟩
    have : (Lib.bytesOf (toI bs) == Lib.bytesOf (toI (List.replicate 24 0))) = decide (bs = List.replicate 24 0) := by
      rw [Bool.eq_iff_iff, beq_iff_eq, decide_eq_true_eq]
      exact ⟨fun he => bytesOf_inj h.2 hz.2 he, fun he => by rw [he]⟩
    rw [this]
theorem slice_told {bs t : List Nat} {ps : List PT} {at_ size : Nat} (h : sliceF bs ps at_ size = (t, 0)) : t.length = size ∧ ∀ b ∈ t, b ∈ bs := by
  rcases sliceF_alt bs ps at_ size with ⟨s, h1, h2, h3⟩ | h1
  · rw [h] at h1
    simp only [Prod.mk.injEq, and_true] at h1
    subst h1
    exact ⟨h2, h3⟩
  · rw [h] at h1; simp at h1
theorem strF_told {bs s : List Nat} {ps : List PT} {at_ size : Nat} (h : strF bs ps at_ size = (s, 0)) : s.length ≤ 1048576 ∧ 0 < s.length ∧ ∀ b ∈ s, b ∈ bs := by
  obtain ⟨h1, h2, h3⟩ := strF_len (bs := bs) (ps := ps) (at_ := at_) (size := size) (by rw [h])
  rw [h] at h1 h2
  simp only [Prod.mk.injEq, and_true] at h2
  have h4 : sliceF bs ps at_ size = (s, 0) := by rw [h2, ← h3]
  have h5 : ¬ 1048576 < size := by
    intro h6
    rw [strF, if_pos h6] at h
    simp at h
  have h7 : size ≠ 0 := by
    intro h8
    unfold strF at h
    rw [if_neg h5, if_neg (by rw [h3]; simp), if_pos (.inl h8)] at h
    simp at h
  simp only at h1
  exact ⟨by omega, by omega, (slice_told h4).2⟩
def zero24 : Array Value := ((toI (List.replicate 24 0)).map (Value.int .u8)).toArray
theorem make24 (w : World) : (Instr.makeSlice 22 (.int .i64 24) (.int .i64 24)).run Tryz.prog w = .ok (.slice (some ⟨w.heap.size, 0, none⟩) 24 24) (w.alloc (.cells zero24 5)) := by
  obtain ⟨i, hi, hz0, hz1, hz2⟩ := info_parts slice8.2
  rw [run_make w 22 5 i (.int .u8 0) Tryz.underlying22 hi hz0 .i64 .i64 24 24 (by decide) (by decide) (by rw [hz2]; decide) (by decide), hz1]
  have : madeCells (Value.int IntKind.u8 0).cells (Int.toNat 24 * 1) = zero24 := by
    apply Array.ext'
    have := made_rows (z := [Value.int .u8 0]) (n := 24) (sz := 1) rfl (by omega)
    exact this.trans rfl
  rw [this]
  rfl
theorem zero24_row (w : World) (T : TypeId) : BRow (w.alloc (.cells zero24 T)) (some ⟨w.heap.size, 0, none⟩) (List.replicate 24 0) :=
  ⟨Row.new .u8 w (toI (List.replicate 24 0)) T, fun b hb => by rw [(List.mem_replicate.1 hb).2]; omega⟩
theorem symErr_zero {s t : List Nat} {r : List Value} {c : Nat} (hz : (t.drop (24 * 0)).take 24 = List.replicate 24 0) (h : symAt s t 0 = (r, c)) : symErr s t 0 = c := by
  have hz' : t.take 24 = List.replicate 24 0 := by simpa using hz
  unfold symErr
  rw [if_neg (by simp [hz']), h]
theorem symErr_bad {s t : List Nat} (hz : ¬ (t.drop (24 * 0)).take 24 = List.replicate 24 0) : symErr s t 0 = 3 := by
  have hz' : ¬ t.take 24 = List.replicate 24 0 := by simpa using hz
  unfold symErr
  rw [if_pos ⟨rfl, hz'⟩]
theorem symErr_later {s t : List Nat} {k : Nat} {r : List Value} {c : Nat} (hk : ¬ k = 0) (h : symAt s t k = (r, c)) : symErr s t k = c := by
  unfold symErr
  rw [if_neg (fun hh => hk hh.1), h]
/-- what Read answers, the tables being told -/
def SymsAns (s t : List Nat) (n : Nat) (w : World) (e : Ending) (w' : World) : Prop :=
  ∃ ad c, e = .returned (.tuple #[.slice ad (if symsErr s t n = 0 then n else 0) c, errV (symsErr s t n : Int)]) ∧
      OwnS w' w.heap.size 48 7 (.slice ad (if symsErr s t n = 0 then n else 0) c) (if symsErr s t n = 0 then symsTo s t n else []) ∧ Below w.heap.size w w'
theorem SymsAns.yes {s t : List Nat} {n : Nat} {w w' : World} {ad : Option Addr} {c : Nat} (h : symsErr s t n = 0) (ho : OwnS w' w.heap.size 48 7 (.slice ad n c) (symsTo s t n)) (hb : Below w.heap.size w w') : SymsAns s t n w (.returned (.tuple #[.slice ad n c, .nilIface])) w' := by
  unfold SymsAns
  rw [h]
  exact ⟨ad, c, rfl, ho, hb⟩
theorem SymsAns.no {s t : List Nat} {n k : Nat} {w w' : World} (h0 : symsErr s t k = 0) (hk : k < n) (h : symErr s t k ≠ 0) (hb : Below w.heap.size w w') : SymsAns s t n w (.returned (.tuple #[.slice none 0 0, errV (symErr s t k : Int)])) w' := by
  unfold SymsAns
  rw [symsErr_stays h0 h n hk, if_neg h, if_neg h]
  exact ⟨none, 0, rfl, OwnS.nil _ _ _ _, hb⟩
theorem small64 {n : Nat} (h : n ≤ 4096) : 64 * n ≤ 281474976710656 := by omega
theorem small63 {n : Nat} (h : n ≤ 4096) : n ≤ maxLen := by unfold maxLen; omega
theorem small24 {n : Nat} (h : n ≤ 4096) : 24 * n < 18446744073709551616 := by omega

set_option maxRecDepth 100000 in
set_option maxHeartbeats 8000000 in
theorem read_in (a : Option Addr) (cap : Nat) (bs : List Nat) (ty en : Int) (p : Option Addr) (pc : Nat) (ps : List PT) (d : DT) (n : Nat) (w : World) (hb : BRow w a bs) (hbl : bs.length ≤ 140737488351232) (hbc : bs.length ≤ cap) (hbn : a = none → bs.length = 0 ∧ cap = 0)
    (h : PRow w p ps) (hl : ps.length ≤ 140737488351232) (hd : d.wf) (hn : n ≤ 4096) (s t : List Nat) (hS : strF bs ps d.strtab d.strsz = (s, 0)) (hT : sliceF bs ps d.symtab (24 * n) = (t, 0)) :
    Calls Tryz.prog 29 #[.slice a bs.length cap, headV ty en p ps.length pc, .agg d.cells, .int .i64 (n : Int)] w (SymsAns s t n w) := by
  have HST := Lib.hid (fun (w1 : World) (hb1 : Below w.heap.size w w1) => strings_any a cap bs ty en p pc ps d w1 (hb.below hb1) hbl hbc hbn (h.below hb1) hl hd.strtab hd.strsz)
  have HSL := Lib.hid (fun (w1 : World) (hb1 : Below w.heap.size w w1) => slice_any a cap bs ty en p pc ps d.symtab (24 * n) w1 (hb.below hb1) hbl hbc hbn (h.below hb1) hl hd.symtab (small24 hn))
  rw [hS] at HST
  rw [hT] at HSL
  obtain ⟨htl, htm⟩ := slice_told hT
  obtain ⟨hs1, hs2, hs3⟩ := strF_told hS
  have hsl : s.length ≤ 140737488351232 := by omega
  have hsb : ∀ b ∈ s, b < 256 := fun b hm => hb.2 b (hs3 b hm)
  have htb : ∀ b ∈ t, b < 256 := fun b hm => hb.2 b (htm b hm)
  have HTB := Lib.hid htb
  have HSB := Lib.hid hsb
  have HTL := Lib.hid htl
  simp only at HST HSL
  rw [htl] at HSL
  push_cast at HSL
  clear h hb hbn hS hT hd htb hsb htl
  have HI : Hid ((Tryz.prog.info? 30).map (·.size) = some d.cells.size) := Lib.hid (show _ = some 37 by kernel_rfl)
  have hD5 : d.cells[5]? = some (.int .u64 (d.symtab : Int)) := rfl
  generalize d.cells = D at *
  generalize d.symtab = symtab at *
  have B1 : Hid (Below w.heap.size w ((w.alloc (.cells #[.int .i64 ty, .int .u64 en, .slice p ps.length pc] 27)).alloc (.cells D 30))) := Lib.hid (((Below.refl _ _).alloc (Nat.le_refl _) _).alloc (by simp) _)
  have HG : Hid (((w.alloc (.cells #[.int .i64 ty, .int .u64 en, .slice p ps.length pc] 27)).alloc (.cells D 30)).heap[w.heap.size + 1]? = some (.cells D 30)) := Lib.hid (by
    have := heap_alloc_new (w.alloc (.cells #[.int .i64 ty, .int .u64 en, .slice p ps.length pc] 27)) (.cells D 30)
    simpa using this)
  have FH : Hid (∀ w1, Below ((w.alloc (.cells #[.int .i64 ty, .int .u64 en, .slice p ps.length pc] 27)).alloc (.cells D 30)).heap.size ((w.alloc (.cells #[.int .i64 ty, .int .u64 en, .slice p ps.length pc] 27)).alloc (.cells D 30)) w1 →
      w1.cell? ⟨w.heap.size, 0, none⟩ = some (.int .i64 ty) ∧ w1.cell? ⟨w.heap.size, 1, none⟩ = some (.int .u64 en) ∧ w1.cell? ⟨w.heap.size, 2, none⟩ = some (.slice p ps.length pc) ∧
      w1.cell? ⟨w.heap.size + 1, 5, none⟩ = some (.int .u64 (symtab : Int))) := Lib.hid (by
    intro w1 hw1
    have e1 : ∀ j, w1.cell? ⟨w.heap.size, j, none⟩ = (w.alloc (.cells #[.int .i64 ty, .int .u64 en, .slice p ps.length pc] 27)).cell? ⟨w.heap.size, j, none⟩ := fun j => by
      rw [hw1.cell (p := ⟨w.heap.size, j, none⟩) (by simp; omega)]
      exact (Below.cell (((Below.refl _ _).alloc (Nat.le_refl _) _)) (p := ⟨w.heap.size, j, none⟩) (by simp))
    refine ⟨?_, ?_, ?_, ?_⟩
    · rw [e1, World.cell?_alloc_new]; rfl
    · rw [e1, World.cell?_alloc_new]; rfl
    · rw [e1, World.cell?_alloc_new]; rfl
    · rw [hw1.cell (p := ⟨w.heap.size + 1, 5, none⟩) (by simp), second_cells]
      exact hD5)
  clear hD5
  have SM1 := Lib.hid (small64 hn)
  have SM2 := Lib.hid (small63 hn)
  unfold headV at *
  clear htm hs1 hs2 hs3
  go_enter Tryz.func29, Tryz.ntmps29
  go_wp2_with (refine wpList_load_row rfl 30 _ rfl (w.heap.size + 1) rfl 30 D (0, 0) _ HG.out Tryz.underlying30 rfl HI.out ?_)
  refine (HST.out _ B1.out).mono ?_
  rintro e w2 ⟨sa, sc, rfl, ho2, hb2⟩
  obtain ⟨f0, f1, f2, f3⟩ := FH.out _ hb2
  have O2 := Lib.hid (ho2.mono B1.out.size); have B2 := Lib.hid (bstep B1.out hb2)
  clear ho2 hb2
  simp only [errV]
  go_wp2_with fail
  refine (HSL.out _ B2.out).mono ?_
  rintro e w3 ⟨ta, tc, rfl, ho3, hb3⟩
  have O3 := Lib.hid (ho3.mono B2.out.size); have B3 := Lib.hid (bstep B2.out hb3)
  have O2' := Lib.hid (O2.out.below hb3)
  clear ho3 hb3 f0 f1 f2 f3 FH HSL HST B1 O2 HG HI B2
  simp only [errV]
  go_wp2_with (at_make; (refine wpList_make_row rfl (.tmp 46) (.tmp 46) symSlice rfl symZero rfl w.heap.size w n .i64 .i64 (n : Int) (n : Int) rfl rfl rfl rfl SM1.out SM2.out B3.out B3.out.size ?_); intro g w4 ho4 hg4 hb4 hb4'; have O4 := Lib.hid ho4; have G4 := Lib.hid hg4; have B4 := Lib.hid hb4; have O2 := Lib.hid (O2'.out.below hb4'); have O3' := Lib.hid (O3.out.below hb4'); clear ho4 hg4 hb4 hb4' O2' O3 B3)
  go_loopg [50] n (fun gk i wr => ∃ k : Nat, k + gk = n ∧ i = .int .i64 (k : Int) ∧ Hid (OwnS wr w.heap.size 48 7 (.slice (some ⟨g, 0, none⟩) n n) (symsLaid s t k n)) ∧ Hid (OwnI wr w.heap.size 5 .u8 (.slice sa s.length sc) (toI s)) ∧ Hid (OwnI wr w.heap.size 5 .u8 (.slice ta (24 * n) tc) (toI t)) ∧ Hid (Below w.heap.size w wr) ∧ Hid (symsErr s t k = 0))
  case atStart => exact ⟨0, by omega, rfl, Lib.hid (by rw [symsLaid_none]; exact O4.out), O2, O3', B4, Lib.hid rfl⟩
  case round =>
    obtain ⟨k, hk, rfl, OW, OS, OT, BW, OK⟩ := hrel
    cases gk with
    | zero =>
      obtain rfl : k = n := by omega
      go_wp2
      go_ret2
      exact SymsAns.yes OK.out (by rw [← symsLaid_all]; exact OW.out) BW.out
    | succ gk =>
      have hlt : k < n := by omega
      clear O4 B4 O2 O3' G4
      have h24 : ((24 : Int) * (k : Int)).toNat = 24 * k := by omega
      have htc : 24 * n ≤ tc := OT.out.fit.1
      have hne : ¬ tc = 24 * k := by omega
      obtain ⟨b, o, rfl, -⟩ := OT.out.at.2.1 0 (by rw [toI_length, HTL.out]; omega)
      have HR : Hid (∀ w', Below wr.heap.size wr w' → BRow w' (some ⟨b, o + 24 * k, none⟩) ((t.drop (24 * k)).take 24)) := Lib.hid (fun w' hb => by
        have := (BRow.below (⟨OT.out.at.2.1, HTB.out⟩ : BRow wr (some ⟨b, o, none⟩) t) hb).cut (24 * k) 24
        simpa [WideShapes.add_plain] using this)
      have HRL : Hid (((t.drop (24 * k)).take 24).length = 24) := Lib.hid (by have := HTL.out; simp; omega)
      have HSA : Hid (∀ w', Below wr.heap.size wr w' → BRow w' sa s) := Lib.hid (fun w' hb => BRow.below ⟨OS.out.at.2.1, HSB.out⟩ hb)
      have hsc := OS.out.fit.1
      obtain ⟨r, c, hrc⟩ : ∃ r c, symAt s t k = (r, c) := ⟨_, _, rfl⟩
      obtain ⟨nm, x1, x2, x3, x4, x5, x6, hr7⟩ : ∃ (nm : ByteArray) (x1 x2 x3 x4 x5 x6 : Int), r = [.string nm, .int .i64 x1, .int .i64 x2, .int .i64 x3, .int .i64 x4, .int .u64 x5, .int .u64 x6] := by have := symF_shape s ((t.drop (24 * k)).take 24); rw [show symF s ((t.drop (24 * k)).take 24) = (r, c) from hrc] at this; exact this
      subst hr7
      have HSY : Hid (∀ w', Below wr.heap.size wr w' → Calls Tryz.prog 57 #[.slice (some ⟨b, o + 24 * k, none⟩) 24 (tc - 24 * k), .slice sa s.length sc] w' fun e w'' => e = .returned (.tuple #[.agg #[.string nm, .int .i64 x1, .int .i64 x2, .int .i64 x3, .int .i64 x4, .int .u64 x5, .int .u64 x6], errV (c : Int)]) ∧ Below w'.heap.size w' w'') := Lib.hid (fun w' hb => by
        have := symbol_any b (o + 24 * k) (tc - 24 * k) _ sa sc s w' (HR.out w' hb) HRL.out (by omega) (HSA.out w' hb) hsl hsc
        rw [show symF s ((t.drop (24 * k)).take 24) = ([.string nm, .int .i64 x1, .int .i64 x2, .int .i64 x3, .int .i64 x4, .int .u64 x5, .int .u64 x6], c) from hrc] at this
        exact this)
      have HRC := Lib.hid hrc
      clear hrc HSA
      by_cases hk0 : k = 0
      · subst hk0
        have hmk := make24 wr
        by_cases hz : (t.drop (24 * 0)).take 24 = List.replicate 24 0
        · have HEQ := equal_zero b (o + 24 * 0) (tc - 24 * 0) _ 24 _ (HR.out _ ((Below.refl _ wr).alloc (Nat.le_refl _) (.cells zero24 5))) HRL.out _ (zero24_row wr 5)
          rw [decide_eq_true hz] at HEQ
          have HQ := Lib.hid HEQ
          have HZ := Lib.hid hz
          clear HEQ hz
          go_wp2_with fail
          refine HQ.out.mono ?_
          rintro e w5 ⟨rfl, rfl⟩
          go_wp2_with fail
          refine (HSY.out _ ((Below.refl _ wr).alloc (Nat.le_refl _) (.cells zero24 5))).mono ?_
          rintro e w5 ⟨rfl, hb5⟩
          have hb5' := bstep ((Below.refl _ wr).alloc (Nat.le_refl _) (.cells zero24 5)) hb5
          have OW5 := Lib.hid (OW.out.below hb5')
          have OS5 := Lib.hid (OS.out.below hb5')
          have OT5 := Lib.hid (OT.out.below hb5')
          have BW5 := Lib.hid (BW.out.trans (hb5'.mono BW.out.size))
          have HLN := Lib.hid (show 0 < (symsLaid s t 0 n).length by rw [symsLaid_length (by omega)]; exact hlt)
          have hcell : ∀ j, j < 7 → w5.cell? ⟨g, 0 * 7 + j, none⟩ = symZero[j]? := fun j hj => by
            have := OW5.out.cellAt 0 j HLN.out hj
            rwa [symsLaid_at hlt HLN.out] at this
          have q0 : w5.cell? ⟨g, 0 * 7, none⟩ = some (.string ⟨#[]⟩) := hcell 0 (by omega)
          have q1 : w5.cell? ⟨g, 0 * 7 + 1, none⟩ = some (.int .i64 0) := hcell 1 (by omega)
          have q2 : w5.cell? ⟨g, 0 * 7 + 2, none⟩ = some (.int .i64 0) := hcell 2 (by omega)
          have q3 : w5.cell? ⟨g, 0 * 7 + 3, none⟩ = some (.int .i64 0) := hcell 3 (by omega)
          have q4 : w5.cell? ⟨g, 0 * 7 + 4, none⟩ = some (.int .i64 0) := hcell 4 (by omega)
          have q5 : w5.cell? ⟨g, 0 * 7 + 5, none⟩ = some (.int .u64 0) := hcell 5 (by omega)
          have q6 : w5.cell? ⟨g, 0 * 7 + 6, none⟩ = some (.int .u64 0) := hcell 6 (by omega)
          have p0 := OW5.out.freeAt (0 * 7)
          have p1 := OW5.out.freeAt (0 * 7 + 1)
          have p2 := OW5.out.freeAt (0 * 7 + 2)
          have p3 := OW5.out.freeAt (0 * 7 + 3)
          have p4 := OW5.out.freeAt (0 * 7 + 4)
          have p5 := OW5.out.freeAt (0 * 7 + 5)
          have p6 := OW5.out.freeAt (0 * 7 + 6)
          obtain ⟨hput, hgrow⟩ := OW5.out.putRow (by omega) 0 HLN.out [.string nm, .int .i64 x1, .int .i64 x2, .int .i64 x3, .int .i64 x4, .int .u64 x5, .int .u64 x6] rfl
          have OW6 := Lib.hid hput; have GR6 : Hid (w5.grownBy (w5.setCells g (0 * 7) [.string nm, .int .i64 x1, .int .i64 x2, .int .i64 x3, .int .i64 x4, .int .u64 x5, .int .u64 x6]) (Value.slice (some ⟨g, 0, none⟩) n n).ownBlock) := Lib.hid hgrow
          clear hput hgrow hcell hb5 hb5' OW OS OT HR HRL HSY
          by_cases hc : c = 0
          · subst hc
            simp only [errV]
            go_wp2
            go_roundg gk
            case measure => omega
            case rel =>
              have hgB := OW5.out.blockGe.1
              refine ⟨0 + 1, by omega, by go_num, Lib.hid ?_, Lib.hid (OS5.out.keepS GR6.out OW5.out (by decide)), Lib.hid (OT5.out.keepS GR6.out OW5.out (by decide)), Lib.hid (below_keepS BW5.out GR6.out OW5.out BW5.out.size), Lib.hid (symsErr_next OK.out ((symErr_zero HZ.out HRC.out).trans rfl))⟩
              have := symsLaid_set (s := s) (t := t) hlt
              rw [HRC.out] at this
              rw [← this]
              exact OW6.out
          · have he : errV (c : Int) = .iface 56 (.int .i64 (c : Int)) := by unfold errV; rw [if_neg (by omega)]
            rw [he]
            clear he
            have HC := Lib.hid hc
            clear hc
            go_wp2
            go_ret2
            have := SymsAns.no (w := w) (w' := w5.setCells g (0 * 7) [.string nm, .int .i64 x1, .int .i64 x2, .int .i64 x3, .int .i64 x4, .int .u64 x5, .int .u64 x6]) OK.out hlt (by rw [(symErr_zero HZ.out HRC.out)]; exact HC.out) (below_keepS BW5.out GR6.out OW5.out BW5.out.size)
            rw [(symErr_zero HZ.out HRC.out)] at this
            have he : errV (c : Int) = .iface 56 (.int .i64 (c : Int)) := by unfold errV; rw [if_neg (by have := HC.out; omega)]
            rw [he] at this
            exact this
        · have HEQ := equal_zero b (o + 24 * 0) (tc - 24 * 0) _ 24 _ (HR.out _ ((Below.refl _ wr).alloc (Nat.le_refl _) (.cells zero24 5))) HRL.out _ (zero24_row wr 5)
          rw [decide_eq_false hz] at HEQ
          have HQ := Lib.hid HEQ
          have HZ := Lib.hid hz
          clear HEQ hz
          go_wp2_with fail
          refine HQ.out.mono ?_
          rintro e w5 ⟨rfl, rfl⟩
          go_wp2
          go_ret2
          have := SymsAns.no (w := w) (w' := wr.alloc (.cells zero24 5)) OK.out hlt (by rw [symErr_bad HZ.out]; decide) (BW.out.alloc BW.out.size _)
          rw [symErr_bad HZ.out] at this
          exact this
      · have HK0 := Lib.hid hk0
        clear hk0
        have hkz : ((k : Int) == 0) = false := by rw [beq_eq_false_iff_ne]; have := HK0.out; omega
        go_wp2_with fail
        refine (HSY.out _ (Below.refl _ _)).mono ?_
        rintro e w5 ⟨rfl, hb5⟩
        have hb5' := bstep (Below.refl _ wr) hb5
        have OW5 := Lib.hid (OW.out.below hb5')
        have OS5 := Lib.hid (OS.out.below hb5')
        have OT5 := Lib.hid (OT.out.below hb5')
        have BW5 := Lib.hid (BW.out.trans (hb5'.mono BW.out.size))
        have HLN := Lib.hid (show k < (symsLaid s t k n).length by rw [symsLaid_length (by omega)]; exact hlt)
        have hcell : ∀ j, j < 7 → w5.cell? ⟨g, k * 7 + j, none⟩ = symZero[j]? := fun j hj => by
          have := OW5.out.cellAt k j HLN.out hj
          rwa [symsLaid_at hlt HLN.out] at this
        have q0 : w5.cell? ⟨g, k * 7, none⟩ = some (.string ⟨#[]⟩) := hcell 0 (by omega)
        have q1 : w5.cell? ⟨g, k * 7 + 1, none⟩ = some (.int .i64 0) := hcell 1 (by omega)
        have q2 : w5.cell? ⟨g, k * 7 + 2, none⟩ = some (.int .i64 0) := hcell 2 (by omega)
        have q3 : w5.cell? ⟨g, k * 7 + 3, none⟩ = some (.int .i64 0) := hcell 3 (by omega)
        have q4 : w5.cell? ⟨g, k * 7 + 4, none⟩ = some (.int .i64 0) := hcell 4 (by omega)
        have q5 : w5.cell? ⟨g, k * 7 + 5, none⟩ = some (.int .u64 0) := hcell 5 (by omega)
        have q6 : w5.cell? ⟨g, k * 7 + 6, none⟩ = some (.int .u64 0) := hcell 6 (by omega)
        have p0 := OW5.out.freeAt (k * 7)
        have p1 := OW5.out.freeAt (k * 7 + 1)
        have p2 := OW5.out.freeAt (k * 7 + 2)
        have p3 := OW5.out.freeAt (k * 7 + 3)
        have p4 := OW5.out.freeAt (k * 7 + 4)
        have p5 := OW5.out.freeAt (k * 7 + 5)
        have p6 := OW5.out.freeAt (k * 7 + 6)
        obtain ⟨hput, hgrow⟩ := OW5.out.putRow (by omega) k HLN.out [.string nm, .int .i64 x1, .int .i64 x2, .int .i64 x3, .int .i64 x4, .int .u64 x5, .int .u64 x6] rfl
        have OW6 := Lib.hid hput; have GR6 : Hid (w5.grownBy (w5.setCells g (k * 7) [.string nm, .int .i64 x1, .int .i64 x2, .int .i64 x3, .int .i64 x4, .int .u64 x5, .int .u64 x6]) (Value.slice (some ⟨g, 0, none⟩) n n).ownBlock) := Lib.hid hgrow
        clear hput hgrow hcell hb5 hb5' OW OS OT HR HRL HSY
        by_cases hc : c = 0
        · subst hc
          simp only [errV]
          go_wp2
          go_roundg gk
          case measure => omega
          case rel =>
            have hgB := OW5.out.blockGe.1
            refine ⟨k + 1, by omega, by go_num, Lib.hid ?_, Lib.hid (OS5.out.keepS GR6.out OW5.out (by decide)), Lib.hid (OT5.out.keepS GR6.out OW5.out (by decide)), Lib.hid (below_keepS BW5.out GR6.out OW5.out BW5.out.size), Lib.hid (symsErr_next OK.out ((symErr_later HK0.out HRC.out).trans rfl))⟩
            have := symsLaid_set (s := s) (t := t) hlt
            rw [HRC.out] at this
            rw [← this]
            exact OW6.out
        · have he : errV (c : Int) = .iface 56 (.int .i64 (c : Int)) := by unfold errV; rw [if_neg (by omega)]
          rw [he]
          clear he
          have HC := Lib.hid hc
          clear hc
          go_wp2
          go_ret2
          have := SymsAns.no (w := w) (w' := w5.setCells g (k * 7) [.string nm, .int .i64 x1, .int .i64 x2, .int .i64 x3, .int .i64 x4, .int .u64 x5, .int .u64 x6]) OK.out hlt (by rw [(symErr_later HK0.out HRC.out)]; exact HC.out) (below_keepS BW5.out GR6.out OW5.out BW5.out.size)
          rw [(symErr_later HK0.out HRC.out)] at this
          have he : errV (c : Int) = .iface 56 (.int .i64 (c : Int)) := by unfold errV; rw [if_neg (by have := HC.out; omega)]
          rw [he] at this
          exact this
end Go.Proofs.YtnaejlfjlennhaaGreatDoor
/- Layer 6: the symbols of a file, whatever is asked for: the program's answer. -/
namespace Go.Proofs.YtnaejlfjlennhaaGreatDoor
open Go.RowKit
set_option linter.unusedVariables false
set_option linter.unusedSimpArgs false

/-- the symbols of a file; an error's number behind -/
def sreadF (bs : List Nat) (ps : List PT) (d : DT) (n : Int) : List (List Value) × Nat :=
  if n < 0 then ([], 1) else if 4096 < n then ([], 2) else if (strF bs ps d.strtab d.strsz).2 ≠ 0 then ([], (strF bs ps d.strtab d.strsz).2)
  else if (sliceF bs ps d.symtab (24 * n.toNat)).2 ≠ 0 then ([], (sliceF bs ps d.symtab (24 * n.toNat)).2)
  else if symsErr (strF bs ps d.strtab d.strsz).1 (sliceF bs ps d.symtab (24 * n.toNat)).1 n.toNat = 0 then (symsTo (strF bs ps d.strtab d.strsz).1 (sliceF bs ps d.symtab (24 * n.toNat)).1 n.toNat, 0)
  else ([], symsErr (strF bs ps d.strtab d.strsz).1 (sliceF bs ps d.symtab (24 * n.toNat)).1 n.toNat)
theorem sreadF_code (bs : List Nat) (ps : List PT) (d : DT) (n : Int) : (sreadF bs ps d n).2 = 0 ∨ ((sreadF bs ps d n).1 = [] ∧ 1 ≤ (sreadF bs ps d n).2 ∧ (sreadF bs ps d n).2 ≤ 4) := by
  unfold sreadF
  split
  · right; simp
  · split
    · right; simp
    · split
      · rename_i h
        right
        rcases strF_code bs ps d.strtab d.strsz with h1 | h1 | h1 | h1
        · exact absurd h1 h
        all_goals rw [h1]; simp
      · split
        · rename_i h
          right
          rcases sliceF_alt bs ps d.symtab (24 * n.toNat) with ⟨t, h1, -⟩ | h1
          · rw [h1] at h; exact absurd rfl h
          · rw [h1]; simp
        · split
          · left; rfl
          · rename_i h
            right
            have := symsErr_code (strF bs ps d.strtab d.strsz).1 (sliceF bs ps d.symtab (24 * n.toNat)).1 n.toNat
            simp only [true_and]
            omega
/-- what is told of what is answered without an error -/
theorem sreadF_yes {bs : List Nat} {ps : List PT} {d : DT} {n : Int} (h : (sreadF bs ps d n).2 = 0) : 0 ≤ n ∧ n ≤ 4096 ∧ ∃ s t, strF bs ps d.strtab d.strsz = (s, 0) ∧ sliceF bs ps d.symtab (24 * n.toNat) = (t, 0) ∧ symsErr s t n.toNat = 0 ∧ sreadF bs ps d n = (symsTo s t n.toNat, 0) := by
  unfold sreadF at h ⊢
  split at h
  · simp at h
  · rename_i h1
    split at h
    · simp at h
    · rename_i h2
      split at h
      · rename_i h3; exact absurd h h3
      · rename_i h3
        split at h
        · rename_i h4; exact absurd h h4
        · rename_i h4
          split at h
          · rename_i h5
            rw [if_neg h1, if_neg h2, if_neg h3, if_neg h4, if_pos h5]
            have e1 : (strF bs ps d.strtab d.strsz).2 = 0 := by simpa using h3
            have e2 : (sliceF bs ps d.symtab (24 * n.toNat)).2 = 0 := by simpa using h4
            exact ⟨by omega, by omega, _, _, Prod.ext rfl e1, Prod.ext rfl e2, h5, rfl⟩
          · rename_i h5; exact absurd h h5

/-- what Read answers, in one -/
def SReadAns (F : List (List Value) × Nat) (w : World) (e : Ending) (w' : World) : Prop :=
  ∃ ad c, e = .returned (.tuple #[.slice ad F.1.length c, errV (F.2 : Int)]) ∧ OwnS w' w.heap.size 48 7 (.slice ad F.1.length c) F.1 ∧ Below w.heap.size w w'
theorem SReadAns.no {F : List (List Value) × Nat} {c : Nat} {w w' : World} (h : F = ([], c)) (hb : Below w.heap.size w w') : SReadAns F w (.returned (.tuple #[.slice none 0 0, errV (c : Int)])) w' := by
  subst h
  exact ⟨none, 0, rfl, OwnS.nil _ _ _ _, hb⟩
theorem errV_pos {c : Nat} (h : 0 < c) : errV (c : Int) = .iface 56 (.int .i64 (c : Int)) := by unfold errV; rw [if_neg (by omega)]

set_option maxRecDepth 100000 in
set_option maxHeartbeats 8000000 in
theorem read_strs (a : Option Addr) (cap : Nat) (bs : List Nat) (ty en : Int) (p : Option Addr) (pc : Nat) (ps : List PT) (d : DT) (n : Nat) (w : World) (hb : BRow w a bs) (hbl : bs.length ≤ 140737488351232) (hbc : bs.length ≤ cap) (hbn : a = none → bs.length = 0 ∧ cap = 0)
    (h : PRow w p ps) (hl : ps.length ≤ 140737488351232) (hd : d.wf) (hn : n ≤ 4096) (c : Nat) (hS : strF bs ps d.strtab d.strsz = ([], c)) (hc : 0 < c) :
    Calls Tryz.prog 29 #[.slice a bs.length cap, headV ty en p ps.length pc, .agg d.cells, .int .i64 (n : Int)] w (SReadAns ([], c) w) := by
  have HST := Lib.hid (fun (w1 : World) (hb1 : Below w.heap.size w w1) => strings_any a cap bs ty en p pc ps d w1 (hb.below hb1) hbl hbc hbn (h.below hb1) hl hd.strtab hd.strsz)
  rw [hS] at HST
  simp only at HST
  rw [errV_pos hc] at HST
  have HC := Lib.hid (errV_pos hc)
  clear h hb hbn hS hd
  have HI : Hid ((Tryz.prog.info? 30).map (·.size) = some d.cells.size) := Lib.hid (show _ = some 37 by kernel_rfl)
  have hD5 : d.cells[5]? = some (.int .u64 (d.symtab : Int)) := rfl
  generalize d.cells = D at *
  generalize d.symtab = symtab at *
  have B1 : Hid (Below w.heap.size w ((w.alloc (.cells #[.int .i64 ty, .int .u64 en, .slice p ps.length pc] 27)).alloc (.cells D 30))) := Lib.hid (((Below.refl _ _).alloc (Nat.le_refl _) _).alloc (by simp) _)
  have HG : Hid (((w.alloc (.cells #[.int .i64 ty, .int .u64 en, .slice p ps.length pc] 27)).alloc (.cells D 30)).heap[w.heap.size + 1]? = some (.cells D 30)) := Lib.hid (by
    have := heap_alloc_new (w.alloc (.cells #[.int .i64 ty, .int .u64 en, .slice p ps.length pc] 27)) (.cells D 30)
    simpa using this)
  have FH : Hid (∀ w1, Below ((w.alloc (.cells #[.int .i64 ty, .int .u64 en, .slice p ps.length pc] 27)).alloc (.cells D 30)).heap.size ((w.alloc (.cells #[.int .i64 ty, .int .u64 en, .slice p ps.length pc] 27)).alloc (.cells D 30)) w1 →
      w1.cell? ⟨w.heap.size, 0, none⟩ = some (.int .i64 ty) ∧ w1.cell? ⟨w.heap.size, 1, none⟩ = some (.int .u64 en) ∧ w1.cell? ⟨w.heap.size, 2, none⟩ = some (.slice p ps.length pc) ∧
      w1.cell? ⟨w.heap.size + 1, 5, none⟩ = some (.int .u64 (symtab : Int))) := Lib.hid (by
    intro w1 hw1
    have e1 : ∀ j, w1.cell? ⟨w.heap.size, j, none⟩ = (w.alloc (.cells #[.int .i64 ty, .int .u64 en, .slice p ps.length pc] 27)).cell? ⟨w.heap.size, j, none⟩ := fun j => by
      rw [hw1.cell (p := ⟨w.heap.size, j, none⟩) (by simp; omega)]
      exact (Below.cell (((Below.refl _ _).alloc (Nat.le_refl _) _)) (p := ⟨w.heap.size, j, none⟩) (by simp))
    refine ⟨?_, ?_, ?_, ?_⟩
    · rw [e1, World.cell?_alloc_new]; rfl
    · rw [e1, World.cell?_alloc_new]; rfl
    · rw [e1, World.cell?_alloc_new]; rfl
    · rw [hw1.cell (p := ⟨w.heap.size + 1, 5, none⟩) (by simp), second_cells]
      exact hD5)
  clear hD5
  clear FH
  unfold headV at *
  go_enter Tryz.func29, Tryz.ntmps29
  go_wp2_with (refine wpList_load_row rfl 30 _ rfl (w.heap.size + 1) rfl 30 D (0, 0) _ HG.out Tryz.underlying30 rfl HI.out ?_)
  refine (HST.out _ B1.out).mono ?_
  rintro e w2 ⟨sa, sc, rfl, ho2, hb2⟩
  have B2 := Lib.hid (bstep B1.out hb2)
  clear ho2 hb2 HST HG HI B1
  go_wp2
  go_ret2
  have := SReadAns.no (w := w) (w' := w2) (c := c) rfl B2.out
  rw [HC.out] at this
  exact this

set_option maxRecDepth 100000 in
set_option maxHeartbeats 8000000 in
theorem read_table (a : Option Addr) (cap : Nat) (bs : List Nat) (ty en : Int) (p : Option Addr) (pc : Nat) (ps : List PT) (d : DT) (n : Nat) (w : World) (hb : BRow w a bs) (hbl : bs.length ≤ 140737488351232) (hbc : bs.length ≤ cap) (hbn : a = none → bs.length = 0 ∧ cap = 0)
    (h : PRow w p ps) (hl : ps.length ≤ 140737488351232) (hd : d.wf) (hn : n ≤ 4096) (s : List Nat) (hS : strF bs ps d.strtab d.strsz = (s, 0)) (hT : sliceF bs ps d.symtab (24 * n) = ([], 4)) :
    Calls Tryz.prog 29 #[.slice a bs.length cap, headV ty en p ps.length pc, .agg d.cells, .int .i64 (n : Int)] w (SReadAns ([], 4) w) := by
  have HST := Lib.hid (fun (w1 : World) (hb1 : Below w.heap.size w w1) => strings_any a cap bs ty en p pc ps d w1 (hb.below hb1) hbl hbc hbn (h.below hb1) hl hd.strtab hd.strsz)
  have HSL := Lib.hid (fun (w1 : World) (hb1 : Below w.heap.size w w1) => slice_any a cap bs ty en p pc ps d.symtab (24 * n) w1 (hb.below hb1) hbl hbc hbn (h.below hb1) hl hd.symtab (small24 hn))
  rw [hS] at HST
  rw [hT] at HSL
  simp only at HST HSL
  push_cast at HSL
  clear h hb hbn hS hT hd
  have HI : Hid ((Tryz.prog.info? 30).map (·.size) = some d.cells.size) := Lib.hid (show _ = some 37 by kernel_rfl)
  have hD5 : d.cells[5]? = some (.int .u64 (d.symtab : Int)) := rfl
  generalize d.cells = D at *
  generalize d.symtab = symtab at *
  have B1 : Hid (Below w.heap.size w ((w.alloc (.cells #[.int .i64 ty, .int .u64 en, .slice p ps.length pc] 27)).alloc (.cells D 30))) := Lib.hid (((Below.refl _ _).alloc (Nat.le_refl _) _).alloc (by simp) _)
  have HG : Hid (((w.alloc (.cells #[.int .i64 ty, .int .u64 en, .slice p ps.length pc] 27)).alloc (.cells D 30)).heap[w.heap.size + 1]? = some (.cells D 30)) := Lib.hid (by
    have := heap_alloc_new (w.alloc (.cells #[.int .i64 ty, .int .u64 en, .slice p ps.length pc] 27)) (.cells D 30)
    simpa using this)
  have FH : Hid (∀ w1, Below ((w.alloc (.cells #[.int .i64 ty, .int .u64 en, .slice p ps.length pc] 27)).alloc (.cells D 30)).heap.size ((w.alloc (.cells #[.int .i64 ty, .int .u64 en, .slice p ps.length pc] 27)).alloc (.cells D 30)) w1 →
      w1.cell? ⟨w.heap.size, 0, none⟩ = some (.int .i64 ty) ∧ w1.cell? ⟨w.heap.size, 1, none⟩ = some (.int .u64 en) ∧ w1.cell? ⟨w.heap.size, 2, none⟩ = some (.slice p ps.length pc) ∧
      w1.cell? ⟨w.heap.size + 1, 5, none⟩ = some (.int .u64 (symtab : Int))) := Lib.hid (by
    intro w1 hw1
    have e1 : ∀ j, w1.cell? ⟨w.heap.size, j, none⟩ = (w.alloc (.cells #[.int .i64 ty, .int .u64 en, .slice p ps.length pc] 27)).cell? ⟨w.heap.size, j, none⟩ := fun j => by
      rw [hw1.cell (p := ⟨w.heap.size, j, none⟩) (by simp; omega)]
      exact (Below.cell (((Below.refl _ _).alloc (Nat.le_refl _) _)) (p := ⟨w.heap.size, j, none⟩) (by simp))
    refine ⟨?_, ?_, ?_, ?_⟩
    · rw [e1, World.cell?_alloc_new]; rfl
    · rw [e1, World.cell?_alloc_new]; rfl
    · rw [e1, World.cell?_alloc_new]; rfl
    · rw [hw1.cell (p := ⟨w.heap.size + 1, 5, none⟩) (by simp), second_cells]
      exact hD5)
  clear hD5
  unfold headV at *
  go_enter Tryz.func29, Tryz.ntmps29
  go_wp2_with (refine wpList_load_row rfl 30 _ rfl (w.heap.size + 1) rfl 30 D (0, 0) _ HG.out Tryz.underlying30 rfl HI.out ?_)
  refine (HST.out _ B1.out).mono ?_
  rintro e w2 ⟨sa, sc, rfl, ho2, hb2⟩
  obtain ⟨f0, f1, f2, f3⟩ := FH.out _ hb2
  have B2 := Lib.hid (bstep B1.out hb2)
  clear ho2 hb2
  simp only [errV]
  go_wp2_with fail
  refine (HSL.out _ B2.out).mono ?_
  rintro e w3 ⟨ta, tc, rfl, ho3, hb3⟩
  have B3 := Lib.hid (bstep B2.out hb3)
  clear ho3 hb3 f0 f1 f2 f3 FH HSL HST B1 HG HI B2
  simp only [errV]
  go_wp2
  go_ret2
  exact SReadAns.no (w := w) (w' := w3) (c := 4) rfl B3.out

set_option maxRecDepth 100000 in
set_option maxHeartbeats 8000000 in
theorem read_any (a : Option Addr) (cap : Nat) (bs : List Nat) (ty en : Int) (p : Option Addr) (pc : Nat) (ps : List PT) (d : DT) (n : Int) (w : World) (hb : BRow w a bs) (hbl : bs.length ≤ 140737488351232) (hbc : bs.length ≤ cap) (hbn : a = none → bs.length = 0 ∧ cap = 0)
    (h : PRow w p ps) (hl : ps.length ≤ 140737488351232) (hd : d.wf) (hn1 : -9223372036854775808 ≤ n) (hn2 : n < 9223372036854775808) :
    Calls Tryz.prog 29 #[.slice a bs.length cap, headV ty en p ps.length pc, .agg d.cells, .int .i64 n] w (SReadAns (sreadF bs ps d n) w) := by
  by_cases hn : n < 0
  · have hF : sreadF bs ps d n = ([], 1) := by rw [sreadF, if_pos hn]
    rw [hF]
    clear hF
    have HB : Hid (∀ D, Below w.heap.size w ((w.alloc (.cells #[.int .i64 ty, .int .u64 en, .slice p ps.length pc] 27)).alloc (.cells D 30))) := Lib.hid (fun D => ((Below.refl _ _).alloc (Nat.le_refl _) _).alloc (by simp) _)
    generalize d.cells = D at *
    clear h hb hbn
    unfold headV
    go_enter Tryz.func29, Tryz.ntmps29
    go_wp2
    go_ret2
    exact SReadAns.no rfl (HB.out _)
  · by_cases hn4 : 4096 < n
    · have hF : sreadF bs ps d n = ([], 2) := by rw [sreadF, if_neg hn, if_pos hn4]
      rw [hF]
      clear hF
      have HB : Hid (∀ D, Below w.heap.size w ((w.alloc (.cells #[.int .i64 ty, .int .u64 en, .slice p ps.length pc] 27)).alloc (.cells D 30))) := Lib.hid (fun D => ((Below.refl _ _).alloc (Nat.le_refl _) _).alloc (by simp) _)
      generalize d.cells = D at *
      clear h hb hbn
      unfold headV
      go_enter Tryz.func29, Tryz.ntmps29
      go_wp2
      go_ret2
      exact SReadAns.no rfl (HB.out _)
    · obtain ⟨m, rfl⟩ := Int.eq_ofNat_of_zero_le (show 0 ≤ n by omega)
      have hm : m ≤ 4096 := by omega
      have hmn : ((m : Int)).toNat = m := Int.toNat_natCast m
      rcases strF_code bs ps d.strtab d.strsz with hs0 | hs1
      · obtain ⟨s, hS⟩ : ∃ s, strF bs ps d.strtab d.strsz = (s, 0) := ⟨_, Prod.ext rfl hs0⟩
        rcases sliceF_alt bs ps d.symtab (24 * m) with ⟨t, hT, -, -⟩ | hT
        · have hF : sreadF bs ps d (m : Int) = if symsErr s t m = 0 then (symsTo s t m, 0) else ([], symsErr s t m) := by
            rw [sreadF, if_neg hn, if_neg hn4, hmn, hS, hT, if_neg (by simp), if_neg (by simp)]
          refine (read_in a cap bs ty en p pc ps d m w hb hbl hbc hbn h hl hd hm s t hS hT).mono ?_
          rintro e w' ⟨ad, c, rfl, ho, hb'⟩
          rw [hF]
          by_cases h0 : symsErr s t m = 0
          · rw [if_pos h0] at ho ⊢
            rw [if_pos h0] at ho ⊢
            rw [h0]
            have hl : (symsTo s t m).length = m := by simp [symsTo]
            exact ⟨ad, c, by rw [hl], by rw [hl]; exact ho, hb'⟩
          · rw [if_neg h0] at ho ⊢
            rw [if_neg h0] at ho ⊢
            exact ⟨ad, c, rfl, ho, hb'⟩
        · have hF : sreadF bs ps d (m : Int) = ([], 4) := by
            rw [sreadF, if_neg hn, if_neg hn4, hmn, hS, hT, if_neg (by simp), if_pos (by simp)]
          rw [hF]
          exact read_table a cap bs ty en p pc ps d m w hb hbl hbc hbn h hl hd hm s hS hT
      · have hF : ∃ c, strF bs ps d.strtab d.strsz = ([], c) ∧ 0 < c := by
          rcases hs1 with h1 | h1 | h1
          · exact ⟨2, h1, by omega⟩
          · exact ⟨3, h1, by omega⟩
          · exact ⟨4, h1, by omega⟩
        obtain ⟨c, hS, hc⟩ := hF
        have hF : sreadF bs ps d (m : Int) = ([], c) := by
          rw [sreadF, if_neg hn, if_neg hn4, hmn, hS, if_pos (by simp; omega)]
        rw [hF]
        exact read_strs a cap bs ty en p pc ps d m w hb hbl hbc hbn h hl hd hm c hS hc
end Go.Proofs.YtnaejlfjlennhaaGreatDoor
/- Layer 10: append(x, y...) of structs, y owned and maybe nil, as one step of a statement whose order is left open. Nothing of the program is named. -/
namespace Go.Proofs.YtnaejlfjlennhaaGreatDoor
open Go.RowKit
set_option linter.unusedVariables false
set_option linter.unusedSimpArgs false

theorem flat_len {sz : Nat} : ∀ (q : List (List Value)), (∀ r ∈ q, r.length = sz) → q.flatten.length = q.length * sz
  | [], _ => by simp
  | r :: q, hq => by
    rw [List.flatten_cons, List.length_append, hq r (by simp), flat_len q (fun x hx => hq x (by simp [hx])), List.length_cons, Nat.add_mul]
    omega
theorem rows_news {w : World} {sz : Nat} {ad : Addr} {ys : List (List Value)} (hyl : ∀ r ∈ ys, r.length = sz) (hrow : RowS w sz (some ad) ys) (hsz : 0 < sz) : ∀ j u, ys.flatten[j]? = some u → w.cell? (ad.add j) = some u := by
  intro j u hj
  have hjl : j < ys.length * sz := by
    have := (List.getElem?_eq_some_iff.1 hj).1
    rwa [flat_len ys hyl] at this
  have hq : j / sz < ys.length := Nat.div_lt_of_lt_mul (by rw [Nat.mul_comm]; exact hjl)
  have hm : j % sz < sz := Nat.mod_lt _ hsz
  obtain ⟨b', o', e', -, hc⟩ := hrow (j / sz) hq
  simp only [Option.some.injEq] at e'
  subst e'
  have h1 := hc (j % sz) hm
  have h2 := flatten_at ys hyl (j / sz) (j % sz) hq hm
  have h3 : j / sz * sz + j % sz = j := by rw [Nat.mul_comm]; exact Nat.div_add_mod j sz
  rw [h3] at h2
  rw [WideShapes.add_plain, show o' + j = o' + j / sz * sz + j % sz by omega, h1, ← h2, hj]
/-- an empty slice that isn't nil -/
theorem OwnS.empty (w : World) (B : Nat) (e : TypeId) (sz : Nat) (hb : B ≤ w.heap.size) : OwnS (w.alloc (.cells #[] e)) B e sz (.slice (some ⟨w.heap.size, 0, none⟩) 0 0) [] :=
  ⟨⟨by simp, .inr ⟨w.heap.size, 0, #[], rfl, hb, heap_alloc_new _ _, Nat.le_refl _, by unfold maxLen; omega, by simp, by simp⟩⟩, fun r hr => by cases hr⟩
theorem step_rows {P : Program} {w : World} {ops : Array Oper} {o : Oper} {a : Act} {K : Act → World → Prop} {Q : Exit → Act → World → Prop} {E : Prop} (hgd : o.guard = none) (s x : Operand) {t e : TypeId} {z : Value} {sz bytes : Nat} (F : RowSlice P t e z sz bytes)
    (ho : o.op = .call { callee := .builtin .append, args := #[s, x], argTypes := #[t, t] })
    (B : Nat) (w0 : World) (v : Value) (rows : List (List Value)) (n m : Nat) (hn : rows.length = n) (hs : a.eval s = v) (ya : Option Addr) (yc : Nat) (ys : List (List Value)) (hx : a.eval x = .slice ya m yc) (hm : ys.length = m)
    (hrow : OwnS w 0 e sz (.slice ya m yc) ys) (hy : ∀ r ∈ ys, ∀ u ∈ r, u.oneCell' = true)
    (hown : OwnS w B e sz v rows) (N : Nat) (hN : n + m = N) (h63 : N ≤ maxLen) (hlen : N * bytes ≤ 140737488355328) (bel : Below B w0 w) (hb : B ≤ w.heap.size)
    (h : ∀ ad' cap w', OwnS w' B e sz (.slice ad' N cap) (rows ++ ys) → Below B w0 w' → K (a.put o.dst (.slice ad' N cap)) w') :
    if Region.wanted o (yielded ops a.tmps) = true then Oper.wp P o a w K Q else E := by
  have hw : Region.wanted o (yielded ops a.tmps) = true := by simp [Region.wanted, hgd]
  rw [if_pos hw]
  subst hn hm hN
  obtain ⟨ht, hinfo, hz, hsz⟩ := F
  obtain ⟨i, hi, hz0, hz1, hz2⟩ := info_parts hinfo
  obtain ⟨-, hrw, hcap, hnil⟩ := hrow.at
  have hyl := hrow.2
  cases ya with
  | none =>
    obtain ⟨h0, rfl⟩ := hnil rfl
    obtain rfl : ys = [] := List.length_eq_zero_iff.1 h0
    obtain ⟨va, vc, hv, -⟩ := hown.row
    have hrun := run_append_owned_none (P := P) (w := w) B t o.type e i sz ht hi v rows.length rows.flatten hown.1
    have hk := h va vc w (by
      rw [List.append_nil]
      show OwnS w B e sz (.slice va rows.length vc) rows
      rw [← hv]
      exact hown) bel
    unfold Oper.wp
    simp only [List.length_nil, Nat.add_zero] at hk hx
    rw [← hv] at hk
    simp [execOp, ho, resolve, invoke, builtin, hs, hx, hrun, Result.andThen]
    exact hk
  | some ad =>
    obtain ⟨hown1, hown2⟩ := hown
    refine wp_append_own _ s x t ho B e i z sz bytes ht hi hz0 hz1 hz2 hz hsz v rows.length rows.flatten hs hown1 ad ys.length yc ys.flatten hx (flat_len ys hyl) (rows_news hyl hrw hsz) ?_ h63 hlen hb ?_
    · intro u hu
      obtain ⟨r, hr, hu⟩ := List.mem_flatten.1 hu
      exact hy r hr u hu
    · intro v' w1 hown' hgr _
      have hos : OwnS w1 B e sz v' (rows ++ ys) := by
        refine ⟨?_, fun q hq => ?_⟩
        · rw [List.length_append, List.flatten_append]
          exact hown'
        · rcases List.mem_append.1 hq with h | h
          · exact hown2 q h
          · exact hyl q h
      obtain ⟨ad', cap', hv, -⟩ := hos.row
      rw [List.length_append] at hv
      subst hv
      exact h ad' cap' w1 hos (bel.grown hgr hb fun j hj => (World.ownsRow.lt hown1 j hj).1)
end Go.Proofs.YtnaejlfjlennhaaGreatDoor
