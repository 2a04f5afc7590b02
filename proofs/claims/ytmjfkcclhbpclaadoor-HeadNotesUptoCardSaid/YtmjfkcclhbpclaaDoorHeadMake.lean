/- Layer 4: the tests of a program header, as they are made; is there a PtLoad? -/
import Derived.Test.YtmjfkcclhbpclaaDoorHeadLoad
namespace Go.Proofs.YtmjfkcclhbpclaaDoor
open Go.RowKit
set_option linter.unusedVariables false
set_option linter.unusedSimpArgs false

/-- what makes a test -/
def MakePost (r : Option (Nat × Nat)) (w : World) (e : Ending) (w' : World) : Prop := (∃ F b d, e = .returned (.func (.func F) b d) ∧ TestV (.func (.func F) b d) w' r) ∧ Below w.heap.size w w'
theorem alone_make (r : HRd) (ps : List PT) (p : PT) (at_ : Nat) (w : World) (h : r.at w) (hp : PRow w r.pa ps) (hn : ps.length = r.pn) (hnl : r.pn ≤ 140737488351232) (ha : at_ < 18446744073709551616) :
    Calls Tryd.prog 48 #[.pointer (some ⟨r.rb, 0, none⟩), p.hv, .int .u64 (at_ : Int)] w (MakePost (unF (aloneF ps p) at_ 5) w) := by
  refine (alone_any r ps p at_ w h hp hn hnl ha).mono ?_
  rintro e w' ⟨⟨v, rfl, hv⟩, hb⟩
  obtain ⟨F, b, d, rfl, -⟩ := hv.is
  exact ⟨⟨F, b, d, rfl, hv⟩, hb⟩
theorem enters_inside1 : ∀ (args : Array Value) (w : World), (callFunc 73 args).run Tryd.prog w = .ok (.enter 73 args) w := enters_of Tryd.func73 (by kernel_rfl) rfl
theorem enters_load1 : ∀ (args : Array Value) (w : World), (callFunc 77 args).run Tryd.prog w = .ok (.enter 77 args) w := enters_of Tryd.func77 (by kernel_rfl) rfl
theorem three_new (w : World) (o1 o2 o3 : Obj) : Below w.heap.size w (((w.alloc o1).alloc o2).alloc o3) ∧ (((w.alloc o1).alloc o2).alloc o3).heap[w.heap.size]? = some o1 ∧ (((w.alloc o1).alloc o2).alloc o3).heap[w.heap.size + 1]? = some o2 ∧ (((w.alloc o1).alloc o2).alloc o3).heap[w.heap.size + 2]? = some o3 := by
  refine ⟨ballo (ballo (ballo (Below.refl _ _) _) _) _, ?_, ?_, ?_⟩
  · rw [heap_alloc_old _ _ (by simp; omega), heap_alloc_old _ _ (by simp)]
    exact heap_alloc_new _ _
  · rw [heap_alloc_old _ _ (by simp)]
    have := heap_alloc_new (w.alloc o1) o2
    rwa [World.size_alloc] at this
  · have := heap_alloc_new ((w.alloc o1).alloc o2) o3
    rwa [World.size_alloc, World.size_alloc] at this
theorem two_new (w : World) (o1 o2 : Obj) : Below w.heap.size w ((w.alloc o1).alloc o2) ∧ ((w.alloc o1).alloc o2).heap[w.heap.size]? = some o1 ∧ ((w.alloc o1).alloc o2).heap[w.heap.size + 1]? = some o2 := by
  refine ⟨ballo (ballo (Below.refl _ _) _) _, ?_, ?_⟩
  · rw [heap_alloc_old _ _ (by simp)]
    exact heap_alloc_new _ _
  · have := heap_alloc_new (w.alloc o1) o2
    rwa [World.size_alloc] at this
set_option maxRecDepth 100000 in
set_option maxHeartbeats 4000000 in
theorem inside_make (r : HRd) (p : PT) (at_ : Nat) (w : World) (hr : r.at w) (hm : r.m ≤ 140737488351232) (hp : p.wf) (ha : at_ + 64 < 18446744073709551616) :
    Calls Tryd.prog 49 #[.pointer (some ⟨r.rb, 0, none⟩), p.hv, .int .u64 (at_ : Int)] w (MakePost (insideF r.m p at_) w) := by
  obtain ⟨w3, hw3⟩ : ∃ w3, ((w.alloc (.cells #[.pointer (some ⟨r.rb, 0, none⟩)] 98)).alloc (.cells p.cells.toArray 37)).alloc (.cells #[.int .u64 (at_ : Int)] 22) = w3 := ⟨_, rfl⟩
  have hx := three_new w (.cells #[.pointer (some ⟨r.rb, 0, none⟩)] 98) (.cells p.cells.toArray 37) (.cells #[.int .u64 (at_ : Int)] 22)
  rw [hw3] at hx
  obtain ⟨hb, x0, x1, x2⟩ := hx
  have HP : Hid (MakePost (insideF r.m p at_) w (.returned (.func (.func 73) #[] #[.pointer (some ⟨w.heap.size + 1, 0, none⟩), .pointer (some ⟨w.heap.size, 0, none⟩), .pointer (some ⟨w.heap.size + 2, 0, none⟩)])) w3) := Lib.hid ⟨⟨_, _, _, rfl, ⟨_, _, _, rfl, enters_inside1, fun wx hx => inside1_any r p at_ (w.heap.size + 1) w.heap.size (w.heap.size + 2) wx (hr.below (bstep hb hx)) hm hp ha ((hx.block _ (lt_of_block x1)).trans x1) ((hx.block _ (lt_of_block x0)).trans x0) ((hx.block _ (lt_of_block x2)).trans x2)⟩⟩, hb⟩
  generalize MakePost (insideF r.m p at_) w = P at *
  obtain ⟨a0, a1, a2, a3, a4, a5, a6⟩ := p
  unfold PT.hv PT.cells at *
  simp only [] at *
  generalize r.rb = rb at *
  clear hr hm hp ha hb x0 x1 x2
  go_enter Tryd.func49, Tryd.ntmps49
  go_wp2_with fail
  exact HP.out
set_option maxRecDepth 100000 in
set_option maxHeartbeats 4000000 in
theorem load_make (r : HRd) (ps : List PT) (p : PT) (at_ : Nat) (w : World) (hr : r.at w) (hps : PRow w r.pa ps) (hpn : ps.length = r.pn) (hpl : r.pn ≤ 140737488351232) (hwf : ∀ p ∈ ps, p.wf) (hp : p.wf) (ha : at_ + 64 < 18446744073709551616) :
    Calls Tryd.prog 51 #[.pointer (some ⟨r.rb, 0, none⟩), p.hv, .int .u64 (at_ : Int)] w (MakePost (loadF ps p at_) w) := by
  obtain ⟨w3, hw3⟩ : ∃ w3, ((w.alloc (.cells #[.pointer (some ⟨r.rb, 0, none⟩)] 98)).alloc (.cells p.cells.toArray 37)).alloc (.cells #[.int .u64 (at_ : Int)] 22) = w3 := ⟨_, rfl⟩
  have hx := three_new w (.cells #[.pointer (some ⟨r.rb, 0, none⟩)] 98) (.cells p.cells.toArray 37) (.cells #[.int .u64 (at_ : Int)] 22)
  rw [hw3] at hx
  obtain ⟨hb, x0, x1, x2⟩ := hx
  have HP : Hid (MakePost (loadF ps p at_) w (.returned (.func (.func 77) #[] #[.pointer (some ⟨w.heap.size + 1, 0, none⟩), .pointer (some ⟨w.heap.size + 2, 0, none⟩), .pointer (some ⟨w.heap.size, 0, none⟩)])) w3) := Lib.hid ⟨⟨_, _, _, rfl, ⟨_, _, _, rfl, enters_load1, fun wx hx => load1_any r ps p at_ (w.heap.size + 1) (w.heap.size + 2) w.heap.size wx (hr.below (bstep hb hx)) (fun i hi => by
      obtain ⟨q, b, o, e, hl, hcs⟩ := hps i hi
      have hbx := bstep hb hx
      exact ⟨q, b, o, e, Nat.lt_of_lt_of_le hl hbx.size, fun j hj => (hbx.cell (p := ⟨b, o + i * 7 + j, none⟩) hl).trans (hcs j hj)⟩) hpn hpl hwf hp ha ((hx.block _ (lt_of_block x1)).trans x1) ((hx.block _ (lt_of_block x2)).trans x2) ((hx.block _ (lt_of_block x0)).trans x0)⟩⟩, hb⟩
  generalize MakePost (loadF ps p at_) w = P at *
  obtain ⟨a0, a1, a2, a3, a4, a5, a6⟩ := p
  unfold PT.hv PT.cells at *
  simp only [] at *
  generalize r.rb = rb at *
  clear hr hps hpn hpl hwf hp ha hb x0 x1 x2
  go_enter Tryd.func51, Tryd.ntmps51
  go_wp2_with fail
  exact HP.out
set_option maxRecDepth 100000 in
set_option maxHeartbeats 4000000 in
theorem sized_make (t : Value) (p : PT) (at_ : Nat) (w : World) (hp : p.wf) (ha : at_ + 64 < 18446744073709551616) :
    Calls Tryd.prog 50 #[t, p.hv, .int .u64 (at_ : Int)] w (MakePost (sizedF p at_) w) := by
  obtain ⟨w3, hw3⟩ : ∃ w3, (w.alloc (.cells p.cells.toArray 37)).alloc (.cells #[.int .u64 (at_ : Int)] 22) = w3 := ⟨_, rfl⟩
  have hx := two_new w (.cells p.cells.toArray 37) (.cells #[.int .u64 (at_ : Int)] 22)
  rw [hw3] at hx
  obtain ⟨hb, x0, x1⟩ := hx
  have HP : Hid (MakePost (sizedF p at_) w (.returned (.func (.func 75) #[] #[.pointer (some ⟨w.heap.size, 0, none⟩), .pointer (some ⟨w.heap.size + 1, 0, none⟩)])) w3) := Lib.hid ⟨⟨_, _, _, rfl, ⟨_, _, _, rfl, enters_sized1, fun wx hx => sized1_any p at_ w.heap.size (w.heap.size + 1) wx hp ha ((hx.block _ (lt_of_block x0)).trans x0) ((hx.block _ (lt_of_block x1)).trans x1)⟩⟩, hb⟩
  generalize MakePost (sizedF p at_) w = P at *
  obtain ⟨a0, a1, a2, a3, a4, a5, a6⟩ := p
  unfold PT.hv PT.cells at *
  simp only [] at *
  clear hp ha hb x0 x1
  go_enter Tryd.func50, Tryd.ntmps50
  go_wp2_with fail
  exact HP.out
set_option maxRecDepth 100000 in
set_option maxHeartbeats 4000000 in
theorem loads_any (r : HRd) (ps : List PT) (w : World) (h : r.at w) (hp : PRow w r.pa ps) (hn : ps.length = r.pn) (hnl : r.pn ≤ 140737488351232) :
    Calls Tryd.prog 26 #[.pointer (some ⟨r.rb, 0, none⟩)] w fun e w' => e = .returned (match lastF ps with | none => .iface 38 (.int .i64 6) | some _ => .nilIface) ∧ Below w.heap.size w w' := by
  have HL := Lib.hid (lastload_any r ps w h hp hn hnl)
  obtain ⟨q, hq⟩ : ∃ q, (lastF ps).getD PT.zero = q := ⟨_, rfl⟩
  rw [hq] at HL
  generalize r.rb = rb at *
  have HB1 : Hid (∀ wx, Below w.heap.size w wx → Below w.heap.size w (wx.alloc (.cells q.cells.toArray 37))) := Lib.hid (fun wx hb => ballo hb _)
  clear h hp hn hnl hq
  obtain ⟨a0, a1, a2, a3, a4, a5, a6⟩ := q
  unfold PT.hv PT.cells at *
  simp only [] at *
  cases hl : lastF ps with
  | none =>
    rw [hl] at HL
    clear hl
    go_enter Tryd.func26, Tryd.ntmps26
    go_wp2_with fail
    refine HL.out.mono ?_
    rintro e w2 ⟨hpost, hb2⟩
    obtain rfl : e = .returned (.tuple #[.agg #[.int .u32 a0, .int .u32 a1, .int .u64 a2, .int .u64 a3, .int .u64 a4, .int .u64 a5, .int .u64 a6], .bool false]) := hpost
    have B2 := Lib.hid (HB1.out w2 hb2)
    clear hb2
    go_wp2_with fail
    go_ret
    exact ⟨rfl, B2.out⟩
  | some x =>
    rw [hl] at HL
    clear hl
    go_enter Tryd.func26, Tryd.ntmps26
    go_wp2_with fail
    refine HL.out.mono ?_
    rintro e w2 ⟨hpost, hb2⟩
    obtain rfl : e = .returned (.tuple #[.agg #[.int .u32 a0, .int .u32 a1, .int .u64 a2, .int .u64 a3, .int .u64 a4, .int .u64 a5, .int .u64 a6], .bool true]) := hpost
    have B2 := Lib.hid (HB1.out w2 hb2)
    clear hb2
    go_wp2_with fail
    go_ret
    exact ⟨rfl, B2.out⟩
end Go.Proofs.YtmjfkcclhbpclaaDoor
