/- Layer 15: an object as it comes in; its segments. -/
import Derived.Test.YtjiifaeehhpkcaaPlaceFil
import Derived.Test.YtjiifaeehhpkcaaVmStore
import Derived.Shelf.Abstract
namespace Go.Proofs.Ytjiifaeehhpkcaa
open Go.RowKit
set_option linter.unusedVariables false
set_option linter.unusedSimpArgs false

/-- what of an object layer 15 reads -/
structure POb where
  ty : Int
  ps : List PT
  bs : List Nat
/-- an object as the cells of a value -/
structure PCells (w : World) (C : Array Value) (x : POb) : Prop where
  size : C.size = 54
  one : C.all (·.oneCell') = true
  c0 : C[0]? = some (.int .i64 x.ty)
  head : ∃ p pc, C[2]? = some (.slice p x.ps.length pc) ∧ PRow w p x.ps
  bytes : ∃ a cap, C[53]? = some (.slice a x.bs.length cap) ∧ BRow w a x.bs ∧ x.bs.length ≤ cap
  pl : x.ps.length * 48 ≤ 140737488351232
  bl : x.bs.length ≤ 140737488351232
theorem PCells.below {w w' : World} {C : Array Value} {x : POb} (h : PCells w C x) (hb : Below w.heap.size w w') : PCells w' C x := by
  obtain ⟨p, pc, e1, r1⟩ := h.head
  obtain ⟨a, cap, e6, r6, r7⟩ := h.bytes
  exact ⟨h.size, h.one, h.c0, ⟨p, pc, e1, r1.below hb⟩, ⟨a, cap, e6, r6.below hb, r7⟩, h.pl, h.bl⟩
theorem PRow.wf {w : World} {a : Option Addr} {ps : List PT} (h : PRow w a ps) : ∀ p ∈ ps, p.wf := fun p hp => by
  obtain ⟨i, hi, rfl⟩ := List.getElem_of_mem hp
  exact (h i hi).1
theorem PCells.wf {w : World} {C : Array Value} {x : POb} (h : PCells w C x) : ∀ p ∈ x.ps, p.wf := by
  obtain ⟨p, pc, e1, r1⟩ := h.head
  exact r1.wf
theorem PCells.info {w : World} {C : Array Value} {x : POb} (h : PCells w C x) : (Try.prog.info? 39).map (·.size) = some C.size := by rw [h.size]; kernel_rfl

theorem enters_progs1 : ∀ (args : Array Value) (w : World), (callFunc 52 args).run Try.prog w = .ok (.enter 52 args) w := enters_of Try.func52 (by kernel_rfl) rfl
theorem enters_paged1 : ∀ (args : Array Value) (w : World), (callFunc 45 args).run Try.prog w = .ok (.enter 45 args) w := enters_of Try.func45 (by kernel_rfl) rfl

set_option maxRecDepth 100000 in
theorem progs_any (C : Array Value) (x : POb) (k : Nat) (w : World) (h : PCells w C x) (hk : k < 4294967296) :
    Calls Try.prog 35 #[.agg C, .int .u32 (k : Int)] w (SomeP (kindF k x.ps) w) := by
  obtain ⟨p, pc, e2, r2⟩ := h.head
  have h54 := h.size
  have hone := h.one
  have HB : Hid (Below w.heap.size w ((w.alloc (.cells C 39)).alloc (.cells #[.int .u32 (k : Int)] 58))) := Lib.hid (((Below.refl _ _).alloc (Nat.le_refl _) _).alloc (by simp) _)
  have HK : Hid (((w.alloc (.cells C 39)).alloc (.cells #[.int .u32 (k : Int)] 58)).heap[w.heap.size + 1]? = some (.cells #[.int .u32 (k : Int)] 58)) := Lib.hid (by
    have := heap_alloc_new (w.alloc (.cells C 39)) (.cells #[.int .u32 (k : Int)] 58)
    simpa using this)
  have HR := Lib.hid (r2.below HB.out)
  have HL := Lib.hid h.pl
  have HS : Hid (w.heap.size + 2 = ((w.alloc (.cells C 39)).alloc (.cells #[.int .u32 (k : Int)] 58)).heap.size) := Lib.hid (by simp)
  clear h r2
  obtain ⟨n, hn⟩ : ∃ n, x.ps.length = n := ⟨_, rfl⟩
  rw [hn] at e2 HL
  have HN := Lib.hid hn
  clear hn
  go_enter Try.func35, Try.ntmps35
  go_wp2_with fail
  have e2' : C[2]'(by omega) = .slice p n pc := by
    have := e2
    rw [Array.getElem?_eq_getElem (by omega)] at this
    exact Option.some.inj this
  rw [e2']
  generalize hw2 : (w.alloc (.cells C 39)).alloc (.cells #[.int .u32 (k : Int)] 58) = w2 at *
  refine (filter_any 52 #[.pointer (some ⟨w.heap.size + 1, 0, none⟩)] (fun p => p.ty == k) p n pc x.ps w2 HR.out HN.out HL.out enters_progs1 (fun q wx hq hb => progs1_any q k (w.heap.size + 1) wx hq (by rw [cell_of_row _ _ 0 _ _ _ ((hb.block _ (lt_of_block HK.out)).trans HK.out)]; rfl))).mono ?_
  rintro e w3 ⟨ad, c, rfl, ho, hb⟩
  have HO := Lib.hid ho
  have HB3 := Lib.hid hb
  clear ho hb hw2
  generalize hRn : x.ps.filter (fun p => p.ty == k) = R at *
  go_wp2_with fail
  go_ret
  refine ⟨ad, c, by rw [← hRn]; rfl, ?_, bstep HB.out HB3.out⟩
  have := HO.out.mono (B' := w.heap.size) HB.out.size
  rw [← hRn] at this
  exact this

theorem paged_any (a : Option Addr) (n cap : Nat) (ps : List PT) (w : World) (h : PRow w a ps) (hl : ps.length = n) (hn : n * 48 ≤ 140737488351232) :
    Calls Try.prog 23 #[.slice a n cap] w (SomeP (pagedF ps) w) := by
  have HF := Lib.hid (filter_any 45 #[] hasPages a n cap ps w h hl hn enters_paged1 (fun q wx hq hb => paged1_any q wx hq))
  clear h hl hn
  generalize hRn : ps.filter hasPages = R at *
  show Calls _ _ _ _ (SomeP (ps.filter hasPages) w)
  rw [hRn]
  clear hRn
  go_enter Try.func23, Try.ntmps23
  go_wp2_with fail
  refine HF.out.mono ?_
  rintro e w3 ⟨ad, c, rfl, ho, hb⟩
  have HO := Lib.hid ho
  have HB3 := Lib.hid hb
  clear ho hb HF
  go_wp2_with fail
  go_ret
  exact ⟨ad, c, rfl, HO.out, HB3.out⟩

theorem segments_any (C : Array Value) (x : POb) (w : World) (h : PCells w C x) :
    Calls Try.prog 24 #[.agg C] w (SomeP (kindF 1 x.ps) w) := by
  have h54 := h.size
  have hone := h.one
  have HI := Lib.hid h.info
  have B1 : Hid (Below w.heap.size w (w.alloc (.cells C 39))) := Lib.hid ((Below.refl _ _).alloc (Nat.le_refl _) _)
  have HK : Hid ((w.alloc (.cells C 39)).heap[w.heap.size]? = some (.cells C 39)) := Lib.hid (heap_alloc_new _ _)
  have HP := Lib.hid (progs_any C x 1 _ (h.below B1.out) (by omega))
  clear h
  go_enter Try.func24, Try.ntmps24
  go_wp2_with (refine wpList_load_row rfl 39 _ rfl w.heap.size rfl 39 C (0, 0) _ HK.out Try.underlying39 rfl HI.out ?_)
  refine HP.out.mono ?_
  rintro e w3 ⟨ad, c, rfl, ho, hb⟩
  have HO := Lib.hid (ho.mono (B' := w.heap.size) B1.out.size)
  have HB3 := Lib.hid (bstep B1.out hb)
  clear ho hb HP HK
  generalize kindF 1 x.ps = R at *
  go_wp2_with fail
  go_ret
  exact ⟨ad, c, rfl, HO.out, HB3.out⟩

theorem down_any (n : Nat) (w : World) (hn : n < 18446744073709551616) : Calls Try.prog 36 #[.int .u64 (n : Int)] w fun e w' => e = .returned (.int .u64 (downF n : Int)) ∧ w = w' := by
  have h1 : (n : Int).tdiv 4096 = ((n / 4096 : Nat) : Int) := by rw [Int.tdiv_eq_ediv_of_nonneg (by omega)]; omega
  have h2 : IntKind.u64.wrap (n / 4096 : Int) = ((n / 4096 : Nat) : Int) := by rw [IntKind.wrap_u64]; omega
  have h3 : IntKind.u64.wrap (((n / 4096 : Nat) : Int) * 4096) = (downF n : Int) := by rw [IntKind.wrap_u64]; unfold downF; omega
  go_enter Try.func36, Try.ntmps36
  go_wp2
  go_ret
  have h4 : (n : Int) / 4096 * 4096 = (downF n : Int) := by unfold downF; omega
  exact ⟨by rw [← h4]; rfl, rfl⟩
end Go.Proofs.Ytjiifaeehhpkcaa
