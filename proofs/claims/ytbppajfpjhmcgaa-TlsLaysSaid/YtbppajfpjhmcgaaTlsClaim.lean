/- tls.claim: pages are claimed, of a memory of at most one page. -/
import Derived.Test.YtbppajfpjhmcgaaVmFind
import Derived.Test.YtbppajfpjhmcgaaVmMapG
import Derived.Test.YtbppajfpjhmcgaaTlsLay
namespace Go.Proofs.Ytbppajfpjhmcgaa
open Go.RowKit
set_option linter.unusedVariables false
set_option linter.unusedSimpArgs false

set_option maxRecDepth 100000 in
set_option maxHeartbeats 8000000 in
theorem claim_few (mb : Nat) (S : Nat → Prop) (q c : Nat) (V : Nat → Option Pg) (g : Nat) (F : Nat → Option Nat) (size n at_ : Nat) (w : World) (h : VmAt w mb S q c V g F) (hc : c ≤ 1) (hs : size < 1073741824) (hn : (size + 4095) / 4096 = n) (hn1 : 1 ≤ n)
    (hfind : ∀ xs, AllOf (fun k => V k ≠ none) c xs → findL n xs 1073741824 = at_) (hb : belowF at_ n = true) (ha : at_ < 18446744073709551616) (hck : checkF at_ n 6 = 0) (ht : takeF V n (at_ / 4096) = none) (hq : c + n ≤ q) :
    Calls Try.prog 22 #[.pointer (some ⟨mb, 0, none⟩), .int .u64 (size : Int)] w fun e w' => e = .returned (.tuple #[.int .u64 (at_ : Int), .nilIface]) ∧ VKept S w w' ∧ ∃ F', VmAt w' mb (VGrow S w w') q (c + n) (mapV V (at_ / 4096) n 6) g F' := by
  have hu := fun wx => tup_any size 4096 12 wx (by omega) (by omega) (by decide) (by omega)
  have HU := Lib.hid (fun wx => by have := hu wx; rw [show (4096 - 1 : Nat) = 4095 from rfl, hn] at this; exact this)
  have HFI := Lib.hid (find_few mb S q c V g F 1073741824 n w h hc (by omega) hn1 (by omega))
  have hfr : fromF 1073741824 = 1073741824 := by decide
  rw [hfr] at HFI
  have HFD := Lib.hid hfind
  have HFV : Hid (findV n at_ = .tuple #[.int .u64 (at_ : Int), .nilIface]) := Lib.hid (by unfold findV; rw [if_pos hb])
  have HMP := Lib.hid (fun (wx : World) (hx : VmAt wx mb S q c V g F) => map_good mb S q c V g F at_ n 6 wx hx ha (by omega) hck ht hq)
  have H := Lib.hid h
  have e1 : ((n * 4096 : Nat) : Int).tdiv 4096 = (n : Int) := by rw [Int.tdiv_eq_ediv_of_nonneg (by omega)]; omega
  have e2 : IntKind.u64.wrap (n : Int) = (n : Int) := by rw [IntKind.wrap_u64]; omega
  have e3 : IntKind.i64.wrap (n : Int) = (n : Int) := by rw [IntKind.wrap_i64]; omega
  clear hu h hc hs hn hn1 hfind hb ha hck ht hq hfr
  generalize hm : n * 4096 = m at *
  clear hm
  go_enter Try.func22, Try.ntmps22
  go_wp2_with (go_at_call 19; refine (HU.out _).mono ?_; rintro e w' ⟨rfl, rfl⟩)
  refine HFI.out.mono ?_
  rintro e w1 ⟨xs, hall, he, hb1⟩
  rw [HFD.out xs hall, HFV.out] at he
  subst he
  have B1 := Lib.hid hb1
  have HM := Lib.hid (HMP.out w1 (H.out.below hb1))
  clear hb1 HU HFI HFD HFV HMP H hall
  go_wp2_with fail
  refine HM.out.mono ?_
  rintro e w2 ⟨rfl, hk, F', hv⟩
  have HE := Lib.hid (And.intro hk hv)
  clear HM hk hv
  go_wp2_with fail
  go_ret2
  refine ⟨rfl, (VKept.of_below B1.out).trans HE.out.1 (fun j _ hs => hs), F', HE.out.2.mono ?_⟩
  intro k hk
  rcases hk with hk | ⟨h8, h9⟩
  · exact .inl hk
  · exact .inr ⟨Nat.le_trans B1.out.size h8, h9⟩
end Go.Proofs.Ytbppajfpjhmcgaa
