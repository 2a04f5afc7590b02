/- What the errors of package api are as values, and that their numbers are told (shacklelaw00.Code). -/
import Derived.Test.YtmnjkaimpejohaaGreatDoorBase
import Derived.LaidEql
namespace Go.Proofs.YtmnjkaimpejohaaGreatDoor
open Go.RowKit

/-- An error that is a Code of api itself; 0: none. -/
def errV (n : Int) : Value := if n = 0 then .nilIface else .iface 36 (.int .i64 n)

theorem run_equalIn_iface_int {P : Program} (w : World) (d : Nat) {ti tn : TypeId} {ms : Array (String × TypeId)} {i : TypeInfo} {k : IntKind} (a b : Int)
    (hi : P.underlying ti = some (.interface ms)) (hn : P.underlying tn = some (.int k)) (hinfo : P.info? tn = some i) (hcomp : i.comparable = true) :
    (Op.equalIn (d + 2) ti (.iface tn (.int k a)) (.iface tn (.int k b))).run P w = .ok (a == b) w := by
  simp [Op.equalIn, run_underlying hi, run_underlying hn, typeInfo, hinfo, hcomp]

theorem run_eql_iface_int {P : Program} (w : World) {ti tn : TypeId} {ms : Array (String × TypeId)} {i : TypeInfo} {k : IntKind} (a b : Int)
    (hi : P.underlying ti = some (.interface ms)) (hn : P.underlying tn = some (.int k)) (hinfo : P.info? tn = some i) (hcomp : i.comparable = true) :
    (binOp .eql ti (.iface tn (.int k a)) (.iface tn (.int k b))).run P w = .ok (.bool (a == b)) w := by
  simp only [binOp]
  simp [Op.equal, Op.maxDepth, run_equalIn_iface_int w 9998 a b hi hn hinfo hcomp]

theorem codeInfo : (Tryz.prog.info? 36).map (·.comparable) = some true := by kernel_rfl

theorem run_eql_code (a b : Int) : ∀ w, (binOp .eql 32 (.iface 36 (.int .i64 a)) (.iface 36 (.int .i64 b))).run Tryz.prog w = .ok (.bool (a == b)) w := by
  intro w
  obtain ⟨i, hi, hc⟩ := Option.map_eq_some_iff.1 codeInfo
  exact run_eql_iface_int w a b Tryz.underlying32 Tryz.underlying36 hi hc

theorem run_neq_iface_int {P : Program} (w : World) {ti tn : TypeId} {ms : Array (String × TypeId)} {i : TypeInfo} {k : IntKind} (a b : Int)
    (hi : P.underlying ti = some (.interface ms)) (hn : P.underlying tn = some (.int k)) (hinfo : P.info? tn = some i) (hcomp : i.comparable = true) :
    (binOp .neq ti (.iface tn (.int k a)) (.iface tn (.int k b))).run P w = .ok (.bool (a != b)) w := by
  simp only [binOp]
  simp [Op.equal, Op.maxDepth, run_equalIn_iface_int w 9998 a b hi hn hinfo hcomp]
  cases h : (a == b) <;> simp [bne, h]
theorem run_neq_code (a b : Int) : ∀ w, (binOp .neq 32 (.iface 36 (.int .i64 a)) (.iface 36 (.int .i64 b))).run Tryz.prog w = .ok (.bool (a != b)) w := by
  intro w
  obtain ⟨i, hi, hc⟩ := Option.map_eq_some_iff.1 codeInfo
  exact run_neq_iface_int w a b Tryz.underlying32 Tryz.underlying36 hi hc





























































end Go.Proofs.YtmnjkaimpejohaaGreatDoor
