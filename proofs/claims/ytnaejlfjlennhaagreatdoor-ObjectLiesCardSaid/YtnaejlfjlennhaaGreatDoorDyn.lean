/- Layer 5: what a dynamic section tells, as a value. -/
import Derived.Test.YtnaejlfjlennhaaGreatDoorLittle
namespace Go.Proofs.YtnaejlfjlennhaaGreatDoor
open Go.RowKit

structure DT where
  na : Option Addr
  nl : Nat
  nc : Nat
  pltrelsz : Nat
  pltgot : Nat
  hash : Nat
  strtab : Nat
  symtab : Nat
  rela : Nat
  relasz : Nat
  strsz : Nat
  init : Nat
  fini : Nat
  soname : Nat
  rpath : Nat
  runpath : Nat
  hasSoname : Bool
  hasRpath : Bool
  hasRunpath : Bool
  jmprel : Nat
  initArray : Nat
  finiArray : Nat
  initArraysz : Nat
  finiArraysz : Nat
  flags : Nat
  relr : Nat
  relrsz : Nat
  gnuHash : Nat
  versym : Nat
  flags1 : Nat
  verdef : Nat
  verdefnum : Nat
  verneed : Nat
  verneednum : Nat
  symbolic : Bool
  bindNow : Bool
  textrel : Bool
  hasInit : Bool
  hasFini : Bool

def DT.cells (d : DT) : Array Value := #[.slice d.na d.nl d.nc, .int .u64 ((d.pltrelsz : Nat) : Int), .int .u64 ((d.pltgot : Nat) : Int), .int .u64 ((d.hash : Nat) : Int), .int .u64 ((d.strtab : Nat) : Int), .int .u64 ((d.symtab : Nat) : Int), .int .u64 ((d.rela : Nat) : Int), .int .u64 ((d.relasz : Nat) : Int), .int .u64 ((d.strsz : Nat) : Int), .int .u64 ((d.init : Nat) : Int), .int .u64 ((d.fini : Nat) : Int), .int .u64 ((d.soname : Nat) : Int), .int .u64 ((d.rpath : Nat) : Int), .int .u64 ((d.runpath : Nat) : Int), .bool d.hasSoname, .bool d.hasRpath, .bool d.hasRunpath, .int .u64 ((d.jmprel : Nat) : Int), .int .u64 ((d.initArray : Nat) : Int), .int .u64 ((d.finiArray : Nat) : Int), .int .u64 ((d.initArraysz : Nat) : Int), .int .u64 ((d.finiArraysz : Nat) : Int), .int .u64 ((d.flags : Nat) : Int), .int .u64 ((d.relr : Nat) : Int), .int .u64 ((d.relrsz : Nat) : Int), .int .u64 ((d.gnuHash : Nat) : Int), .int .u64 ((d.versym : Nat) : Int), .int .u64 ((d.flags1 : Nat) : Int), .int .u64 ((d.verdef : Nat) : Int), .int .u64 ((d.verdefnum : Nat) : Int), .int .u64 ((d.verneed : Nat) : Int), .int .u64 ((d.verneednum : Nat) : Int), .bool d.symbolic, .bool d.bindNow, .bool d.textrel, .bool d.hasInit, .bool d.hasFini]
def DT.wf (d : DT) : Prop := d.pltrelsz < 18446744073709551616 ∧ d.pltgot < 18446744073709551616 ∧ d.hash < 18446744073709551616 ∧ d.strtab < 18446744073709551616 ∧ d.symtab < 18446744073709551616 ∧ d.rela < 18446744073709551616 ∧ d.relasz < 18446744073709551616 ∧ d.strsz < 18446744073709551616 ∧ d.init < 18446744073709551616 ∧ d.fini < 18446744073709551616 ∧ d.soname < 18446744073709551616 ∧ d.rpath < 18446744073709551616 ∧ d.runpath < 18446744073709551616 ∧ d.jmprel < 18446744073709551616 ∧ d.initArray < 18446744073709551616 ∧ d.finiArray < 18446744073709551616 ∧ d.initArraysz < 18446744073709551616 ∧ d.finiArraysz < 18446744073709551616 ∧ d.flags < 18446744073709551616 ∧ d.relr < 18446744073709551616 ∧ d.relrsz < 18446744073709551616 ∧ d.gnuHash < 18446744073709551616 ∧ d.versym < 18446744073709551616 ∧ d.flags1 < 18446744073709551616 ∧ d.verdef < 18446744073709551616 ∧ d.verdefnum < 18446744073709551616 ∧ d.verneed < 18446744073709551616 ∧ d.verneednum < 18446744073709551616
def DT.v (d : DT) : Value := .agg d.cells
theorem DT.wf.pltrelsz {d : DT} (h : d.wf) : d.pltrelsz < 18446744073709551616 := h.1
theorem DT.wf.pltgot {d : DT} (h : d.wf) : d.pltgot < 18446744073709551616 := h.2.1
theorem DT.wf.hash {d : DT} (h : d.wf) : d.hash < 18446744073709551616 := h.2.2.1
theorem DT.wf.strtab {d : DT} (h : d.wf) : d.strtab < 18446744073709551616 := h.2.2.2.1
theorem DT.wf.symtab {d : DT} (h : d.wf) : d.symtab < 18446744073709551616 := h.2.2.2.2.1
theorem DT.wf.rela {d : DT} (h : d.wf) : d.rela < 18446744073709551616 := h.2.2.2.2.2.1
theorem DT.wf.relasz {d : DT} (h : d.wf) : d.relasz < 18446744073709551616 := h.2.2.2.2.2.2.1
theorem DT.wf.strsz {d : DT} (h : d.wf) : d.strsz < 18446744073709551616 := h.2.2.2.2.2.2.2.1
theorem DT.wf.init {d : DT} (h : d.wf) : d.init < 18446744073709551616 := h.2.2.2.2.2.2.2.2.1
theorem DT.wf.fini {d : DT} (h : d.wf) : d.fini < 18446744073709551616 := h.2.2.2.2.2.2.2.2.2.1
theorem DT.wf.soname {d : DT} (h : d.wf) : d.soname < 18446744073709551616 := h.2.2.2.2.2.2.2.2.2.2.1
theorem DT.wf.rpath {d : DT} (h : d.wf) : d.rpath < 18446744073709551616 := h.2.2.2.2.2.2.2.2.2.2.2.1
theorem DT.wf.runpath {d : DT} (h : d.wf) : d.runpath < 18446744073709551616 := h.2.2.2.2.2.2.2.2.2.2.2.2.1
theorem DT.wf.jmprel {d : DT} (h : d.wf) : d.jmprel < 18446744073709551616 := h.2.2.2.2.2.2.2.2.2.2.2.2.2.1
theorem DT.wf.initArray {d : DT} (h : d.wf) : d.initArray < 18446744073709551616 := h.2.2.2.2.2.2.2.2.2.2.2.2.2.2.1
theorem DT.wf.finiArray {d : DT} (h : d.wf) : d.finiArray < 18446744073709551616 := h.2.2.2.2.2.2.2.2.2.2.2.2.2.2.2.1
theorem DT.wf.initArraysz {d : DT} (h : d.wf) : d.initArraysz < 18446744073709551616 := h.2.2.2.2.2.2.2.2.2.2.2.2.2.2.2.2.1
theorem DT.wf.finiArraysz {d : DT} (h : d.wf) : d.finiArraysz < 18446744073709551616 := h.2.2.2.2.2.2.2.2.2.2.2.2.2.2.2.2.2.1
theorem DT.wf.flags {d : DT} (h : d.wf) : d.flags < 18446744073709551616 := h.2.2.2.2.2.2.2.2.2.2.2.2.2.2.2.2.2.2.1
theorem DT.wf.relr {d : DT} (h : d.wf) : d.relr < 18446744073709551616 := h.2.2.2.2.2.2.2.2.2.2.2.2.2.2.2.2.2.2.2.1
theorem DT.wf.relrsz {d : DT} (h : d.wf) : d.relrsz < 18446744073709551616 := h.2.2.2.2.2.2.2.2.2.2.2.2.2.2.2.2.2.2.2.2.1
theorem DT.wf.gnuHash {d : DT} (h : d.wf) : d.gnuHash < 18446744073709551616 := h.2.2.2.2.2.2.2.2.2.2.2.2.2.2.2.2.2.2.2.2.2.1
theorem DT.wf.versym {d : DT} (h : d.wf) : d.versym < 18446744073709551616 := h.2.2.2.2.2.2.2.2.2.2.2.2.2.2.2.2.2.2.2.2.2.2.1
theorem DT.wf.flags1 {d : DT} (h : d.wf) : d.flags1 < 18446744073709551616 := h.2.2.2.2.2.2.2.2.2.2.2.2.2.2.2.2.2.2.2.2.2.2.2.1
theorem DT.wf.verdef {d : DT} (h : d.wf) : d.verdef < 18446744073709551616 := h.2.2.2.2.2.2.2.2.2.2.2.2.2.2.2.2.2.2.2.2.2.2.2.2.1
theorem DT.wf.verdefnum {d : DT} (h : d.wf) : d.verdefnum < 18446744073709551616 := h.2.2.2.2.2.2.2.2.2.2.2.2.2.2.2.2.2.2.2.2.2.2.2.2.2.1
theorem DT.wf.verneed {d : DT} (h : d.wf) : d.verneed < 18446744073709551616 := h.2.2.2.2.2.2.2.2.2.2.2.2.2.2.2.2.2.2.2.2.2.2.2.2.2.2.1
theorem DT.wf.verneednum {d : DT} (h : d.wf) : d.verneednum < 18446744073709551616 := h.2.2.2.2.2.2.2.2.2.2.2.2.2.2.2.2.2.2.2.2.2.2.2.2.2.2.2
end Go.Proofs.YtnaejlfjlennhaaGreatDoor
