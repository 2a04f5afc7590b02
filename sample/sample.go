// Package sample makes small programs and libraries out of a few calls. The tests of link and script are made of them.
package sample

import (
	"slices"

	"shackle/api"
	"shackle/little"
	"shackle/mint"
)

// Types of relocations that are laid here.
const (
	relData     = 6
	relSlot     = 7
	relRelative = 8
)

// fix is a place in the code that tells, in 4 bytes, how far away a place of the data or of the code is.
type fix struct {
	at     int
	inData bool
	to     int
}

// Lib is a file that is being made. Plan may be added to, but for its code, its data, its symbols' order and what is called through slots.
type Lib struct {
	Plan  api.Plan
	fixes []fix
	links map[string]int // where in the code the way to a function by its slot is
	front int            // where in the code the way to the linker is; 0: nowhere
}

// New is a library without anything.
func New(soname string) *Lib {
	l := &Lib{links: map[string]int{}}
	l.Plan = api.Plan{Type: api.Shared, Soname: soname, HasSoname: soname != ""}
	l.Raw(0x90) // so that nothing lies at the beginning, where the way to the linker is nowhere
	return l
}

// Here is how much code there is.
func (l *Lib) Here() uint64 { return uint64(len(l.Plan.Code)) }

// Raw adds bytes to the code.
func (l *Lib) Raw(b ...byte) { l.Plan.Code = append(l.Plan.Code, b...) }

// Trap traps with a number in register 0.
func (l *Lib) Trap(n uint32) {
	l.Set(n)
	l.Raw(0xf4)
}

// Set writes a number into register 0.
func (l *Lib) Set(n uint32) {
	l.Raw(0xb8)
	l.Raw(little.Bytes(uint64(n), 4)...)
}

// Ret returns.
func (l *Lib) Ret() { l.Raw(0xc3) }

// Func begins a function, which others may call.
func (l *Lib) Func(name string) *api.PlanSym {
	return l.Symbol(api.PlanSym{Name: name, Bind: api.Global, Type: api.Func, Where: api.InCode, Off: l.Here(), Size: 1})
}

// Traps is a function that traps with a number, and returns.
func (l *Lib) Traps(name string, n uint32) *api.PlanSym {
	l.Func(name)
	l.Trap(n)
	l.Ret()
	return &l.Plan.Syms[len(l.Plan.Syms)-1]
}

// Entry begins what the program runs.
func (l *Lib) Entry() { l.Plan.Entry = l.Here() }

// Init begins an initialiser, Fini a terminator.
func (l *Lib) Init() { l.Plan.Inits = append(l.Plan.Inits, l.Here()) }

// Fini begins a terminator.
func (l *Lib) Fini() { l.Plan.Finis = append(l.Plan.Finis, l.Here()) }

// Symbol adds a symbol.
func (l *Lib) Symbol(y api.PlanSym) *api.PlanSym {
	l.Plan.Syms = append(l.Plan.Syms, y)
	return &l.Plan.Syms[len(l.Plan.Syms)-1]
}

// Import is the number of a symbol that isn't defined here; it is added, if it isn't there.
func (l *Lib) Import(y api.PlanSym) int {
	i := slices.IndexFunc(l.Plan.Syms, func(o api.PlanSym) bool {
		return o.Where == api.Nowhere && o.Name == y.Name && o.Version == y.Version
	})
	if i < 0 {
		i = len(l.Plan.Syms)
		l.Symbol(y)
	}
	return i + 1
}

// Want is a symbol to be imported by its name alone.
func Want(name string) api.PlanSym { return api.PlanSym{Name: name, Bind: api.Global} }

// Word adds 8 bytes to the data, and tells where.
func (l *Lib) Word(v uint64) uint64 {
	l.Plan.Data = append(l.Plan.Data, little.Bytes(v, 8)...)
	return uint64(len(l.Plan.Data) - 8)
}

// Slot adds 8 bytes to the data that a relocation writes.
func (l *Lib) Slot(kind, sym int, add int64) uint64 {
	off := l.Word(0)
	l.Plan.Rels = append(l.Plan.Rels, api.PlanRel{Where: api.InData, Off: off, Type: kind, Sym: sym, Add: add})
	return off
}

// Pointer adds 8 bytes to the data that are the address of a place of the code.
func (l *Lib) Pointer(code uint64) uint64 {
	off := l.Word(0)
	l.Plan.Rels = append(l.Plan.Rels, api.PlanRel{Where: api.InData, Off: off, Type: relRelative, From: api.InCode, Add: int64(code)})
	return off
}

// Call calls a function whose address is written at the start.
func (l *Lib) Call(name string) { l.CallOf(Want(name)) }

// CallOf calls one of a version.
func (l *Lib) CallOf(y api.PlanSym) {
	slot := l.Slot(relData, l.Import(y), 0)
	l.Reach(slot, 0xff, 0x15)
}

// Load reads 8 bytes of the data into register 0.
func (l *Lib) Load(off uint64) { l.Reach(off, 0x48, 0x8b, 0x05) }

// Reach adds an instruction of some bytes that tells, behind them, a place of the data.
func (l *Lib) Reach(off uint64, b ...byte) {
	l.Raw(b...)
	l.distance(true, int(off))
}

// CallLater calls a function that is bound at its first call.
func (l *Lib) CallLater(name string) {
	l.Raw(0xe9) // over the way there, which is laid at its first use
	jump := len(l.Plan.Code)
	l.Raw(0, 0, 0, 0)
	way := l.way(name)
	copy(l.Plan.Code[jump:], little.Bytes(uint64(len(l.Plan.Code)-jump-4), 4))
	l.Raw(0xe8)
	l.distance(false, way)
}

// File is its file.
func (l *Lib) File() ([]byte, error) {
	w, err := mint.Where(l.Plan)
	if err != nil {
		return nil, err
	}
	p := l.Plan
	p.Code, p.Data = slices.Clone(p.Code), slices.Clone(p.Data)
	for _, f := range l.fixes {
		from, to := w.Code+uint64(f.at)+4, w.Code+uint64(f.to)
		if f.inData {
			to = w.Data + uint64(f.to)
		}
		copy(p.Code[f.at:], little.Bytes(to-from, 4))
	}
	for _, r := range p.Plt { // a slot goes at first to what asks the linker
		if r.Type == relSlot {
			copy(p.Data[r.Off:], little.Bytes(w.Code+little.Number(p.Data[r.Off:][:8]), 8))
		}
	}
	return mint.Encode(p)
}

// distance adds 4 bytes that tell how far away a place is.
func (l *Lib) distance(inData bool, to int) {
	l.fixes = append(l.fixes, fix{at: len(l.Plan.Code), inData: inData, to: to})
	l.Raw(0, 0, 0, 0)
}

// way is where the way to a function by its slot is: it goes to where the slot says, which at first is what asks the linker.
func (l *Lib) way(name string) int {
	if at, ok := l.links[name]; ok {
		return at
	}
	l.asking()
	at := len(l.Plan.Code)
	l.links[name] = at
	index := len(l.Plan.Plt)
	slot := l.Word(l.Here() + 6)
	l.Plan.Plt = append(l.Plan.Plt, api.PlanRel{Where: api.InData, Off: slot, Type: relSlot, Sym: l.Import(Want(name))})
	l.Reach(slot, 0xff, 0x25)
	l.Raw(0x68)
	l.Raw(little.Bytes(uint64(index), 4)...)
	l.Raw(0xe9)
	l.distance(false, l.front)
	return at
}

// asking lays the way to the linker, and the three words that lead there.
func (l *Lib) asking() {
	if l.front != 0 {
		return
	}
	l.front = len(l.Plan.Code)
	l.Plan.HasPltgot, l.Plan.Pltgot = true, l.Word(0)
	l.Word(0)
	l.Word(0)
	l.Reach(l.Plan.Pltgot+8, 0xff, 0x35)
	l.Reach(l.Plan.Pltgot+16, 0xff, 0x25)
}
