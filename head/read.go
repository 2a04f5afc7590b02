package head

import (
	"math/bits"
	"slices"

	"shackle/api"
	"shackle/span"
)

// fixed is what must stand in the header: at each place a number of so many bytes, one of two. The order is that in which faults are told.
var fixed = [...]struct {
	at, width     int
	value, orElse uint64
}{
	{0, 1, 0x7f, 0x7f}, {1, 1, 'E', 'E'}, {2, 1, 'L', 'L'}, {3, 1, 'F', 'F'},
	{4, 1, 2, 2}, {5, 1, 1, 1}, {6, 1, 1, 1}, {7, 1, 0, 3},
	{atType, 2, api.Exec, api.Shared}, {18, 2, 62, 62}, {20, 4, 1, 1},
	{52, 2, headSize, headSize}, {54, 2, progSize, progSize},
}

// front is what the header tells of the file.
type front struct {
	kind  int
	entry uint64
}

// table is where the program headers stand, and how many there are.
type table struct{ begin, count uint64 }

// reader reads a header: its parts are filled in one behind the other.
type reader struct {
	front
	table
	bytes []byte
	progs []api.Prog
}

// first is the error of the first test that tells one.
func first(tests ...func() error) error {
	for _, test := range tests {
		if err := test(); err != nil {
			return err
		}
	}
	return nil
}

// unless is a test that tells a Spot, if something doesn't hold.
func unless(ok bool, at uint64, err api.Code) func() error {
	return func() error {
		if ok {
			return nil
		}
		return spot(at, err)
	}
}

// constants asks for the numbers that must stand where they do.
func (r *reader) constants() error {
	for _, m := range fixed {
		if v := number(r.bytes, uint64(m.at), m.width); v != m.value && v != m.orElse {
			return spot(uint64(m.at), api.ErrForm)
		}
	}
	r.kind = int(number(r.bytes, atType, 2))
	r.entry = number(r.bytes, atEntry, 8)
	return nil
}

// where asks where the program headers stand.
func (r *reader) where() error {
	r.begin, r.count = number(r.bytes, atProgs, 8), number(r.bytes, atCount, 2)
	return first(
		unless(r.count > 0, atCount, api.ErrForm),
		unless(r.count <= api.MaxProgs, atCount, api.ErrLong),
		unless(r.within(r.begin, r.count*progSize), atProgs, api.ErrRange),
	)
}

// programs reads the program headers, and asks each for what must hold of it.
func (r *reader) programs() error {
	for i := range r.count {
		at := r.begin + i*progSize
		p := prog(r.bytes[at:])
		if err := first(r.alone(p, at), r.inside(p, at), r.sized(p, at), r.load(p, at)); err != nil {
			return err
		}
		r.progs = append(r.progs, p)
	}
	return nil
}

// loads asks for one PtLoad at least.
func (r *reader) loads() error {
	if _, ok := r.lastLoad(); !ok {
		return api.ErrNone
	}
	return nil
}

// within tells whether so many bytes from a place on lie within the file.
func (r *reader) within(at, n uint64) bool { return span.In(uint64(len(r.bytes)), at, n) }

// lastLoad is the PtLoad that was read last.
func (r *reader) lastLoad() (api.Prog, bool) {
	for _, p := range slices.Backward(r.progs) {
		if p.Type == api.PtLoad {
			return p, true
		}
	}
	return api.Prog{}, false
}

// alone: of some types there may be one program header only.
func (r *reader) alone(p api.Prog, at uint64) func() error {
	same := func(q api.Prog) bool { return q.Type == p.Type }
	once := is(p, api.PtDynamic, api.PtInterp, api.PtTLS, api.PtRelro, api.PtStack)
	return unless(!once || !slices.ContainsFunc(r.progs, same), at, api.ErrTwice)
}

// inside: what a program header tells lies within the file, and its addresses are addresses.
func (r *reader) inside(p api.Prog, at uint64) func() error {
	return func() error {
		file := is(p, api.PtLoad, api.PtDynamic, api.PtInterp, api.PtNote, api.PtTLS)
		memory := is(p, api.PtLoad, api.PtDynamic, api.PtTLS, api.PtRelro)
		end, err := span.Sum(p.Vaddr, p.Memsz)
		return first(
			unless(!file || r.within(p.Off, p.Filesz), at+8, api.ErrRange),
			unless(!memory || err == nil && end <= api.MaxAddr, at+16, api.ErrRange),
		)
	}
}

// sized: what is laid in memory has room there, and is aligned to what may be.
func (r *reader) sized(p api.Prog, at uint64) func() error {
	return func() error {
		if !is(p, api.PtLoad, api.PtTLS) {
			return nil
		}
		power := bits.OnesCount64(p.Align) == 1 && p.Align <= maxAlign
		return first(
			unless(p.Filesz <= p.Memsz, at+32, api.ErrForm),
			unless(power || p.Align == 0 && p.Type == api.PtTLS, at+48, api.ErrForm),
		)
	}
}

// load: the pages of a PtLoad lie above those of the one ahead of it.
func (r *reader) load(p api.Prog, at uint64) func() error {
	return func() error {
		if !is(p, api.PtLoad) {
			return nil
		}
		return first(
			unless(p.Memsz > 0, at+40, api.ErrForm),
			unless(p.Align >= api.Page, at+48, api.ErrForm),
			unless(p.Off%max(1, p.Align) == p.Vaddr%max(1, p.Align), at+16, api.ErrForm),
			unless(p.Vaddr/api.Page*api.Page >= r.loadEnd(), at+16, api.ErrForm),
		)
	}
}

// loadEnd is the address at which the pages of the last PtLoad end.
func (r *reader) loadEnd() uint64 {
	p, _ := r.lastLoad()
	end, _ := span.Up(p.Vaddr+p.Memsz, api.Page)
	return end
}

// is tells whether a program header has one of some types.
func is(p api.Prog, types ...uint32) bool { return slices.Contains(types, p.Type) }

// prog is the program header that bytes begin with.
func prog(b []byte) api.Prog {
	return api.Prog{
		Type: uint32(number(b, 0, 4)), Flags: uint32(number(b, 4, 4)),
		Off: number(b, 8, 8), Vaddr: number(b, 16, 8),
		Filesz: number(b, 32, 8), Memsz: number(b, 40, 8), Align: number(b, 48, 8),
	}
}
