package vers_test

import (
	"bytes"
	"fmt"
	"math"
	"reflect"
	"testing"

	"shackle/api"
	"shackle/hash"
	"shackle/vers"
)

// num is a number of so many bytes.
type num struct {
	n int
	v uint64
}

func nums(l ...num) []byte {
	var b []byte
	for _, x := range l {
		for i := range x.n {
			b = append(b, byte(x.v>>(8*i)))
		}
	}
	return b
}

func sum(s string) uint64 { return uint64(hash.Sysv(s)) }

// text is the strings of all files here: a at 1, bb at 3, lib at 6, v1 at 10, v2 at 13, v3 at 16, a long one at 19.
var text = "\x00a\x00bb\x00lib\x00v1\x00v2\x00v3\x00" + string(bytes.Repeat([]byte{'n'}, 256)) + "\x00"

const longAt = 19

// file is a file of parts that lie one behind the other from 0x1000 on, strings first, and each part's address.
type file struct {
	b  []byte
	at []uint64
}

func lay(parts ...[]byte) file {
	f := file{b: []byte(text)}
	for _, p := range parts {
		f.at = append(f.at, 0x1000+uint64(len(f.b)))
		f.b = append(f.b, p...)
	}
	return f
}

// read reads it, with the dynamic section that is told.
func (f file) read(d api.Dyn, n int) (api.Vers, error) {
	h := api.Head{Progs: []api.Prog{{Type: api.PtLoad, Vaddr: 0x1000, Filesz: uint64(len(f.b))}}}
	d.Strtab, d.Strsz = 0x1000, uint64(len(text))
	return vers.Read(f.b, h, d, n)
}

func words(l ...uint64) []byte {
	var b []byte
	for _, v := range l {
		b = append(b, nums(num{2, v})...)
	}
	return b
}

// def is a definition, whose names stand at once behind it, and the next one a step above.
func def(first, flags, index, count, sum, step uint64, names ...uint64) []byte {
	b := nums(num{2, first}, num{2, flags}, num{2, index}, num{2, count}, num{4, sum}, num{4, 20}, num{4, step})
	for i, n := range names {
		more := uint64(8)
		if i == len(names)-1 {
			more = 0
		}
		b = append(b, nums(num{4, n}, num{4, more})...)
	}
	return b
}

// need is what is needed of a file, whose versions stand at once behind it.
func need(first, count, file, step uint64, auxes ...[]byte) []byte {
	b := nums(num{2, first}, num{2, count}, num{4, file}, num{4, 16}, num{4, step})
	return append(b, bytes.Join(auxes, nil)...)
}

func aux(sum, flags, index, name, step uint64) []byte {
	return nums(num{4, sum}, num{2, flags}, num{2, index}, num{4, name}, num{4, step})
}

func TestReadNone(t *testing.T) {
	f := lay()
	if v, err := f.read(api.Dyn{Verdef: 1, Verneed: 1}, 4096); err != nil || !reflect.DeepEqual(v, api.Vers{}) {
		t.Errorf("P8.1: %+v, %v", v, err)
	}
	for n, want := range map[int]error{-1: api.ErrArg, math.MinInt: api.ErrArg, 4097: api.ErrLong, math.MaxInt: api.ErrLong} {
		for _, versym := range []uint64{0, 1} {
			if v, err := f.read(api.Dyn{Versym: versym}, n); err != want || v.Has {
				t.Errorf("P8.1: %d: %v", n, err)
			}
		}
	}
}

func TestReadWords(t *testing.T) {
	f := lay(words(0, 1, 0x8001, 0x8000))
	d := api.Dyn{Versym: f.at[0]}
	if v, err := f.read(d, 4); err != nil || !v.Has || !reflect.DeepEqual(v.Of, []int{0, 1, 0x8001, 0x8000}) || len(v.Defs)+len(v.Needs) != 0 {
		t.Errorf("P8.1: %+v, %v", v, err)
	}
	if v, err := f.read(d, 0); err != nil || !v.Has || len(v.Of) != 0 {
		t.Errorf("P8.1: %+v, %v", v, err)
	}
	if v, err := f.read(d, 5); err != api.ErrRange || v.Has {
		t.Errorf("P8.1: words outside: %v", err)
	}
	f = lay(words(0, 2))
	if v, err := f.read(api.Dyn{Versym: f.at[0]}, 2); err != api.ErrForm || v.Has {
		t.Errorf("P8.1: an index of nothing: %v", err)
	}
	h := api.Head{Progs: []api.Prog{{Type: api.PtLoad, Vaddr: 0x1000, Filesz: 9}}}
	if _, err := vers.Read(make([]byte, 9), h, api.Dyn{Versym: 1, Strtab: 0x1000}, 4); err != api.ErrForm {
		t.Errorf("P8.1: strings amiss go ahead: %v", err)
	}
}

func TestReadAll(t *testing.T) {
	for _, gap := range [][]byte{nil, {7}, make([]byte, 99)} { // what stands between the tables changes nothing
		f := lay(words(0, 0x8001, 2, 3, 0x8004, 5), gap,
			def(1, 1, 1, 1, sum("a"), 28+8, 1), make([]byte, 8), def(1, 0xfffe, 0x8002, 3, sum("v1"), 0, 10, 1, 3), gap,
			need(1, 2, 6, 48, aux(sum("v2"), 0xfffd, 0x8003, 13, 16), aux(sum("v1"), 2, 4, 10, 0)),
			need(1, 1, 3, 0, aux(sum("v3"), 0, 5, 16, 9)))
		d := api.Dyn{Versym: f.at[0], Verdef: f.at[2], Verdefnum: 2, Verneed: f.at[6], Verneednum: 2}
		v, err := f.read(d, 6)
		want := api.Vers{Has: true, Of: []int{0, 0x8001, 2, 3, 0x8004, 5},
			Needs: []api.Verneed{{File: "lib", Aux: []api.Veraux{{Index: 3, Name: "v2"}, {Index: 4, Weak: true, Name: "v1"}}}, {File: "bb", Aux: []api.Veraux{{Index: 5, Name: "v3"}}}}}
		defs := v.Defs
		v.Defs = nil
		if err != nil || !reflect.DeepEqual(v, want) {
			t.Fatalf("P8.1: %+v, %v", v, err)
		}
		if len(defs) != 2 || defs[0].Index != 1 || !defs[0].Base || defs[0].Name != "a" || len(defs[0].Parents) != 0 ||
			!reflect.DeepEqual(defs[1], api.Verdef{Index: 2, Name: "v1", Parents: []string{"a", "bb"}}) {
			t.Errorf("P8.1: %+v", defs)
		}
	}
}

func TestDefsAmiss(t *testing.T) {
	ok := def(1, 0, 2, 1, sum("v1"), 28, 10)
	cut := func(b []byte, n int) []byte { return b[:n] }
	var many []uint64
	for range 65 {
		many = append(many, 1)
	}
	for _, c := range []struct {
		what string
		n    uint64
		b    []byte
		err  error
	}{
		{"too many", 65, nil, api.ErrLong}, {"far too many", math.MaxUint64, nil, api.ErrLong},
		{"not all of it", 1, cut(ok, 19), api.ErrRange},
		{"the first number", 1, def(2, 0, 2, 1, sum("v1"), 0, 10), api.ErrForm},
		{"the index 0", 1, def(1, 0, 0x8000, 1, sum("v1"), 0, 10), api.ErrForm},
		{"no names", 1, def(1, 0, 2, 0, sum("v1"), 0, 10), api.ErrForm},
		{"twice, with too many names", 2, append(bytes.Clone(ok), def(1, 0, 0x8002, 65, 0, 0)...), api.ErrTwice},
		{"too many names", 1, def(1, 0, 2, 65, sum("a"), 0, many...), api.ErrLong},
		{"a name outside the file", 1, cut(ok, 27), api.ErrRange},
		{"a name outside the strings", 1, def(1, 0, 2, 1, sum("v1"), 0, 9999), api.ErrRange},
		{"a long name", 1, def(1, 0, 2, 1, sum("v1"), 0, longAt), api.ErrLong},
		{"names that end", 1, def(1, 0, 2, 2, 0, 0, 10), api.ErrForm},
		{"a second name outside", 1, def(1, 0, 2, 2, 0, 0, 10, 9999), api.ErrRange},
		{"another hash", 1, def(1, 0, 2, 1, sum("v1")+1, 0, 10), api.ErrForm},
		{"the hash of a parent", 1, def(1, 0, 2, 2, sum("a"), 0, 10, 1), api.ErrForm},
		{"definitions that end", 2, def(1, 0, 2, 1, sum("v1"), 0, 10), api.ErrForm},
		{"a second one outside", 2, ok, api.ErrRange},
	} {
		f := lay(words(0), c.b)
		if v, err := f.read(api.Dyn{Versym: f.at[0], Verdef: f.at[1], Verdefnum: c.n}, 1); err != c.err || v.Has {
			t.Errorf("P8.1: definitions, %s: %+v, %v", c.what, v, err)
		}
	}
	f := lay(words(0), def(1, 0, 2, 64, sum("a"), 0, many[:64]...))
	if v, err := f.read(api.Dyn{Versym: f.at[0], Verdef: f.at[1], Verdefnum: 1}, 1); err != nil || len(v.Defs[0].Parents) != 63 {
		t.Errorf("P8.1: 64 names: %v", err)
	}
	var all []byte
	for i := range uint64(64) {
		all = append(all, def(1, 0, 9+i, 1, sum("a"), 28, 1)...)
	}
	f = lay(words(72), all)
	if v, err := f.read(api.Dyn{Versym: f.at[0], Verdef: f.at[1], Verdefnum: 64}, 1); err != nil || len(v.Defs) != 64 {
		t.Errorf("P8.1: 64 definitions: %v", err)
	}
	if v, err := f.read(api.Dyn{Versym: f.at[0], Verdef: 0, Verdefnum: 64}, 0); err != nil || len(v.Defs) != 0 {
		t.Errorf("P8.1: Verdef 0: %v", err)
	}
}

func TestNeedsAmiss(t *testing.T) {
	ok := aux(sum("v1"), 0, 3, 10, 16)
	var many [][]byte
	for i := range uint64(65) {
		many = append(many, aux(sum("a"), 0, 10+i, 1, 16))
	}
	for _, c := range []struct {
		what string
		n    uint64
		b    []byte
		err  error
	}{
		{"too many", 65, nil, api.ErrLong},
		{"not all of it", 1, need(1, 1, 6, 0)[:15], api.ErrRange},
		{"the first number", 1, need(0, 1, 6, 0, ok), api.ErrForm},
		{"no versions", 1, need(1, 0, 9999, 0, ok), api.ErrForm},
		{"too many versions", 1, need(1, 65, 9999, 0, many...), api.ErrLong},
		{"a file outside the strings", 1, need(1, 1, 9999, 0), api.ErrRange},
		{"a long file", 1, need(1, 1, longAt, 0, ok), api.ErrLong},
		{"not all of a version", 1, need(1, 1, 6, 0, ok[:15]), api.ErrRange},
		{"a name outside the strings", 1, need(1, 1, 6, 0, aux(0, 0, 0, 9999, 0)), api.ErrRange},
		{"a long name", 1, need(1, 1, 6, 0, aux(0, 0, 0, longAt, 0)), api.ErrLong},
		{"another hash", 1, need(1, 1, 6, 0, aux(sum("v2"), 0, 3, 10, 0)), api.ErrForm},
		{"the index 1", 1, need(1, 1, 6, 0, aux(sum("v1"), 0, 0x8001, 10, 0)), api.ErrForm},
		{"the index of a definition", 1, need(1, 2, 6, 0, aux(sum("v1"), 0, 7, 10, 0)), api.ErrTwice},
		{"twice in a need", 1, need(1, 3, 6, 0, ok, aux(sum("v2"), 0, 0x8003, 13, 0)), api.ErrTwice},
		{"twice in two needs", 2, append(need(1, 1, 6, 32, ok), need(1, 1, 3, 0, ok)...), api.ErrTwice},
		{"versions that end", 1, need(1, 2, 6, 0, aux(sum("v1"), 0, 3, 10, 0)), api.ErrForm},
		{"needs that end", 2, need(1, 1, 6, 0, ok), api.ErrForm},
		{"a second need outside", 2, need(1, 1, 6, 33, ok), api.ErrRange},
	} {
		f := lay(words(0), def(1, 0, 7, 1, sum("a"), 0, 1), c.b)
		d := api.Dyn{Versym: f.at[0], Verdef: f.at[1], Verdefnum: 1, Verneed: f.at[2], Verneednum: c.n}
		if v, err := f.read(d, 1); err != c.err || v.Has {
			t.Errorf("P8.1: needs, %s: %+v, %v", c.what, v, err)
		}
	}
	if v, err := lay(words(0)).read(api.Dyn{Versym: 0x1000, Verneednum: 65}, 0); err != nil || len(v.Needs) != 0 {
		t.Errorf("P8.1: Verneed 0: %v", err)
	}
	var all []byte
	for i := range uint64(64) {
		all = append(all, need(1, 1, 6, 32, aux(sum("a"), 0, 10+i, 1, 0))...)
	}
	g := lay(words(73), all)
	if v, err := g.read(api.Dyn{Versym: g.at[0], Verneed: g.at[1], Verneednum: 64}, 1); err != nil || len(v.Needs) != 64 {
		t.Errorf("P8.1: 64 needs: %v", err)
	}
	f := lay(words(73), need(1, 64, 6, 0, many...))
	if v, err := f.read(api.Dyn{Versym: f.at[0], Verneed: f.at[1], Verneednum: 1}, 1); err != nil || len(v.Needs[0].Aux) != 64 {
		t.Errorf("P8.1: 64 versions: %v", err)
	}
}

// TestFar: what begins at 2^64 or beyond isn't there, even if something lies at that address modulo 2^64.
func TestFar(t *testing.T) {
	one := def(1, 0, 2, 1, sum("a"), 28, 1)
	far := def(1, 0, 3, 1, sum("a"), 0, 1)
	b := append([]byte(text), words(0)...)
	at := uint64(len(b))
	b = append(append(b, one...), far...)
	h := api.Head{Progs: []api.Prog{
		{Type: api.PtLoad, Vaddr: 0x1000, Filesz: at},
		{Type: api.PtLoad, Vaddr: 1<<64 - 28, Off: at, Filesz: 28},
		{Type: api.PtLoad, Vaddr: 0, Off: at + 28, Filesz: 28}}}
	d := api.Dyn{Strtab: 0x1000, Strsz: uint64(len(text)), Versym: 0x1000 + uint64(len(text)), Verdef: 1<<64 - 28, Verdefnum: 1}
	if v, err := vers.Read(b, h, d, 1); err != nil || len(v.Defs) != 1 {
		t.Errorf("P8.1: %+v, %v", v, err)
	}
	d.Verdefnum = 2
	if v, err := vers.Read(b, h, d, 1); err != api.ErrRange || v.Has {
		t.Errorf("P8.1: beyond 2^64: %+v, %v", v, err)
	}
}

// TestIndices: no two versions of an object have one index.
func TestIndices(t *testing.T) {
	for a := uint64(1); a < 6; a++ {
		for b := uint64(2); b < 6; b++ {
			f := lay(words(0), def(1, 0, a, 1, sum("a"), 0, 1), need(1, 1, 6, 0, aux(sum("v1"), 0, b, 10, 0)))
			d := api.Dyn{Versym: f.at[0], Verdef: f.at[1], Verdefnum: 1, Verneed: f.at[2], Verneednum: 1}
			want := fmt.Sprint(nil)
			if a == b {
				want = fmt.Sprint(api.ErrTwice)
			}
			if _, err := f.read(d, 1); fmt.Sprint(err) != want {
				t.Errorf("P8.2: the indices %d and %d: %v", a, b, err)
			}
		}
	}
}
