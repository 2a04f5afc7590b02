package hash_test

import (
	"encoding/binary"
	"fmt"
	"math"
	"reflect"
	"slices"
	"testing"

	"shackle/api"
	"shackle/hash"
)

// words is numbers of 4 bytes.
func words(l ...uint32) []byte {
	var b []byte
	for _, v := range l {
		b = binary.LittleEndian.AppendUint32(b, v)
	}
	return b
}

// join is bytes behind one another.
func join(l ...[]byte) []byte { return slices.Concat(l...) }

// bloom is numbers of 8 bytes.
func bloom(l ...uint64) []byte {
	var b []byte
	for _, v := range l {
		b = binary.LittleEndian.AppendUint64(b, v)
	}
	return b
}

// at is a file with a table at 0x1000.
func at(table []byte) ([]byte, api.Head) {
	return append([]byte{9, 9, 9}, table...), api.Head{Progs: []api.Prog{{Type: api.PtLoad, Off: 3, Vaddr: 0x1000, Filesz: uint64(len(table))}}}
}

func names(l ...string) []api.Symbol {
	out := []api.Symbol{{}}
	for _, n := range l {
		out = append(out, api.Symbol{Name: n})
	}
	return out
}

// chained is a table of the first kind of all symbols.
func chained(l []api.Symbol, buckets uint32) []byte {
	heads, next := make([]uint32, buckets), make([]uint32, len(l))
	for i := len(l) - 1; i > 0; i-- {
		k := hash.Sysv(l[i].Name) % buckets
		next[i], heads[k] = heads[k], uint32(i)
	}
	return join(words(buckets, uint32(len(l))), words(heads...), words(next...))
}

// bloomed is a table of the second kind of all symbols from first on, which it sorts.
func bloomed(l []api.Symbol, first, buckets, count, shift uint32) []byte {
	rest := l[first:]
	slices.SortStableFunc(rest, func(a, b api.Symbol) int {
		return int(hash.Gnu(a.Name)%buckets) - int(hash.Gnu(b.Name)%buckets)
	})
	heads, chain, blooms := make([]uint32, buckets), make([]uint32, len(rest)), make([]uint64, count)
	for i, y := range rest {
		k := hash.Gnu(y.Name)
		if heads[k%buckets] == 0 {
			heads[k%buckets] = first + uint32(i)
		}
		chain[i] = k &^ 1
		if i+1 == len(rest) || hash.Gnu(rest[i+1].Name)%buckets != k%buckets {
			chain[i] |= 1
		}
		blooms[k/64%count] |= 1<<(k%64) | 1<<(k>>shift%64)
	}
	return join(words(buckets, first, count, shift), bloom(blooms...), words(heads...), words(chain...))
}

func TestHashes(t *testing.T) {
	for _, c := range []struct {
		name      string
		sysv, gnu uint32
	}{
		{"", 0, 5381}, {"printf", 0x077905a6, 0x156b2bb8}, {"a", 0x61, 177670}, {"exit", 0x0006cf04, 0x7c967e3f},
		{"syscall", 0x0b09985c, 0xbac212a0}, {"flapenguin.me", 0x03987915, 0x8ae9f18e}, {"\xff", 0xff, 5381*33 + 0xff},
		{"isnan_of_a_long_name_which_goes_round", sysv("isnan_of_a_long_name_which_goes_round"), gnu("isnan_of_a_long_name_which_goes_round")},
	} {
		if s, g := hash.Sysv(c.name), hash.Gnu(c.name); s != c.sysv || g != c.gnu {
			t.Errorf("P7.1: %q: %x, %x", c.name, s, g)
		}
	}
}

// sysv is the first hash, reckoned in 64 bits.
func sysv(s string) uint32 {
	var h uint64
	for _, c := range []byte(s) {
		h = (16*h + uint64(c)) % (1 << 32)
		g := h / (1 << 28) * (1 << 28)
		h ^= g / (1 << 24)
		h -= h / (1 << 28) * (1 << 28)
	}
	return uint32(h)
}

// gnu is the second one, likewise.
func gnu(s string) uint32 {
	h := uint64(5381)
	for _, c := range []byte(s) {
		h = (33*h + uint64(c)) % (1 << 32)
	}
	return uint32(h)
}

func TestCountFirstKind(t *testing.T) {
	for _, c := range []struct {
		what  string
		table []byte
		want  int
		err   error
	}{
		{"the example", words(1, 3, 2, 0, 0, 1), 3, nil},
		{"one word", words(1), 0, api.ErrRange},
		{"no bucket", words(0, 5000), 0, api.ErrForm}, {"no chain", words(5000, 0), 0, api.ErrForm},
		{"many buckets", words(4097, 1), 0, api.ErrLong}, {"many chains", words(1, 4097), 0, api.ErrLong},
		{"2^32 - 1", words(math.MaxUint32, math.MaxUint32), 0, api.ErrLong},
		{"a word less", words(1, 3, 2, 0, 0), 0, api.ErrRange}, {"buckets alone", words(2, 1, 0, 0), 0, api.ErrRange},
		{"all that may be", join(words(4096, 4096), make([]byte, 4*8192)), 4096, nil},
		{"wild words", words(1, 1, 77, 88), 1, nil},
	} {
		b, h := at(c.table)
		for _, second := range []uint64{0, 0x1001} { // the second kind isn't asked, if the first is there
			if n, err := hash.Count(b, h, api.Dyn{Hash: 0x1000, GnuHash: second}); n != c.want || err != c.err {
				t.Errorf("P7.2: %s: %d, %v", c.what, n, err)
			}
		}
		if l, err := hash.Look(b, h, api.Dyn{Hash: 0x1000}, nil, "x"); c.err != nil && (l != nil || err != c.err) {
			t.Errorf("P7.3: %s: %v, %v", c.what, l, err)
		}
	}
	if n, err := hash.Count(nil, api.Head{}, api.Dyn{}); n != 0 || err != nil {
		t.Errorf("P7.2: without tables: %d, %v", n, err)
	}
	if l, err := hash.Look(nil, api.Head{}, api.Dyn{}, names("a"), "a"); len(l) != 0 || err != nil {
		t.Errorf("P7.3: without tables: %v, %v", l, err)
	}
}

func TestCountSecondKind(t *testing.T) {
	one := bloom(math.MaxUint64)
	for _, c := range []struct {
		what  string
		table []byte
		want  int
		err   error
	}{
		{"the example", join(words(1, 1, 1, 6), one, words(0)), 1, nil},
		{"all buckets empty", join(words(2, 4096, 1, 31), one, words(0, 0)), 4096, nil},
		{"three words", words(1, 1, 1), 0, api.ErrRange},
		{"no bucket", words(0, 9999, 1, 6), 0, api.ErrForm}, {"no bloom", words(9999, 1, 0, 6), 0, api.ErrForm},
		{"three blooms", words(1, 1, 3, 6), 0, api.ErrForm}, {"a shift of 32", words(1, 1, 1, 32), 0, api.ErrForm},
		{"many buckets", words(4097, 1, 1, 6), 0, api.ErrLong}, {"a high first", words(1, 4097, 1, 6), 0, api.ErrLong}, {"many blooms", words(1, 1, 8192, 6), 0, api.ErrLong},
		{"2^32 - 1 buckets", words(math.MaxUint32, 1, 1, 6), 0, api.ErrLong},
		{"no room for the buckets", join(words(2, 1, 1, 6), one, words(0)), 0, api.ErrRange},
		{"no room for the blooms", join(words(1, 1, 2, 6), one), 0, api.ErrRange},
		{"a bucket below first", join(words(2, 5, 1, 6), one, words(5, 4)), 0, api.ErrForm},
		{"a chain", join(words(3, 2, 1, 6), one, words(2, 4, 0), words(1, 3, 2, 4, 7, 1)), 7, nil},
		{"a bucket that isn't the last", join(words(3, 2, 1, 6), one, words(4, 2, 0), words(0, 0, 1)), 5, nil},
		{"a chain without an end", join(words(1, 2, 1, 6), one, words(2), words(2, 4, 6)), 0, api.ErrRange},
		{"a bucket far outside", join(words(1, 1, 1, 6), one, words(4095), words(1)), 0, api.ErrRange},
		{"a bucket of 4096", join(words(1, 1, 1, 6), one, words(4096), words(1)), 0, api.ErrLong},
		{"a bucket of 2^32 - 1", join(words(1, 1, 1, 6), one, words(math.MaxUint32)), 0, api.ErrLong},
		{"as many as may be", join(words(4096, 1, 4096, 6), make([]byte, 8*4096+4*4096)), 1, nil},
		{"a chain up to 4095", join(words(1, 4090, 1, 6), one, words(4090), words(0, 0, 0, 0, 0, 1)), 4096, nil},
		{"a chain beyond", join(words(1, 4090, 1, 6), one, words(4090), words(0, 0, 0, 0, 0, 0, 1)), 0, api.ErrLong},
	} {
		b, h := at(c.table)
		d := api.Dyn{GnuHash: 0x1000}
		if n, err := hash.Count(b, h, d); n != c.want || err != c.err {
			t.Errorf("P7.2: %s: %d, %v", c.what, n, err)
		}
		if l, err := hash.Look(b, h, d, nil, "x"); c.err != nil && (l != nil || err != c.err) {
			t.Errorf("P7.3: %s: %v, %v", c.what, l, err)
		}
	}
}

func TestLookFirstKind(t *testing.T) {
	a := hash.Sysv("a")
	for _, c := range []struct {
		what  string
		table []byte
		l     []api.Symbol
		want  []int
		err   error
	}{
		{"the example", words(1, 3, 2, 0, 0, 1), names("a", "b"), []int{1}, nil},
		{"two of a name, in the chain's order", words(1, 4, 3, 0, 0, 1, 2), names("a", "a", "b"), []int{2, 1}, nil},
		{"another bucket", words(2, 3, 2*(a%2), 2*(1-a%2), 0, 0, 0), names("a", "a"), nil, nil},
		{"an empty bucket", words(1, 3, 0, 0, 0, 0), names("a", "a"), nil, nil},
		{"a ring", words(1, 3, 1, 0, 2, 1), names("a", "a"), nil, api.ErrForm},
		{"a ring of one", words(1, 2, 1, 0, 1), names("a"), nil, api.ErrForm},
		{"as many as there are", words(1, 3, 1, 0, 2, 0), names("a", "a"), []int{1, 2}, nil},
		{"a bucket outside", words(1, 3, 3, 0, 0, 0), names("a", "a", "a"), nil, api.ErrRange},
		{"a chain outside", words(1, 3, 1, 0, math.MaxUint32, 0), names("a", "a", "a"), nil, api.ErrRange},
		{"fewer symbols", words(1, 3, 1, 0, 2, 0), names("a"), nil, api.ErrRange},
	} {
		b, h := at(c.table)
		if l, err := hash.Look(b, h, api.Dyn{Hash: 0x1000}, c.l, "a"); !slices.Equal(l, c.want) || err != c.err {
			t.Errorf("P7.3: %s: %v, %v", c.what, l, err)
		}
	}
}

func TestLookSecondKind(t *testing.T) {
	k := hash.Gnu("a") // 177670, which is even
	all := uint64(math.MaxUint64)
	second := func(bits uint64, bucket uint32, chain ...uint32) []byte {
		return join(words(1, 1, 1, 6), bloom(bits), words(bucket), words(chain...))
	}
	for _, c := range []struct {
		what  string
		table []byte
		l     []api.Symbol
		want  []int
		err   error
	}{
		{"one", second(all, 1, k|1), names("a"), []int{1}, nil},
		{"both bits alone", second(1<<(k%64)|1<<(k>>6%64), 1, k|1), names("a"), []int{1}, nil},
		{"not the first bit", second(all&^(1<<(k%64)), 1, k|1), names("a"), nil, nil},
		{"not the second bit", second(all&^(1<<(k>>6%64)), 1, k|1), names("a"), nil, nil},
		{"an empty bucket", second(all, 0, k|1), names("a"), nil, nil},
		{"two, and others between", second(all, 1, k, 6, k, k^2, k|1), names("a", "b", "a", "a", "c"), []int{1, 3}, nil},
		{"another name of that hash", second(all, 1, k, k|1), names("b", "a"), []int{2}, nil},
		{"the name, another hash", second(all, 1, k^2, k^4|1), names("a", "a"), nil, nil},
		{"behind the end of the chain", second(all, 1, 9, k|1), names("b", "a"), nil, nil},
		{"fewer symbols", second(all, 1, k, k|1), names("a"), nil, api.ErrRange},
		{"a bloom word that is asked", join(words(1, 1, 2, 6), bloom(0, 0), words(1), words(k|1)), names("a"), nil, nil},
		{"the right one of two", join(words(1, 1, 2, 6), bloom(all*uint64(1-k/64%2), all*uint64(k/64%2)), words(1), words(k|1)), names("a"), []int{1}, nil},
		{"the other one of two", join(words(1, 1, 2, 6), bloom(all*uint64(k/64%2), all*uint64(1-k/64%2)), words(1), words(k|1)), names("a"), nil, nil},
		{"the right bucket", join(words(3, 1, 1, 6), bloom(all), words(bucketOf(k, 3, 1)...), words(k|1)), names("a"), []int{1}, nil},
	} {
		b, h := at(c.table)
		if l, err := hash.Look(b, h, api.Dyn{GnuHash: 0x1000}, c.l, "a"); !slices.Equal(l, c.want) || err != c.err {
			t.Errorf("P7.3: %s: %v, %v", c.what, l, err)
		}
	}
}

// bucketOf is n buckets, that of a hash with a number, the others empty.
func bucketOf(k uint32, n int, i uint32) []uint32 {
	l := make([]uint32, n)
	l[int(k)%n] = i
	return l
}

// TestBoth: with both tables the second kind is asked, but the first must be whole.
func TestBoth(t *testing.T) {
	k := hash.Gnu("a")
	second := join(words(1, 1, 1, 6), bloom(math.MaxUint64), words(1), words(k|1))
	for _, c := range []struct {
		first []byte
		want  []int
		count int
		err   error
	}{
		{words(1, 3, 0, 0, 0, 0), []int{1}, 3, nil}, {words(1, 2, 77, 88, 99), []int{1}, 2, nil},
		{words(0, 1), nil, 0, api.ErrForm}, {words(1, 4097), nil, 0, api.ErrLong}, {words(9, 4000), nil, 0, api.ErrRange},
	} {
		b, h := at(join(second, c.first))
		d := api.Dyn{GnuHash: 0x1000, Hash: 0x1000 + uint64(len(second))}
		l, err := hash.Look(b, h, d, names("a"), "a")
		n, err2 := hash.Count(b, h, d)
		if !slices.Equal(l, c.want) || n != c.count || err != c.err || err2 != c.err {
			t.Errorf("P7.3: %v: %v, %d, %v, %v", c.first, l, n, err, err2)
		}
	}
	b, h := at(join(words(1, 2, 1, 0, 0), words(0, 1, 1, 6)))
	if l, err := hash.Look(b, h, api.Dyn{Hash: 0x1000, GnuHash: 0x1014}, names("a"), "a"); l != nil || err != api.ErrForm {
		t.Errorf("P7.3: a second table amiss: %v, %v", l, err)
	}
}

// TestOverlap: where program headers overlap, a table's first words are those of a slice of their own, and so is each chain word of the second kind.
func TestOverlap(t *testing.T) {
	load := func(off, vaddr, size uint64) api.Prog {
		return api.Prog{Type: api.PtLoad, Off: off, Vaddr: vaddr, Filesz: size}
	}
	b := join(words(1, 3), words(9, 9, 1, 0, 0, 0)) // the front at 0, all of the table at 8
	h := api.Head{Progs: []api.Prog{load(0, 0x1000, 8), load(8, 0x1000, 24)}}
	if n, err := hash.Count(b, h, api.Dyn{Hash: 0x1000}); n != 3 || err != nil {
		t.Errorf("P7.2: the first kind: %d, %v", n, err)
	}
	if l, err := hash.Look(b, h, api.Dyn{Hash: 0x1000}, names("a", "a"), "a"); !slices.Equal(l, []int{1}) || err != nil {
		t.Errorf("P7.3: the first kind: %v, %v", l, err)
	}
	k := hash.Gnu("a")
	table := join(words(1, 1, 1, 6), bloom(math.MaxUint64), words(1), words(9))
	b = join(words(k|1), table)
	h = api.Head{Progs: []api.Prog{load(0, 0x1000+28, 4), load(4, 0x1000, uint64(len(table)))}}
	if l, err := hash.Look(b, h, api.Dyn{GnuHash: 0x1000}, names("a"), "a"); !slices.Equal(l, []int{1}) || err != nil {
		t.Errorf("P7.3: the second kind: %v, %v", l, err)
	}
}

// TestCutFile: a chain word that the headers tell, and the file hasn't.
func TestCutFile(t *testing.T) {
	k := hash.Gnu("a")
	b, h := at(join(words(1, 1, 1, 6), bloom(math.MaxUint64), words(1), words(k, k|1)))
	d := api.Dyn{GnuHash: 0x1000}
	for n := range 8 {
		cut := b[:len(b)-n]
		want := error(nil)
		if n > 0 {
			want = api.ErrRange
		}
		if _, err := hash.Count(cut, h, d); err != want {
			t.Errorf("P7.2: %d bytes less: %v", n, err)
		}
		if l, err := hash.Look(cut, h, d, names("b", "a"), "a"); err != want || n == 0 && !slices.Equal(l, []int{2}) {
			t.Errorf("P7.3: %d bytes less: %v, %v", n, l, err)
		}
	}
}

// TestWrap: a table near 2^64 may go on at 0.
func TestWrap(t *testing.T) {
	k := hash.Gnu("a")
	table := join(words(1, 1, 1, 6), bloom(math.MaxUint64), words(1))
	b := join(table, words(k|1))
	h := api.Head{Progs: []api.Prog{
		{Type: api.PtLoad, Off: 0, Vaddr: -uint64(len(table)), Filesz: uint64(len(table))},
		{Type: api.PtLoad, Off: uint64(len(table)), Vaddr: 0, Filesz: 4}}}
	d := api.Dyn{GnuHash: -uint64(len(table))}
	n, err := hash.Count(b, h, d)
	l, err2 := hash.Look(b, h, d, names("a"), "a")
	if n != 2 || err != nil || !slices.Equal(l, []int{1}) || err2 != nil {
		t.Errorf("P7.2: %d, %v; %v, %v", n, err, l, err2)
	}
}

// TestMade: of a table that was made of all symbols from some one on, Look tells just those that have the name.
func TestMade(t *testing.T) {
	for _, buckets := range []uint32{1, 2, 3, 16, 97} {
		for _, first := range []uint32{1, 4} {
			var l []api.Symbol
			for i := range 60 {
				l = append(l, api.Symbol{Name: fmt.Sprintf("name%d", i%40)})
			}
			l[0].Name = ""
			second, hs := at(bloomed(l, first, buckets, 1<<(buckets%4), buckets%32))
			check(t, second, hs, api.Dyn{GnuHash: 0x1000}, l, int(first))
			firstKind, hf := at(chained(l, buckets))
			check(t, firstKind, hf, api.Dyn{Hash: 0x1000}, l, 1)
		}
	}
}

// check looks for all names among symbols that are found from one on.
func check(t *testing.T, b []byte, h api.Head, d api.Dyn, l []api.Symbol, first int) {
	t.Helper()
	if n, err := hash.Count(b, h, d); n != len(l) || err != nil {
		t.Errorf("P7.2: %d, %v", n, err)
	}
	for i := range 45 {
		name := fmt.Sprintf("name%d", i)
		var want []int
		for j := first; j < len(l); j++ {
			if l[j].Name == name {
				want = append(want, j)
			}
		}
		got, err := hash.Look(b, h, d, l, name)
		if slices.Sort(got); err != nil || len(got) != len(want) || len(got) > 0 && !reflect.DeepEqual(got, want) {
			t.Errorf("P7.4: %s: %v, not %v, %v", name, got, want, err)
		}
	}
}
