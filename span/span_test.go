package span_test

import (
	"bytes"
	"math"
	"testing"

	"shackle/api"
	"shackle/span"
)

const most = math.MaxUint64

// isSpot tells whether an error is a Spot itself with that place and Code.
func isSpot(err error, at uint64, code api.Code) bool {
	s, ok := err.(*api.Spot)
	return ok && s.At == at && s.Err == code
}

func TestSum(t *testing.T) {
	for _, c := range []struct {
		l    []uint64
		want uint64
		err  error
	}{
		{nil, 0, nil},
		{[]uint64{1, 2, 3}, 6, nil},
		{[]uint64{most}, most, nil},
		{[]uint64{most, 0}, most, nil},
		{[]uint64{most, 1}, 0, api.ErrOver},
		{[]uint64{1 << 63, 1 << 63}, 0, api.ErrOver},
		{[]uint64{1 << 63, 1 << 63, 5}, 0, api.ErrOver},
		{[]uint64{most, most, 2}, 0, api.ErrOver},
	} {
		if v, err := span.Sum(c.l...); v != c.want || err != c.err {
			t.Errorf("P1.1: Sum(%x): %x, %v", c.l, v, err)
		}
	}
}

func TestTimes(t *testing.T) {
	for _, c := range []struct {
		a, b, want uint64
		err        error
	}{
		{0, most, 0, nil},
		{6, 7, 42, nil},
		{most, 1, most, nil},
		{1 << 32, 1<<32 - 1, 1<<64 - 1<<32, nil},
		{1 << 32, 1 << 32, 0, api.ErrOver},
		{most, 2, 0, api.ErrOver},
		{most, most, 0, api.ErrOver},
	} {
		if v, err := span.Times(c.a, c.b); v != c.want || err != c.err {
			t.Errorf("P1.1: Times(%x, %x): %x, %v", c.a, c.b, v, err)
		}
	}
}

func TestUp(t *testing.T) {
	for _, c := range []struct {
		a, to, want uint64
		err         error
	}{
		{4097, 4096, 8192, nil},
		{4096, 4096, 4096, nil},
		{0, 1 << 63, 0, nil},
		{1, 1 << 63, 1 << 63, nil},
		{1<<63 + 1, 1 << 63, 0, api.ErrOver},
		{most, 1, most, nil},
		{most - 1, 2, most - 1, nil},
		{most, 2, 0, api.ErrOver},
		{5, 3, 0, api.ErrArg},
		{5, 0, 0, api.ErrArg},
		{most, most, 0, api.ErrArg},
	} {
		if v, err := span.Up(c.a, c.to); v != c.want || err != c.err {
			t.Errorf("P1.2: Up(%x, %x): %x, %v", c.a, c.to, v, err)
		}
	}
}

// TestUpAgain: Up of Up is Up, less than to above a.
func TestUpAgain(t *testing.T) {
	for bit := range 63 {
		to := uint64(1) << bit
		for _, a := range []uint64{0, 1, 2, 3, 77, to - 1, to, to + 1} {
			v, err := span.Up(a, to)
			again, err2 := span.Up(v, to)
			if err != nil || err2 != nil || again != v || v < a || v-a >= to || v%to != 0 {
				t.Errorf("P1.8: Up(%x, %x): %x, again %x", a, to, v, again)
			}
		}
	}
}

func TestIn(t *testing.T) {
	for _, c := range []struct {
		size, off, n uint64
		want         bool
	}{
		{4, 2, 2, true}, {4, 2, 3, false}, {4, 4, 0, true}, {4, 4, 1, false}, {4, 5, 0, false},
		{4, 2, most - 1, false}, {4, most - 1, 2, false}, {0, 0, 0, true}, {most, most, 0, true},
		{most, most, 1, false}, {most, 0, most, true}, {most, 1, most, false},
	} {
		if span.In(c.size, c.off, c.n) != c.want {
			t.Errorf("P1.3: In(%x, %x, %x)", c.size, c.off, c.n)
		}
	}
}

func TestCut(t *testing.T) {
	b := []byte{1, 2, 3, 4}
	c, err := span.Cut(b, 1, 2)
	if err != nil || !bytes.Equal(c, []byte{2, 3}) {
		t.Fatalf("P1.4: %v, %v", c, err)
	}
	c[0] = 9
	if c = append(c, 8); !bytes.Equal(b, []byte{1, 2, 3, 4}) {
		t.Errorf("P1.4: what is cut isn't a copy: %v", b)
	}
	if c, err := span.Cut(b, 4, 0); len(c) != 0 || err != nil {
		t.Errorf("P1.4: of 0 bytes: %v, %v", c, err)
	}
	for _, p := range [][2]uint64{{1, 4}, {5, 0}, {most, 1}, {2, most}} {
		if c, err := span.Cut(b, p[0], p[1]); c != nil || !isSpot(err, p[0], api.ErrRange) {
			t.Errorf("P1.4: Cut(%x, %x): %v, %v", p[0], p[1], c, err)
		}
	}
}

func TestGet(t *testing.T) {
	b := []byte{1, 2, 3, 4, 5, 6, 7, 8, 9}
	for _, c := range []struct {
		off  uint64
		n    int
		want uint64
	}{{0, 1, 1}, {1, 2, 0x302}, {5, 4, 0x09080706}, {1, 8, 0x0908070605040302}} {
		if v, err := span.Get(b, c.off, c.n); v != c.want || err != nil {
			t.Errorf("P1.5: Get(%d, %d): %x, %v", c.off, c.n, v, err)
		}
	}
	for _, n := range []int{-8, -1, 0, 3, 5, 6, 7, 9, 16} {
		if v, err := span.Get(b, 99, n); v != 0 || err != api.ErrArg {
			t.Errorf("P1.5: Get of %d bytes: %x, %v", n, v, err)
		}
	}
	for _, off := range []uint64{2, 9, 10, most, most - 6} {
		if v, err := span.Get(b, off, 8); v != 0 || !isSpot(err, off, api.ErrRange) {
			t.Errorf("P1.5: Get at %x: %x, %v", off, v, err)
		}
	}
}

func TestPut(t *testing.T) {
	b := []byte{1, 2, 3, 4}
	got, err := span.Put(b, 1, 2, 0x1234)
	if err != nil || !bytes.Equal(got, []byte{1, 0x34, 0x12, 4}) || !bytes.Equal(b, []byte{1, 2, 3, 4}) {
		t.Errorf("P1.5: %v of %v, %v", got, b, err)
	}
	got[0] = 9
	if b[0] != 1 {
		t.Error("P1.5: what Put answers isn't another list")
	}
	for _, c := range []struct {
		off  uint64
		n    int
		v    uint64
		spot bool
		err  error
	}{
		{0, 3, 1 << 30, false, api.ErrArg},
		{99, 0, 0, false, api.ErrArg},
		{4, 1, 256, true, nil},
		{3, 2, 0, true, nil},
		{most, 1, 0, true, nil},
		{0, 1, 256, false, api.ErrOver},
		{0, 2, 1 << 16, false, api.ErrOver},
		{0, 4, 1 << 32, false, api.ErrOver},
		{0, 1, 255, false, nil},
		{0, 2, 1<<16 - 1, false, nil},
		{0, 4, 1<<32 - 1, false, nil},
	} {
		got, err := span.Put(b, c.off, c.n, c.v)
		switch {
		case c.spot && (got != nil || !isSpot(err, c.off, api.ErrRange)):
			t.Errorf("P1.5: Put(%x, %d, %x): %v, %v", c.off, c.n, c.v, got, err)
		case !c.spot && (err != c.err || (got == nil) != (err != nil)):
			t.Errorf("P1.5: Put(%x, %d, %x): %v, %v", c.off, c.n, c.v, got, err)
		}
	}
}

// TestPutGet: Get of what Put answers is v; all other bytes are b's.
func TestPutGet(t *testing.T) {
	b := make([]byte, 12)
	for i := range b {
		b[i] = byte(200 + i)
	}
	for _, n := range []int{1, 2, 4, 8} {
		for off := uint64(0); off+uint64(n) <= 12; off++ {
			v := uint64(0x8877665544332211) >> (64 - 8*n)
			got, err := span.Put(b, off, n, v)
			if err != nil {
				t.Fatal(err)
			}
			if back, err := span.Get(got, off, n); back != v || err != nil {
				t.Errorf("P1.8: %d bytes at %d: %x, %v", n, off, back, err)
			}
			if !bytes.Equal(got[:off], b[:off]) || !bytes.Equal(got[off+uint64(n):], b[off+uint64(n):]) {
				t.Errorf("P1.8: other bytes changed: %v", got)
			}
		}
	}
}

func TestText(t *testing.T) {
	b := []byte("ab\x00\xff\x00z")
	for off, want := range []string{"ab", "b", "", "\xff", ""} {
		if s, err := span.Text(b, uint64(off)); s != want || err != nil {
			t.Errorf("P1.6: Text(%d): %q, %v", off, s, err)
		}
	}
	if s, err := span.Text(b, 5); s != "" || !isSpot(err, 5, api.ErrText) {
		t.Errorf("P1.6: without an end: %q, %v", s, err)
	}
	for _, off := range []uint64{6, 7, most} {
		if s, err := span.Text(b, off); s != "" || !isSpot(err, off, api.ErrRange) {
			t.Errorf("P1.6: Text(%x): %q, %v", off, s, err)
		}
	}
	if _, err := span.Text(nil, 0); !isSpot(err, 0, api.ErrRange) {
		t.Errorf("P1.6: of nothing: %v", err)
	}
}

func TestJoin(t *testing.T) {
	if b, err := span.Join(2, 1, 258); err != nil || !bytes.Equal(b, []byte{1, 0, 2, 1}) {
		t.Errorf("P1.7: %v, %v", b, err)
	}
	if b, err := span.Join(8); len(b) != 0 || err != nil {
		t.Errorf("P1.7: of none: %v, %v", b, err)
	}
	for _, n := range []int{-1, 0, 3, 7, 9} {
		if b, err := span.Join(n, most); b != nil || err != api.ErrArg {
			t.Errorf("P1.7: of %d bytes: %v, %v", n, b, err)
		}
	}
	for _, n := range []int{1, 2, 4} {
		if b, err := span.Join(n, 0, 1<<(8*n), 0); b != nil || err != api.ErrOver {
			t.Errorf("P1.7: without room in %d: %v, %v", n, b, err)
		}
	}
}

// TestJoinGet: Get of Join's bytes at i times n is the i-th number.
func TestJoinGet(t *testing.T) {
	for _, n := range []int{1, 2, 4, 8} {
		l := []uint64{0, 1, 0x7f, 1<<(8*n-1) + 5, most >> (64 - 8*n)}
		b, err := span.Join(n, l...)
		if err != nil || len(b) != n*len(l) {
			t.Fatalf("P1.7: %v, %v", b, err)
		}
		for i, v := range l {
			if got, err := span.Get(b, uint64(i*n), n); got != v || err != nil {
				t.Errorf("P1.8: number %d of %d bytes: %x, %v", i, n, got, err)
			}
		}
	}
}
