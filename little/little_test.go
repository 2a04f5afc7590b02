package little_test

import (
	"bytes"
	"testing"

	"shackle/little"
)

func TestNumber(t *testing.T) {
	for _, c := range []struct {
		b    []byte
		want uint64
	}{{nil, 0}, {[]byte{7}, 7}, {[]byte{1, 2}, 0x201}, {[]byte{1, 2, 3, 4, 5, 6, 7, 0xff}, 0xff07060504030201}} {
		if v := little.Number(c.b); v != c.want {
			t.Errorf("Number(%x): %x", c.b, v)
		}
	}
}

func TestBytes(t *testing.T) {
	for _, c := range []struct {
		v    uint64
		n    int
		want []byte
	}{{5, 0, nil}, {0x1234, 1, []byte{0x34}}, {0x1234, 4, []byte{0x34, 0x12, 0, 0}}, {1 << 63, 8, []byte{0, 0, 0, 0, 0, 0, 0, 0x80}}} {
		if b := little.Bytes(c.v, c.n); !bytes.Equal(b, c.want) {
			t.Errorf("Bytes(%x, %d): %x", c.v, c.n, b)
		}
	}
}
