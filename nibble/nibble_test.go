package nibble_test

import (
	"bytes"
	"math"
	"math/rand"
	"slices"
	"testing"

	"columbary/api"
	"columbary/nibble"
)

func TestWidth(t *testing.T) {
	for _, x := range []struct {
		l    []uint64
		want int
	}{
		{nil, 0}, {[]uint64{0}, 0}, {[]uint64{0, 1}, 1}, {[]uint64{2}, 2}, {[]uint64{3, 1}, 2}, {[]uint64{4, 0}, 3}, {[]uint64{5, 2, 8}, 4},
		{[]uint64{math.MaxUint64}, 64}, {[]uint64{1 << 63}, 64}, {[]uint64{1<<63 - 1, 7}, 63}, {[]uint64{255}, 8}, {[]uint64{256}, 9},
	} {
		if w := nibble.Width(x.l); w != x.want {
			t.Errorf("Width(%v): %d", x.l, w)
		}
	}
}

func TestSize(t *testing.T) {
	for _, x := range [][3]int{
		{0, 0, 0}, {0, 64, 0}, {5, 0, 0}, {1, 1, 1}, {8, 1, 1}, {9, 1, 2}, {3, 3, 2}, {8, 3, 3}, {1, 64, 8}, {3, 5, 2},
		{api.MaxRows, 64, 8 * api.MaxRows}, {api.MaxRows, 1, api.MaxRows / 8}, {api.MaxRows, 0, 0},
	} {
		if n, e := nibble.Size(x[0], x[1]); n != x[2] || e != api.OK {
			t.Errorf("%v: %d, %v", x, n, e)
		}
	}
	for _, x := range [][2]int{{-1, 3}, {api.MaxRows + 1, 3}, {3, -1}, {3, 65}, {math.MinInt, 0}, {math.MaxInt, 0}, {0, math.MaxInt}, {0, math.MinInt}} {
		if n, e := nibble.Size(x[0], x[1]); n != 0 || e != api.ErrArg {
			t.Errorf("%v: %d, %v", x, n, e)
		}
		if x[0] <= api.MaxRows {
			if l, e := nibble.Unpack(nil, x[0], x[1]); len(l) != 0 || e != api.ErrArg {
				t.Errorf("Unpack %v: %v, %v", x, l, e)
			}
		}
	}
}

func TestBytes(t *testing.T) {
	for _, x := range []struct {
		l     []uint64
		width int
		want  string
	}{
		{nil, 0, ""}, {nil, 7, ""}, {[]uint64{0, 0, 0}, 0, ""}, {[]uint64{1, 0, 3}, 2, "\x31"}, {[]uint64{1, 0, 1, 1}, 1, "\x0d"},
		{[]uint64{5, 1, 7}, 3, "\xcd\x01"}, {[]uint64{0x1234}, 16, "\x34\x12"}, {[]uint64{0xabc, 0xdef}, 12, "\xbc\xfa\xde"},
		{[]uint64{math.MaxUint64, 1}, 64, "\xff\xff\xff\xff\xff\xff\xff\xff\x01\x00\x00\x00\x00\x00\x00\x00"}, {[]uint64{1}, 9, "\x01\x00"},
	} {
		b, e := nibble.Pack(x.l, x.width)
		if string(b) != x.want || e != api.OK {
			t.Errorf("Pack(%v, %d): %x, %v", x.l, x.width, b, e)
		}
		l, e := nibble.Unpack([]byte(x.want), len(x.l), x.width)
		if !slices.Equal(l, x.l) || e != api.OK {
			t.Errorf("Unpack(%x): %v, %v", x.want, l, e)
		}
	}
}

func TestPackWrong(t *testing.T) {
	for _, x := range []struct {
		l     []uint64
		width int
		e     api.Errno
	}{
		{[]uint64{1}, 0, api.ErrNibble}, {[]uint64{0, 8, 1}, 3, api.ErrNibble}, {[]uint64{1 << 63}, 63, api.ErrNibble}, {[]uint64{1}, -1, api.ErrArg},
		{[]uint64{1}, 65, api.ErrArg}, {nil, -1, api.ErrArg}, {nil, 65, api.ErrArg}, {make([]uint64, api.MaxRows+1), 1, api.ErrArg}, {make([]uint64, api.MaxRows+1), 0, api.ErrArg},
		{slices.Repeat([]uint64{9}, api.MaxRows+1), 1, api.ErrArg},
	} {
		if b, e := nibble.Pack(x.l, x.width); len(b) != 0 || e != x.e {
			t.Errorf("%d, %d: %x, %v", len(x.l), x.width, b, e)
		}
	}
	if b, e := nibble.Pack(slices.Repeat([]uint64{1}, api.MaxRows), 1); e != api.OK || !bytes.Equal(b, bytes.Repeat([]byte{255}, api.MaxRows/8)) {
		t.Errorf("the most: %v", e)
	}
}

func TestUnpackWrong(t *testing.T) {
	for _, x := range []struct {
		b        string
		n, width int
		e        api.Errno
	}{
		{"", 1, 1, api.ErrNibble}, {"\x00\x00", 1, 1, api.ErrNibble}, {"\x00", 0, 5, api.ErrNibble}, {"\x00", 5, 0, api.ErrNibble},
		{"\x02", 1, 1, api.ErrNibble}, {"\x80", 7, 1, api.ErrNibble}, {"\x00\x02", 3, 3, api.ErrNibble}, {"\xff\x01", 3, 3, api.OK}, {"\x7f", 7, 1, api.OK}, {"\xff", 8, 1, api.OK},
		{"\xff\xff\xff\xff\xff\xff\xff", 1, 64, api.ErrNibble}, {"", 0, 64, api.OK}, {"", 9, 0, api.OK}, {"\xff\xff\xff\xff\xff\xff\xff\x7f", 1, 63, api.OK}, {"\xff\xff\xff\xff\xff\xff\xff\xff", 1, 63, api.ErrNibble},
	} {
		l, e := nibble.Unpack([]byte(x.b), x.n, x.width)
		if e != x.e || e != api.OK && len(l) != 0 || e == api.OK && len(l) != x.n {
			t.Errorf("%x, %d, %d: %v, %v", x.b, x.n, x.width, l, e)
		}
	}
}

func TestAt(t *testing.T) {
	b := []byte{0xcd, 0x01}
	for _, x := range []struct {
		i, width int
		u        uint64
		e        api.Errno
	}{
		{0, 3, 5, api.OK}, {1, 3, 1, api.OK}, {2, 3, 7, api.OK}, {4, 3, 0, api.OK}, {5, 3, 0, api.ErrNibble}, {0, 16, 0x1cd, api.OK}, {1, 16, 0, api.ErrNibble},
		{0, 17, 0, api.ErrNibble}, {15, 1, 0, api.OK}, {16, 1, 0, api.ErrNibble}, {0, 64, 0, api.ErrNibble}, {1, 8, 1, api.OK}, {1, 9, 0, api.ErrNibble},
		{-1, 3, 0, api.ErrArg}, {0, -1, 0, api.ErrArg}, {0, 65, 0, api.ErrArg}, {math.MinInt, 0, 0, api.ErrArg}, {-1, 65, 0, api.ErrArg},
		{math.MaxInt, 1, 0, api.ErrNibble}, {math.MaxInt, 64, 0, api.ErrNibble}, {math.MaxInt / 2, 3, 0, api.ErrNibble}, {1 << 61, 8, 0, api.ErrNibble}, {1 << 58, 64, 0, api.ErrNibble}, {5, 0, 0, api.OK},
	} {
		if u, e := nibble.At(b, x.i, x.width); u != x.u || e != x.e {
			t.Errorf("At(%d, %d): %d, %v", x.i, x.width, u, e)
		}
	}
}

// TestThereAndBack: what is packed is unpacked, and each is At its place.
func TestThereAndBack(t *testing.T) {
	r := rand.New(rand.NewSource(1))
	for width := range 65 {
		for n := range 40 {
			l := make([]uint64, n)
			for i := range l {
				l[i] = r.Uint64()
				if width < 64 {
					l[i] &= 1<<width - 1
				}
			}
			b, e := nibble.Pack(l, width)
			size, f := nibble.Size(n, width)
			if e != api.OK || f != api.OK || len(b) != size {
				t.Fatalf("%d of %d: %v", n, width, e)
			}
			u, e := nibble.Unpack(b, n, width)
			if !slices.Equal(u, l) || e != api.OK {
				t.Fatalf("%d of %d: %v, want %v", n, width, u, l)
			}
			for i := range l {
				if x, e := nibble.At(b, i, width); x != l[i] || e != api.OK {
					t.Fatalf("%d of %d, At %d: %d, %v", n, width, i, x, e)
				}
			}
			for bit := n * width; bit < 8*size; bit++ {
				c := bytes.Clone(b)
				c[bit/8] |= 1 << (bit % 8)
				if _, e := nibble.Unpack(c, n, width); e != api.ErrNibble {
					t.Fatalf("%d of %d, filled with bit %d: %v", n, width, bit, e)
				}
			}
		}
	}
}

func TestNewMemory(t *testing.T) {
	l := []uint64{1, 2, 3}
	b, _ := nibble.Pack(l, 8)
	u, _ := nibble.Unpack(b, 3, 8)
	l[0], u[1], b[2] = 9, 9, 9
	if string(b) != "\x01\x02\x09" || u[0] != 1 || u[2] != 3 || l[1] != 2 {
		t.Errorf("%v %x %v", l, b, u)
	}
}
