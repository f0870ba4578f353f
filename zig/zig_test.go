package zig_test

import (
	"bytes"
	"math"
	"math/rand"
	"strings"
	"testing"

	"columbary/api"
	"columbary/zig"
)

// edges are numbers about which the count of groups, or the sign, turns.
func edges() []int {
	l := []int{0, math.MaxInt, math.MinInt, math.MaxInt - 1, math.MinInt + 1, -150, api.MaxInt, -api.MaxInt}
	for k := range 63 {
		for d := -2; d <= 2; d++ {
			l = append(l, 1<<k+d, -1<<k+d)
		}
	}
	return l
}

func TestFold(t *testing.T) {
	known := []struct {
		n int
		u uint64
	}{{0, 0}, {-1, 1}, {1, 2}, {-2, 3}, {2, 4}, {-150, 299}, {150, 300}, {math.MaxInt, math.MaxUint64 - 1}, {math.MinInt, math.MaxUint64}}
	for _, x := range known {
		if zig.Fold(x.n) != x.u || zig.Unfold(x.u) != x.n {
			t.Errorf("%d: %d, %d: %d", x.n, zig.Fold(x.n), x.u, zig.Unfold(x.u))
		}
	}
}

func TestFoldThereAndBack(t *testing.T) {
	r := rand.New(rand.NewSource(1))
	l := edges()
	for range 2000 {
		l = append(l, int(r.Uint64()>>r.Intn(64)))
	}
	for _, n := range l {
		if zig.Unfold(zig.Fold(n)) != n {
			t.Errorf("Unfold(Fold(%d)): %d", n, zig.Unfold(zig.Fold(n)))
		}
		u := uint64(n)
		if zig.Fold(zig.Unfold(u)) != u {
			t.Errorf("Fold(Unfold(%d)): %d", u, zig.Fold(zig.Unfold(u)))
		}
	}
}

func TestIntBytes(t *testing.T) {
	known := []struct {
		n    int
		want string
	}{
		{0, "\x00"}, {-1, "\x01"}, {63, "\x7e"}, {-64, "\x7f"}, {64, "\x81\x00"}, {-65, "\x81\x01"},
		{-150, "\x82\x2b"}, {8191, "\xff\x7e"}, {-8192, "\xff\x7f"}, {8192, "\x81\x80\x00"},
		{math.MinInt, "\x81\xff\xff\xff\xff\xff\xff\xff\xff\x7f"}, {math.MaxInt, "\x81\xff\xff\xff\xff\xff\xff\xff\xff\x7e"},
	}
	for _, x := range known {
		if b := zig.Int(nil, x.n); string(b) != x.want {
			t.Errorf("Int(%d): %x", x.n, b)
		}
		if b := zig.Int([]byte("ab"), x.n); string(b) != "ab"+x.want {
			t.Errorf("Int(ab, %d): %x", x.n, b)
		}
	}
}

func TestTextBytes(t *testing.T) {
	long := strings.Repeat("x", 64)
	for s, want := range map[string]string{"": "\x00", "hi": "\x04hi", "\x00\xff": "\x04\x00\xff", long: "\x81\x00" + long} {
		if b := zig.Text([]byte{9}, s); string(b) != "\x09"+want {
			t.Errorf("Text(%q): %x", s, b)
		}
	}
}

func TestPutBehindLeavesTheOwnersMemory(t *testing.T) {
	b := make([]byte, 2, 40)
	whole := b[:40]
	x, y, z := zig.Int(b, 1), zig.Text(b, "abc"), zig.Int(b[:1], -5)
	if string(x) != "\x00\x00\x02" || string(y) != "\x00\x00\x06abc" || string(z) != "\x00\x09" {
		t.Errorf("%x %x %x", x, y, z)
	}
	if !bytes.Equal(whole, make([]byte, 40)) {
		t.Errorf("written into: %x", whole)
	}
	x[0] = 7
	if b[0] != 0 {
		t.Error("shared")
	}
}

func TestReadWhatWasPut(t *testing.T) {
	var b []byte
	l := edges()
	texts := []string{"", "a", strings.Repeat("é", 100)}
	for i, n := range l {
		b = zig.Text(zig.Int(b, n), texts[i%3])
	}
	r := zig.Open(b)
	for i, want := range l {
		n, e := r.Int(math.MinInt, math.MaxInt)
		s, f := r.Text(200)
		if n != want || e != api.OK || s != texts[i%3] || f != api.OK {
			t.Fatalf("%d: %d %v %q %v", want, n, e, s, f)
		}
	}
	if r.Left() != 0 {
		t.Errorf("Left: %d", r.Left())
	}
}

func TestIntBounds(t *testing.T) {
	for _, x := range []struct {
		least, most int
		e           api.Errno
	}{{5, 5, api.OK}, {-9, 5, api.OK}, {5, 9, api.OK}, {6, 9, api.ErrZig}, {0, 4, api.ErrZig}, {9, 0, api.ErrZig}, {math.MinInt, math.MaxInt, api.OK}} {
		r := zig.Open([]byte{10, 1})
		n, e := r.Int(x.least, x.most)
		if e != x.e || e == api.OK && (n != 5 || r.Left() != 1) || e != api.OK && (n != 0 || r.Left() != 2) {
			t.Errorf("%v: %d, %v, left %d", x, n, e, r.Left())
		}
	}
}

func TestWrongNumbers(t *testing.T) {
	for _, s := range []string{
		"", "\x80", "\x81", "\x80\x00", "\x80\x01", "\xff\xff",
		"\x82\xff\xff\xff\xff\xff\xff\xff\xff\x7f", "\x82\x80\x80\x80\x80\x80\x80\x80\x80\x00",
		"\xff\xff\xff\xff\xff\xff\xff\xff\xff\x7f", "\x81\x81\x81\x81\x81\x81\x81\x81\x81\x81\x01",
		"\x81\x80\x80\x80\x80\x80\x80\x80\x80\x80\x00",
	} {
		r := zig.Open([]byte(s))
		if n, e := r.Int(math.MinInt, math.MaxInt); n != 0 || e != api.ErrZig || r.Left() != len(s) {
			t.Errorf("Int %x: %d, %v", s, n, e)
		}
		if x, e := r.Text(1 << 20); x != "" || e != api.ErrZig || r.Left() != len(s) {
			t.Errorf("Text %x: %q, %v", s, x, e)
		}
	}
}

func TestTextBounds(t *testing.T) {
	for _, x := range []struct {
		b    string
		most int
		want string
		e    api.Errno
	}{
		{"\x04hi", 2, "hi", api.OK}, {"\x04hi", 3, "hi", api.OK}, {"\x04hi", 1, "", api.ErrZig}, {"\x04h", 9, "", api.ErrZig},
		{"\x01a", 9, "", api.ErrZig}, {"\x00", 0, "", api.OK}, {"\x00", -1, "", api.ErrZig}, {"\x04", math.MaxInt, "", api.ErrZig},
		{"\x81\xff\xff\xff\xff\xff\xff\xff\xff\x7eabc", math.MaxInt, "", api.ErrZig}, {"\x80\x04hi", 9, "", api.ErrZig},
	} {
		r := zig.Open([]byte(x.b))
		s, e := r.Text(x.most)
		if s != x.want || e != x.e || e != api.OK && r.Left() != len(x.b) || e == api.OK && r.Left() != 0 {
			t.Errorf("%x, %d: %q, %v, left %d", x.b, x.most, s, e, r.Left())
		}
	}
}

func TestBytes(t *testing.T) {
	for _, n := range []int{-1, math.MinInt, 4, math.MaxInt} {
		r := zig.Open([]byte("abc"))
		if b, e := r.Bytes(n); len(b) != 0 || e != api.ErrZig || r.Left() != 3 {
			t.Errorf("Bytes(%d): %x, %v", n, b, e)
		}
	}
	r := zig.Open([]byte("abc"))
	none, e0 := r.Bytes(0)
	two, e2 := r.Bytes(2)
	if len(none) != 0 || e0 != api.OK || string(two) != "ab" || e2 != api.OK || r.Left() != 1 {
		t.Errorf("%x %v %x %v %d", none, e0, two, e2, r.Left())
	}
	two = append(two[:2], 'x')
	two[0] = 'y'
	if c, e := r.Bytes(1); string(c) != "c" || e != api.OK || r.Left() != 0 {
		t.Errorf("the last: %x, %v", c, e)
	}
}

func TestReaderKeepsNothingHandedIn(t *testing.T) {
	b := []byte{4, 'h', 'i'}
	r := zig.Open(b)
	b[1] = 'x'
	if s, _ := r.Text(2); s != "hi" {
		t.Errorf("%q", s)
	}
}

func TestNilReader(t *testing.T) {
	var r *zig.Reader
	n, e := r.Int(5, 1)
	s, f := r.Text(-1)
	b, g := r.Bytes(-1)
	if n != 0 || e != api.ErrArg || s != "" || f != api.ErrArg || len(b) != 0 || g != api.ErrArg || r.Left() != 0 {
		t.Errorf("%d %v %q %v %x %v %d", n, e, s, f, b, g, r.Left())
	}
	if o := zig.Open(nil); o == nil || o.Left() != 0 {
		t.Error("no bytes are bytes too")
	}
}

// TestOneWay: a number that is read has just the bytes that it was read from.
func TestOneWay(t *testing.T) {
	try := func(b []byte) {
		r := zig.Open(b)
		n, e := r.Int(math.MinInt, math.MaxInt)
		if e == api.OK && !bytes.Equal(zig.Int(nil, n), b[:len(b)-r.Left()]) {
			t.Errorf("%x is read as %d", b, n)
		}
	}
	for i := range 1 << 16 {
		try([]byte{byte(i >> 8), byte(i)})
		try([]byte{0x80 | byte(i>>12), byte(i >> 6), byte(i)})
	}
	r := rand.New(rand.NewSource(2))
	for range 20000 {
		b := make([]byte, 1+r.Intn(12))
		for i := range b {
			b[i] = byte(r.Intn(256)) | 0x80&byte(r.Intn(256))
		}
		try(b)
		b[0] = 0x80 | byte(r.Intn(4))
		try(b)
	}
}
