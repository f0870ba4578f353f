package bitmap_test

import (
	"bytes"
	"math"
	"math/rand"
	"slices"
	"testing"

	"columbary/api"
	"columbary/bitmap"
	"columbary/runs"
	"columbary/zig"
)

type set = []api.Run

const last = api.MaxRows - 1

// ends is a set of runs, told by their ends.
func ends(l ...int) set {
	var s set
	for i := 0; i < len(l); i += 2 {
		s = append(s, api.Run{From: l[i], To: l[i+1]})
	}
	return s
}

func of(t *testing.T, s set) *bitmap.Bitmap {
	t.Helper()
	m, e := bitmap.Of(s)
	if m == nil || e != api.OK {
		t.Fatalf("Of(%v): %v", s, e)
	}
	return m
}

func same(a, b set) bool { return slices.Equal(a, b) }

// some is a set of many shapes.
func some(r *rand.Rand) set {
	var l []int
	for range 1 + r.Intn(8) {
		at := r.Intn(api.MaxRows)
		if r.Intn(2) == 0 {
			at = r.Intn(900)
		}
		step, n := 1+r.Intn(4), r.Intn(300)
		for k := range n {
			if x := at + k*step; x < api.MaxRows {
				l = append(l, x)
			}
		}
	}
	s, _ := runs.Of(l)
	return s
}

// words is a bitmap's bytes by the chapter's words.
func words(s set) []byte {
	chunks := make([][]int, api.MaxRows/api.Chunk)
	for _, x := range runs.List(s) {
		chunks[x/api.Chunk] = append(chunks[x/api.Chunk], x)
	}
	var b []byte
	n := 0
	for i, l := range chunks {
		if len(l) == 0 {
			continue
		}
		n++
		for k := range l {
			l[k] -= i * api.Chunk
		}
		list, bits := []byte{byte(len(l) - 1)}, make([]byte, 32)
		for _, x := range l {
			list = append(list, byte(x))
			bits[x/8] |= 1 << (x % 8)
		}
		rs, _ := runs.Of(l)
		stretches := []byte{byte(len(rs) - 1)}
		for _, r := range rs {
			stretches = append(stretches, byte(r.From), byte(r.To-1))
		}
		form, best := byte(0), list
		if len(bits) < len(best) {
			form, best = 1, bits
		}
		if len(stretches) < len(best) {
			form, best = 2, stretches
		}
		b = append(append(zig.Int(b, i), form), best...)
	}
	return append(zig.Int(nil, n), b...)
}

func TestOf(t *testing.T) {
	for _, s := range []set{nil, ends(0, 1), ends(0, api.MaxRows), ends(last, api.MaxRows), ends(255, 257), ends(0, 256, 257, 512), ends(5, 9, 300, 301, 65000, 65100)} {
		m := of(t, s)
		if !same(m.Runs(), s) || m.Count() != runs.Count(s) {
			t.Errorf("%v: %v, %d", s, m.Runs(), m.Count())
		}
	}
	for _, s := range []set{ends(-1, 1), ends(0, 0), ends(3, 2), ends(0, api.MaxRows+1), ends(0, 1, 1, 2), ends(0, 5, 3, 9), ends(5, 6, 0, 1), ends(0, math.MaxInt), ends(math.MinInt, 5)} {
		if m, e := bitmap.Of(s); m != nil || e != api.ErrBitmap {
			t.Errorf("%v: %v", s, e)
		}
	}
}

func TestHas(t *testing.T) {
	m := of(t, ends(3, 5, 255, 257, last, api.MaxRows))
	for x, want := range map[int]bool{math.MinInt: false, -1: false, -256: false, 0: false, 2: false, 3: true, 4: true, 5: false, 254: false, 255: true, 256: true, 257: false, 259: false, last: true, api.MaxRows: false, api.MaxRows + 3: false, math.MaxInt: false} {
		if m.Has(x) != want {
			t.Errorf("Has(%d)", x)
		}
	}
	first := of(t, ends(0, 1, 128, 129))
	for x := -2; x < 300; x++ {
		if first.Has(x) != (x == 0 || x == 128) {
			t.Errorf("the first: Has(%d)", x)
		}
	}
}

// TestAsSetsDo: bitmaps do what sets of runs do.
func TestAsSetsDo(t *testing.T) {
	r := rand.New(rand.NewSource(1))
	for range 300 {
		a, b := some(r), some(r)
		if r.Intn(3) == 0 {
			b = runs.Or(runs.Minus(a, ends(100, 200)), ends(7, 9))
		}
		x, y := of(t, a), of(t, b)
		for i, p := range [][2]set{{x.And(y).Runs(), runs.And(a, b)}, {x.Or(y).Runs(), runs.Or(a, b)}, {x.Minus(y).Runs(), runs.Minus(a, b)}, {x.Runs(), a}, {y.Runs(), b}} {
			if !same(p[0], p[1]) {
				t.Fatalf("%d: %v, %v: %v, want %v", i, a, b, p[0], p[1])
			}
		}
		for _, n := range []int{math.MinInt, -1, 0, 1, r.Intn(1000), r.Intn(api.MaxRows), api.MaxRows, api.MaxRows + 5, math.MaxInt} {
			if got := x.Within(n).Runs(); !same(got, runs.Minus(runs.Upto(n), a)) {
				t.Fatalf("Within(%d) of %v: %v", n, a, got)
			}
		}
		for range 200 {
			if z := r.Intn(api.MaxRows); x.Has(z) != runs.Has(a, z) {
				t.Fatalf("Has(%d) of %v", z, a)
			}
		}
		if x.Count() != runs.Count(a) || x.And(y).Count() != runs.Count(runs.And(a, b)) {
			t.Fatal("Count")
		}
		if !bytes.Equal(x.And(y).Bytes(), of(t, runs.And(a, b)).Bytes()) {
			t.Fatal("a set has one bitmap's bytes")
		}
	}
}

func TestForms(t *testing.T) {
	odd := func(n int) set { // n runs of one number each
		var s set
		for i := range n {
			s = append(s, api.Run{From: 2 * i, To: 2*i + 1})
		}
		return s
	}
	two := func(n int) set { // n runs of three numbers each
		var s set
		for i := range n {
			s = append(s, api.Run{From: 4 * i, To: 4*i + 3})
		}
		return s
	}
	for i, x := range []struct {
		s    set
		form int
	}{
		{nil, -1}, {ends(7, 8), 0}, {ends(7, 9), 0}, {ends(7, 10), 2}, {ends(0, 1, 4, 5), 0}, {odd(31), 0}, {odd(32), 1}, {odd(128), 1},
		{two(15), 2}, {two(16), 1}, {ends(0, 256), 2}, {ends(0, 2, 4, 6), 0}, {ends(0, 3, 4, 5), 0}, {ends(0, 3, 4, 6), 2},
	} {
		if f := of(t, x.s).Form(0); f != x.form {
			t.Errorf("%d: %v: %d", i, x.s, f)
		}
	}
	m := of(t, ends(300, 301, 512, 600, last, api.MaxRows))
	for i, want := range map[int]int{math.MinInt: -1, -1: -1, 0: -1, 1: 0, 2: 2, 3: -1, 254: -1, 255: 0, 256: -1, math.MaxInt: -1} {
		if m.Form(i) != want {
			t.Errorf("Form(%d): %d", i, m.Form(i))
		}
	}
}

func TestBytes(t *testing.T) {
	for _, x := range []struct {
		s    set
		want string
	}{
		{nil, "\x00"}, {ends(0, 1), "\x02\x00\x00\x00\x00"}, {ends(7, 10), "\x02\x00\x02\x00\x07\x09"},
		{ends(0, 256), "\x02\x00\x02\x00\x00\xff"}, {ends(255, 257), "\x04\x00\x00\x00\xff\x02\x00\x00\x00"},
		{ends(last, api.MaxRows), "\x02\x83\x7e\x00\x00\xff"}, {ends(3, 4, 9, 10), "\x02\x00\x00\x01\x03\x09"},
	} {
		if b := of(t, x.s).Bytes(); string(b) != x.want {
			t.Errorf("%v: %x", x.s, b)
		}
	}
	l := []int{2}
	for i := range 32 {
		l = append(l, 8*i+i%8)
	}
	odd, _ := runs.Of(l)
	want := []byte{2, 0, 1}
	for i := range 32 {
		want = append(want, 1<<(i%8))
	}
	want[3] = 5
	if b := of(t, odd).Bytes(); !bytes.Equal(b, want) {
		t.Errorf("bits: %x", b)
	}
}

func TestThereAndBack(t *testing.T) {
	r := rand.New(rand.NewSource(2))
	for i := range 400 {
		s := some(r)
		if i == 0 {
			s = runs.Upto(api.MaxRows)
		}
		b := of(t, s).Bytes()
		if !bytes.Equal(b, words(s)) {
			t.Fatalf("%v: %x", s, b)
		}
		m, e := bitmap.Parse(b)
		if e != api.OK || !same(m.Runs(), s) || !bytes.Equal(m.Bytes(), b) {
			t.Fatalf("%v: %v", s, e)
		}
		for k := range 256 {
			if m.Form(k) != of(t, s).Form(k) {
				t.Fatalf("%v: Form(%d)", s, k)
			}
		}
	}
}

func TestParseWrong(t *testing.T) {
	bits := func(l ...byte) string { return "\x02\x00\x01" + string(l) + string(make([]byte, 32-len(l))) }
	for _, s := range []string{
		"", "\x00\x00", "\x01", "\x80\x00", "\x02", "\x02\x00", "\x02\x00\x00", "\x02\x00\x00\x00", "\x02\x00\x00\x01\x05",
		"\x02\x00\x00\x01\x05\x05", "\x02\x00\x00\x01\x06\x05", "\x02\x00\x00\x00\x05\x00", "\x02\x00\x03\x00\x05", "\x02\x01\x00\x00\x05",
		"\x02\x84\x00\x00\x00\x05", "\x04\x00\x00\x00\x05\x00\x00\x00\x06", "\x04\x02\x00\x00\x05\x00\x00\x00\x06", "\x04\x00\x00\x00\x05",
		"\x02\x00\x02\x00\x05\x05", "\x02\x00\x02\x00\x05\x06", "\x02\x00\x02\x00\x09\x07", "\x02\x00\x02\x01\x00\x05\x06\x09", "\x02\x00\x02\x01\x00\x09\x20\x10",
		"\x02\x00\x02\x01\x20\x29\x00\x09", "\x02\x00\x02\x01\x00\x09\x05\x15", "\x02\x00\x02\x01\x00\x09",
		"\x02\x00\x00\x02\x05\x06\x07", bits(), bits(1), bits(255, 255), "\x02\x00\x01\x55\x55\x55",
		"\x84\x02" + string(make([]byte, 2000)), "\x02\x00\x00\xff", "\x02\x00\x02\xff",
	} {
		if m, e := bitmap.Parse([]byte(s)); m != nil || e != api.ErrBitmap {
			t.Errorf("%x: %v", s, e)
		}
	}
}

// TestOneWay: what is parsed has just the bytes that it was parsed from, however they are turned.
func TestOneWay(t *testing.T) {
	r := rand.New(rand.NewSource(3))
	told := 0
	for range 4000 {
		b := of(t, runs.And(some(r), ends(0, 1200))).Bytes()
		for range 1 + r.Intn(3) {
			switch k := r.Intn(len(b)); r.Intn(3) {
			case 0:
				b[k] ^= 1 << r.Intn(8)
			case 1:
				b = slices.Insert(b, k, byte(r.Intn(256)))
			case 2:
				b = slices.Delete(b, k, k+1)
			}
			if len(b) == 0 {
				break
			}
		}
		m, e := bitmap.Parse(b)
		if e == api.OK {
			told++
			if !bytes.Equal(m.Bytes(), b) || !bytes.Equal(words(m.Runs()), b) {
				t.Fatalf("%x", b)
			}
		} else if m != nil || e != api.ErrBitmap {
			t.Fatalf("%x: %v", b, e)
		}
	}
	if told == 0 {
		t.Error("none was told")
	}
}

func TestNilBitmap(t *testing.T) {
	var m *bitmap.Bitmap
	o := of(t, ends(3, 5))
	if len(m.Runs()) != 0 || m.Has(0) || m.Has(-1) || m.Count() != 0 || string(m.Bytes()) != "\x00" || m.Form(0) != -1 {
		t.Error("it is an empty one")
	}
	for i, x := range []*bitmap.Bitmap{m.Or(o), o.Or(m), o.Minus(m)} {
		if !same(x.Runs(), ends(3, 5)) {
			t.Errorf("%d: %v", i, x.Runs())
		}
	}
	for i, x := range []*bitmap.Bitmap{m.And(o), o.And(m), m.Minus(o), m.Or(nil), m.Minus(nil), m.And(nil), m.Within(0)} {
		if len(x.Runs()) != 0 || x.Count() != 0 {
			t.Errorf("%d: %v", i, x.Runs())
		}
	}
	if !same(m.Within(9).Runs(), ends(0, 9)) {
		t.Error("Within")
	}
}

func TestNewMemory(t *testing.T) {
	s := ends(3, 5)
	m := of(t, s)
	s[0].To = 99
	got := m.Runs()
	got[0].From = 0
	b := m.Bytes()
	p, _ := bitmap.Parse(b)
	b[len(b)-1] = 9
	if !same(m.Runs(), ends(3, 5)) || !same(p.Runs(), ends(3, 5)) {
		t.Errorf("%v, %v", m.Runs(), p.Runs())
	}
}

func TestOperandsStay(t *testing.T) {
	x, y := of(t, ends(0, 300)), of(t, ends(200, 600))
	x.And(y)
	x.Or(y)
	x.Minus(y)
	x.Within(1000)
	if !same(x.Runs(), ends(0, 300)) || !same(y.Runs(), ends(200, 600)) {
		t.Error("changed")
	}
}
