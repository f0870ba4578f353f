package delta_test

import (
	"bytes"
	"math"
	"math/rand"
	"slices"
	"testing"

	"columbary/api"
	"columbary/delta"
	"columbary/zig"
)

func TestBytes(t *testing.T) {
	min, max := string(zig.Int(nil, math.MinInt)), string(zig.Int(nil, math.MaxInt))
	for _, x := range []struct {
		l    []int
		want string
	}{
		{nil, "\x00"}, {[]int{0}, "\x02\x00\x00\x00"}, {[]int{-7}, "\x02\x0d\x00\x00"}, {[]int{10, 13, 15, 20}, "\x08\x14\x04\x04\x31"},
		{[]int{5, 5, 5}, "\x06\x0a\x00\x00"}, {[]int{5, 3, 1}, "\x06\x0a\x03\x00"}, {[]int{9, 5, 6}, "\x06\x12\x07\x06\x28"},
		{[]int{0, 100}, "\x04\x00\x81\x48\x00"}, {[]int{math.MinInt}, "\x02" + min + "\x00\x00"},
		{[]int{math.MinInt, math.MaxInt}, "\x04" + min + "\x01\x00"}, {[]int{math.MaxInt, math.MinInt}, "\x04" + max + "\x02\x00"},
		{[]int{0, math.MinInt, -1}, "\x06\x00" + min + "\x81\x00" + "\x00\x00\x00\x00\x00\x00\x00\x00" + "\xff\xff\xff\xff\xff\xff\xff\xff"},
	} {
		b, e := delta.Encode(x.l)
		if string(b) != x.want || e != api.OK {
			t.Errorf("%v: %x, %v; want %x", x.l, b, e, x.want)
		}
		l, e := delta.Decode([]byte(x.want))
		if !slices.Equal(l, x.l) || e != api.OK {
			t.Errorf("%x: %v, %v", x.want, l, e)
		}
	}
}

func TestTooMany(t *testing.T) {
	l := make([]int, api.MaxRows+1)
	for i := range l {
		l[i] = 3 * i
	}
	if b, e := delta.Encode(l); len(b) != 0 || e != api.ErrDelta {
		t.Errorf("%d bytes, %v", len(b), e)
	}
	b, e := delta.Encode(l[1:])
	d, f := delta.Decode(b)
	if e != api.OK || f != api.OK || !slices.Equal(d, l[1:]) {
		t.Errorf("the most: %v, %v", e, f)
	}
	many := append(zig.Int(nil, api.MaxRows+1), "\x00\x06\x00"...)
	if d, e := delta.Decode(many); len(d) != 0 || e != api.ErrDelta {
		t.Errorf("too many: %v", e)
	}
}

func TestDecodeWrong(t *testing.T) {
	for _, s := range []string{
		"", "\x00\x00", "\x01", "\x02", "\x02\x00", "\x02\x00\x00", "\x02\x00\x00\x00\x00", "\x02\x00\x02\x00", "\x02\x00\x00\x02", "\x02\x80\x00\x00\x00",
		"\x08\x14\x04\x04", "\x08\x14\x04\x04\x31\x00", "\x08\x14\x04\x04\x71", "\x08\x14\x02\x04\x42", "\x08\x14\x04\x06\x41\x00", "\x08\x14\x04\x06\x41",
		"\x06\x0a\x00\x02\x00", "\x06\x0a\x02\x01", "\x04\x00\x00\x81\x02" + "\x00\x00\x00\x00\x00\x00\x00\x00\x00", "\x04\x00\x04\x02\x01", "\x04\x00\x00\x82\x00\x00",
	} {
		if l, e := delta.Decode([]byte(s)); len(l) != 0 || e != api.ErrDelta {
			t.Errorf("%x: %v, %v", s, l, e)
		}
	}
}

// TestThereAndBack: numbers are decoded as they were, and bytes are those of what they are decoded as.
func TestThereAndBack(t *testing.T) {
	r := rand.New(rand.NewSource(1))
	told := 0
	for range 8000 {
		l := make([]int, r.Intn(20))
		shift := r.Intn(64)
		for i := range l {
			l[i] = int(r.Uint64()) >> shift
		}
		if r.Intn(2) == 0 {
			slices.Sort(l)
		}
		b, e := delta.Encode(l)
		d, f := delta.Decode(b)
		if e != api.OK || f != api.OK || !slices.Equal(d, l) {
			t.Fatalf("%v: %x, %v", l, b, d)
		}
		switch k := r.Intn(len(b)); r.Intn(3) {
		case 0:
			b[k] ^= 1 << r.Intn(8)
		case 1:
			b = slices.Delete(b, k, k+1)
		case 2:
			b = append(b, byte(r.Intn(2)))
		}
		d, e = delta.Decode(b)
		if e == api.OK {
			told++
			if own, _ := delta.Encode(d); !bytes.Equal(own, b) {
				t.Fatalf("%x: %v", b, d)
			}
		} else if len(d) != 0 || e != api.ErrDelta {
			t.Fatalf("%x: %v", b, e)
		}
	}
	if told == 0 {
		t.Error("none was told")
	}
}

func TestSorted(t *testing.T) {
	for _, l := range [][]int{nil, {5}, {5, 5}, {-1, 0, 0, 7}, {math.MinInt, math.MaxInt}} {
		if !delta.Sorted(l) {
			t.Errorf("%v", l)
		}
	}
	for _, l := range [][]int{{1, 0}, {0, 5, 4}, {5, 4, 6}, {math.MaxInt, math.MinInt}, {0, 0, -1}} {
		if delta.Sorted(l) {
			t.Errorf("%v", l)
		}
	}
}

func TestNewMemory(t *testing.T) {
	l := []int{10, 13, 15, 20}
	b, _ := delta.Encode(l)
	d, _ := delta.Decode(b)
	d[0], b[1], l[2] = 1, 1, 1
	if string(b) != "\x08\x01\x04\x04\x31" || !slices.Equal(d, []int{1, 13, 15, 20}) || !slices.Equal(l, []int{10, 13, 1, 20}) {
		t.Errorf("%v %x %v", l, b, d)
	}
}
