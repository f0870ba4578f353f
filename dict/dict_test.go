package dict_test

import (
	"bytes"
	"math"
	"math/rand"
	"slices"
	"strconv"
	"strings"
	"testing"

	"columbary/api"
	"columbary/dict"
)

const long = "abcdefghijklmnopqrstuvwx" // MaxText bytes

func of(t *testing.T, l ...string) *dict.Dict {
	t.Helper()
	d, e := dict.New(l)
	if d == nil || e != api.OK {
		t.Fatalf("New(%q): %v", l, e)
	}
	return d
}

func texts(d *dict.Dict) []string {
	var l []string
	for i := range d.Len() {
		s, _ := d.Text(i)
		l = append(l, s)
	}
	return l
}

func some(r *rand.Rand) []string {
	var l []string
	for range r.Intn(30) {
		s := ""
		for range 1 + r.Intn(5) {
			s += string([]byte{"ab\x00\xffz"[r.Intn(5)]})
		}
		l = append(l, s)
	}
	return l
}

func sorted(l []string) []string {
	l = slices.Clone(l)
	slices.Sort(l)
	return slices.Compact(l)
}

// many are so many texts, rising.
func many(n int, tail string) []string {
	l := make([]string, n)
	for i := range l {
		l[i] = strconv.Itoa(1000000+i) + tail
	}
	return l
}

func TestNew(t *testing.T) {
	for _, x := range [][2][]string{
		{nil, nil}, {{"b", "a", "b"}, {"a", "b"}}, {{"b", "B", "ba", "\xff", "\x00", "é"}, {"\x00", "B", "b", "ba", "é", "\xff"}}, {{long, "a"}, {"a", long}},
	} {
		l := slices.Clone(x[0])
		if d := of(t, l...); !slices.Equal(texts(d), x[1]) || d.Len() != len(x[1]) || !slices.Equal(l, x[0]) {
			t.Errorf("%q: %q", x[0], texts(d))
		}
	}
	for _, l := range [][]string{{""}, {"a", ""}, {"a", "b", long + "y"}, {strings.Repeat("x", 100)}} {
		if d, e := dict.New(l); d != nil || e != api.ErrDict {
			t.Errorf("%q: %v", l, e)
		}
	}
}

func TestTooMany(t *testing.T) {
	l := many(api.MaxRows, "")
	if d := of(t, append(l, l[:9]...)...); d.Len() != api.MaxRows {
		t.Errorf("%d", d.Len())
	}
	if d, e := dict.New(many(api.MaxRows+1, "")); d != nil || e != api.ErrDict {
		t.Errorf("too many: %v", e)
	}
}

func TestTextFindUpto(t *testing.T) {
	d := of(t, "cc", "a", "c", "\xff")
	for i, want := range map[int]string{-1: "", math.MinInt: "", 0: "a", 1: "c", 2: "cc", 3: "\xff", 4: "", math.MaxInt: ""} {
		if s, ok := d.Text(i); s != want || ok != (want != "") {
			t.Errorf("Text(%d): %q, %v", i, s, ok)
		}
	}
	for _, x := range []struct {
		s     string
		n     int
		found bool
		upto  int
	}{{"", 0, false, 0}, {"a", 0, true, 0}, {"aa", 0, false, 1}, {"b", 0, false, 1}, {"c", 1, true, 1}, {"c\x00", 0, false, 2}, {"cc", 2, true, 2}, {"ccc", 0, false, 3}, {"d", 0, false, 3}, {"\xff", 3, true, 3}, {"\xff\xff", 0, false, 4}, {strings.Repeat("z", 99), 0, false, 3}} {
		n, ok := d.Find(x.s)
		if n != x.n || ok != x.found || d.Upto(x.s) != x.upto {
			t.Errorf("%q: %d, %v, %d", x.s, n, ok, d.Upto(x.s))
		}
	}
}

// TestInOrder: a lesser text has a lesser number.
func TestInOrder(t *testing.T) {
	r := rand.New(rand.NewSource(1))
	for range 200 {
		l := some(r)
		d := of(t, l...)
		for _, a := range l {
			for _, b := range l {
				i, ok := d.Find(a)
				j, _ := d.Find(b)
				if !ok || (a < b) != (i < j) || (a == b) != (i == j) || d.Upto(a) != i {
					t.Fatalf("%q %d, %q %d", a, i, b, j)
				}
			}
			i, _ := d.Find(a)
			if s, ok := d.Text(i); s != a || !ok {
				t.Fatalf("%q: %q", a, s)
			}
		}
	}
}

func TestJoin(t *testing.T) {
	d, x, y := of(t, "b", "d").Join(of(t, "a", "b", "e"))
	if !slices.Equal(texts(d), []string{"a", "b", "d", "e"}) || !slices.Equal(x, []int{1, 2}) || !slices.Equal(y, []int{0, 1, 3}) {
		t.Errorf("%q %v %v", texts(d), x, y)
	}
	r := rand.New(rand.NewSource(2))
	for range 300 {
		a, b := some(r), some(r)
		p, q := of(t, a...), of(t, b...)
		d, x, y := p.Join(q)
		if !slices.Equal(texts(d), sorted(append(slices.Clone(a), b...))) || len(x) != p.Len() || len(y) != q.Len() {
			t.Fatalf("%q, %q: %q", a, b, texts(d))
		}
		for i, n := range x {
			s, _ := p.Text(i)
			if u, _ := d.Text(n); u != s {
				t.Fatalf("the first one's %q: %q", s, u)
			}
		}
		for i, n := range y {
			s, _ := q.Text(i)
			if u, _ := d.Text(n); u != s {
				t.Fatalf("the second one's %q: %q", s, u)
			}
		}
		if !slices.Equal(texts(p), sorted(a)) || !slices.Equal(texts(q), sorted(b)) {
			t.Fatal("changed")
		}
	}
}

func TestJoinTooMany(t *testing.T) {
	l := many(api.MaxRows, "")
	half := api.MaxRows / 2
	d, x, y := of(t, l[:half+5]...).Join(of(t, l[half-5:]...))
	if d.Len() != api.MaxRows || len(x) != half+5 || y[0] != half-5 {
		t.Errorf("most: %d", d.Len())
	}
	d, x, y = of(t, l...).Join(of(t, "more"))
	if d != nil || len(x) != 0 || len(y) != 0 {
		t.Errorf("too many: %d", d.Len())
	}
}

func TestBytes(t *testing.T) {
	for _, x := range []struct {
		l    []string
		want string
	}{
		{nil, "\x00"}, {[]string{"a"}, "\x02\x00\x02a"}, {[]string{"ab", "a", "abc", "b"}, "\x08\x00\x02a\x02\x02b\x04\x02c\x00\x02b"},
		{[]string{"xay", "xby", "xb"}, "\x06\x00\x06xay\x02\x02b\x04\x02y"}, {[]string{long}, "\x02\x00\x30" + long},
	} {
		d := of(t, x.l...)
		if string(d.Bytes()) != x.want {
			t.Errorf("%q: %x", x.l, d.Bytes())
		}
		p, e := dict.Parse([]byte(x.want))
		if e != api.OK || !slices.Equal(texts(p), texts(d)) {
			t.Errorf("%q: %v", x.l, e)
		}
	}
}

func TestParseWrong(t *testing.T) {
	for _, s := range []string{
		"", "\x01", "\x80\x00", "\x00\x00", "\x02", "\x02\x00", "\x02\x00\x02", "\x02\x00\x00", "\x02\x02\x02a", "\x02\x01\x02a", "\x02\x00\x01",
		"\x02\x00\x02a\x00", "\x04\x00\x02a", "\x04\x00\x02a\x00\x02a", "\x04\x00\x02a\x02\x00", "\x04\x00\x02b\x00\x02a", "\x04\x00\x02a\x00\x04ab",
		"\x04\x00\x04ab\x02\x04bc", "\x04\x00\x02a\x04\x02b", "\x02\x00\x32" + long + "y", "\x04\x00\x30" + long + "\x30\x02y", "\x04\x00\x02a\x03\x02b",
		"\x88\x80\x02\x00\x02a", "\x04\x00\x04ab\x02\x00", "\x02\x80\x00\x02a",
	} {
		if d, e := dict.Parse([]byte(s)); d != nil || e != api.ErrDict {
			t.Errorf("%x: %q, %v", s, texts(d), e)
		}
	}
	d := of(t, many(api.MaxRows, "")...)
	if p, e := dict.Parse(d.Bytes()); e != api.OK || p.Len() != api.MaxRows {
		t.Errorf("the most: %v", e)
	}
}

func TestOneWay(t *testing.T) {
	r := rand.New(rand.NewSource(3))
	told := 0
	for range 6000 {
		d := of(t, some(r)...)
		b := d.Bytes()
		if p, e := dict.Parse(b); e != api.OK || !slices.Equal(texts(p), texts(d)) {
			t.Fatalf("%q: %v", texts(d), e)
		}
		b[r.Intn(len(b))] ^= 1 << r.Intn(8)
		p, e := dict.Parse(b)
		if e == api.OK {
			told++
			l := texts(p)
			if !bytes.Equal(p.Bytes(), b) || !slices.Equal(l, sorted(l)) || slices.Contains(l, "") {
				t.Fatalf("%x: %q", b, l)
			}
		} else if p != nil || e != api.ErrDict {
			t.Fatalf("%x: %v", b, e)
		}
	}
	if told == 0 {
		t.Error("none was told")
	}
}

func TestNilDict(t *testing.T) {
	var d *dict.Dict
	s, ok := d.Text(0)
	n, found := d.Find("a")
	if d.Len() != 0 || s != "" || ok || n != 0 || found || d.Upto("z") != 0 || string(d.Bytes()) != "\x00" {
		t.Error("it has no texts")
	}
	a := of(t, "a", "b")
	j, x, y := d.Join(a)
	k, u, v := a.Join(nil)
	if !slices.Equal(texts(j), []string{"a", "b"}) || len(x) != 0 || !slices.Equal(y, []int{0, 1}) || !slices.Equal(texts(k), []string{"a", "b"}) || !slices.Equal(u, []int{0, 1}) || len(v) != 0 {
		t.Errorf("%q %v %v", texts(j), x, y)
	}
	if e, x, y := d.Join(nil); e.Len() != 0 || len(x) != 0 || len(y) != 0 {
		t.Error("two of them")
	}
}

func TestNewMemory(t *testing.T) {
	l := []string{"b", "a"}
	d := of(t, l...)
	l[0] = "x"
	b := d.Bytes()
	p, _ := dict.Parse(b)
	for i := range b {
		b[i] = 0
	}
	j, x, y := d.Join(p)
	x[0], y[1] = 9, 9
	if !slices.Equal(texts(d), []string{"a", "b"}) || !slices.Equal(texts(p), []string{"a", "b"}) || j.Len() != 2 || x[1] != 1 || y[0] != 0 {
		t.Errorf("%q %q", texts(d), texts(p))
	}
}
