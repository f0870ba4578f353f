package dimcol_test

import (
	"bytes"
	"math"
	"math/rand"
	"slices"
	"strconv"
	"strings"
	"testing"

	"columbary/api"
	"columbary/bitmap"
	"columbary/dict"
	"columbary/dimcol"
	"columbary/nibble"
	"columbary/runs"
	"columbary/zig"
)

const long = "abcdefghijklmnopqrstuvwx" // MaxText bytes

func of(t *testing.T, l ...string) *dimcol.Column {
	t.Helper()
	c, e := dimcol.New(l)
	if c == nil || e != api.OK {
		t.Fatalf("New of %d: %v", len(l), e)
	}
	return c
}

func values(c *dimcol.Column) []string {
	var l []string
	for i := range c.Len() {
		s, _ := c.Value(i)
		l = append(l, s)
	}
	return l
}

func some(r *rand.Rand, n int) []string {
	l := make([]string, n)
	for i := range l {
		if k := r.Intn(12); k > 2 {
			l[i] = strings.Repeat("x", r.Intn(4)) + string([]byte{"ab\x00\xff"[r.Intn(4)]})
		}
	}
	return l
}

func text(b []byte) []byte { return zig.Text(nil, string(b)) }

// words is a column's bytes by the chapter's words.
func words(l []string) []byte {
	all := slices.Clone(l)
	slices.Sort(all)
	all = slices.DeleteFunc(slices.Compact(all), func(s string) bool { return s == "" })
	d, _ := dict.New(all)
	codes := make([]uint64, len(l))
	sets := make([][]int, len(all)+1)
	for i, s := range l {
		if s != "" {
			codes[i] = uint64(slices.Index(all, s) + 1)
		}
		sets[codes[i]] = append(sets[codes[i]], i)
	}
	packed, _ := nibble.Pack(codes, nibble.Width([]uint64{uint64(len(all))}))
	b := slices.Concat(zig.Int(nil, len(l)), text(d.Bytes()), text(packed))
	for _, set := range sets {
		s, _ := runs.Of(set)
		m, _ := bitmap.Of(s)
		b = append(b, text(m.Bytes())...)
	}
	return b
}

func TestNew(t *testing.T) {
	for _, l := range [][]string{nil, {""}, {"", ""}, {"b", "", "a", "b"}, {long}, {"\xff", "\x00", " "}} {
		given := slices.Clone(l)
		c := of(t, given...)
		if c.Len() != len(l) || !slices.Equal(values(c), l) || !slices.Equal(given, l) {
			t.Errorf("%q: %q", l, values(c))
		}
	}
	for _, l := range [][]string{{long + "y"}, {"a", "", strings.Repeat("z", 300)}, make([]string, api.MaxRows+1)} {
		if c, e := dimcol.New(l); c != nil || e != api.ErrColumn {
			t.Errorf("of %d: %v", len(l), e)
		}
	}
	if c := of(t, make([]string, api.MaxRows)...); c.Len() != api.MaxRows || !slices.Equal(c.Rows(""), runs.Upto(api.MaxRows)) {
		t.Error("the most")
	}
}

func TestValue(t *testing.T) {
	c := of(t, "b", "", "a")
	for i, want := range []string{"b", "", "a"} {
		if s, ok := c.Value(i); s != want || !ok {
			t.Errorf("%d: %q, %v", i, s, ok)
		}
	}
	for _, i := range []int{-1, 3, math.MinInt, math.MaxInt} {
		if s, ok := c.Value(i); s != "" || ok {
			t.Errorf("%d: %q, %v", i, s, ok)
		}
	}
}

func TestDictAndRows(t *testing.T) {
	c := of(t, "b", "", "a", "b", "b", "", "c")
	d := c.Dict()
	if d.Len() != 3 {
		t.Errorf("Dict: %d", d.Len())
	}
	for i, want := range []string{"a", "b", "c"} {
		if s, _ := d.Text(i); s != want {
			t.Errorf("Dict: %d %q", i, s)
		}
	}
	for s, want := range map[string][]api.Run{
		"": {{From: 1, To: 2}, {From: 5, To: 6}}, "a": {{From: 2, To: 3}}, "b": {{From: 0, To: 1}, {From: 3, To: 5}}, "c": {{From: 6, To: 7}},
		"d": nil, "\x00": nil, "aa": nil, "A": nil, strings.Repeat("z", 99): nil,
	} {
		if got := c.Rows(s); !slices.Equal(got, want) {
			t.Errorf("Rows(%q): %v", s, got)
		}
	}
	if got := of(t, "a").Rows(""); len(got) != 0 {
		t.Errorf("no row has NULL: %v", got)
	}
}

// TestEachRowOnce: each row is in the set of its value, and in no other one.
func TestEachRowOnce(t *testing.T) {
	r := rand.New(rand.NewSource(1))
	for range 200 {
		l := some(r, r.Intn(600))
		c := of(t, l...)
		all := c.Rows("")
		n := runs.Count(all)
		for i := range c.Dict().Len() {
			s, _ := c.Dict().Text(i)
			set := c.Rows(s)
			if !runs.Right(set) || len(set) == 0 {
				t.Fatalf("Rows(%q): %v", s, set)
			}
			all, n = runs.Or(all, set), n+runs.Count(set)
		}
		if n != len(l) || !slices.Equal(all, runs.Upto(len(l))) {
			t.Fatalf("%d rows in sets, of %d", n, len(l))
		}
		for i, s := range l {
			if !runs.Has(c.Rows(s), i) {
				t.Fatalf("row %d of %q", i, s)
			}
		}
	}
}

func TestBytes(t *testing.T) {
	for _, x := range []struct {
		l    []string
		want string
	}{
		{nil, "\x00\x02\x00\x00\x02\x00"},
		{[]string{""}, "\x02\x02\x00\x00\x0a\x02\x00\x00\x00\x00"},
		{[]string{"x"}, "\x02\x08\x02\x00\x02x\x02\x01\x02\x00\x0a\x02\x00\x00\x00\x00"},
		{[]string{"b", "", "a", "b"}, "\x08\x0e\x04\x00\x02a\x00\x02b\x02\x92\x0a\x02\x00\x00\x00\x01\x0a\x02\x00\x00\x00\x02\x0c\x02\x00\x00\x01\x00\x03"},
	} {
		b := of(t, x.l...).Bytes()
		if string(b) != x.want {
			t.Errorf("%q: %x", x.l, b)
		}
		c, e := dimcol.Parse([]byte(x.want))
		if e != api.OK || !slices.Equal(values(c), x.l) {
			t.Errorf("%q: %v", x.l, e)
		}
	}
}

func TestThereAndBack(t *testing.T) {
	r := rand.New(rand.NewSource(2))
	for range 300 {
		l := some(r, r.Intn(900))
		b := of(t, l...).Bytes()
		if !bytes.Equal(b, words(l)) {
			t.Fatalf("%q: %x", l, b)
		}
		c, e := dimcol.Parse(b)
		if e != api.OK || !slices.Equal(values(c), l) || !bytes.Equal(c.Bytes(), b) {
			t.Fatalf("%q: %v", l, e)
		}
		for _, s := range slices.Concat(l[:min(5, len(l))], []string{"", "none"}) {
			if !slices.Equal(c.Rows(s), of(t, l...).Rows(s)) {
				t.Fatalf("%q: Rows(%q)", l, s)
			}
		}
	}
}

func TestManyTexts(t *testing.T) {
	l := make([]string, api.MaxRows)
	for i := range l {
		l[i] = strconv.Itoa((i * 7919) % api.MaxRows)
	}
	c, e := dimcol.Parse(of(t, l...).Bytes())
	if e != api.OK || !slices.Equal(values(c), l) || c.Dict().Len() != api.MaxRows {
		t.Errorf("%v", e)
	}
}

func TestParseWrong(t *testing.T) {
	null, none := "\x0a\x02\x00\x00\x00\x00", "\x02\x00"
	for _, s := range []string{
		"", "\x01", "\x00", "\x00\x02\x00\x00", "\x00\x02\x00\x00\x02\x00\x00", "\x00\x00\x00\x02\x00", "\x00\x02\x00\x02\x00\x02\x00",
		"\x02\x02\x00\x02\x00" + null, "\x02\x02\x00\x00" + none, "\x04\x02\x00\x00" + null, "\x00\x02\x00\x00" + null,
		"\x02\x08\x02\x00\x02x\x00" + none + null, "\x02\x08\x02\x00\x02x\x02\x02" + none + null, "\x02\x08\x02\x00\x02x\x02\x03" + none + null,
		"\x02\x08\x02\x00\x02x\x02\x00" + null + none, "\x02\x08\x02\x00\x02x\x02\x01" + null + none, "\x02\x08\x02\x00\x02x\x02\x01" + none, "\x02\x08\x02\x00\x02x\x02\x01" + none + null + none,
		"\x00\x08\x02\x00\x02x\x00" + none + none, "\x04\x0e\x04\x00\x02a\x00\x02b\x02\x0f" + none + null + null,
		"\x88\x80\x02\x02\x00\x00\x02\x00", "\x02\x08\x02\x00\x02x\x01\x01" + none + null,
	} {
		if c, e := dimcol.Parse([]byte(s)); c != nil || e != api.ErrColumn {
			t.Errorf("%x: %q, %v", s, values(c), e)
		}
	}
	d, _ := dict.New([]string{"x"})
	many := slices.Concat(zig.Int(nil, api.MaxRows+1), text(d.Bytes()))
	if c, e := dimcol.Parse(many); c != nil || e != api.ErrColumn {
		t.Errorf("too many: %v", e)
	}
}

func TestOneWay(t *testing.T) {
	r := rand.New(rand.NewSource(3))
	told := 0
	for range 6000 {
		b := of(t, some(r, r.Intn(20))...).Bytes()
		switch k := r.Intn(len(b)); r.Intn(4) {
		case 0, 1:
			b[k] ^= 1 << r.Intn(8)
		case 2:
			b = slices.Delete(b, k, k+1)
		case 3:
			b = slices.Insert(b, k, byte(r.Intn(4)))
		}
		c, e := dimcol.Parse(b)
		if e == api.OK {
			told++
			if !bytes.Equal(words(values(c)), b) {
				t.Fatalf("%x: %q", b, values(c))
			}
		} else if c != nil || e != api.ErrColumn {
			t.Fatalf("%x: %v", b, e)
		}
	}
	if told == 0 {
		t.Error("none was told")
	}
}

func TestNilColumn(t *testing.T) {
	var c *dimcol.Column
	s, ok := c.Value(0)
	if c.Len() != 0 || s != "" || ok || c.Dict().Len() != 0 || len(c.Rows("")) != 0 || len(c.Rows("a")) != 0 {
		t.Error("it has no rows")
	}
	if !bytes.Equal(c.Bytes(), of(t).Bytes()) {
		t.Errorf("its bytes: %x", c.Bytes())
	}
}

func TestNewMemory(t *testing.T) {
	l := []string{"b", "", "b"}
	c := of(t, l...)
	l[0] = "x"
	set := c.Rows("b")
	set[0].To = 9
	b := c.Bytes()
	p, _ := dimcol.Parse(b)
	for i := range b {
		b[i] = 0
	}
	for i, x := range []*dimcol.Column{c, p} {
		if !slices.Equal(values(x), []string{"b", "", "b"}) || !slices.Equal(x.Rows("b"), []api.Run{{From: 0, To: 1}, {From: 2, To: 3}}) {
			t.Errorf("%d: %q, %v", i, values(x), x.Rows("b"))
		}
	}
}
