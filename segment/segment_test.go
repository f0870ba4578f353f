package segment_test

import (
	"bytes"
	"math"
	"math/rand"
	"slices"
	"strconv"
	"strings"
	"testing"

	"columbary/api"
	"columbary/check"
	"columbary/delta"
	"columbary/dimcol"
	"columbary/rows"
	"columbary/segment"
	"columbary/zig"
)

func schema() api.Schema {
	return api.Schema{Dims: []string{"a", "b"}, Metrics: []string{"m", "n"}}
}

func row(s api.Schema, time int, dims string, count, n int) api.Row {
	r := api.Row{Time: time, Dims: strings.Split(dims, ",")[:len(s.Dims)], Count: count}
	for i := range s.Metrics {
		r.Aggs = append(r.Aggs, api.Agg{Sum: n * count, Min: n - i, Max: n + i})
	}
	return r
}

func some(r *rand.Rand, s api.Schema, n int) []api.Row {
	var l []api.Row
	for range n {
		l = append(l, row(s, r.Intn(40), strings.Repeat("x", r.Intn(3))+","+string("pqr"[r.Intn(3)]), 1+r.Intn(3), r.Intn(1000)-500))
	}
	l, _ = rows.Fold(l)
	return l
}

func schemas() []api.Schema {
	return []api.Schema{schema(), {Dims: []string{"a"}}, {Metrics: []string{"m"}}, {}, {Dims: []string{"a", "b"}, Metrics: []string{"m"}}}
}

func of(t *testing.T, s api.Schema, l []api.Row) *segment.Segment {
	t.Helper()
	g, e := segment.New(s, l)
	if g == nil || e != api.OK {
		t.Fatalf("New(%v, %v): %v", s, l, e)
	}
	return g
}

// blocks are those of a segment by the chapter's words.
func blocks(s api.Schema, l []api.Row) [][]byte {
	head := zig.Int(zig.Text(nil, "columbary"), len(s.Dims))
	for _, name := range s.Dims {
		head = zig.Text(head, name)
	}
	head = zig.Int(head, len(s.Metrics))
	for _, name := range s.Metrics {
		head = zig.Text(head, name)
	}
	head = zig.Int(head, len(l))
	first, last := 0, 0
	if len(l) > 0 {
		first, last = l[0].Time, l[len(l)-1].Time
	}
	head = zig.Int(zig.Int(head, first), last)
	numbers := func(f func(r api.Row) int) []byte {
		var x []int
		for _, r := range l {
			x = append(x, f(r))
		}
		b, _ := delta.Encode(x)
		return b
	}
	out := [][]byte{head, numbers(func(r api.Row) int { return r.Time })}
	for i := range s.Dims {
		var x []string
		for _, r := range l {
			x = append(x, r.Dims[i])
		}
		c, _ := dimcol.New(x)
		out = append(out, c.Bytes())
	}
	out = append(out, numbers(func(r api.Row) int { return r.Count }))
	for i := range s.Metrics {
		out = append(out, numbers(func(r api.Row) int { return r.Aggs[i].Sum }), numbers(func(r api.Row) int { return r.Aggs[i].Min }), numbers(func(r api.Row) int { return r.Aggs[i].Max }))
	}
	return out
}

func together(l [][]byte) []byte {
	var b []byte
	for _, x := range l {
		y, _ := check.Block(x)
		b = append(b, y...)
	}
	return b
}

func TestNew(t *testing.T) {
	s := schema()
	l := []api.Row{row(s, 3, "x,", 1, 5), row(s, 3, "x,y", 2, -7), row(s, 9, ",", 1, 0)}
	g := of(t, s, l)
	if g.Len() != 3 || !rows.Same(g.Rows(), l) || !slices.Equal(g.Schema().Dims, s.Dims) || !slices.Equal(g.Schema().Metrics, s.Metrics) {
		t.Errorf("%v", g.Rows())
	}
	for i := range l {
		if r, ok := g.Row(i); !ok || !rows.Same([]api.Row{r}, l[i:i+1]) {
			t.Errorf("%d: %v", i, r)
		}
	}
	for _, i := range []int{-1, 3, math.MinInt, math.MaxInt} {
		if r, ok := g.Row(i); ok || r.Count != 0 || len(r.Dims) != 0 || len(r.Aggs) != 0 {
			t.Errorf("%d: %v", i, r)
		}
		if g.Column(i) != nil {
			t.Errorf("Column(%d)", i)
		}
	}
	a, b := g.Column(0), g.Column(1)
	if x, _ := a.Value(1); x != "x" || a.Len() != 3 || !slices.Equal(a.Rows("x"), []api.Run{{From: 0, To: 2}}) {
		t.Error("Column(0)")
	}
	if x, _ := b.Value(1); x != "y" || !slices.Equal(b.Rows(""), []api.Run{{From: 0, To: 1}, {From: 2, To: 3}}) || g.Column(2) != nil {
		t.Error("Column(1)")
	}
}

func TestNewWrong(t *testing.T) {
	s := schema()
	ok := row(s, 3, "x,y", 1, 5)
	names := func(l string) []string { return strings.Fields(l) }
	for _, bad := range []api.Schema{
		{Dims: names("a a")}, {Dims: names("A")}, {Dims: names("sum")}, {Dims: names("a b c d e f g")}, {Dims: names("a"), Metrics: names("a")},
		{Metrics: names("m m")}, {Metrics: names("sum")}, {Metrics: names("m n o p q")}, {Dims: names("a"), Metrics: names("m n o p q")}, {Metrics: []string{""}},
	} {
		if g, e := segment.New(bad, nil); g != nil || e != api.ErrSegment {
			t.Errorf("%v: %v", bad, e)
		}
	}
	for _, good := range []api.Schema{{}, {Metrics: names("m n o p")}, {Dims: names("a b c d e f"), Metrics: names("m n o p")}} {
		of(t, good, nil)
	}
	low := ok
	low.Time = -1
	none := ok
	none.Count = 0
	for i, l := range [][]api.Row{{ok, ok}, {ok, row(s, 2, "x,y", 1, 5)}, {low}, {none}, {row(api.Schema{Dims: s.Dims}, 1, "x,y", 1, 5)}, {row(s, 1, "\n,y", 1, 5)}, {ok, row(s, 3, "x,z", 1, api.MaxInt)}} {
		if g, e := segment.New(s, l); g != nil || e != api.ErrSegment {
			t.Errorf("rows %d: %v", i, e)
		}
	}
}

func TestMostRows(t *testing.T) {
	s := api.Schema{Dims: []string{"a"}}
	l := make([]api.Row, api.MaxRows+1)
	for i := range l {
		l[i] = row(s, i, strconv.Itoa(i%7), 1, 0)
	}
	if g, e := segment.New(s, l); g != nil || e != api.ErrSegment {
		t.Errorf("too many: %v", e)
	}
	b := of(t, s, l[1:]).Bytes()
	g, e := segment.Parse(b)
	if e != api.OK || g.Len() != api.MaxRows {
		t.Errorf("the most: %v", e)
	}
	if n, e := segment.Fault(b); n != -1 || e != api.OK {
		t.Errorf("Fault: %d, %v", n, e)
	}
}

func TestTimes(t *testing.T) {
	s := schema()
	g := of(t, s, []api.Row{row(s, 3, "a,", 1, 5), row(s, 3, "b,", 1, 5), row(s, 5, "a,", 1, 5), row(s, 9, "a,", 1, 5)})
	for _, x := range [][4]int{
		{0, 100, 0, 4}, {3, 5, 0, 2}, {3, 6, 0, 3}, {4, 6, 2, 3}, {5, 9, 2, 3}, {5, 10, 2, 4}, {4, 5, 2, 2}, {6, 9, 3, 3}, {0, 3, 0, 0}, {10, 20, 4, 4}, {-5, 0, 0, 0},
		{9, 3, 3, 3}, {100, 0, 4, 4}, {4, 4, 2, 2}, {math.MinInt, math.MaxInt, 0, 4}, {math.MaxInt, math.MinInt, 4, 4}, {3, 3, 0, 0},
	} {
		if r := g.Times(x[0], x[1]); r != (api.Run{From: x[2], To: x[3]}) {
			t.Errorf("%v: %v", x, r)
		}
	}
}

func TestBytes(t *testing.T) {
	head := "\x12columbary\x02\x02a\x02\x02m\x04\x06\x08"
	s := api.Schema{Dims: []string{"a"}, Metrics: []string{"m"}}
	l := []api.Row{{Time: 3, Dims: []string{"x"}, Count: 1, Aggs: []api.Agg{{Sum: 5, Min: 5, Max: 5}}}, {Time: 4, Dims: []string{""}, Count: 2, Aggs: []api.Agg{{Sum: 3, Min: 1, Max: 2}}}}
	want := blocks(s, l)
	if string(want[0]) != head || string(want[1]) != "\x04\x06\x02\x00" || len(want) != 7 {
		t.Fatalf("%q", want)
	}
	if b := of(t, s, l).Bytes(); !bytes.Equal(b, together(want)) {
		t.Errorf("%x", b)
	}
	if b := of(t, api.Schema{}, nil).Bytes(); !bytes.Equal(b, together([][]byte{[]byte("\x12columbary\x00\x00\x00\x00\x00"), {0}, {0}})) {
		t.Errorf("of nothing: %x", b)
	}
}

func TestThereAndBack(t *testing.T) {
	r := rand.New(rand.NewSource(1))
	for _, s := range schemas() {
		for n := range 40 {
			l := some(r, s, n)
			g := of(t, s, l)
			b := g.Bytes()
			if !bytes.Equal(b, together(blocks(s, l))) {
				t.Fatalf("%v: %x", l, b)
			}
			p, e := segment.Parse(b)
			if e != api.OK || !rows.Same(p.Rows(), l) || !slices.Equal(p.Schema().Dims, s.Dims) || !slices.Equal(p.Schema().Metrics, s.Metrics) || !bytes.Equal(p.Bytes(), b) || p.Times(3, 20) != g.Times(3, 20) {
				t.Fatalf("%v: %v", l, e)
			}
			if n, e := segment.Fault(b); n != -1 || e != api.OK {
				t.Fatalf("%v: %d, %v", l, n, e)
			}
		}
	}
}

// wrong is bytes, and what Fault tells of them.
type wrong struct {
	what  string
	b     []byte
	block int
	e     api.Errno
}

// withBlock are a segment's bytes with one block in the place of another.
func withBlock(l [][]byte, i int, b []byte) []byte {
	l = slices.Clone(l)
	l[i] = b
	return together(l)
}

func TestFault(t *testing.T) {
	s := schema()
	r := rand.New(rand.NewSource(2))
	l := some(r, s, 20)
	bs := blocks(s, l)
	all := together(bs)
	short, fewer := blocks(s, l[1:]), blocks(s, append(slices.Clone(l), row(s, 77, "z,z", 1, 1)))
	list := []wrong{
		{"nothing", nil, 0, api.ErrCheck}, {"one byte", []byte{0}, 0, api.ErrCheck}, {"a byte behind", append(slices.Clone(all), 0), -1, api.ErrSegment},
		{"a block behind", together(append(slices.Clone(bs), nil)), -1, api.ErrSegment},
		{"an empty head", withBlock(bs, 0, nil), 0, api.ErrZig}, {"another text", withBlock(bs, 0, []byte("\x12columbarz\x00\x00\x00\x00\x00")), 0, api.ErrZig},
		{"seven dimensions", together([][]byte{[]byte("\x12columbary\x0e\x02a\x02b\x02c\x02d\x02e\x02f\x02g\x00\x00\x00\x00")}), 0, api.ErrZig},
		{"five metrics", together([][]byte{[]byte("\x12columbary\x00\x0a\x02a\x02b\x02c\x02d\x02e\x00\x00\x00")}), 0, api.ErrZig},
		{"a long name", together([][]byte{[]byte("\x12columbary\x02\x1aabcdefghijklm\x00\x00\x00\x00")}), 0, api.ErrZig},
		{"a long name of a metric", together([][]byte{[]byte("\x12columbary\x00\x02\x1aabcdefghijklm\x00\x00\x00")}), 0, api.ErrZig},
		{"rows below 0", together([][]byte{[]byte("\x12columbary\x00\x00\x01\x00\x00")}), 0, api.ErrZig},
		{"too many rows", together([][]byte{append([]byte("\x12columbary\x00\x00"), zig.Int(nil, api.MaxRows+1)...)}), 0, api.ErrZig},
		{"no number of rows", together([][]byte{[]byte("\x12columbary\x00\x00")}), 0, api.ErrZig},
		{"most rows, and no block", together([][]byte{append([]byte("\x12columbary\x00\x00"), zig.Int(nil, api.MaxRows)...)}), 1, api.ErrCheck},
		{"a head without times", together([][]byte{[]byte("\x12columbary\x00\x00\x00"), {0}, {0}}), -1, api.ErrSegment},
		{"other times in the head", together([][]byte{[]byte("\x12columbary\x00\x00\x00\x02\x00"), {0}, {0}}), -1, api.ErrSegment},
		{"something behind the head", together([][]byte{[]byte("\x12columbary\x00\x00\x00\x00\x00\x00"), {0}, {0}}), -1, api.ErrSegment},
		{"a name that is none", together([][]byte{[]byte("\x12columbary\x02\x02A\x00\x00\x00\x00"), {0}, []byte("\x00\x02\x00\x00\x02\x00"), {0}}), -1, api.ErrSegment},
		{"no counts", together([][]byte{[]byte("\x12columbary\x00\x00\x00\x00\x00"), {0}}), 2, api.ErrCheck},
		{"times that fall", together(blocks(s, []api.Row{l[1], l[0]})), -1, api.ErrSegment},
	}
	for i := range bs {
		if i > 0 {
			e := api.ErrDelta
			if i == 2 || i == 3 {
				e = api.ErrColumn
			}
			list = append(list, wrong{"nothing in the block", withBlock(bs, i, nil), i, e}, wrong{"something behind in the block", withBlock(bs, i, append(slices.Clone(bs[i]), 0)), i, e},
				wrong{"fewer", withBlock(bs, i, short[i]), i, api.ErrSegment}, wrong{"more", withBlock(bs, i, fewer[i]), i, api.ErrSegment})
			two := slices.Clone(bs)
			two[i] = nil
			if i+1 < len(bs) {
				two[i+1] = nil
			}
			list = append(list, wrong{"two of them", together(two), i, e})
		}
		list = append(list, wrong{"no more blocks", together(bs[:i]), i, api.ErrCheck})
		turned := slices.Clone(all)
		turned[len(together(bs[:i]))+3] ^= 4
		list = append(list, wrong{"a bit turned", turned, i, api.ErrCheck})
	}
	for _, x := range list {
		if n, e := segment.Fault(x.b); n != x.block || e != x.e {
			t.Errorf("%s: %d, %v, want %d, %v", x.what, n, e, x.block, x.e)
		}
		if g, e := segment.Parse(x.b); g != nil || e != api.ErrSegment {
			t.Errorf("%s: Parse: %v", x.what, e)
		}
	}
}

func TestWrongRows(t *testing.T) {
	s := api.Schema{Metrics: []string{"m"}}
	parts := func(times, counts, sums, least, greatest []int) []byte {
		head := append([]byte("\x12columbary\x00\x02\x02m"), zig.Int(nil, len(times))...)
		out := [][]byte{zig.Int(zig.Int(head, times[0]), times[len(times)-1])}
		for _, l := range [][]int{times, counts, sums, least, greatest} {
			b, _ := delta.Encode(l)
			out = append(out, b)
		}
		return together(out)
	}
	good := parts([]int{3, 4}, []int{1, 2}, []int{5, 6}, []int{1, 2}, []int{3, 4})
	if g, e := segment.Parse(good); e != api.OK || g.Len() != 2 || !slices.Equal(g.Schema().Metrics, s.Metrics) {
		t.Fatal(e)
	}
	big := api.MaxInt + 1
	for i, b := range [][]byte{
		parts([]int{3, 3}, []int{1, 2}, []int{5, 6}, []int{1, 2}, []int{3, 4}), parts([]int{4, 3}, []int{1, 2}, []int{5, 6}, []int{1, 2}, []int{3, 4}), parts([]int{-1, 3}, []int{1, 2}, []int{5, 6}, []int{1, 2}, []int{3, 4}),
		parts([]int{3, api.MaxTime + 1}, []int{1, 2}, []int{5, 6}, []int{1, 2}, []int{3, 4}), parts([]int{3, 4}, []int{1, 0}, []int{5, 6}, []int{1, 2}, []int{3, 4}), parts([]int{3, 4}, []int{1, api.MaxCount + 1}, []int{5, 6}, []int{1, 2}, []int{3, 4}),
		parts([]int{3, 4}, []int{1, 2}, []int{5, big}, []int{1, 2}, []int{3, 4}), parts([]int{3, 4}, []int{1, 2}, []int{5, 6}, []int{1, 5}, []int{3, 4}), parts([]int{3, 4}, []int{1, 2}, []int{5, 6}, []int{1, 2}, []int{3, big}),
	} {
		if g, e := segment.Parse(b); g != nil || e != api.ErrSegment {
			t.Errorf("%d: %v", i, e)
		}
		if n, e := segment.Fault(b); n != -1 || e != api.ErrSegment {
			t.Errorf("%d: %d, %v", i, n, e)
		}
	}
}

// TestTurned: of a segment's bytes a bit turned within a block's bytes leaves none.
func TestTurned(t *testing.T) {
	s := schema()
	r := rand.New(rand.NewSource(3))
	bs := blocks(s, some(r, s, 12))
	b := together(bs)
	at := 0
	for i, x := range bs {
		whole, _ := check.Block(x)
		begin := at + len(whole) - 4 - len(x)
		for bit := range 8 * len(x) {
			b[begin+bit/8] ^= 1 << (bit % 8)
			if g, e := segment.Parse(b); g != nil || e != api.ErrSegment {
				t.Fatalf("block %d, bit %d: %v", i, bit, e)
			}
			if n, e := segment.Fault(b); n != i || e != api.ErrCheck {
				t.Fatalf("block %d, bit %d: %d, %v", i, bit, n, e)
			}
			b[begin+bit/8] ^= 1 << (bit % 8)
		}
		at += len(whole)
	}
	if _, e := segment.Parse(b); e != api.OK {
		t.Error(e)
	}
}

func TestNilSegment(t *testing.T) {
	var g *segment.Segment
	s := g.Schema()
	r, ok := g.Row(0)
	if len(s.Dims)+len(s.Metrics) != 0 || g.Len() != 0 || ok || r.Count != 0 || len(g.Rows()) != 0 || g.Column(0) != nil || g.Times(0, 9) != (api.Run{}) || len(g.Bytes()) != 0 {
		t.Error("it tells something")
	}
}

func TestNewMemory(t *testing.T) {
	s := schema()
	l := []api.Row{row(s, 3, "x,", 1, 5), row(s, 3, "x,y", 2, -7)}
	want := rows.Copy(l)
	g := of(t, s, l)
	l[0].Dims[0], l[0].Aggs[0].Sum, s.Dims[0], s.Metrics[0] = "q", 99, "q", "q"
	b := g.Bytes()
	p, _ := segment.Parse(b)
	for i := range b {
		b[i] = 0
	}
	for _, x := range []*segment.Segment{g, p} {
		got, one, own := x.Rows(), []api.Row{}, x.Schema()
		r, _ := x.Row(1)
		one = append(one, r)
		got[0].Dims[0], got[1].Aggs[1].Min, one[0].Dims[1], own.Dims[1], own.Metrics[1] = "z", 7, "z", "z", "z"
		x.Bytes()[0] = 77
		if !rows.Same(x.Rows(), want) || !slices.Equal(x.Schema().Dims, []string{"a", "b"}) || !slices.Equal(x.Schema().Metrics, []string{"m", "n"}) {
			t.Errorf("%v", x.Rows())
		}
	}
}
