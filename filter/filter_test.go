package filter_test

import (
	"math"
	"math/rand"
	"slices"
	"strings"
	"testing"

	"columbary/api"
	"columbary/filter"
	"columbary/rows"
	"columbary/runs"
	"columbary/segment"
)

func schema() api.Schema { return api.Schema{Dims: []string{"a", "b", "c"}} }

func is(dim, value string) api.Filter { return api.Filter{Op: api.Is, Dim: dim, Value: value} }
func null(dim string) api.Filter      { return api.Filter{Op: api.IsNull, Dim: dim} }
func op(o api.FilterOp, l ...api.Filter) api.Filter {
	return api.Filter{Op: o, Kids: l}
}
func not(f api.Filter) api.Filter { return op(api.Not, f) }

func some(r *rand.Rand, deep int) api.Filter {
	d := schema().Dims[r.Intn(3)]
	switch k := r.Intn(6); {
	case deep == 0 || k == 0:
		return is(d, []string{"x", "y", "", "z"}[r.Intn(4)])
	case k == 1:
		return null(d)
	case k == 2:
		return not(some(r, deep-1))
	default:
		f := op(api.And + api.FilterOp(k%2))
		for range 2 + r.Intn(2) {
			f.Kids = append(f.Kids, some(r, deep-1))
		}
		return f
	}
}

// ofValues is a segment of rows with these values, one behind the other in time.
func ofValues(t *testing.T, l ...string) *segment.Segment {
	t.Helper()
	var rs []api.Row
	for i, s := range l {
		rs = append(rs, api.Row{Time: i, Dims: strings.Split(s, ","), Count: 1})
	}
	g, e := segment.New(schema(), rs)
	if e != api.OK || !rows.Sorted(rs) {
		t.Fatal(e)
	}
	return g
}

func someSegment(t *testing.T, r *rand.Rand, n int) *segment.Segment {
	var l []string
	for range n {
		l = append(l, strings.Join([]string{[]string{"x", "y", ""}[r.Intn(3)], []string{"x", ""}[r.Intn(2)], []string{"z", "y", "x", ""}[r.Intn(4)]}, ","))
	}
	return ofValues(t, l...)
}

func set(l ...int) []api.Run {
	s, _ := runs.Of(l)
	return s
}

func all() api.Run { return api.Run{From: math.MinInt, To: math.MaxInt} }

func TestTakes(t *testing.T) {
	row := []string{"x", "", "z"}
	a, b, c := is("a", "x"), null("b"), is("c", "y") // the row has the first two
	for i, x := range []struct {
		f    api.Filter
		want bool
	}{
		{api.Filter{}, true}, {a, true}, {is("a", "y"), false}, {is("a", ""), false}, {is("b", ""), true}, {is("b", "x"), false}, {b, true}, {null("a"), false}, {c, false}, {is("c", "z"), true}, {is("c", "x"), false},
		{not(a), false}, {not(c), true}, {not(not(a)), true}, {op(api.And, a, b), true}, {op(api.And, a, c), false}, {op(api.And, c, a), false}, {op(api.And, a, b, c), false}, {op(api.Or, a, c), true}, {op(api.Or, c, a), true}, {op(api.Or, c, not(a)), false}, {op(api.Or, c, c, b), true},
		{op(api.And, op(api.Or, c, a), not(op(api.And, c, b))), true}, {op(api.Or, op(api.And, a, c), not(b)), false},
	} {
		if filter.Takes(x.f, schema(), row) != x.want {
			t.Errorf("%d", i)
		}
	}
}

func TestRows(t *testing.T) {
	g := ofValues(t, "x,,z", "y,,z", "x,x,z", ",x,y", "x,,y", ",,")
	for i, x := range []struct {
		f    api.Filter
		want []int
	}{
		{api.Filter{}, []int{0, 1, 2, 3, 4, 5}}, {is("a", "x"), []int{0, 2, 4}}, {is("a", ""), []int{3, 5}}, {null("a"), []int{3, 5}}, {null("b"), []int{0, 1, 4, 5}}, {is("a", "q"), nil}, {not(is("a", "x")), []int{1, 3, 5}}, {not(is("a", "q")), []int{0, 1, 2, 3, 4, 5}}, {not(not(null("a"))), []int{3, 5}},
		{op(api.And, is("a", "x"), null("b")), []int{0, 4}}, {op(api.And, is("a", "x"), null("b"), is("c", "z")), []int{0}}, {op(api.Or, is("a", "y"), is("c", "y")), []int{1, 3, 4}}, {op(api.Or, is("a", "y"), is("b", "x"), is("c", "")), []int{1, 2, 3, 5}}, {op(api.And, is("a", "x"), is("a", "y")), nil},
		{op(api.Or, op(api.And, is("a", "x"), is("b", "x")), not(is("c", "z"))), []int{2, 3, 4, 5}},
	} {
		for _, r := range []api.Run{all(), {From: 0, To: 6}, {From: 1, To: 5}, {From: 2, To: 3}, {From: -5, To: 2}, {From: 4, To: 99}, {From: 3, To: 3}, {From: 5, To: 1}, {From: 6, To: 9}, {From: -9, To: 0}, {From: math.MaxInt, To: math.MinInt}} {
			var want []int
			for _, k := range x.want {
				if r.From <= k && k < r.To {
					want = append(want, k)
				}
			}
			if got := filter.Rows(x.f, g, r); !slices.Equal(got, set(want...)) {
				t.Errorf("%d, %v: %v", i, r, got)
			}
			if got := filter.Plain(x.f, g, r); !slices.Equal(got, set(want...)) {
				t.Errorf("%d, %v: Plain %v", i, r, got)
			}
			if n := filter.Count(x.f, g, r); n != len(want) {
				t.Errorf("%d, %v: %d", i, r, n)
			}
		}
	}
}

// TestWithOrWithout: Rows and Plain are one, and tell the rows that Takes takes.
func TestWithOrWithout(t *testing.T) {
	r := rand.New(rand.NewSource(1))
	for i := range 300 {
		n := r.Intn(60)
		if i%50 == 0 {
			n = 700
		}
		g, f := someSegment(t, r, n), some(r, r.Intn(5))
		x := api.Run{From: r.Intn(n+4) - 2, To: r.Intn(n+4) - 2}
		if i%2 == 0 {
			x = all()
		}
		var want []int
		for k, row := range g.Rows() {
			if x.From <= k && k < x.To && filter.Takes(f, schema(), row.Dims) {
				want = append(want, k)
			}
		}
		a, b := filter.Rows(f, g, x), filter.Plain(f, g, x)
		if !slices.Equal(a, set(want...)) || !slices.Equal(b, a) || !runs.Right(a) || filter.Count(f, g, x) != len(want) {
			t.Fatalf("%v, %v: %v, %v, want %v", f, x, a, b, want)
		}
	}
}

// TestLaws: Not of And is Or of Nots; what a filter, and Not of it, take, are all rows, and none is in both.
func TestLaws(t *testing.T) {
	r := rand.New(rand.NewSource(2))
	for range 300 {
		n := r.Intn(80)
		g := someSegment(t, r, n)
		f, h := some(r, 3), some(r, 3)
		x := api.Run{From: r.Intn(n + 1), To: r.Intn(n + 1)}
		rowsOf := func(f api.Filter) []api.Run { return filter.Rows(f, g, x) }
		for i, p := range [][2]api.Filter{
			{not(op(api.And, f, h)), op(api.Or, not(f), not(h))}, {not(op(api.Or, f, h)), op(api.And, not(f), not(h))}, {not(not(f)), f}, {op(api.And, f, h), op(api.And, h, f)}, {op(api.Or, f, f), f}, {is("b", ""), null("b")},
		} {
			if !slices.Equal(rowsOf(p[0]), rowsOf(p[1])) {
				t.Fatalf("law %d of %v, %v", i, f, h)
			}
		}
		every := rowsOf(api.Filter{})
		if !slices.Equal(runs.Or(rowsOf(f), rowsOf(not(f))), every) || len(runs.And(rowsOf(f), rowsOf(not(f)))) != 0 {
			t.Fatalf("%v and Not of it", f)
		}
		if filter.Count(f, g, x)+filter.Count(not(f), g, x) != filter.Count(api.Filter{}, g, x) || filter.Count(api.Filter{}, g, x) != max(0, x.To-x.From) {
			t.Fatalf("counts of %v", f)
		}
	}
}

func TestNilAndEmpty(t *testing.T) {
	empty := ofValues(t)
	for _, g := range []*segment.Segment{nil, empty} {
		for _, f := range []api.Filter{{}, is("a", "x"), not(is("a", "x")), op(api.Or, null("a"), not(null("a")))} {
			if len(filter.Rows(f, g, all())) != 0 || len(filter.Plain(f, g, all())) != 0 || filter.Count(f, g, all()) != 0 {
				t.Errorf("%v", f)
			}
		}
	}
	bare, e := segment.New(api.Schema{}, []api.Row{{Time: 1, Count: 1}, {Time: 2, Count: 1}})
	if e != api.OK || filter.Count(api.Filter{}, bare, all()) != 2 || !filter.Takes(api.Filter{}, api.Schema{}, nil) {
		t.Error("no dimension")
	}
}

// TestOtherFiltersEnd: of filters that are no typed query's nothing is said, but that the calls end.
func TestOtherFiltersEnd(t *testing.T) {
	g := ofValues(t, "x,,z", "y,,z")
	for _, f := range []api.Filter{is("q", "x"), null(""), {Op: 9}, {Op: -1}, op(api.Not), op(api.And), op(api.Or), op(api.All, is("a", "x"))} {
		filter.Takes(f, schema(), nil)
		filter.Takes(f, schema(), []string{"x"})
		filter.Rows(f, g, all())
		filter.Plain(f, g, all())
		filter.Count(f, g, all())
	}
}

func TestNewMemory(t *testing.T) {
	g := ofValues(t, "x,,z", "x,,z")
	got := filter.Rows(is("a", "x"), g, all())
	plain := filter.Plain(is("a", "x"), g, all())
	got[0].To, plain[0].To = 1, 1
	if filter.Count(is("a", "x"), g, all()) != 2 || filter.Rows(is("a", "x"), g, all())[0].To != 2 {
		t.Error("shared")
	}
}
