package group_test

import (
	"cmp"
	"math/rand"
	"slices"
	"strings"
	"testing"

	"columbary/api"
	"columbary/group"
	"columbary/rows"
)

const most = api.MaxInt

func schema() api.Schema {
	return api.Schema{Dims: []string{"a", "b"}, Metrics: []string{"m", "n"}}
}

// row has the sum of count times n, the least n, and the greatest n + 1; the second metric has 10 times that.
func row(time int, dims string, count, n int) api.Row {
	return api.Row{Time: time, Dims: strings.Split(dims, ","), Count: count, Aggs: []api.Agg{{Sum: count * n, Min: n, Max: n + 1}, {Sum: 10 * count * n, Min: 10 * n, Max: 10*n + 10}}}
}

func g(time int, by string, terms ...int) api.Group {
	x := api.Group{Time: time, Terms: terms}
	if by != "-" {
		x.By = strings.Split(by, ",")
	}
	return x
}

func count() api.Term                         { return api.Term{} }
func term(f api.Func, metric string) api.Term { return api.Term{Func: f, Metric: metric} }

func some() []api.Row {
	return []api.Row{row(3, "x,p", 1, 5), row(4, "y,p", 2, -3), row(5, "x,q", 3, 7), row(9, "x,p", 1, 0), row(12, ",q", 4, 2), row(20, "y,", 1, 1)}
}

func TestRun(t *testing.T) {
	all := []api.Term{count(), term(api.Sum, "m"), term(api.Min, "m"), term(api.Max, "n")}
	for i, x := range []struct {
		q    api.Query
		want []api.Group
	}{
		{api.Query{Terms: all, To: 100}, []api.Group{g(0, "-", 12, 29, -3, 80)}},
		{api.Query{Terms: all, From: 4, To: 100}, []api.Group{g(4, "-", 11, 24, -3, 80)}},
		{api.Query{Terms: all, From: 3, To: 12}, []api.Group{g(3, "-", 7, 20, -3, 80)}},
		{api.Query{Terms: all, From: 50, To: 100}, nil},
		{api.Query{Terms: all[:1], To: 100, Every: 5}, []api.Group{g(0, "-", 3), g(5, "-", 4), g(10, "-", 4), g(20, "-", 1)}},
		{api.Query{Terms: all[:1], From: 4, To: 20, Every: 5}, []api.Group{g(0, "-", 2), g(5, "-", 4), g(10, "-", 4)}},
		{api.Query{Terms: all[:2], To: 100, By: []string{"a"}}, []api.Group{g(0, "", 4, 8), g(0, "x", 5, 26), g(0, "y", 3, -5)}},
		{api.Query{Terms: all[:1], To: 100, By: []string{"b", "a"}}, []api.Group{g(0, ",y", 1), g(0, "p,x", 2), g(0, "p,y", 2), g(0, "q,", 4), g(0, "q,x", 3)}},
		{api.Query{Terms: all[:1], To: 100, By: []string{"a", "b"}, Every: 10}, []api.Group{g(0, "x,p", 2), g(0, "x,q", 3), g(0, "y,p", 2), g(10, ",q", 4), g(20, "y,", 1)}},
		{api.Query{Terms: all[:1], To: 100, By: []string{"b"}, Where: api.Filter{Op: api.Is, Dim: "a", Value: "x"}}, []api.Group{g(0, "p", 2), g(0, "q", 3)}},
		{api.Query{Terms: []api.Term{term(api.Max, "m"), count(), count(), term(api.Sum, "n"), term(api.Min, "n")}, To: 100, Where: api.Filter{Op: api.IsNull, Dim: "a"}}, []api.Group{g(0, "-", 3, 4, 4, 80, 20)}},
	} {
		l := some()
		got, e := group.Run(schema(), x.q, l)
		if e != api.OK || !group.Same(got, x.want) || !rows.Same(l, some()) {
			t.Errorf("%d: %v, %v", i, got, e)
		}
	}
}

func TestFold(t *testing.T) {
	q := api.Query{Terms: []api.Term{count()}, From: 4, To: 20, Every: 10, By: []string{"b"}, Order: 1, Limit: 1, Having: []api.Having{{Sign: 1, Value: 99}}}
	got, e := group.Fold(schema(), q, some())
	agg := func(sum, least, greatest int) []api.Agg {
		return []api.Agg{{Sum: sum, Min: least, Max: greatest}, {Sum: 10 * sum, Min: 10 * least, Max: 10 * greatest}}
	}
	want := []api.Row{{Time: 0, Dims: []string{"p"}, Count: 3, Aggs: agg(-6, -3, 1)}, {Time: 0, Dims: []string{"q"}, Count: 3, Aggs: agg(21, 7, 8)}, {Time: 10, Dims: []string{"q"}, Count: 4, Aggs: agg(8, 2, 3)}}
	if e != api.OK || !rows.Same(got, want) || !rows.Sorted(got) {
		t.Errorf("%v, %v", got, e)
	}
	q.Every = 0
	got, e = group.Fold(schema(), q, some())
	want[1].Count, want[1].Aggs = 7, agg(29, 2, 8)
	want[0].Time, want[1].Time = 4, 4
	if e != api.OK || !rows.Same(got, want[:2]) {
		t.Errorf("%v, %v", got, e)
	}
}

func TestHaving(t *testing.T) {
	q := api.Query{Terms: []api.Term{count()}, To: 100, By: []string{"a"}} // a count of 4, 5, 3; a sum of m of 8, 26, -5
	less, same, greater := -1, 0, 1
	for i, x := range []struct {
		h    []api.Having
		want []api.Group
	}{
		{[]api.Having{{Sign: less, Value: 4}}, []api.Group{g(0, "y", 3)}}, {[]api.Having{{Sign: same, Value: 4}}, []api.Group{g(0, "", 4)}}, {[]api.Having{{Sign: greater, Value: 4}}, []api.Group{g(0, "x", 5)}},
		{[]api.Having{{Sign: greater, Value: 3}, {Sign: less, Value: 5}}, []api.Group{g(0, "", 4)}}, {[]api.Having{{Sign: less, Value: 5}, {Term: term(api.Sum, "m"), Sign: less, Value: 0}}, []api.Group{g(0, "y", 3)}}, {[]api.Having{{Term: term(api.Min, "n"), Sign: same, Value: -30}}, []api.Group{g(0, "y", 3)}},
		{[]api.Having{{Term: term(api.Max, "m"), Sign: greater, Value: 7}}, []api.Group{g(0, "x", 5)}}, {[]api.Having{{Sign: greater, Value: 5}}, nil}, {[]api.Having{{Sign: less, Value: 3}}, nil}, {[]api.Having{{Sign: greater, Value: -most}}, []api.Group{g(0, "", 4), g(0, "x", 5), g(0, "y", 3)}},
	} {
		q.Having = x.h
		if got, e := group.Run(schema(), q, some()); e != api.OK || !group.Same(got, x.want) {
			t.Errorf("%d: %v, %v", i, got, e)
		}
	}
}

func TestOrderAndLimit(t *testing.T) {
	l := []api.Row{row(1, "x,", 2, 5), row(1, "y,", 1, 5), row(1, "z,", 2, -1), row(7, "x,", 1, 9), row(7, "y,", 3, 0)}
	q := api.Query{Terms: []api.Term{count(), term(api.Min, "m")}, To: 10, Every: 5, By: []string{"a"}}
	a, b, c, d, e := g(0, "x", 2, 5), g(0, "y", 1, 5), g(0, "z", 2, -1), g(5, "x", 1, 9), g(5, "y", 3, 0)
	for _, x := range []struct {
		order, limit int
		want         []api.Group
	}{
		{0, 0, []api.Group{a, b, c, d, e}}, {1, 0, []api.Group{b, d, a, c, e}}, {-1, 0, []api.Group{e, a, c, b, d}}, {2, 0, []api.Group{c, e, a, b, d}}, {-2, 0, []api.Group{d, a, b, e, c}},
		{0, 1, []api.Group{a}}, {0, 4, []api.Group{a, b, c, d}}, {0, 5, []api.Group{a, b, c, d, e}}, {0, 1000, []api.Group{a, b, c, d, e}}, {-1, 2, []api.Group{e, a}}, {2, 3, []api.Group{c, e, a}},
	} {
		q.Order, q.Limit = x.order, x.limit
		if got, bad := group.Run(schema(), q, l); bad != api.OK || !group.Same(got, x.want) {
			t.Errorf("%d, %d: %v, %v", x.order, x.limit, got, bad)
		}
	}
	q.Order, q.Limit, q.Having = -1, 2, []api.Having{{Sign: -1, Value: 3}}
	if got, bad := group.Run(schema(), q, l); bad != api.OK || !group.Same(got, []api.Group{a, c}) {
		t.Errorf("Having is ahead of Limit: %v, %v", got, bad)
	}
}

func TestFinish(t *testing.T) {
	q := api.Query{Terms: []api.Term{count(), term(api.Sum, "n")}, From: 4, To: 5, Every: 3, By: []string{"b"}, Where: api.Filter{Op: api.Is, Dim: "a", Value: "none"}}
	l := []api.Row{row(50, "q", 1, 2), row(0, "z", 2, 3), row(50, "q", 4, 1), row(50, "p", 1, 1)}
	got, e := group.Finish(schema(), q, l)
	if e != api.OK || !group.Same(got, []api.Group{g(0, "z", 2, 60), g(50, "p", 1, 10), g(50, "q", 5, 60)}) {
		t.Errorf("%v, %v", got, e)
	}
	if got, e := group.Finish(schema(), q, nil); len(got) != 0 || e != api.OK {
		t.Errorf("of nothing: %v, %v", got, e)
	}
}

func TestTooMuch(t *testing.T) {
	big := func(time int, dims string, n int) api.Row {
		return api.Row{Time: time, Dims: strings.Split(dims, ","), Count: 1, Aggs: []api.Agg{{Sum: n, Min: n, Max: n}, {}}}
	}
	full := row(1, "x,p", api.MaxCount, 0)
	q := api.Query{Terms: []api.Term{count()}, To: 100, By: []string{"a"}}
	for i, l := range [][]api.Row{{big(1, "x,p", most), big(2, "x,q", 1)}, {full, big(2, "x,p", 0)}, {big(1, "x,p", -most), big(2, "x,q", -1), big(3, "x,q", 1)}} {
		if got, e := group.Fold(schema(), q, l); e != api.ErrOver || len(got) != 0 {
			t.Errorf("%d: Fold: %v, %v", i, got, e)
		}
		if got, e := group.Run(schema(), q, l); e != api.ErrOver || len(got) != 0 {
			t.Errorf("%d: Run: %v, %v", i, got, e)
		}
	}
	if got, e := group.Finish(schema(), q, []api.Row{big(0, "x", most), big(0, "x", 1)}); e != api.ErrOver || len(got) != 0 {
		t.Errorf("Finish: %v, %v", got, e)
	}
	// What is not taken, or in another group, is not too much; nor is what is in the list's order.
	for i, l := range [][]api.Row{{big(1, "x,p", most), big(200, "x,q", 1)}, {big(1, "x,p", most), big(1, "y,q", 1)}, {big(1, "x,p", most), big(3, "x,q", -1), big(2, "x,q", 1)}} {
		if _, e := group.Run(schema(), q, l); e != api.OK {
			t.Errorf("%d: %v", i, e)
		}
	}
}

func TestSame(t *testing.T) {
	a := []api.Group{g(1, "x,y", 1, 2), g(2, "x,y", 3)}
	if !group.Same(a, slices.Clone(a)) || !group.Same(nil, []api.Group{}) || group.Same(a, a[:1]) || group.Same(a[:1], a) || group.Same(a, []api.Group{a[1], a[0]}) || !group.Same([]api.Group{{By: []string{}}}, []api.Group{{Terms: []int{}}}) {
		t.Error("lists")
	}
	for i, x := range []api.Group{g(2, "x,y", 1, 2), g(1, "x,z", 1, 2), g(1, "x", 1, 2), g(1, "x,y", 1, 3), g(1, "x,y", 1), g(1, "-", 1, 2)} {
		if group.Same(a, []api.Group{x, a[1]}) {
			t.Errorf("%d", i)
		}
	}
}

func TestNoDimension(t *testing.T) {
	s := api.Schema{Metrics: []string{"m"}}
	l := []api.Row{{Time: 1, Count: 2, Aggs: []api.Agg{{Sum: 5, Min: 1, Max: 4}}}, {Time: 3, Count: 1, Aggs: []api.Agg{{Sum: 1, Min: 1, Max: 1}}}}
	got, e := group.Run(s, api.Query{Terms: []api.Term{count(), term(api.Sum, "m")}, To: 9}, l)
	if e != api.OK || !group.Same(got, []api.Group{g(0, "-", 3, 6)}) {
		t.Errorf("%v, %v", got, e)
	}
}

func TestNewMemory(t *testing.T) {
	l := some()
	q := api.Query{Terms: []api.Term{count()}, To: 100, By: []string{"a", "b"}}
	folded, _ := group.Fold(schema(), q, l)
	told, _ := group.Finish(schema(), q, folded)
	want := rows.Copy(folded)
	for i := range told {
		told[i].By[0], told[i].Terms[0] = "changed", 99
	}
	if !rows.Same(folded, want) {
		t.Error("Finish shares")
	}
	for i := range folded {
		folded[i].Dims[0], folded[i].Aggs[0].Sum = "changed", 99
	}
	if !rows.Same(l, some()) {
		t.Error("Fold shares")
	}
}

// TestOtherQueriesEnd: of queries that are not typed nothing is said, but that the calls end.
func TestOtherQueriesEnd(t *testing.T) {
	for _, q := range []api.Query{{}, {Terms: []api.Term{{Func: 9}, {Func: -1}, term(api.Sum, "q")}, To: 9, Order: 7}, {To: 9, Order: -1 << 63, Limit: -1}, {To: 9, By: []string{"q", ""}, Every: -5}, {To: 9, Where: api.Filter{Op: 9}}} {
		group.Run(schema(), q, some())
		group.Finish(schema(), q, []api.Row{{}, {Time: -1}})
		group.Fold(schema(), q, []api.Row{{}, {Time: -1}})
	}
}

// TestInParts: the groups of rows in any parts, folded together, are the groups of all; and they are what is told row by row.
func TestInParts(t *testing.T) {
	r := rand.New(rand.NewSource(1))
	s := schema()
	for range 500 {
		var l []api.Row
		for range r.Intn(40) {
			l = append(l, row(r.Intn(30), string("xy"[r.Intn(2)])+","+strings.Repeat("p", r.Intn(3)), 1+r.Intn(3), r.Intn(20)-10))
		}
		q := api.Query{Terms: []api.Term{count(), term(api.Sum, "m"), term(api.Max, "n")}, From: r.Intn(10), To: 10 + r.Intn(30), Every: r.Intn(8), By: [][]string{nil, {"a"}, {"b", "a"}}[r.Intn(3)], Order: r.Intn(7) - 3, Limit: r.Intn(4)}
		if r.Intn(2) == 0 {
			q.Where = api.Filter{Op: api.Is, Dim: "a", Value: "x"}
		}
		if r.Intn(3) == 0 {
			q.Having = []api.Having{{Sign: 1, Value: r.Intn(5)}}
		}
		want, e := group.Run(s, q, l)
		k := r.Intn(len(l) + 1)
		a, f := group.Fold(s, q, l[:k])
		b, h := group.Fold(s, q, l[k:])
		got, i := group.Finish(s, q, slices.Concat(a, b))
		turned, j := group.Finish(s, q, slices.Concat(b, a))
		if e != api.OK || f != api.OK || h != api.OK || i != api.OK || j != api.OK || !group.Same(got, want) || !group.Same(turned, want) || !group.Same(want, slowly(q, l)) {
			t.Fatalf("%v of %v: %v, %v, %v", q, l, got, want, slowly(q, l))
		}
	}
}

// slowly is what a query of TestInParts tells, row by row.
func slowly(q api.Query, l []api.Row) []api.Group {
	var out []api.Group
	for _, r := range l {
		if r.Time < q.From || r.Time >= q.To || q.Where.Op == api.Is && r.Dims[0] != "x" {
			continue
		}
		x := api.Group{Time: q.From, Terms: []int{r.Count, r.Aggs[0].Sum, r.Aggs[1].Max}}
		if q.Every > 0 {
			x.Time = r.Time / q.Every * q.Every
		}
		for _, name := range q.By {
			x.By = append(x.By, r.Dims[strings.Index("ab", name)])
		}
		i := slices.IndexFunc(out, func(y api.Group) bool { return y.Time == x.Time && slices.Equal(y.By, x.By) })
		if i < 0 {
			out = append(out, x)
			continue
		}
		out[i].Terms = []int{out[i].Terms[0] + x.Terms[0], out[i].Terms[1] + x.Terms[1], max(out[i].Terms[2], x.Terms[2])}
	}
	out = slices.DeleteFunc(out, func(y api.Group) bool { return len(q.Having) > 0 && y.Terms[0] <= q.Having[0].Value })
	slices.SortFunc(out, func(x, y api.Group) int {
		first := 0
		if q.Order > 0 {
			first = cmp.Compare(x.Terms[q.Order-1], y.Terms[q.Order-1])
		} else if q.Order < 0 {
			first = cmp.Compare(y.Terms[-q.Order-1], x.Terms[-q.Order-1])
		}
		return cmp.Or(first, cmp.Compare(x.Time, y.Time), slices.Compare(x.By, y.By))
	})
	if q.Limit > 0 && len(out) > q.Limit {
		out = out[:q.Limit]
	}
	return out
}
