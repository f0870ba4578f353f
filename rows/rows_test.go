package rows_test

import (
	"math"
	"math/rand"
	"slices"
	"strings"
	"testing"

	"columbary/api"
	"columbary/rows"
)

const most = api.MaxInt

func schema() api.Schema {
	return api.Schema{Dims: []string{"a", "b"}, Metrics: []string{"m"}}
}

func agg(sum, least, greatest int) api.Agg { return api.Agg{Sum: sum, Min: least, Max: greatest} }

// row is one with the values of a text, parted by commas, and aggs of the metric.
func row(time int, dims string, count int, aggs ...api.Agg) api.Row {
	return api.Row{Time: time, Dims: strings.Split(dims, ","), Count: count, Aggs: aggs}
}

func one(time int, dims string, n int) api.Row { return row(time, dims, 1, agg(n, n, n)) }

func some(r *rand.Rand, n int) []api.Row {
	l := make([]api.Row, r.Intn(n))
	for i := range l {
		a, b := r.Intn(100)-50, r.Intn(100)-50
		l[i] = row(r.Intn(3), strings.Repeat("x", r.Intn(3))+","+strings.Repeat("y", r.Intn(2)), 1+r.Intn(9), agg(r.Intn(999)-500, min(a, b), max(a, b)))
	}
	return l
}

func TestRight(t *testing.T) {
	ok := agg(1, 1, 1)
	for _, r := range []api.Row{row(0, ",", 1, ok), row(api.MaxTime, "x,y", api.MaxCount, agg(most, -most, most)), row(5, strings.Repeat("x", api.MaxText)+", ~", 7, ok)} {
		if !rows.Right(schema(), r) {
			t.Errorf("%v is right", r)
		}
	}
	for _, r := range []api.Row{
		{}, row(-1, "x,y", 1, ok), row(api.MaxTime+1, "x,y", 1, ok), row(0, "x", 1, ok), row(0, "x,y,z", 1, ok), row(0, "x,y", 0, ok), row(0, "x,y", -1, ok), row(0, "x,y", api.MaxCount+1, ok),
		row(0, "x,y", 1), row(0, "x,y", 1, ok, ok), row(0, "x,y", 1, agg(0, 1, 0)), row(0, "x,y", 1, agg(most+1, 0, 0)), row(0, "\",y", 1, ok), row(0, "x,\n", 1, ok), row(0, strings.Repeat("x", api.MaxText+1)+",", 1, ok),
		row(math.MinInt, "x,y", 1, ok), row(0, "x,y", math.MaxInt, ok),
	} {
		if rows.Right(schema(), r) {
			t.Errorf("%v is not right", r)
		}
	}
	if !rows.Right(api.Schema{}, api.Row{Count: 1}) || !rows.Right(api.Schema{Metrics: []string{"m"}}, api.Row{Count: 1, Aggs: []api.Agg{ok}}) {
		t.Error("no dimension")
	}
}

func TestOf(t *testing.T) {
	e := api.Event{Time: 7, Dims: []string{"x", ""}, Metrics: []int{-5}}
	r, bad := rows.Of(schema(), e)
	if bad != api.OK || !rows.Same([]api.Row{r}, []api.Row{one(7, "x,", -5)}) || !rows.Right(schema(), r) {
		t.Errorf("%v, %v", r, bad)
	}
	e.Dims[0], r.Dims[1] = "z", "w"
	if r.Dims[0] != "x" || e.Dims[1] != "" {
		t.Error("shared")
	}
	for i, x := range []struct {
		e    api.Event
		want api.Errno
	}{
		{api.Event{Dims: []string{"x"}, Metrics: []int{1}}, api.ErrSchema}, {api.Event{Dims: []string{"x", "y"}}, api.ErrSchema}, {api.Event{Time: -1, Dims: []string{"x", "\n"}, Metrics: []int{1}}, api.ErrValue},
		{api.Event{Dims: []string{"x", "y"}, Metrics: []int{most + 1}}, api.ErrValue}, {api.Event{Time: -1, Dims: []string{"x", "y"}, Metrics: []int{1}}, api.ErrTime}, {api.Event{Time: api.MaxTime + 1, Dims: []string{"x", "y"}, Metrics: []int{1}}, api.ErrTime},
	} {
		r, e := rows.Of(schema(), x.e)
		if e != x.want || r.Time != 0 || len(r.Dims) != 0 || r.Count != 0 || len(r.Aggs) != 0 {
			t.Errorf("%d: %v, %v", i, r, e)
		}
	}
}

func TestCompare(t *testing.T) {
	l := []api.Row{one(0, ",", 1), one(0, ",a", 1), one(0, "a,", 1), one(0, "a,b", 1), one(0, "a,ba", 1), one(0, "aa,a", 1), one(0, "b,", 1), one(0, "~,", 1), one(1, ",", 1), one(9, "a,b", 1), one(10, "a,a", 1)}
	for i, a := range l {
		for j, b := range l {
			want := 0
			if i < j {
				want = -1
			} else if i > j {
				want = 1
			}
			b.Count, b.Aggs = 7, nil
			if rows.Compare(a, b) != want {
				t.Errorf("%v, %v: %d", a, b, rows.Compare(a, b))
			}
		}
	}
}

func TestJoin(t *testing.T) {
	r, e := rows.Join(row(3, "x,y", 4, agg(10, -2, 6)), row(3, "x,y", 5, agg(-1, -3, 5)))
	if e != api.OK || !rows.Same([]api.Row{r}, []api.Row{row(3, "x,y", 9, agg(9, -3, 6))}) {
		t.Errorf("%v, %v", r, e)
	}
	r, e = rows.Join(row(3, "x,y", api.MaxCount-1, agg(most-1, 1, 1)), one(3, "x,y", 1))
	if e != api.OK || r.Count != api.MaxCount || r.Aggs[0].Sum != most {
		t.Errorf("the most: %v, %v", r, e)
	}
	for i, x := range []struct {
		a, b api.Row
		e    api.Errno
	}{
		{one(3, "x,y", 1), one(4, "x,y", 1), api.ErrRow}, {one(3, "x,y", 1), one(3, "x,z", 1), api.ErrRow}, {one(3, ",y", 1), one(3, "y,", 1), api.ErrRow}, {row(3, "x,y", api.MaxCount, agg(0, 0, 0)), row(4, "x,y", api.MaxCount, agg(0, 0, 0)), api.ErrRow},
		{row(3, "x,y", api.MaxCount, agg(0, 0, 0)), one(3, "x,y", 1), api.ErrOver}, {one(3, "x,y", most), one(3, "x,y", 1), api.ErrOver}, {one(3, "x,y", -most), one(3, "x,y", -1), api.ErrOver},
	} {
		for range 2 {
			if r, e := rows.Join(x.a, x.b); e != x.e || r.Count != 0 || len(r.Dims) != 0 || len(r.Aggs) != 0 || r.Time != 0 {
				t.Errorf("%d: %v, %v", i, r, e)
			}
			x.a, x.b = x.b, x.a
		}
	}
}

func TestFold(t *testing.T) {
	l := []api.Row{one(5, "b,", 1), one(3, "a,", 2), one(5, "a,", 3), one(5, "b,", -4), row(3, "a,", 6, agg(9, 1, 8)), one(5, "b,", 0)}
	given := rows.Copy(l)
	got, e := rows.Fold(l)
	want := []api.Row{row(3, "a,", 7, agg(11, 1, 8)), one(5, "a,", 3), row(5, "b,", 3, agg(-3, -4, 1))}
	if e != api.OK || !rows.Same(got, want) || !rows.Same(l, given) {
		t.Errorf("%v, %v", got, e)
	}
	if got, e := rows.Fold(nil); len(got) != 0 || e != api.OK {
		t.Errorf("of nothing: %v, %v", got, e)
	}
}

func TestFoldTooMuch(t *testing.T) {
	for i, l := range [][]api.Row{
		{row(1, "a,", api.MaxCount, agg(0, 0, 0)), one(0, "a,", 0), one(1, "a,", 0)}, {one(1, "a,", most), one(2, "a,", 1), one(1, "a,", 1)},
		{one(1, "a,", most), one(1, "a,", 1), one(1, "a,", -1)}, {one(1, "a,", -most), one(1, "a,", -1), one(1, "a,", 1)},
	} {
		if got, e := rows.Fold(l); len(got) != 0 || e != api.ErrOver {
			t.Errorf("%d: %v, %v", i, got, e)
		}
	}
	// In the list's order this one is never too much.
	got, e := rows.Fold([]api.Row{one(1, "a,", most), one(0, "a,", 7), one(1, "a,", -1), one(1, "a,", 1)})
	if e != api.OK || !rows.Same(got, []api.Row{one(0, "a,", 7), row(1, "a,", 3, agg(most, -1, most))}) {
		t.Errorf("%v, %v", got, e)
	}
}

// TestFoldKeepsTheOrderOfOneKey: of many rows of one key any other order is too much.
func TestFoldKeepsTheOrderOfOneKey(t *testing.T) {
	var l []api.Row
	for i := range 40 {
		n := most
		if i%2 == 1 {
			n = -most
		}
		l = append(l, one(0, "a,", n), one(1+i, "b,", i))
	}
	got, e := rows.Fold(l)
	if e != api.OK || len(got) != 41 || got[0].Count != 40 || got[0].Aggs[0] != agg(0, -most, most) {
		t.Errorf("%d, %v", len(got), e)
	}
}

func TestSorted(t *testing.T) {
	for _, l := range [][]api.Row{nil, {one(5, "a,", 1)}, {one(1, "b,", 1), one(2, "a,", 1)}, {one(1, "a,", 1), one(1, "a,a", 1), one(1, "b,", 1)}} {
		if !rows.Sorted(l) {
			t.Errorf("%v is sorted", l)
		}
	}
	for _, l := range [][]api.Row{{one(2, "a,", 1), one(1, "b,", 1)}, {one(1, "a,", 1), one(1, "a,", 2)}, {one(1, "b,", 1), one(1, "a,z", 1)}, {one(1, "a,", 1), one(3, "a,", 1), one(2, "a,", 1)}, {one(1, "a,b", 1), one(1, "a,", 1)}} {
		if rows.Sorted(l) {
			t.Errorf("%v is not sorted", l)
		}
	}
}

func TestSame(t *testing.T) {
	a := []api.Row{one(1, "a,b", 5), one(2, "a,b", 6)}
	if !rows.Same(a, rows.Copy(a)) || !rows.Same(nil, []api.Row{}) || rows.Same(a, a[:1]) || rows.Same(a[:1], a) || rows.Same(nil, a) || rows.Same(a, []api.Row{a[1], a[0]}) {
		t.Error("lists")
	}
	for i, r := range []api.Row{one(2, "a,b", 5), one(1, "x,b", 5), one(1, "a,x", 5), one(1, "a", 5), row(1, "a,b", 2, agg(5, 5, 5)), row(1, "a,b", 1, agg(4, 5, 5)), row(1, "a,b", 1, agg(5, 4, 5)), row(1, "a,b", 1, agg(5, 5, 6)), row(1, "a,b", 1), row(1, "a,b", 1, agg(5, 5, 5), agg(5, 5, 5))} {
		if rows.Same([]api.Row{r, a[1]}, a) || rows.Same([]api.Row{a[1], r}, []api.Row{a[1], a[0]}) {
			t.Errorf("%d", i)
		}
	}
}

func TestNewMemory(t *testing.T) {
	l := []api.Row{one(1, "a,b", 5), one(2, "a,b", 6), one(2, "a,b", 7)}
	folded, _ := rows.Fold(l)
	joined, _ := rows.Join(l[1], l[2])
	for _, x := range [][]api.Row{rows.Copy(l), folded, {joined}} {
		for _, r := range x {
			r.Dims[0], r.Aggs[0] = "changed", agg(0, 0, 0)
		}
		x[0] = api.Row{}
	}
	if !rows.Same(l, []api.Row{one(1, "a,b", 5), one(2, "a,b", 6), one(2, "a,b", 7)}) {
		t.Errorf("%v", l)
	}
	c := rows.Copy(l)
	if !rows.Same(c, l) || len(rows.Copy(nil)) != 0 {
		t.Errorf("%v", c)
	}
	l[0].Dims[0] = "z"
	if c[0].Dims[0] != "a" {
		t.Error("shared")
	}
}

// TestFoldedOnce: what is folded is sorted, and folds to itself; what two parts fold to, folded together, is what all folds to.
func TestFoldedOnce(t *testing.T) {
	r := rand.New(rand.NewSource(1))
	for range 1000 {
		l := some(r, 40)
		all, e := rows.Fold(l)
		again, f := rows.Fold(all)
		if e != api.OK || f != api.OK || !rows.Sorted(all) || !rows.Same(again, all) {
			t.Fatalf("%v: %v", l, all)
		}
		count, sum := 0, 0
		for _, x := range l {
			count, sum = count+x.Count, sum+x.Aggs[0].Sum
		}
		for _, x := range all {
			count, sum = count-x.Count, sum-x.Aggs[0].Sum
		}
		if count != 0 || sum != 0 {
			t.Fatalf("%v: %v", l, all)
		}
		k := r.Intn(len(l) + 1)
		a, _ := rows.Fold(l[:k])
		b, _ := rows.Fold(l[k:])
		parts, e := rows.Fold(slices.Concat(a, b))
		turned, f := rows.Fold(slices.Concat(b, a))
		if e != api.OK || f != api.OK || !rows.Same(parts, all) || !rows.Same(turned, all) {
			t.Fatalf("%v at %d: %v", l, k, parts)
		}
	}
}
