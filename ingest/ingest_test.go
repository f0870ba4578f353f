package ingest_test

import (
	"math"
	"math/rand"
	"slices"
	"strings"
	"testing"

	"columbary/api"
	"columbary/bucket"
	"columbary/ingest"
	"columbary/rows"
)

const most = api.MaxInt

func schema() api.Schema {
	return api.Schema{Dims: []string{"a", "b"}, Metrics: []string{"m", "n"}}
}

func event(time int, dims string, metrics ...int) api.Event {
	return api.Event{Time: time, Dims: strings.Split(dims, ","), Metrics: metrics}
}

func agg(sum, least, greatest int) api.Agg { return api.Agg{Sum: sum, Min: least, Max: greatest} }

func row(time int, dims string, count int, aggs ...api.Agg) api.Row {
	return api.Row{Time: time, Dims: strings.Split(dims, ","), Count: count, Aggs: aggs}
}

func of(t *testing.T, gran int) *ingest.Index {
	t.Helper()
	x, e := ingest.New(schema(), gran)
	if x == nil || e != api.OK {
		t.Fatal(e)
	}
	return x
}

// bad are events that do not go with the schema, and why.
func bad() map[api.Errno][]api.Event {
	return map[api.Errno][]api.Event{
		api.ErrSchema: {event(1, "x", 1, 2), event(1, "x,y,z", 1, 2), event(1, "x,y", 1), event(1, "x,y", 1, 2, 3), event(-1, "x", 1, 2)},
		api.ErrValue:  {event(1, "x,\"", 1, 2), event(1, "x,y", 1, most+1), event(1, "x,y", -most-1, 1), event(-1, "x,y", 1, math.MinInt)},
		api.ErrTime:   {event(-1, "x,y", 1, 2), event(api.MaxTime+1, "x,y", 1, 2)},
	}
}

func same(a, b api.Budget) bool { return a.Count == b.Count && slices.Equal(a.Sizes, b.Sizes) }

func TestCharge(t *testing.T) {
	for i, x := range []struct {
		b    api.Budget
		e    api.Event
		want api.Budget
	}{
		{api.Budget{Sizes: []int{0, 0}}, event(1, "x,y", 5, -7), api.Budget{Count: 1, Sizes: []int{5, 7}}},
		{api.Budget{Count: 3, Sizes: []int{5, 7}}, event(1, "x,y", -5, 0), api.Budget{Count: 4, Sizes: []int{10, 7}}},
		{api.Budget{Count: api.MaxCount - 1, Sizes: []int{most - 5, most}}, event(api.MaxTime, ",", 5, 0), api.Budget{Count: api.MaxCount, Sizes: []int{most, most}}},
		{api.Budget{Sizes: []int{0, 0}}, event(0, "x,y", most, -most), api.Budget{Count: 1, Sizes: []int{most, most}}},
	} {
		sizes := slices.Clone(x.b.Sizes)
		b, e := ingest.Charge(schema(), x.b, x.e)
		if e != api.OK || !same(b, x.want) || !slices.Equal(x.b.Sizes, sizes) {
			t.Errorf("%d: %v, %v", i, b, e)
		}
		b.Sizes[0] = -1
		if !slices.Equal(x.b.Sizes, sizes) {
			t.Errorf("%d: shared", i)
		}
	}
	if b, e := ingest.Charge(api.Schema{Dims: []string{"a"}}, api.Budget{Count: 5}, event(1, "x")); e != api.OK || b.Count != 6 || len(b.Sizes) != 0 {
		t.Errorf("no metrics: %v, %v", b, e)
	}
}

func TestChargeWrong(t *testing.T) {
	ok := event(1, "x,y", 5, -7)
	for i, x := range []struct {
		b api.Budget
		e api.Event
	}{
		{api.Budget{}, ok}, {api.Budget{Sizes: []int{1}}, ok}, {api.Budget{Sizes: []int{1, 2, 3}}, ok}, {api.Budget{Sizes: []int{-1, 2}}, ok}, {api.Budget{Sizes: []int{0, -1}}, ok}, {api.Budget{Sizes: []int{math.MinInt, 0}}, ok},
		{api.Budget{Count: -1, Sizes: []int{0, 0}}, ok}, {api.Budget{Count: math.MinInt, Sizes: []int{0, 0}}, ok}, {api.Budget{Count: api.MaxCount, Sizes: []int{0, 0}}, ok}, {api.Budget{Count: math.MaxInt, Sizes: []int{0, 0}}, ok},
		{api.Budget{Sizes: []int{most - 4, 0}}, ok}, {api.Budget{Sizes: []int{0, most - 6}}, ok}, {api.Budget{Sizes: []int{math.MaxInt, 0}}, ok}, {api.Budget{Sizes: []int{most + 1, 0}}, event(1, "x,y", 0, 0)}, {api.Budget{Sizes: []int{most, 1}}, event(1, "x,y", 0, -most)},
	} {
		if b, e := ingest.Charge(schema(), x.b, x.e); e != api.ErrBudget || b.Count != 0 || len(b.Sizes) != 0 {
			t.Errorf("%d: %v, %v", i, b, e)
		}
	}
	for want, l := range bad() {
		for i, x := range l {
			for _, b := range []api.Budget{{Sizes: []int{0, 0}}, {Count: -1}} {
				if b, e := ingest.Charge(schema(), b, x); e != want || b.Count != 0 || len(b.Sizes) != 0 {
					t.Errorf("%v, %d: %v, %v", want, i, b, e)
				}
			}
		}
	}
}

func TestNew(t *testing.T) {
	for _, g := range []int{1, api.MaxGran} {
		if x := of(t, g); x.Len() != 0 || x.Count() != 0 || len(x.Rows()) != 0 {
			t.Errorf("%d", g)
		}
	}
	for _, g := range []int{0, -1, api.MaxGran + 1, math.MinInt, math.MaxInt} {
		if x, e := ingest.New(schema(), g); x != nil || e != api.ErrGran {
			t.Errorf("%d: %v", g, e)
		}
		if x, e := ingest.New(api.Schema{Metrics: []string{"m"}}, g); x != nil || e != api.ErrSchema {
			t.Errorf("%d: %v", g, e)
		}
	}
	if x, e := ingest.New(api.Schema{Dims: []string{"a"}, Metrics: []string{"a"}}, 1); x != nil || e != api.ErrSchema {
		t.Error(e)
	}
}

func TestAdd(t *testing.T) {
	x := of(t, 5)
	for i, e := range []api.Event{event(7, "x,y", 1, -1), event(3, "x,y", 2, -2), event(9, "x,y", 3, 5), event(5, ",", 4, 4), event(5, "xy,", 5, 5), event(5, "x,y", 10, 0)} {
		if bad := x.Add(e); bad != api.OK || x.Count() != i+1 {
			t.Fatalf("%d: %v", i, bad)
		}
	}
	want := []api.Row{row(0, "x,y", 1, agg(2, 2, 2), agg(-2, -2, -2)), row(5, ",", 1, agg(4, 4, 4), agg(4, 4, 4)), row(5, "x,y", 3, agg(14, 1, 10), agg(4, -1, 5)), row(5, "xy,", 1, agg(5, 5, 5), agg(5, 5, 5))}
	if got := x.Rows(); !rows.Same(got, want) || x.Len() != 4 {
		t.Errorf("%v", got)
	}
	for want, l := range bad() {
		for i, e := range l {
			if got := x.Add(e); got != want || x.Count() != 6 || x.Len() != 4 {
				t.Errorf("%v, %d: %v", want, i, got)
			}
		}
	}
	if !rows.Same(x.Rows(), want) {
		t.Error("changed")
	}
}

func TestAddTooMuch(t *testing.T) {
	x := of(t, 10)
	if e := x.Add(event(1, "x,y", most, -most)); e != api.OK {
		t.Fatal(e)
	}
	for i, e := range []api.Event{event(2, "x,y", 1, 0), event(2, "x,y", 0, -1), event(2, "x,y", most, 0)} {
		if got := x.Add(e); got != api.ErrOver || x.Count() != 1 || !rows.Same(x.Rows(), []api.Row{row(0, "x,y", 1, agg(most, most, most), agg(-most, -most, -most))}) {
			t.Errorf("%d: %v, %v", i, got, x.Rows())
		}
	}
	if e := x.Add(event(2, "x,z", most, 0)); e != api.OK || x.Len() != 2 {
		t.Error(e)
	}
	if e := x.Add(event(11, "x,y", most, 0)); e != api.OK || x.Len() != 3 {
		t.Error(e)
	}
}

func TestMostEvents(t *testing.T) {
	x, _ := ingest.New(api.Schema{Dims: []string{"a"}}, 1)
	for range api.MaxCount {
		x.Add(event(0, "x"))
	}
	if e := x.Add(event(0, "x")); e != api.ErrOver || x.Count() != api.MaxCount || x.Rows()[0].Count != api.MaxCount {
		t.Errorf("%v, %d", e, x.Count())
	}
}

func TestKeysDoNotMeet(t *testing.T) {
	x, _ := ingest.New(api.Schema{Dims: []string{"a", "b", "c"}}, 1)
	l := []api.Event{event(1, "1,,"), event(11, ",,"), event(1, ",1,"), event(1, ",,1"), event(1, "1 ,,"), event(1, "1, ,"), event(1, "1,|,"), event(1, "1|,,"), event(1, "a,bc,d"), event(1, "ab,c,d"), event(1, "a,b,cd"), event(1, "a:b,c,d"), event(1, "a,b:c,d")}
	for _, e := range l {
		x.Add(e)
	}
	if x.Len() != len(l) {
		t.Errorf("%v", x.Rows())
	}
}

func TestCopy(t *testing.T) {
	x := of(t, 1)
	x.Add(event(1, "x,y", 5, 5))
	c := x.Copy()
	want := x.Rows()
	x.Add(event(1, "x,y", 7, 7))
	x.Add(event(2, "x,y", 7, 7))
	if c.Count() != 1 || c.Len() != 1 || !rows.Same(c.Rows(), want) {
		t.Errorf("%v", c.Rows())
	}
	c.Add(event(1, "x,y", -5, 0))
	c.Add(event(9, "x,y", 0, 0))
	if x.Count() != 3 || x.Len() != 2 || !rows.Same(x.Rows(), []api.Row{row(1, "x,y", 2, agg(12, 5, 7), agg(12, 5, 7)), row(2, "x,y", 1, agg(7, 7, 7), agg(7, 7, 7))}) {
		t.Errorf("%v", x.Rows())
	}
	if c.Count() != 3 || !rows.Same(c.Rows(), []api.Row{row(1, "x,y", 2, agg(0, -5, 5), agg(5, 0, 5)), row(9, "x,y", 1, agg(0, 0, 0), agg(0, 0, 0))}) {
		t.Errorf("%v", c.Rows())
	}
}

func TestNewMemory(t *testing.T) {
	s := schema()
	x, _ := ingest.New(s, 1)
	s.Dims, s.Metrics[0] = nil, "q"
	e := event(1, "x,y", 5, 5)
	x.Add(e)
	e.Dims[0], e.Metrics[0] = "q", 99
	got := x.Rows()
	got[0].Dims[1], got[0].Aggs[0].Sum = "q", 77
	if !rows.Same(x.Rows(), []api.Row{row(1, "x,y", 1, agg(5, 5, 5), agg(5, 5, 5))}) {
		t.Errorf("%v", x.Rows())
	}
}

func TestNilIndex(t *testing.T) {
	var x *ingest.Index
	if x.Add(event(1, "x,y", 1, 2)) != api.ErrArg || x.Add(api.Event{}) != api.ErrArg || len(x.Rows()) != 0 || x.Len() != 0 || x.Count() != 0 || x.Copy() != nil {
		t.Error("it tells something")
	}
}

// TestInAnyOrder: events within a budget may be added in any order; none is ever too much.
func TestInAnyOrder(t *testing.T) {
	r := rand.New(rand.NewSource(1))
	for range 200 {
		b := api.Budget{Sizes: []int{0, 0}}
		var l []api.Event
		var all []api.Row
		gran := 1 + r.Intn(7)
		for range 60 {
			e := event(r.Intn(10), string("xy"[r.Intn(2)])+","+strings.Repeat("z", r.Intn(2)), (r.Intn(most)-most/2)>>r.Intn(62), (r.Intn(most)-most/2)>>r.Intn(62))
			next, bad := ingest.Charge(schema(), b, e)
			if bad == api.ErrBudget {
				continue
			}
			b, l = next, append(l, e)
			x, _ := rows.Of(schema(), e)
			x.Time, _ = bucket.Floor(e.Time, gran)
			all = append(all, x)
		}
		want, e := rows.Fold(all)
		if e != api.OK || b.Count != len(l) {
			t.Fatalf("%v: %v", all, e)
		}
		for range 3 {
			r.Shuffle(len(l), func(i, j int) { l[i], l[j] = l[j], l[i] })
			x := of(t, gran)
			for _, e := range l {
				if bad := x.Add(e); bad != api.OK {
					t.Fatalf("%v: %v", l, bad)
				}
			}
			if !rows.Same(x.Rows(), want) || x.Len() != len(want) || x.Count() != len(l) {
				t.Fatalf("%v: %v", l, x.Rows())
			}
		}
	}
}
