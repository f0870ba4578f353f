package typer_test

import (
	"math"
	"math/rand"
	"slices"
	"strings"
	"testing"

	"columbary/api"
	"columbary/typer"
)

func schema() api.Schema {
	return api.Schema{Dims: []string{"a", "b", "c"}, Metrics: []string{"m", "n"}}
}

func is(dim, value string) api.Filter { return api.Filter{Op: api.Is, Dim: dim, Value: value} }
func null(dim string) api.Filter      { return api.Filter{Op: api.IsNull, Dim: dim} }
func op(o api.FilterOp, l ...api.Filter) api.Filter {
	return api.Filter{Op: o, Kids: l}
}

func term(f api.Func, metric string) api.Term { return api.Term{Func: f, Metric: metric} }

// usual is a typed query that has something of all.
func usual() api.Query {
	return api.Query{
		Terms: []api.Term{{Func: api.Count}, term(api.Sum, "m"), term(api.Min, "n"), term(api.Max, "n")}, From: 10, To: 90, Every: 5, By: []string{"c", "a"},
		Where:  op(api.Or, is("a", "x"), op(api.And, op(api.Not, null("b")), is("c", ""))),
		Having: []api.Having{{Term: term(api.Sum, "n"), Sign: -1, Value: 7}, {Sign: 1, Value: -3}}, Order: -2, Limit: 10,
	}
}

func deep(n int) api.Filter {
	f := is("a", "x")
	for range n - 1 {
		f = op(api.Not, f)
	}
	return f
}

func TestTyped(t *testing.T) {
	for i, change := range []func(q *api.Query){
		func(q *api.Query) {}, func(q *api.Query) { q.Where = api.Filter{} }, func(q *api.Query) { q.Where = deep(30) }, func(q *api.Query) { q.Terms, q.Order = slices.Repeat(q.Terms, 2), 8 }, func(q *api.Query) { q.Terms, q.Order = q.Terms[:1], -1 },
		func(q *api.Query) { q.Having = slices.Repeat(q.Having, 4) }, func(q *api.Query) { q.Having = nil }, func(q *api.Query) { q.Having[0].Value, q.Having[1].Value = api.MaxInt, -api.MaxInt }, func(q *api.Query) { q.Having[0].Sign = 0 }, func(q *api.Query) { q.By = nil }, func(q *api.Query) { q.By = []string{"c", "b", "a"} },
		func(q *api.Query) { q.From, q.To = 0, 1 }, func(q *api.Query) { q.From, q.To = api.MaxTime-1, api.MaxTime }, func(q *api.Query) { q.Every = 0 }, func(q *api.Query) { q.Every = api.MaxGran }, func(q *api.Query) { q.Every = 1 }, func(q *api.Query) { q.Order, q.Limit = 0, 0 },
		func(q *api.Query) { q.Order, q.Limit = 4, 1000 }, func(q *api.Query) { q.Order = -4 }, func(q *api.Query) { q.Where = is("b", strings.Repeat("x", api.MaxText)) }, func(q *api.Query) { q.Where = op(api.And, slices.Repeat([]api.Filter{null("a")}, 50)...) },
	} {
		q := usual()
		change(&q)
		if e := typer.Check(schema(), q); e != api.OK {
			t.Errorf("%d: %v", i, e)
		}
	}
	six := []string{"a", "b", "c", "d", "e", "f"}
	if e := typer.Check(api.Schema{Dims: six}, api.Query{Terms: []api.Term{{}}, To: 1, By: six}); e != api.OK {
		t.Errorf("six names: %v", e)
	}
	if e := typer.Check(api.Schema{}, api.Query{Terms: []api.Term{{}}, To: 1}); e != api.OK {
		t.Errorf("no dimension: %v", e)
	}
}

func syntax() []func(q *api.Query) {
	x := is("a", "x")
	list := []func(q *api.Query){
		func(q *api.Query) { q.Terms, q.Order = nil, 0 }, func(q *api.Query) { q.Terms = append(slices.Repeat(q.Terms, 2), q.Terms[0]) }, func(q *api.Query) { q.By = []string{"a", "b", "c", "d", "e", "f", "g"} }, func(q *api.Query) { q.Having = append(slices.Repeat(q.Having, 4), q.Having[0]) },
		func(q *api.Query) { q.Terms[0].Metric = "m" }, func(q *api.Query) { q.Terms[1].Metric = "" }, func(q *api.Query) { q.Terms[2].Metric = "" }, func(q *api.Query) { q.Terms[3].Metric = "" }, func(q *api.Query) { q.Terms[1].Func = 4 }, func(q *api.Query) { q.Terms[1].Func = -1 },
		func(q *api.Query) { q.Having[1].Term.Metric = "m" }, func(q *api.Query) { q.Having[0].Term.Metric = "" }, func(q *api.Query) { q.Having[0].Term.Func = 9 }, func(q *api.Query) { q.Having[0].Sign = 2 }, func(q *api.Query) { q.Having[0].Sign = -2 }, func(q *api.Query) { q.Having[1].Value = api.MaxInt + 1 }, func(q *api.Query) { q.Having[1].Value = math.MinInt },
	}
	for _, f := range []api.Filter{
		deep(31), deep(200), {Op: 6}, {Op: -1}, op(api.Not), op(api.Not, x, x), op(api.And), op(api.And, x), op(api.Or), op(api.Or, x), op(api.All, x), op(api.Not, api.Filter{}), op(api.And, x, api.Filter{}), op(api.Or, api.Filter{}, x), op(api.Not, op(api.Or, x, op(api.Not, op(api.All)))),
		{Op: api.Is, Dim: "a", Value: "x", Kids: []api.Filter{x}}, {Op: api.IsNull, Dim: "a", Kids: []api.Filter{x}}, {Op: api.IsNull, Dim: "a", Value: "x"}, {Dim: "a"}, {Value: "x"}, {Op: api.Not, Dim: "a", Kids: []api.Filter{x}}, {Op: api.Not, Value: "a", Kids: []api.Filter{x}},
		{Op: api.And, Dim: "a", Kids: []api.Filter{x, x}}, {Op: api.And, Value: "a", Kids: []api.Filter{x, x}}, {Op: api.Or, Dim: "a", Kids: []api.Filter{x, x}}, {Op: api.Or, Value: "x", Kids: []api.Filter{x, x}}, op(api.And, x, op(api.Or, x, op(api.And, x))),
	} {
		list = append(list, func(q *api.Query) { q.Where = f })
	}
	return list
}

func names() []func(q *api.Query) {
	return []func(q *api.Query){
		func(q *api.Query) { q.By[0] = "d" }, func(q *api.Query) { q.By[1] = "m" }, func(q *api.Query) { q.By[0] = "" }, func(q *api.Query) { q.Where = is("d", "x") }, func(q *api.Query) { q.Where = is("", "x") }, func(q *api.Query) { q.Where = null("m") }, func(q *api.Query) { q.Where = op(api.Not, op(api.And, is("a", "x"), null("q"))) },
		func(q *api.Query) { q.Terms[1].Metric = "a" }, func(q *api.Query) { q.Terms[3].Metric = "o" }, func(q *api.Query) { q.Terms[2].Metric = "A" }, func(q *api.Query) { q.Having[0].Term.Metric = "b" }, func(q *api.Query) { q.Having[0].Term = term(api.Max, "o") }, func(q *api.Query) { q.By = []string{"d", "d"} },
	}
}

func types() []func(q *api.Query) {
	return []func(q *api.Query){
		func(q *api.Query) { q.By = []string{"a", "a"} }, func(q *api.Query) { q.By = []string{"a", "b", "a"} }, func(q *api.Query) { q.Where = is("a", "\"") }, func(q *api.Query) { q.Where = op(api.Not, is("a", "\n")) }, func(q *api.Query) { q.Where = is("a", strings.Repeat("x", api.MaxText+1)) },
		func(q *api.Query) { q.From = -1 }, func(q *api.Query) { q.From = q.To }, func(q *api.Query) { q.From = q.To + 1 }, func(q *api.Query) { q.To = api.MaxTime + 1 }, func(q *api.Query) { q.From, q.To = math.MinInt, math.MaxInt }, func(q *api.Query) { q.Every = -1 }, func(q *api.Query) { q.Every = api.MaxGran + 1 }, func(q *api.Query) { q.Every = math.MinInt },
		func(q *api.Query) { q.Order = 5 }, func(q *api.Query) { q.Order = -5 }, func(q *api.Query) { q.Order = math.MinInt }, func(q *api.Query) { q.Order = math.MaxInt }, func(q *api.Query) { q.Limit = -1 }, func(q *api.Query) { q.Limit = 1001 }, func(q *api.Query) { q.Limit = math.MinInt },
	}
}

func TestWrong(t *testing.T) {
	all := [][]func(q *api.Query){syntax(), names(), types()}
	want := []api.Errno{api.ErrSyntax, api.ErrName, api.ErrType}
	for k, l := range all {
		for i, change := range l {
			q := usual()
			change(&q)
			if e := typer.Check(schema(), q); e != want[k] {
				t.Errorf("%v, %d: %v", want[k], i, e)
			}
		}
	}
}

// TestTheFirstThatIsNotSo: of several, the first is told.
func TestTheFirstThatIsNotSo(t *testing.T) {
	set := func(c ...func(q *api.Query)) api.Query {
		q := usual()
		for _, f := range c {
			f(&q)
		}
		return q
	}
	value := func(q *api.Query) { q.Terms[0].Metric = "o" }
	name := func(q *api.Query) { q.Terms[1].Metric = "o" }
	limit := func(q *api.Query) { q.Limit = -1 }
	if typer.Check(schema(), set(value, name, limit)) != api.ErrSyntax || typer.Check(schema(), set(name, limit)) != api.ErrName || typer.Check(schema(), set(limit, value)) != api.ErrSyntax || typer.Check(schema(), set(limit)) != api.ErrType {
		t.Error("the order")
	}
}

func TestUsed(t *testing.T) {
	for i, x := range []struct {
		by   []string
		f    api.Filter
		want []string
	}{
		{nil, api.Filter{}, nil}, {[]string{"c", "a"}, api.Filter{}, []string{"a", "c"}}, {nil, is("b", "x"), []string{"b"}}, {[]string{"b"}, null("b"), []string{"b"}},
		{[]string{"c"}, op(api.Or, null("c"), op(api.Not, op(api.And, is("a", "x"), is("a", "y")))), []string{"a", "c"}}, {[]string{"c", "b", "a"}, null("a"), []string{"a", "b", "c"}},
	} {
		q := usual()
		q.By, q.Where = slices.Clone(x.by), x.f
		if got := typer.Used(schema(), q); !slices.Equal(got, x.want) || !slices.Equal(q.By, x.by) {
			t.Errorf("%d: %v", i, got)
		}
	}
	q := usual()
	names := []string{"a", "b", "z", "z", "z"}
	q.By = names[:2]
	typer.Used(schema(), q)[0] = "y"
	if !slices.Equal(names, []string{"a", "b", "z", "z", "z"}) {
		t.Errorf("written into: %v", names)
	}
}

func TestBucket(t *testing.T) {
	for _, x := range [][4]int{{0, 10, 50, 10}, {0, 7, 0, 7}, {5, 10, 12, 10}, {5, 10, 10, 10}, {5, 10, 14, 10}, {5, 10, 15, 15}, {5, 13, 3, 0}, {1, 0, 9, 9}, {api.MaxGran, 0, api.MaxTime, api.MaxTime}, {api.MaxGran, 5, api.MaxGran - 1, 0}} {
		q := usual()
		q.Every, q.From = x[0], x[1]
		if n := typer.Bucket(q, x[2]); n != x[3] {
			t.Errorf("%v: %d", x, n)
		}
	}
}

// TestWhatIsUsed: a query that is typed is typed for each schema with its metrics that has just the dimensions that it uses, and any others.
func TestWhatIsUsed(t *testing.T) {
	r := rand.New(rand.NewSource(1))
	s := api.Schema{Dims: []string{"a", "b", "c", "d", "e"}, Metrics: []string{"m", "n"}}
	var some func(n int) api.Filter
	some = func(n int) api.Filter {
		d := s.Dims[r.Intn(5)]
		switch k := r.Intn(5); {
		case n == 0 || k == 0:
			return is(d, "x")
		case k == 1:
			return null(d)
		case k == 2:
			return op(api.Not, some(n-1))
		default:
			return op(api.And+api.FilterOp(k%2), some(n-1), some(n-1))
		}
	}
	for range 500 {
		q := usual()
		q.Where = some(r.Intn(4))
		q.By = nil
		for _, d := range r.Perm(5)[:r.Intn(3)] {
			q.By = append(q.By, s.Dims[d])
		}
		if e := typer.Check(s, q); e != api.OK {
			t.Fatalf("%v: %v", q, e)
		}
		used := typer.Used(s, q)
		small := api.Schema{Dims: used, Metrics: s.Metrics}
		if e := typer.Check(small, q); e != api.OK || !slices.Equal(typer.Used(small, q), used) {
			t.Fatalf("%v of %v: %v", q, used, e)
		}
		other := api.Schema{Dims: append(slices.Clone(used), "z"), Metrics: s.Metrics}
		if e := typer.Check(other, q); e != api.OK {
			t.Fatalf("%v of %v: %v", q, other.Dims, e)
		}
		for i := range used {
			fewer := api.Schema{Dims: slices.Delete(slices.Clone(used), i, i+1), Metrics: s.Metrics}
			if e := typer.Check(fewer, q); e != api.ErrName {
				t.Fatalf("%v of %v: %v", q, fewer.Dims, e)
			}
		}
	}
}
