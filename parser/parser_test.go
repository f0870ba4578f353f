package parser_test

import (
	"math/rand"
	"slices"
	"strings"
	"testing"

	"columbary/api"
	"columbary/parser"
)

func is(dim, value string) api.Filter { return api.Filter{Op: api.Is, Dim: dim, Value: value} }
func null(dim string) api.Filter      { return api.Filter{Op: api.IsNull, Dim: dim} }
func not(f api.Filter) api.Filter     { return api.Filter{Op: api.Not, Kids: []api.Filter{f}} }
func and(l ...api.Filter) api.Filter  { return api.Filter{Op: api.And, Kids: l} }
func or(l ...api.Filter) api.Filter   { return api.Filter{Op: api.Or, Kids: l} }

func count() api.Term                           { return api.Term{Func: api.Count} }
func term(f api.Func, metric string) api.Term   { return api.Term{Func: f, Metric: metric} }
func having(t api.Term, sign, n int) api.Having { return api.Having{Term: t, Sign: sign, Value: n} }

// base is the query `select count from 0 to 9`.
func base() api.Query {
	return api.Query{Terms: []api.Term{count()}, To: 9}
}

func with(change func(q *api.Query)) api.Query {
	q := base()
	change(&q)
	return q
}

func where(f api.Filter) api.Query { return with(func(q *api.Query) { q.Where = f }) }

func TestParse(t *testing.T) {
	a, b, c, d := is("a", "x"), is("b", "y"), null("c"), is("d", "")
	for s, want := range map[string]api.Query{
		"select count from 0 to 9":      base(),
		"\tselect\ncount  from 0 to 9 ": base(),
		"select sum m,min m , max n,count,sum m from 0to 9": with(func(q *api.Query) {
			q.Terms = []api.Term{term(api.Sum, "m"), term(api.Min, "m"), term(api.Max, "n"), count(), term(api.Sum, "m")}
		}),
		"select count from -5 to -77":                     with(func(q *api.Query) { q.From, q.To = -5, -77 }),
		"select count from 4611686018427387904 to 9":      with(func(q *api.Query) { q.From = api.MaxInt }),
		"select count from 0 to 9 every 5":                with(func(q *api.Query) { q.Every = 5 }),
		"select count from 0 to 9 by a":                   with(func(q *api.Query) { q.By = []string{"a"} }),
		"select count from 0 to 9 by a,b , a":             with(func(q *api.Query) { q.By = []string{"a", "b", "a"} }),
		"select count from 0 to 9 by averyverylongname_1": with(func(q *api.Query) { q.By = []string{"averyverylongname_1"} }),
		"select count from 0 to 9 having count>5":         with(func(q *api.Query) { q.Having = []api.Having{having(count(), 1, 5)} }),
		"select count from 0 to 9 having sum m < -5 and min n=0 and count > 7": with(func(q *api.Query) {
			q.Having = []api.Having{having(term(api.Sum, "m"), -1, -5), having(term(api.Min, "n"), 0, 0), having(count(), 1, 7)}
		}),
		"select count from 0 to 9 order 3":      with(func(q *api.Query) { q.Order = 3 }),
		"select count from 0 to 9 order 3 desc": with(func(q *api.Query) { q.Order = -3 }),
		"select count from 0 to 9 limit 1":      with(func(q *api.Query) { q.Limit = 1 }),
		"select count from 0 to 9 every 1 by a where a=\"x\" having count=1 order 1 desc limit 4611686018427387904": {
			Terms: []api.Term{count()}, To: 9, Every: 1, By: []string{"a"}, Where: a, Having: []api.Having{having(count(), 0, 1)}, Order: -1, Limit: api.MaxInt},
		`select count from 0 to 9 where a="x"`:                                  where(a),
		`select count from 0 to 9 where c is null`:                              where(c),
		`select count from 0 to 9 where d = ""`:                                 where(d),
		`select count from 0 to 9 where a="x"and b="y"`:                         where(and(a, b)),
		`select count from 0 to 9 where a="x" or b="y" or c is null`:            where(or(a, b, c)),
		`select count from 0 to 9 where a="x" and b="y" or c is null and d=""`:  where(or(and(a, b), and(c, d))),
		`select count from 0 to 9 where a="x" or b="y" and c is null`:           where(or(a, and(b, c))),
		`select count from 0 to 9 where (a="x" or b="y") and c is null`:         where(and(or(a, b), c)),
		`select count from 0 to 9 where (a="x" and b="y") and c is null`:        where(and(and(a, b), c)),
		`select count from 0 to 9 where a="x" or (b="y" or c is null)`:          where(or(a, or(b, c))),
		`select count from 0 to 9 where not a="x" and b="y"`:                    where(and(not(a), b)),
		`select count from 0 to 9 where not (a="x" and b="y")`:                  where(not(and(a, b))),
		`select count from 0 to 9 where not not c is null`:                      where(not(not(c))),
		`select count from 0 to 9 where (((a="x")))`:                            where(a),
		`select count from 0 to 9 where a="x" and b="y" and c is null and d=""`: where(and(a, b, c, d)),
		`select count from 0 to 9 where a="x" having count>1 and count<5`:       with(func(q *api.Query) { q.Where, q.Having = a, []api.Having{having(count(), 1, 1), having(count(), -1, 5)} }),
	} {
		q, e := parser.Parse(s)
		if e != api.OK || !parser.Same(q, want) {
			t.Errorf("%q: %v, %v", s, q, e)
		}
	}
}

func TestSyntax(t *testing.T) {
	for _, s := range []string{
		"", "select", "count", "select count", "select count from", "select count from 0", "select count from 0 to", "select count from 0 to x", "select count from x to 9", "select count to 9 from 0", "from 0 to 9", "select from 0 to 9",
		"select count, from 0 to 9", "select , from 0 to 9", "select count count from 0 to 9", "select sum from 0 to 9", "select m from 0 to 9", "select sum sum from 0 to 9", "select sum count from 0 to 9", "select count m from 0 to 9", "select sum 5 from 0 to 9", "select sum (m) from 0 to 9", "select sum \"m\" from 0 to 9",
		"select count from 0 to 9 every", "select count from 0 to 9 every 0", "select count from 0 to 9 every -1", "select count from 0 to 9 every x", "select count from 0 to 9 by", "select count from 0 to 9 by a,", "select count from 0 to 9 by a b", "select count from 0 to 9 by null", "select count from 0 to 9 by \"a\"", "select count from 0 to 9 by 5",
		"select count from 0 to 9 by a every 5", "select count from 0 to 9 limit 1 order 1", "select count from 0 to 9 order 1 limit 1 by a", "select count from 0 to 9 having count=1 where a=\"x\"", "select count from 0 to 9 every 5 every 5",
		"select count from 0 to 9 where", "select count from 0 to 9 where a", "select count from 0 to 9 where a=", "select count from 0 to 9 where a=x", "select count from 0 to 9 where a=5", "select count from 0 to 9 where a<\"x\"", "select count from 0 to 9 where \"x\"=a", "select count from 0 to 9 where a is", "select count from 0 to 9 where a is not null", "select count from 0 to 9 where a is \"null\"", "select count from 0 to 9 where count=\"x\"",
		"select count from 0 to 9 where a=\"x\" and", "select count from 0 to 9 where a=\"x\" or", "select count from 0 to 9 where and a=\"x\"", "select count from 0 to 9 where a=\"x\" b=\"y\"", "select count from 0 to 9 where not", "select count from 0 to 9 where ()", "select count from 0 to 9 where (a=\"x\"", "select count from 0 to 9 where a=\"x\")", "select count from 0 to 9 where (a=\"x\"))", "select count from 0 to 9 where a=\"x\" not", "select count from 0 to 9 where null",
		"select count from 0 to 9 having", "select count from 0 to 9 having count", "select count from 0 to 9 having count>", "select count from 0 to 9 having count>x", "select count from 0 to 9 having count(5", "select count from 0 to 9 having count,5", "select count from 0 to 9 having 5>count", "select count from 0 to 9 having m>5", "select count from 0 to 9 having count>5 and", "select count from 0 to 9 having count>5 or count<5", "select count from 0 to 9 having count>5, count<5", "select count from 0 to 9 having (count>5)", "select count from 0 to 9 having not count>5",
		"select count from 0 to 9 order", "select count from 0 to 9 order 0", "select count from 0 to 9 order -1", "select count from 0 to 9 order 1 asc", "select count from 0 to 9 desc", "select count from 0 to 9 order desc", "select count from 0 to 9 order 1 desc desc", "select count from 0 to 9 limit", "select count from 0 to 9 limit 0", "select count from 0 to 9 limit -1", "select count from 0 to 9 limit 5 5", "select count from 0 to 9 limit 5 desc", "select count from 0 to 9,", "select count from 0 to 9 9",
		"\"select\" count from 0 to 9", "select \"count\" from 0 to 9", "select count \"from\" 0 to 9",
	} {
		if q, e := parser.Parse(s); e != api.ErrSyntax || !parser.Same(q, api.Query{}) {
			t.Errorf("%q: %v, %v", s, q, e)
		}
	}
}

func TestReservedWords(t *testing.T) {
	for _, w := range strings.Fields("count sum min max from to by every where having order limit and or not is null asc desc select") {
		for _, s := range []string{"select sum " + w + " from 0 to 9", "select count from 0 to 9 by " + w, "select count from 0 to 9 by a, " + w, "select count from 0 to 9 where " + w + " is null", "select count from 0 to 9 where " + w + " = \"x\"", "select count from 0 to 9 having sum " + w + " > 5"} {
			if _, e := parser.Parse(s); e != api.ErrSyntax {
				t.Errorf("%q: %v", s, e)
			}
		}
	}
}

func TestToken(t *testing.T) {
	for _, s := range []string{"select count from 0 to 9 where a = \"x", "; select", "select select ;", "select count from 00 to 9", strings.Repeat(" ", 401), "select count from 0 to 9 where " + strings.Repeat("not ", 13) + "A"} {
		if q, e := parser.Parse(s); e != api.ErrToken || !parser.Same(q, api.Query{}) {
			t.Errorf("%q: %v", s, e)
		}
	}
}

func TestDeep(t *testing.T) {
	open := "select count from 0 to 9 where "
	times := strings.Repeat
	mixed := times("not (", 6)
	for s, want := range map[string]api.Errno{
		open + times("not ", 12) + `a="x"`:                                    api.OK,
		open + times("not ", 13) + `a="x"`:                                    api.ErrDeep,
		open + times("(", 12) + `a="x"` + times(")", 12):                      api.OK,
		open + times("(", 13) + `a="x"` + times(")", 13):                      api.ErrDeep,
		open + mixed + `a="x"` + times(")", 6):                                api.OK,
		open + mixed + `not a="x"` + times(")", 6):                            api.ErrDeep,
		open + mixed + `(a="x")` + times(")", 6):                              api.ErrDeep,
		open + times("(", 13):                                                 api.ErrDeep,
		open + times("not ", 13):                                              api.ErrDeep,
		open + times("(", 13) + "select":                                      api.ErrDeep,
		open + times("(", 12) + "select" + times("(", 9):                      api.ErrSyntax,
		open + times("(", 12):                                                 api.ErrSyntax,
		times("(", 13):                                                        api.ErrSyntax,
		"select " + times("not ", 13):                                         api.ErrSyntax,
		open + `a="x" ` + times("(", 13):                                      api.ErrSyntax,
		open + `a="x" and ` + times("(", 13):                                  api.ErrDeep,
		open + times("(", 12) + `a="x"` + times(")", 12) + " or (" + `a="x")`: api.OK,
		open + times("(", 12) + `a="x" or (`:                                  api.ErrDeep,
		open + times("(", 12) + `a="x") or (` + `a="x"` + times(")", 12):      api.OK,
		open + times("not ", 12) + `a="x" and ` + times("not ", 12) + `a="x"`: api.OK,
		open + times("not ", 12) + `a="x" and ` + times("not ", 13) + `a="x"`: api.ErrDeep,
		open + `(` + times("not ", 11) + `a="x" or not a="x") limit`:          api.ErrSyntax,
		"select count from 0 to 9 having " + times("(", 13):                   api.ErrSyntax,
	} {
		q, e := parser.Parse(s)
		if e != want || e != api.OK && !parser.Same(q, api.Query{}) {
			t.Errorf("%q: %v, want %v", s, e, want)
		}
	}
}

func TestText(t *testing.T) {
	a, b, c := is("a", "x"), is("b", "y z"), null("c")
	for want, q := range map[string]api.Query{
		"select count from 0 to 9": base(),
		`select sum m , min n , max m , count from -5 to 9 every 7 by a , b where a = "x" having sum m < -5 and count = 0 and max n > 7 order 2 desc limit 3`: {
			Terms: []api.Term{term(api.Sum, "m"), term(api.Min, "n"), term(api.Max, "m"), count()}, From: -5, To: 9, Every: 7, By: []string{"a", "b"}, Where: a,
			Having: []api.Having{having(term(api.Sum, "m"), -1, -5), having(count(), 0, 0), having(term(api.Max, "n"), 1, 7)}, Order: -2, Limit: 3},
		"select count from 0 to 9 order 1":                                                                  with(func(q *api.Query) { q.Order = 1 }),
		`select count from 0 to 9 where a = "x" and b = "y z" or c is null`:                                 where(or(and(a, b), c)),
		`select count from 0 to 9 where ( a = "x" or b = "y z" ) and c is null`:                             where(and(or(a, b), c)),
		`select count from 0 to 9 where ( a = "x" and b = "y z" ) and c is null`:                            where(and(and(a, b), c)),
		`select count from 0 to 9 where a = "x" or ( b = "y z" or c is null )`:                              where(or(a, or(b, c))),
		`select count from 0 to 9 where not ( a = "x" and b = "y z" )`:                                      where(not(and(a, b))),
		`select count from 0 to 9 where not ( a = "x" or b = "y z" )`:                                       where(not(or(a, b))),
		`select count from 0 to 9 where not not a = "x" and not c is null or not b = "y z"`:                 where(or(and(not(not(a)), not(c)), not(b))),
		`select count from 0 to 9 where not ( ( a = "x" or c is null ) and not ( a = "x" and c is null ) )`: where(not(and(or(a, c), not(and(a, c))))),
	} {
		if s := parser.Text(q); s != want {
			t.Errorf("%q, want %q", s, want)
		}
		if p, e := parser.Parse(want); e != api.OK || !parser.Same(p, q) {
			t.Errorf("%q: %v", want, e)
		}
	}
}

func some(r *rand.Rand, deep int) api.Filter {
	if deep == 0 || r.Intn(3) == 0 {
		if r.Intn(2) == 0 {
			return null(string("abc"[r.Intn(3)]))
		}
		return is(string("abc"[r.Intn(3)]), strings.Repeat(" ", r.Intn(2))+string("xyz("[r.Intn(4)]))
	}
	if r.Intn(3) == 0 {
		return not(some(r, deep-1))
	}
	f := api.Filter{Op: api.And + api.FilterOp(r.Intn(2))}
	for range 2 + r.Intn(2) {
		f.Kids = append(f.Kids, some(r, deep-1))
	}
	return f
}

// TestThereAndBack: what Parse tells has a text that is parsed as it, if that is not too long.
func TestThereAndBack(t *testing.T) {
	r := rand.New(rand.NewSource(1))
	terms := []api.Term{count(), term(api.Sum, "m"), term(api.Min, "n_1"), term(api.Max, "m")}
	told := 0
	for range 5000 {
		q := api.Query{From: r.Intn(99) - 50, To: r.Intn(999), Every: r.Intn(3), Where: some(r, r.Intn(4)), Order: r.Intn(5) - 2, Limit: r.Intn(3)}
		for range 1 + r.Intn(4) {
			q.Terms = append(q.Terms, terms[r.Intn(4)])
		}
		for range r.Intn(3) {
			q.By = append(q.By, string("abc"[r.Intn(3)]))
			q.Having = append(q.Having, having(terms[r.Intn(4)], r.Intn(3)-1, r.Intn(99)-50))
		}
		if r.Intn(4) == 0 {
			q.Where = api.Filter{}
		}
		s := parser.Text(q)
		p, e := parser.Parse(s)
		if len(s) > api.MaxQuery {
			if e != api.ErrToken {
				t.Fatalf("%q: %v", s, e)
			}
			continue
		}
		told++
		if e != api.OK || !parser.Same(p, q) || parser.Text(p) != s {
			t.Fatalf("%q: %v, %v", s, p, e)
		}
	}
	if told < 1000 {
		t.Error(told)
	}
}

func TestDepth(t *testing.T) {
	a := is("a", "x")
	for i, x := range []struct {
		f    api.Filter
		want int
	}{{api.Filter{}, 1}, {a, 1}, {not(a), 2}, {and(a, a), 2}, {or(a, and(a, not(a)), a), 4}, {not(not(not(a))), 4}, {or(and(not(a), a), a), 4}} {
		if n := parser.Depth(x.f); n != x.want {
			t.Errorf("%d: %d", i, n)
		}
	}
}

func TestSame(t *testing.T) {
	full := func() api.Query {
		q, e := parser.Parse(`select sum m, count from 1 to 9 every 2 by a, b where not (a="x" or b is null) having sum m > 5 order 1 limit 3`)
		if e != api.OK {
			t.Fatal(e)
		}
		return q
	}
	if !parser.Same(full(), full()) || !parser.Same(api.Query{}, api.Query{By: []string{}, Terms: []api.Term{}, Where: api.Filter{Kids: []api.Filter{}}}) {
		t.Error("alike")
	}
	for i, change := range []func(q *api.Query){
		func(q *api.Query) { q.Terms = q.Terms[:1] }, func(q *api.Query) { q.Terms[0].Func = api.Min }, func(q *api.Query) { q.Terms[0].Metric = "n" }, func(q *api.Query) { q.From++ }, func(q *api.Query) { q.To++ }, func(q *api.Query) { q.Every++ },
		func(q *api.Query) { q.By = q.By[:1] }, func(q *api.Query) { q.By[0], q.By[1] = q.By[1], q.By[0] }, func(q *api.Query) { q.Where.Op = api.And }, func(q *api.Query) { q.Where.Dim = "a" }, func(q *api.Query) { q.Where.Kids[0].Kids[0].Value = "y" }, func(q *api.Query) { q.Where.Kids[0].Kids[1].Dim = "c" },
		func(q *api.Query) { q.Where.Kids[0].Kids = q.Where.Kids[0].Kids[:1] }, func(q *api.Query) { q.Having = nil }, func(q *api.Query) { q.Having[0].Sign = 0 }, func(q *api.Query) { q.Having[0].Value++ }, func(q *api.Query) { q.Having[0].Term.Func = api.Max }, func(q *api.Query) { q.Order = -1 }, func(q *api.Query) { q.Limit++ },
	} {
		q := full()
		change(&q)
		if parser.Same(q, full()) || parser.Same(full(), q) {
			t.Errorf("%d", i)
		}
	}
}

// TestAnyText: whatever a text is, Parse ends, and what it tells has a text that is parsed as it.
func TestAnyText(t *testing.T) {
	r := rand.New(rand.NewSource(2))
	words := strings.Fields(`select count sum m , from 0 to 9 every by a b where not ( ) = "x" is null and or having < > order desc limit -1 5`)
	for i := range 30000 {
		l := strings.Fields(`select count , sum m from 0 to 9 every 5 by a where not ( a = "x" or b is null ) and b = "x" having count > 5 and sum m < 9 order 1 desc limit 5`)
		if i%2 == 0 {
			l = nil
		}
		for range 1 + r.Intn(6) {
			k := r.Intn(len(l) + 1)
			l = slices.Insert(l, k, words[r.Intn(len(words))])
			if r.Intn(2) == 0 {
				l = slices.Delete(l, k, min(k+1+r.Intn(2), len(l)))
			}
		}
		s := strings.Join(l, " ")
		q, e := parser.Parse(s)
		if e != api.OK {
			continue
		}
		if p, e := parser.Parse(parser.Text(q)); e != api.OK || !parser.Same(p, q) {
			t.Fatalf("%q: %q", s, parser.Text(q))
		}
	}
}

// TestTextOfAny: of a query that Parse has not told nothing is said, but that the calls end.
func TestTextOfAny(t *testing.T) {
	for _, q := range []api.Query{{}, {Order: -1 << 63, Limit: -1}, {Terms: []api.Term{{Func: 9}}}, {Where: api.Filter{Op: 9}}, {Where: api.Filter{Op: api.Not}}, {Where: and()}, {Having: []api.Having{{Sign: 7}}}, {From: 1 << 62, To: -1 << 63}} {
		parser.Parse(parser.Text(q))
		parser.Depth(q.Where)
		if !parser.Same(q, q) {
			t.Error("it is like itself")
		}
	}
}
