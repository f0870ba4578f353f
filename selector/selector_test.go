package selector_test

import (
	"math/rand"
	"slices"
	"testing"

	"columbary/api"
	"columbary/policy"
	"columbary/selector"
)

func schema() api.Schema {
	return api.Schema{Dims: []string{"a", "b", "c"}, Metrics: []string{"m"}}
}

// usual is a policy of three tiers and four projections.
func usual() api.Policy {
	return api.Policy{
		Tiers:   []api.Tier{{Age: 0, Gran: 5, Dims: []string{"a", "b", "c"}}, {Age: 20, Gran: 10, Dims: []string{"a", "b"}}, {Age: 60, Gran: 20, Dims: []string{"a"}}},
		Projs:   []api.Proj{{Tier: 0, Gran: 10, Dims: []string{"a", "c"}}, {Tier: 1, Gran: 10, Dims: []string{"a"}}, {Tier: 0, Gran: 5}, {Tier: 1, Gran: 30}},
		Horizon: 200,
	}
}

func edges() []int { return []int{110, 60, 20} }

func query(from, to, every int, by ...string) api.Query {
	return api.Query{Terms: []api.Term{{}}, From: from, To: to, Every: every, By: by}
}

func plan(from, to, tier, proj, rows int) api.Plan {
	return api.Plan{From: from, To: to, Tier: tier, Proj: proj, Rows: rows}
}

func file(tier, proj, rows int) api.Stored {
	return api.Stored{Name: "f", Tier: tier, Proj: proj, Rows: rows}
}

func TestPolicyIsRight(t *testing.T) {
	if e := policy.Check(schema(), usual()); e != api.OK {
		t.Fatal(e)
	}
}

func TestStretches(t *testing.T) {
	for _, x := range []struct {
		from, to int
		want     []api.Plan
	}{
		{0, 500, []api.Plan{plan(110, 500, 0, -1, 0), plan(60, 110, 1, -1, 0), plan(20, 60, 2, -1, 0)}}, {110, 120, []api.Plan{plan(110, 120, 0, -1, 0)}}, {109, 111, []api.Plan{plan(110, 111, 0, -1, 0), plan(109, 110, 1, -1, 0)}},
		{115, 117, []api.Plan{plan(115, 117, 0, -1, 0)}}, {60, 110, []api.Plan{plan(60, 110, 1, -1, 0)}}, {30, 50, []api.Plan{plan(30, 50, 2, -1, 0)}}, {0, 20, nil}, {0, 21, []api.Plan{plan(20, 21, 2, -1, 0)}}, {50, 70, []api.Plan{plan(60, 70, 1, -1, 0), plan(50, 60, 2, -1, 0)}}, {0, 10, nil},
	} {
		if l := selector.Stretches(usual(), edges(), query(x.from, x.to, 0)); !slices.Equal(l, x.want) {
			t.Errorf("%d, %d: %v", x.from, x.to, l)
		}
	}
	if l := selector.Stretches(usual(), []int{0, 0, 0}, query(0, 50, 0)); !slices.Equal(l, []api.Plan{plan(0, 50, 0, -1, 0)}) {
		t.Errorf("edges of 0: %v", l)
	}
	if l := selector.Stretches(usual(), []int{50, 50, 10}, query(0, 60, 0)); !slices.Equal(l, []api.Plan{plan(50, 60, 0, -1, 0), plan(10, 50, 2, -1, 0)}) {
		t.Errorf("edges alike: %v", l)
	}
}

// TestAllOfIt: the stretches follow one another, from To back to From, or the last edge.
func TestAllOfIt(t *testing.T) {
	r := rand.New(rand.NewSource(1))
	for range 2000 {
		a, b, c := r.Intn(100), r.Intn(100), r.Intn(100)
		e := []int{max(a, b, c), a + b + c - max(a, b, c) - min(a, b, c), min(a, b, c)}
		q := query(r.Intn(120), 0, 0)
		q.To = q.From + 1 + r.Intn(50)
		at, tier := q.To, -1
		for _, x := range selector.Stretches(usual(), e, q) {
			if x.To != at || x.From >= x.To || x.Tier <= tier || x.Proj != -1 || x.Rows != 0 || x.From < e[x.Tier] || x.Tier > 0 && x.To > e[x.Tier-1] {
				t.Fatalf("%v of %v: %v", q, e, x)
			}
			at, tier = x.From, x.Tier
		}
		if want := min(max(q.From, e[2]), q.To); at != want {
			t.Fatalf("%v of %v: ends at %d", q, e, at)
		}
	}
}

func TestEligible(t *testing.T) {
	where := func(f api.Filter) api.Query {
		q := query(0, 100, 0)
		q.Where = f
		return q
	}
	isB := api.Filter{Op: api.Not, Kids: []api.Filter{{Op: api.Is, Dim: "b", Value: "x"}}}
	for i, x := range []struct {
		q    api.Query
		x    api.Plan
		want bool
	}{
		{query(0, 9, 0, "c", "a"), plan(110, 500, 0, -1, 0), true}, {query(0, 9, 0, "c", "a"), plan(110, 500, 0, 0, 0), true}, {query(0, 9, 0, "b"), plan(110, 500, 0, 0, 0), false}, {query(0, 9, 0, "a"), plan(110, 500, 0, 2, 0), false}, {query(0, 9, 0), plan(110, 500, 0, 2, 7), true},
		{where(isB), plan(60, 110, 1, -1, 0), true}, {where(isB), plan(60, 110, 1, 1, 0), false}, {where(isB), plan(20, 60, 2, -1, 0), false}, {where(api.Filter{Op: api.IsNull, Dim: "c"}), plan(60, 110, 1, -1, 0), false},
		{query(0, 9, 5), plan(110, 500, 0, -1, 0), true}, {query(0, 9, 15), plan(110, 500, 0, -1, 0), true}, {query(0, 9, 7), plan(110, 500, 0, -1, 0), false}, {query(0, 9, 1), plan(110, 500, 0, -1, 0), false}, {query(0, 9, 5), plan(60, 110, 1, -1, 0), false}, {query(0, 9, 15), plan(110, 500, 0, 0, 0), false}, {query(0, 9, 20), plan(60, 110, 1, -1, 0), true},
		{query(0, 9, 0), plan(111, 500, 0, -1, 0), false}, {query(0, 9, 0), plan(110, 501, 0, -1, 0), false}, {query(0, 9, 0), plan(115, 125, 0, -1, 0), true}, {query(0, 9, 0), plan(115, 120, 0, 0, 0), false}, {query(0, 9, 0), plan(110, 125, 0, 0, 0), false}, {query(0, 9, 0), plan(60, 110, 1, 3, 0), false}, {query(0, 9, 0), plan(60, 90, 1, 3, 0), true},
		{query(0, 9, 0), plan(110, 500, 0, 1, 0), false}, {query(0, 9, 0), plan(60, 110, 1, 0, 0), false}, {query(0, 9, 0), plan(60, 110, 3, -1, 0), false}, {query(0, 9, 0), plan(60, 110, -1, -1, 0), false}, {query(0, 9, 0), plan(60, 110, 1, 4, 0), false}, {query(0, 9, 0), plan(60, 110, 1, -2, 0), false}, {query(0, 9, 0), plan(20, 60, 2, 1, 0), false},
	} {
		if selector.Eligible(schema(), usual(), x.q, x.x) != x.want {
			t.Errorf("%d: %v of %v", i, x.x, x.q)
		}
	}
}

func TestChoose(t *testing.T) {
	files := []api.Stored{file(0, -1, 50), file(0, 0, 30), file(0, 2, 30), file(1, -1, 9), file(1, 1, 20), file(2, -1, 4), file(1, 3, 1)}
	for i, x := range []struct {
		q     api.Query
		files []api.Stored
		want  []api.Plan
	}{
		{query(0, 500, 0), files, []api.Plan{plan(110, 500, 0, 0, 30), plan(60, 110, 1, -1, 9), plan(20, 60, 2, -1, 4)}},
		{query(60, 500, 0, "b"), files, []api.Plan{plan(110, 500, 0, -1, 50), plan(60, 110, 1, -1, 9)}},
		{query(60, 90, 0), files, []api.Plan{plan(60, 90, 1, 3, 1)}},
		{query(60, 115, 0), files, []api.Plan{plan(110, 115, 0, 2, 30), plan(60, 110, 1, -1, 9)}},
		{query(60, 500, 0), nil, []api.Plan{plan(110, 500, 0, -1, 0), plan(60, 110, 1, -1, 0)}},
		{query(110, 500, 0), []api.Stored{file(0, 0, 5)}, []api.Plan{plan(110, 500, 0, -1, 0)}},
		{query(110, 500, 0), []api.Stored{file(0, 2, 7), file(0, 0, 5), file(0, -1, 5)}, []api.Plan{plan(110, 500, 0, -1, 5)}},
		{query(110, 500, 0), []api.Stored{file(0, 2, 4), file(0, 0, 4), file(0, -1, 5)}, []api.Plan{plan(110, 500, 0, 0, 4)}},
		{query(110, 500, 0), []api.Stored{file(0, 2, 3), file(0, 0, 4), file(0, -1, 5)}, []api.Plan{plan(110, 500, 0, 2, 3)}},
		{query(110, 500, 0), []api.Stored{file(1, -1, 1), file(1, 0, 1), file(0, 1, 1), file(0, -1, 5)}, []api.Plan{plan(110, 500, 0, -1, 5)}},
		{query(110, 500, 0), []api.Stored{file(0, 2, 0), file(0, -1, 5)}, []api.Plan{plan(110, 500, 0, 2, 0)}},
		{query(0, 20, 0, "c"), files, nil}, {query(110, 500, 5), files, []api.Plan{plan(110, 500, 0, 2, 30)}},
	} {
		given := slices.Clone(x.files)
		l, n, e := selector.Choose(schema(), usual(), edges(), x.q, x.files)
		if e != api.OK || n != -1 || !slices.Equal(l, x.want) || !slices.Equal(x.files, given) {
			t.Errorf("%d: %v, %d, %v", i, l, n, e)
		}
	}
}

func TestChooseNone(t *testing.T) {
	for i, x := range []struct {
		q    api.Query
		tier int
	}{
		{query(0, 500, 0, "c"), 1}, {query(0, 500, 0, "b"), 2}, {query(0, 110, 0, "c"), 1}, {query(0, 60, 0, "c"), 2}, {query(0, 501, 0), 0}, {query(0, 501, 0, "c"), 0}, {query(61, 500, 0), 1}, {query(30, 500, 0), 2}, {query(0, 500, 7), 0}, {query(0, 500, 5), 1}, {query(0, 500, 10), 2}, {query(0, 50, 0), 2}, {query(112, 500, 0), 0},
	} {
		for _, files := range [][]api.Stored{nil, {file(0, -1, 9), file(0, 0, 1), file(1, 1, 1), file(2, -1, 3)}} {
			if l, n, e := selector.Choose(schema(), usual(), edges(), x.q, files); len(l) != 0 || n != x.tier || e != api.ErrAnswer {
				t.Errorf("%d: %v, %d, %v", i, l, n, e)
			}
		}
	}
}

// TestTheOwnOneFirst: where a projection is eligible, its tier's own cuboid is; and what is chosen is eligible, and has the least rows.
func TestTheOwnOneFirst(t *testing.T) {
	r := rand.New(rand.NewSource(2))
	s, p := schema(), usual()
	for range 5000 {
		q := query(5*r.Intn(30), 0, 5*r.Intn(8), [][]string{nil, {"a"}, {"c"}, {"b", "a"}}[r.Intn(4)]...)
		q.To = q.From + 5*(1+r.Intn(30))
		var files []api.Stored
		for i, x := range p.Projs {
			if r.Intn(3) > 0 {
				files = append(files, file(x.Tier, i, r.Intn(4)))
			}
		}
		for i := range p.Tiers {
			files = append(files, file(i, -1, r.Intn(6)))
		}
		l, n, e := selector.Choose(s, p, edges(), q, files)
		stretches := selector.Stretches(p, edges(), q)
		if e == api.OK && len(l) != len(stretches) {
			t.Fatalf("%v: %v", q, l)
		}
		for i, x := range stretches {
			own := selector.Eligible(s, p, q, x)
			if !own && e == api.OK || e != api.OK && x.Tier < n && !own || e != api.OK && x.Tier == n && own {
				t.Fatalf("%v: %v, %d, %v", q, l, n, e)
			}
			for k, y := range p.Projs {
				c := x
				c.Proj = k
				fits := selector.Eligible(s, p, q, c)
				if fits && (!own || y.Tier != x.Tier) {
					t.Fatalf("%v: %v", q, c)
				}
				for _, f := range files {
					if e == api.OK && fits && f.Tier == x.Tier && f.Proj == k && (f.Rows < l[i].Rows || f.Rows == l[i].Rows && k < l[i].Proj) {
						t.Fatalf("%v: %v, but %v", q, l[i], f)
					}
				}
			}
			if e == api.OK && (!selector.Eligible(s, p, q, l[i]) || l[i].From != x.From || l[i].To != x.To || l[i].Tier != x.Tier) {
				t.Fatalf("%v: %v", q, l)
			}
		}
	}
}

// TestOthersEnd: of edges and plans of other policies nothing is said, but that the calls end.
func TestOthersEnd(t *testing.T) {
	for _, e := range [][]int{nil, {5}, {5, 4, 3, 2, 1}, {1, 2, 3}, {-1 << 63, 1<<63 - 1, 0}} {
		for _, p := range []api.Policy{{}, usual()} {
			selector.Stretches(p, e, query(0, 99, 5))
			selector.Choose(schema(), p, e, query(0, 99, 5, "q"), []api.Stored{{}, file(-5, -5, -5), file(9, 9, 9)})
			selector.Eligible(schema(), p, query(-9, 1<<63-1, -1), plan(-1<<63, 1<<63-1, 0, 0, 0))
		}
	}
}
