package policy_test

import (
	"math"
	"math/rand"
	"slices"
	"strconv"
	"strings"
	"testing"

	"columbary/api"
	"columbary/bucket"
	"columbary/policy"
)

func schema() api.Schema {
	return api.Schema{Dims: []string{"a", "b", "c"}, Metrics: []string{"m"}}
}

func tier(age, gran int, dims string) api.Tier {
	return api.Tier{Age: age, Gran: gran, Dims: strings.Fields(dims)}
}

func proj(t, gran int, dims string) api.Proj {
	return api.Proj{Tier: t, Gran: gran, Dims: strings.Fields(dims)}
}

// usual is a right policy of two tiers and two projections.
func usual() api.Policy {
	return api.Policy{Tiers: []api.Tier{tier(0, 5, "a b c"), tier(20, 10, "a c")}, Projs: []api.Proj{proj(0, 5, "b"), proj(1, 20, "")}, Horizon: 100}
}

func TestCheckRight(t *testing.T) {
	tiers := func(l ...api.Tier) api.Policy { return api.Policy{Tiers: l, Horizon: 1 << 30} }
	first := tier(0, 5, "a b c")
	four := tiers(first, tier(1, 5, "a b c"), tier(2, 10, "c"), tier(3, 10, ""))
	four.Projs = []api.Proj{proj(3, 10, ""), proj(0, 15, "a b c"), proj(0, 15, "a b c"), proj(2, 20, "c")}
	far := tiers(first, tier(api.MaxTime-1, 5, ""))
	far.Horizon = api.MaxTime
	least := api.Policy{Tiers: []api.Tier{tier(0, 1, "a b c")}, Horizon: 1}
	great := api.Policy{Tiers: []api.Tier{tier(0, api.MaxGran, "a b c")}, Horizon: 1}
	for i, p := range []api.Policy{usual(), tiers(first), four, far, least, great} {
		if e := policy.Check(schema(), p); e != api.OK {
			t.Errorf("%d: %v", i, e)
		}
	}
}

func TestCheckWrong(t *testing.T) {
	for what, change := range map[string]func(p *api.Policy){
		"no tier":                     func(p *api.Policy) { p.Tiers = nil },
		"no tier, no projection":      func(p *api.Policy) { p.Tiers, p.Projs = nil, nil },
		"the first age":               func(p *api.Policy) { p.Tiers[0].Age = 1 },
		"the first age below 0":       func(p *api.Policy) { p.Tiers[0].Age = -1 },
		"fewer dimensions":            func(p *api.Policy) { p.Tiers[0].Dims, p.Projs = []string{"a", "c"}, nil },
		"other dimensions":            func(p *api.Policy) { p.Tiers[0].Dims, p.Projs = []string{"a", "x", "c"}, nil },
		"dimensions out of order":     func(p *api.Policy) { p.Tiers[0].Dims = []string{"a", "c", "b"} },
		"more dimensions":             func(p *api.Policy) { p.Tiers[0].Dims = []string{"a", "b", "c", "d"} },
		"no granularity":              func(p *api.Policy) { p.Tiers, p.Projs = []api.Tier{tier(0, 0, "a b c")}, nil },
		"a granularity below 0":       func(p *api.Policy) { p.Tiers, p.Projs = []api.Tier{tier(0, -5, "a b c")}, nil },
		"a great granularity":         func(p *api.Policy) { p.Tiers[1].Gran, p.Projs = api.MaxGran/5*10, nil },
		"a first great granularity":   func(p *api.Policy) { p.Tiers, p.Projs = []api.Tier{tier(0, api.MaxGran+1, "a b c")}, nil },
		"no multiple":                 func(p *api.Policy) { p.Tiers[1].Gran, p.Projs[1].Gran = 12, 24 },
		"a finer tier":                func(p *api.Policy) { p.Tiers[1].Gran, p.Projs[1].Gran = 1, 1 },
		"the same age":                func(p *api.Policy) { p.Tiers[1].Age = 0 },
		"an age below":                func(p *api.Policy) { p.Tiers[1].Age = -3 },
		"a great age":                 func(p *api.Policy) { p.Tiers[1].Age, p.Horizon = api.MaxTime+1, api.MaxTime+2 },
		"ages that fall":              func(p *api.Policy) { p.Tiers = append(p.Tiers, tier(10, 10, "a")) },
		"ages that stay":              func(p *api.Policy) { p.Tiers = append(p.Tiers, tier(20, 10, "a")) },
		"a dimension of another tier": func(p *api.Policy) { p.Tiers = append(p.Tiers, tier(30, 10, "b")) },
		"a tier out of order":         func(p *api.Policy) { p.Tiers[1].Dims = []string{"c", "a"} },
		"a tier with a stranger":      func(p *api.Policy) { p.Tiers[1].Dims = []string{"d"} },
		"a tier with a metric":        func(p *api.Policy) { p.Tiers[1].Dims = []string{"m"} },
		"two alike":                   func(p *api.Policy) { p.Tiers[1].Dims = []string{"a", "a"} },
		"five tiers": func(p *api.Policy) {
			p.Tiers = append(p.Tiers, tier(30, 10, ""), tier(40, 10, ""), tier(50, 10, ""))
		},
		"five projections":            func(p *api.Policy) { p.Projs = slices.Repeat([]api.Proj{proj(0, 5, "b")}, 5) },
		"no such tier":                func(p *api.Policy) { p.Projs[0].Tier = 2 },
		"a tier below 0":              func(p *api.Policy) { p.Projs[0].Tier = -1 },
		"a projection's multiple":     func(p *api.Policy) { p.Projs[1].Gran = 15 },
		"a finer projection":          func(p *api.Policy) { p.Projs[1].Gran = 5 },
		"a projection's granularity":  func(p *api.Policy) { p.Projs[0].Gran = 0 },
		"a projection's dimension":    func(p *api.Policy) { p.Projs[1].Dims = []string{"b"} },
		"a projection out of order":   func(p *api.Policy) { p.Projs[0].Dims = []string{"b", "a"} },
		"the horizon at the last age": func(p *api.Policy) { p.Horizon = 20 },
		"a horizon of 0":              func(p *api.Policy) { p.Horizon = 0 },
		"a horizon below 0":           func(p *api.Policy) { p.Horizon = -1 },
		"a great horizon":             func(p *api.Policy) { p.Horizon = api.MaxTime + 1 },
	} {
		p := usual()
		change(&p)
		if e := policy.Check(schema(), p); e != api.ErrPolicy {
			t.Errorf("%s: %v", what, e)
		}
	}
	p := usual()
	p.Horizon = 21
	if e := policy.Check(schema(), p); e != api.OK {
		t.Errorf("a horizon just above: %v", e)
	}
}

func TestText(t *testing.T) {
	want := "tier 0 5 a,b,c\ntier 20 10 a,c\nproj 0 5 b\nproj 1 20 -\nhorizon 100"
	if s := policy.Text(usual()); s != want {
		t.Errorf("%q", s)
	}
	p, e := policy.Parse(want)
	if e != api.OK || !policy.Same(p, usual()) {
		t.Errorf("%v, %v", p, e)
	}
	if s := policy.Text(api.Policy{Tiers: []api.Tier{tier(0, 1, "a")}, Horizon: 7}); s != "tier 0 1 a\nhorizon 7" {
		t.Errorf("%q", s)
	}
}

func TestParse(t *testing.T) {
	most := strconv.Itoa(api.MaxTime)
	lines := func(n int) string { return strings.Repeat("tier 0 0 -\n", n-1) + "horizon 0" }
	for _, s := range []string{
		"horizon 0", "horizon " + most, "tier 7 0 -\nhorizon 3", "tier " + most + " " + most + " z,a,z\nhorizon 1", "proj 9 0 a\nhorizon 5", "proj 9 3 a\nproj 0 0 -\nhorizon 5",
		"tier 9 1 b\ntier 2 3 x_1\nproj 5 5 a\nhorizon 5", lines(20), "tier 0 1 a,b,c,d,e,f,g,h,i,j,k,l\nhorizon 1",
	} {
		p, e := policy.Parse(s)
		if e != api.OK || policy.Text(p) != s {
			t.Errorf("%q: %v, %v", s, p, e)
		}
	}
	for _, s := range []string{
		"", "\n", "horizon", "horizon ", "horizon  5", " horizon 5", "horizon 5 ", "horizon 5\n", "\nhorizon 5", "horizon 05", "horizon 00", "horizon -5", "horizon +5", "horizon -0", "horizon 5 5", "horizon a", "Horizon 5", "horizon\t5",
		"horizon " + strconv.Itoa(api.MaxTime+1), "horizon 99999999999999999999", "horizon 5\nhorizon 5", "tier 0 1 a", "horizon 5\ntier 0 1 a", "proj 0 1 a\ntier 0 1 a\nhorizon 5", "horizon 5\nproj 0 1 a",
		"tier 0 1\nhorizon 5", "tier 0 1 \nhorizon 5", "tier 0 1 a b\nhorizon 5", "tier 0 1 a,\nhorizon 5", "tier 0 1 ,a\nhorizon 5", "tier 0 1 a,,b\nhorizon 5", "tier 0 1 -,a\nhorizon 5", "tier 0 1 A\nhorizon 5", "tier 0 1 sum\nhorizon 5", "tier 0 1 a,1\nhorizon 5",
		"tier 00 1 a\nhorizon 5", "tier 0 01 a\nhorizon 5", "tier -1 1 a\nhorizon 5", "tier 0 -1 a\nhorizon 5", "tier " + strconv.Itoa(api.MaxTime+1) + " 1 a\nhorizon 5", "tier 0 " + strconv.Itoa(api.MaxTime+1) + " a\nhorizon 5", "tier x 1 a\nhorizon 5", "tier 0 x a\nhorizon 5", "tier 0  1 a\nhorizon 5",
		"proj 0 1\nhorizon 5", "proj 00 1 a\nhorizon 5", "proj 0 1 abcdefghijklm\nhorizon 5", "tiers 0 1 a\nhorizon 5", "tier 0 1 a\n\nhorizon 5", "tier 0 1 a\r\nhorizon 5", "x\nhorizon 5", lines(21),
	} {
		if p, e := policy.Parse(s); e != api.ErrText || len(p.Tiers)+len(p.Projs)+p.Horizon != 0 {
			t.Errorf("%q: %v, %v", s, p, e)
		}
	}
}

func TestEdge(t *testing.T) {
	p := usual()
	for _, x := range []struct{ i, now, want int }{
		{0, 137, 110}, {0, 20, 0}, {0, 19, 0}, {0, 0, 0}, {0, 29, 0}, {0, 30, 10}, {0, 130, 110}, {0, 129, 100}, {1, 137, 30}, {1, 100, 0}, {1, 99, 0}, {1, 109, 0}, {1, 110, 10}, {1, 0, 0},
		{0, api.MaxTime, (api.MaxTime - 20) / 10 * 10}, {1, api.MaxTime, (api.MaxTime - 100) / 10 * 10},
	} {
		if n, e := policy.Edge(p, x.i, x.now); n != x.want || e != api.OK {
			t.Errorf("%v: %d, %v", x, n, e)
		}
	}
	for _, x := range [][2]int{{-1, 5}, {2, 5}, {0, -1}, {0, api.MaxTime + 1}, {math.MinInt, 5}, {math.MaxInt, 5}, {1, math.MinInt}, {1, math.MaxInt}} {
		if n, e := policy.Edge(p, x[0], x[1]); n != 0 || e != api.ErrArg {
			t.Errorf("%v: %d, %v", x, n, e)
		}
	}
	one := api.Policy{Tiers: []api.Tier{tier(0, 7, "a b c")}, Horizon: 10}
	if n, e := policy.Edge(one, 0, 40); n != 28 || e != api.OK {
		t.Errorf("one tier: %d, %v", n, e)
	}
}

func TestEdges(t *testing.T) {
	for now, want := range map[int][]int{0: {0, 0}, 137: {110, 30}, 99: {70, 0}, 1000: {980, 900}} {
		if l, e := policy.Edges(usual(), now); !slices.Equal(l, want) || e != api.OK {
			t.Errorf("%d: %v, %v", now, l, e)
		}
	}
	for _, now := range []int{-1, api.MaxTime + 1, math.MinInt, math.MaxInt} {
		if l, e := policy.Edges(usual(), now); len(l) != 0 || e != api.ErrArg {
			t.Errorf("%d: %v, %v", now, l, e)
		}
	}
}

// some is a right policy of many shapes.
func some(r *rand.Rand) api.Policy {
	var p api.Policy
	dims, gran, age := schema().Dims, 1+r.Intn(9), 0
	for range 1 + r.Intn(4) {
		p.Tiers = append(p.Tiers, api.Tier{Age: age, Gran: gran, Dims: dims})
		if k := r.Intn(len(dims) + 1); r.Intn(2) == 0 && k < len(dims) {
			dims = slices.Delete(slices.Clone(dims), k, k+1)
		}
		gran, age = gran*(1+r.Intn(3)), age+1+r.Intn(50)
	}
	for range r.Intn(5) {
		k := r.Intn(len(p.Tiers))
		p.Projs = append(p.Projs, api.Proj{Tier: k, Gran: p.Tiers[k].Gran * (1 + r.Intn(3)), Dims: p.Tiers[k].Dims[:r.Intn(len(p.Tiers[k].Dims)+1)]})
	}
	p.Horizon = age + r.Intn(50)
	return p
}

func TestThereAndBack(t *testing.T) {
	r := rand.New(rand.NewSource(1))
	for range 1000 {
		p := some(r)
		if e := policy.Check(schema(), p); e != api.OK {
			t.Fatalf("%v: %v", p, e)
		}
		q, e := policy.Parse(policy.Text(p))
		if e != api.OK || !policy.Same(q, p) || !policy.Same(p, q) || policy.Check(schema(), q) != api.OK {
			t.Fatalf("%q: %v", policy.Text(p), e)
		}
	}
}

// TestEdgesFall: edges fall from tier to tier, and rise with time; each is the beginning of a bucket of the tier behind it.
func TestEdgesFall(t *testing.T) {
	r := rand.New(rand.NewSource(2))
	for range 300 {
		p := some(r)
		ahead := make([]int, len(p.Tiers))
		for now := 0; now < 400; now += 1 + r.Intn(5) {
			l, e := policy.Edges(p, now)
			if e != api.OK || len(l) != len(p.Tiers) {
				t.Fatalf("%v at %d: %v", p, now, e)
			}
			for i, edge := range l {
				gran, age := p.Tiers[i].Gran, p.Horizon
				if i+1 < len(l) {
					gran, age = p.Tiers[i+1].Gran, p.Tiers[i+1].Age
				}
				one, _ := policy.Edge(p, i, now)
				if i > 0 && edge > l[i-1] || edge < ahead[i] || !bucket.Aligned(edge, gran) || edge < 0 || edge != one || edge > max(now-age, 0) || edge+gran <= now-age {
					t.Fatalf("%v at %d: %v", p, now, l)
				}
			}
			ahead = l
		}
	}
}

func TestSame(t *testing.T) {
	for what, change := range map[string]func(p *api.Policy){
		"age": func(p *api.Policy) { p.Tiers[1].Age++ }, "gran": func(p *api.Policy) { p.Tiers[0].Gran++ }, "dims": func(p *api.Policy) { p.Tiers[1].Dims = []string{"a"} },
		"tiers": func(p *api.Policy) { p.Tiers = p.Tiers[:1] }, "proj's tier": func(p *api.Policy) { p.Projs[0].Tier++ }, "proj's gran": func(p *api.Policy) { p.Projs[1].Gran++ },
		"proj's dims": func(p *api.Policy) { p.Projs[1].Dims = []string{"a"} }, "projs": func(p *api.Policy) { p.Projs = nil }, "horizon": func(p *api.Policy) { p.Horizon++ },
		"order": func(p *api.Policy) { p.Projs[0], p.Projs[1] = p.Projs[1], p.Projs[0] },
	} {
		p := usual()
		change(&p)
		if policy.Same(p, usual()) || policy.Same(usual(), p) {
			t.Error(what)
		}
	}
	p := usual()
	p.Projs[1].Dims = nil
	if !policy.Same(p, usual()) || !policy.Same(api.Policy{}, api.Policy{Tiers: []api.Tier{}, Projs: []api.Proj{}}) {
		t.Error("lists without elements")
	}
}

func TestSchemaThatIsNotRight(t *testing.T) {
	p := api.Policy{Tiers: []api.Tier{tier(0, 1, "a a")}, Horizon: 9}
	if e := policy.Check(api.Schema{Dims: []string{"a", "a"}}, p); e != api.ErrPolicy {
		t.Error(e)
	}
}
