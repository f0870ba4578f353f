package engine_test

import (
	"math"
	"slices"
	"strconv"
	"strings"
	"testing"

	"columbary/api"
	"columbary/engine"
	"columbary/group"
	"columbary/manifest"
	"columbary/rows"
	"columbary/segment"
	"columbary/vault"
)

func schema() api.Schema {
	return api.Schema{Dims: []string{"a", "b"}, Metrics: []string{"m"}}
}

// usual is a policy of three tiers and three projections.
func usual() api.Policy {
	return api.Policy{
		Tiers:   []api.Tier{{Age: 0, Gran: 5, Dims: []string{"a", "b"}}, {Age: 20, Gran: 10, Dims: []string{"a"}}, {Age: 50, Gran: 20}},
		Projs:   []api.Proj{{Tier: 0, Gran: 10, Dims: []string{"b"}}, {Tier: 1, Gran: 10}, {Tier: 0, Gran: 5}},
		Horizon: 100,
	}
}

func event(time int, dims string, n int) api.Event {
	return api.Event{Time: time, Dims: strings.Split(dims, ","), Metrics: []int{n}}
}

func fresh(t *testing.T, room int) *vault.Vault {
	t.Helper()
	v, e := vault.New(room)
	if e != api.OK {
		t.Fatal(e)
	}
	return v
}

func open(t *testing.T, v *vault.Vault) *engine.Engine {
	t.Helper()
	e, bad := engine.Open(v)
	if e == nil || bad != api.OK {
		t.Fatalf("Open: %v", bad)
	}
	return e
}

// configured is an engine of the usual policy, and its vault.
func configured(t *testing.T) (*engine.Engine, *vault.Vault) {
	t.Helper()
	v := fresh(t, 1<<16)
	e := open(t, v)
	must(t, e.Configure(schema(), usual()))
	return e, v
}

func must(t *testing.T, l ...api.Errno) {
	t.Helper()
	for i, e := range l {
		if e != api.OK {
			t.Fatalf("call %d: %v", i, e)
		}
	}
}

// files are a vault's names and bytes, as a text.
func files(v *vault.Vault) string {
	s := ""
	for _, name := range v.List() {
		b, _ := v.Read(name)
		s += name + "=" + string(b) + "|"
	}
	return s
}

// number puts numbers behind a text.
func number(s string, l ...int) string {
	for _, n := range l {
		s += " " + strconv.Itoa(n)
	}
	return s
}

// state is what an engine is in, but for the names of files, as a text.
func state(e *engine.Engine) string {
	m, ok := e.Manifest()
	if !ok {
		return "none"
	}
	s := number("now", m.Now, m.Spent.Count)
	s = number(number(s+" sizes", m.Spent.Sizes...)+" edges", m.Edges...)
	for tier := range m.Policy.Tiers {
		for proj := -1; proj < len(m.Policy.Projs); proj++ {
			if proj >= 0 && m.Policy.Projs[proj].Tier != tier {
				continue
			}
			s = number(s+" |", tier, proj)
			for _, r := range e.Rows(tier, proj) {
				s = number(s+" "+strings.Join(r.Dims, ","), r.Time, r.Count)
				for _, a := range r.Aggs {
					s = number(s, a.Sum, a.Min, a.Max)
				}
			}
		}
	}
	return s
}

func TestConfigure(t *testing.T) {
	v := fresh(t, 1<<16)
	e := open(t, v)
	if m, ok := e.Manifest(); ok || !manifest.Same(m, api.Manifest{}) || len(v.List()) != 0 {
		t.Error("it is not configured")
	}
	wrong := usual()
	wrong.Horizon = 50
	for i, x := range []struct {
		s    api.Schema
		p    api.Policy
		want api.Errno
	}{{api.Schema{}, wrong, api.ErrSchema}, {api.Schema{Dims: []string{"a", "a"}}, usual(), api.ErrSchema}, {schema(), wrong, api.ErrPolicy}, {schema(), api.Policy{}, api.ErrPolicy}, {api.Schema{Dims: []string{"b", "a"}}, usual(), api.ErrPolicy}} {
		if bad := e.Configure(x.s, x.p); bad != x.want || len(v.List()) != 0 {
			t.Errorf("%d: %v", i, bad)
		}
	}
	must(t, e.Configure(schema(), usual()))
	want := api.Manifest{Schema: schema(), Policy: usual(), Edges: []int{0, 0, 0}, Spent: api.Budget{Sizes: []int{0}}, Journal: "j0", Next: 1}
	if m, ok := e.Manifest(); !ok || !manifest.Same(m, want) {
		t.Errorf("%v", m)
	}
	if m, ok, _ := manifest.Load(v.Crash(0)); !ok || !manifest.Same(m, want) || !slices.Equal(v.List(), []string{"manifest"}) {
		t.Errorf("committed: %v", m)
	}
	for _, s := range []api.Schema{schema(), {}} {
		if bad := e.Configure(s, wrong); bad != api.ErrState {
			t.Errorf("again: %v", bad)
		}
	}
}

func TestNotConfigured(t *testing.T) {
	v := fresh(t, 1<<16)
	e := open(t, v)
	_, q := e.Query("")
	l, n, p := e.Plan("nonsense")
	_, a := e.Answer("", nil)
	for i, bad := range []api.Errno{e.Ingest(event(0, "x,y", 1)), e.Ingest(api.Event{}), e.Tick(-1), e.Tick(5), e.Merge(), e.Compact(), e.Expire(), q, p, a} {
		if bad != api.ErrState {
			t.Errorf("%d: %v", i, bad)
		}
	}
	if len(l) != 0 || n != 0 || len(e.Rows(0, -1)) != 0 || len(v.List()) != 0 {
		t.Error("it tells something")
	}
}

func TestNilEngine(t *testing.T) {
	var e *engine.Engine
	g, q := e.Query("")
	l, n, p := e.Plan("")
	h, a := e.Answer("", nil)
	for i, bad := range []api.Errno{e.Configure(schema(), usual()), e.Configure(api.Schema{}, api.Policy{}), e.Ingest(event(0, "x,y", 1)), e.Tick(-1), e.Merge(), e.Compact(), e.Expire(), q, p, a} {
		if bad != api.ErrArg {
			t.Errorf("%d: %v", i, bad)
		}
	}
	m, ok := e.Manifest()
	if len(g)+len(l)+len(h) != 0 || n != 0 || ok || !manifest.Same(m, api.Manifest{}) || len(e.Rows(0, -1)) != 0 {
		t.Error("it tells something")
	}
	if e, bad := engine.Open(nil); e != nil || bad != api.ErrArg {
		t.Errorf("a nil vault: %v", bad)
	}
}

func TestIngestAndTick(t *testing.T) {
	e, v := configured(t)
	must(t, e.Tick(12), e.Tick(12), e.Ingest(event(12, "x,y", 5)), e.Ingest(event(0, "x,", -7)), e.Ingest(event(11, "x,y", 2)))
	m, _ := e.Manifest()
	if m.Now != 12 || m.Spent.Count != 3 || !slices.Equal(m.Spent.Sizes, []int{14}) || m.Next != 1 || m.Journal != "j0" || len(m.Files) != 0 {
		t.Errorf("%v", m)
	}
	want := []api.Row{{Time: 0, Dims: []string{"x", ""}, Count: 1, Aggs: []api.Agg{{Sum: -7, Min: -7, Max: -7}}}, {Time: 10, Dims: []string{"x", "y"}, Count: 2, Aggs: []api.Agg{{Sum: 7, Min: 2, Max: 5}}}}
	if got := e.Rows(0, -1); !rows.Same(got, want) || len(e.Rows(0, 0))+len(e.Rows(1, -1)) != 0 {
		t.Errorf("%v", got)
	}
	before, bytes := state(e), files(v)
	for i, x := range []struct {
		e    api.Event
		want api.Errno
	}{
		{event(99, "x", 5), api.ErrSchema}, {event(99, "x,\"", 5), api.ErrValue}, {event(99, "x,y", api.MaxInt+1), api.ErrValue}, {event(-1, "x,y", 5), api.ErrTime}, {event(api.MaxTime+1, "x,y", 5), api.ErrTime}, {event(13, "x,y", 5), api.ErrTime},
		{event(13, "x,y", api.MaxInt), api.ErrTime}, {event(12, "x,y", api.MaxInt), api.ErrBudget}, {event(12, "x,y", api.MaxInt-13), api.ErrBudget},
	} {
		if bad := e.Ingest(x.e); bad != x.want {
			t.Errorf("%d: %v", i, bad)
		}
	}
	for _, now := range []int{11, 0, -1, math.MinInt, api.MaxTime + 1, math.MaxInt} {
		if bad := e.Tick(now); bad != api.ErrTime {
			t.Errorf("Tick(%d): %v", now, bad)
		}
	}
	if state(e) != before || files(v) != bytes {
		t.Error("changed")
	}
	must(t, e.Ingest(event(12, "x,y", api.MaxInt-14)))
	if bad := e.Ingest(event(12, "x,y", 1)); bad != api.ErrBudget {
		t.Errorf("spent: %v", bad)
	}
	must(t, e.Ingest(event(12, "x,y", 0)), e.Tick(api.MaxTime))
}

func TestBuild(t *testing.T) {
	e, v := configured(t)
	must(t, e.Tick(37), e.Ingest(event(3, "x,p", 1)), e.Ingest(event(8, "x,q", 2)), e.Ingest(event(9, "y,p", 3)), e.Ingest(event(26, "x,p", 4)), e.Ingest(event(37, "x,p", 5)))
	if !slices.Equal(v.List(), []string{"j0", "manifest"}) {
		t.Errorf("%v", v.List())
	}
	must(t, e.Merge())
	m, _ := e.Manifest()
	want := []api.Stored{{Name: "s1", Tier: 0, Proj: -1, Rows: 5}, {Name: "s2", Tier: 0, Proj: 0, Rows: 4}, {Name: "s3", Tier: 0, Proj: 2, Rows: 4}}
	if !slices.Equal(m.Files, want) || m.Journal != "j4" || m.Next != 5 || !slices.Equal(m.Edges, []int{0, 0, 0}) || m.Now != 37 || m.Spent.Count != 5 || !slices.Equal(v.List(), []string{"manifest", "s1", "s2", "s3"}) {
		t.Errorf("Merge: %v, %v", m, v.List())
	}
	must(t, e.Ingest(event(37, "z,p", 6)), e.Compact())
	m, _ = e.Manifest()
	want = []api.Stored{{Name: "s5", Tier: 0, Proj: -1, Rows: 3}, {Name: "s6", Tier: 0, Proj: 0, Rows: 2}, {Name: "s7", Tier: 0, Proj: 2, Rows: 2}, {Name: "s8", Tier: 1, Proj: -1, Rows: 2}, {Name: "s9", Tier: 1, Proj: 1, Rows: 1}}
	if !slices.Equal(m.Files, want) || m.Journal != "j10" || m.Next != 11 || !slices.Equal(m.Edges, []int{10, 0, 0}) || !slices.Equal(v.List(), []string{"manifest", "s5", "s6", "s7", "s8", "s9"}) {
		t.Errorf("Compact: %v, %v", m, v.List())
	}
	agg := func(sum, least, greatest int) []api.Agg { return []api.Agg{{Sum: sum, Min: least, Max: greatest}} }
	for i, x := range []struct {
		tier, proj int
		want       []api.Row
	}{
		{0, -1, []api.Row{{Time: 25, Dims: []string{"x", "p"}, Count: 1, Aggs: agg(4, 4, 4)}, {Time: 35, Dims: []string{"x", "p"}, Count: 1, Aggs: agg(5, 5, 5)}, {Time: 35, Dims: []string{"z", "p"}, Count: 1, Aggs: agg(6, 6, 6)}}},
		{0, 0, []api.Row{{Time: 20, Dims: []string{"p"}, Count: 1, Aggs: agg(4, 4, 4)}, {Time: 30, Dims: []string{"p"}, Count: 2, Aggs: agg(11, 5, 6)}}},
		{1, -1, []api.Row{{Time: 0, Dims: []string{"x"}, Count: 2, Aggs: agg(3, 1, 2)}, {Time: 0, Dims: []string{"y"}, Count: 1, Aggs: agg(3, 3, 3)}}},
		{1, 1, []api.Row{{Time: 0, Count: 3, Aggs: agg(6, 1, 3)}}}, {1, 0, nil}, {0, 1, nil}, {2, -1, nil}, {3, -1, nil}, {-1, -1, nil}, {0, 9, nil}, {0, -2, nil},
	} {
		if got := e.Rows(x.tier, x.proj); !rows.Same(got, x.want) {
			t.Errorf("%d: %v", i, got)
		}
	}
	must(t, e.Tick(137), e.Compact())
	if m, _ := e.Manifest(); !slices.Equal(m.Edges, []int{110, 80, 0}) || len(m.Files) != 1 || m.Files[0] != (api.Stored{Name: "s11", Tier: 2, Proj: -1, Rows: 2}) {
		t.Errorf("all is old: %v", m)
	}
	must(t, e.Expire())
	if m, _ := e.Manifest(); !slices.Equal(m.Edges, []int{110, 80, 20}) || m.Spent.Count != 6 || !rows.Same(e.Rows(2, -1), []api.Row{{Time: 20, Count: 3, Aggs: agg(15, 4, 6)}}) {
		t.Errorf("Expire: %v, %v", m, e.Rows(2, -1))
	}
	must(t, e.Tick(1000), e.Expire())
	m, _ = e.Manifest()
	if len(m.Files) != 0 || m.Spent.Count != 6 || !slices.Equal(m.Spent.Sizes, []int{21}) || !slices.Equal(m.Edges, []int{980, 940, 900}) || !slices.Equal(v.List(), []string{"manifest"}) {
		t.Errorf("all is dropped: %v", m)
	}
	if bad := e.Ingest(event(979, "x,p", 1)); bad != api.ErrTime {
		t.Errorf("below the edge: %v", bad)
	}
	must(t, e.Ingest(event(980, "x,p", 1)))
}

func TestMergeKeepsEdges(t *testing.T) {
	e, _ := configured(t)
	must(t, e.Tick(37), e.Ingest(event(3, "x,p", 1)), e.Compact(), e.Tick(200), e.Ingest(event(10, "x,p", 1)), e.Merge())
	m, _ := e.Manifest()
	if !slices.Equal(m.Edges, []int{10, 0, 0}) || len(e.Rows(0, -1)) != 1 || len(e.Rows(1, -1)) != 1 {
		t.Errorf("%v", m)
	}
}

func TestBuiltFilesAreSegments(t *testing.T) {
	e, v := configured(t)
	must(t, e.Tick(37), e.Ingest(event(3, "x,p", 1)), e.Ingest(event(36, "x,p", 1)), e.Compact())
	m, _ := e.Manifest()
	for _, f := range m.Files {
		b, _ := v.Crash(0).Read(f.Name)
		g, bad := segment.Parse(b)
		if bad != api.OK || !rows.Same(g.Rows(), e.Rows(f.Tier, f.Proj)) || g.Len() != f.Rows {
			t.Errorf("%v: %v", f, bad)
		}
	}
	if got, ok, _ := manifest.Load(v.Crash(0)); !ok || !manifest.Same(got, m) || len(m.Files) != 5 {
		t.Errorf("%v", got)
	}
}

func TestQuery(t *testing.T) {
	e, _ := configured(t)
	must(t, e.Tick(37), e.Ingest(event(3, "x,p", 1)), e.Ingest(event(8, "x,q", 2)), e.Ingest(event(26, "x,p", 4)), e.Compact(), e.Ingest(event(37, "y,p", 5)))
	g := func(time int, by string, terms ...int) api.Group {
		x := api.Group{Time: time, Terms: terms}
		if by != "-" {
			x.By = strings.Split(by, ",")
		}
		return x
	}
	for q, want := range map[string][]api.Group{
		"select count, sum m from 0 to 40":                 {g(0, "-", 4, 12)},
		"select count from 0 to 40 by a":                   {g(0, "x", 3), g(0, "y", 1)},
		"select sum m, min m, max m from 10 to 40 by b":    {g(10, "p", 9, 4, 5)},
		"select sum m from 0 to 40 every 10":               {g(0, "-", 3), g(20, "-", 4), g(30, "-", 5)},
		"select sum m from 25 to 40 every 5 by a, b":       {g(25, "x,p", 4), g(35, "y,p", 5)},
		"select count from 0 to 40 where a = \"x\"":        {g(0, "-", 3)},
		"select count from 0 to 40 having count > 4":       nil,
		"select count from 0 to 40 by a order 1 limit 1":   {g(0, "y", 1)},
		"select count from 10 to 20":                       nil,
		"select count from 10 to 40 where not a = \"x\"":   {g(10, "-", 1)},
		"select count from 40 to 100":                      nil,
		"select count from 0 to 1000000 every 20 by a":     {g(0, "x", 2), g(20, "x", 1), g(20, "y", 1)},
		"select count from 0 to 10 by a where a is null":   nil,
		"select max m from 0 to 40 by a where a = \"y\"":   {g(0, "y", 5)},
		"select count from 0 to 40 every 20 where a=\"x\"": {g(0, "-", 2), g(20, "-", 1)},
	} {
		if got, bad := e.Query(q); bad != api.OK || !group.Same(got, want) {
			t.Errorf("%q: %v, %v", q, got, bad)
		}
	}
	for q, want := range map[string]struct {
		e    api.Errno
		tier int
	}{
		"select count from 0 to 40 where a = \"x": {api.ErrToken, 0}, "select": {api.ErrSyntax, 0}, "": {api.ErrSyntax, 0}, "select count from 0 to 40 where " + strings.Repeat("not ", 13): {api.ErrDeep, 0}, "select sum q from 0 to 40": {api.ErrName, 0}, "select count from 0 to 40 by a, c": {api.ErrName, 0},
		"select count from 40 to 40": {api.ErrType, 0}, "select count from -1 to 40": {api.ErrType, 0}, "select count from 0 to 40 by b": {api.ErrAnswer, 1}, "select count from 0 to 40 where b is null": {api.ErrAnswer, 1}, "select count from 0 to 41": {api.ErrAnswer, 0}, "select count from 5 to 40": {api.ErrAnswer, 1}, "select count from 0 to 40 every 5": {api.ErrAnswer, 1}, "select count from 10 to 40 every 7": {api.ErrAnswer, 0},
	} {
		g, bad := e.Query(q)
		l, n, same := e.Plan(q)
		if bad != want.e || same != want.e || len(g)+len(l) != 0 || n != want.tier {
			t.Errorf("%q: %v, %v, %d", q, bad, same, n)
		}
	}
}

func TestPlanAndAnswer(t *testing.T) {
	e, _ := configured(t)
	must(t, e.Tick(37), e.Ingest(event(3, "x,p", 1)), e.Ingest(event(26, "x,p", 4)), e.Ingest(event(27, "y,p", 4)), e.Compact(), e.Ingest(event(36, "y,p", 5)))
	plan := func(from, to, tier, proj, rows int) api.Plan {
		return api.Plan{From: from, To: to, Tier: tier, Proj: proj, Rows: rows}
	}
	q := "select sum m from 0 to 40"
	l, n, bad := e.Plan(q)
	if bad != api.OK || n != -1 || !slices.Equal(l, []api.Plan{plan(10, 40, 0, 0, 1), plan(0, 10, 1, -1, 1)}) {
		t.Errorf("%v, %d, %v", l, n, bad)
	}
	want, _ := e.Query(q)
	for i, x := range []struct {
		l []api.Plan
		e api.Errno
	}{
		{l, api.OK}, {[]api.Plan{plan(10, 40, 0, -1, 99), plan(0, 10, 1, 1, -5)}, api.OK}, {[]api.Plan{plan(10, 40, 0, 2, 0), plan(0, 10, 1, -1, 0)}, api.OK},
		{nil, api.ErrAnswer}, {l[:1], api.ErrAnswer}, {append(slices.Clone(l), l[1]), api.ErrAnswer}, {[]api.Plan{l[1], l[0]}, api.ErrAnswer}, {[]api.Plan{plan(10, 40, 0, 1, 0), l[1]}, api.ErrAnswer}, {[]api.Plan{l[0], plan(0, 10, 1, 0, 0)}, api.ErrAnswer},
		{[]api.Plan{plan(10, 35, 0, -1, 0), l[1]}, api.ErrAnswer}, {[]api.Plan{plan(15, 40, 0, -1, 0), l[1]}, api.ErrAnswer}, {[]api.Plan{l[0], plan(0, 10, 0, -1, 0)}, api.ErrAnswer}, {[]api.Plan{plan(10, 40, 0, 9, 0), l[1]}, api.ErrAnswer}, {[]api.Plan{plan(10, 40, 0, -2, 0), l[1]}, api.ErrAnswer}, {[]api.Plan{plan(10, 40, 5, -1, 0), l[1]}, api.ErrAnswer},
	} {
		got, bad := e.Answer(q, x.l)
		if bad != x.e || bad == api.OK && !group.Same(got, want) || bad != api.OK && len(got) != 0 {
			t.Errorf("%d: %v, %v", i, got, bad)
		}
	}
	for text, want := range map[string]api.Errno{"select": api.ErrSyntax, ";": api.ErrToken, "select sum q from 0 to 40": api.ErrName, "select sum m from 9 to 4": api.ErrType, "select sum m from 0 to 41": api.ErrAnswer, "select sum m from 0 to 40 by a": api.ErrAnswer} {
		if _, bad := e.Answer(text, l); bad != want {
			t.Errorf("%q: %v", text, bad)
		}
	}
	if got, bad := e.Answer("select count from 30 to 40 by b", []api.Plan{plan(30, 40, 0, 0, 0)}); bad != api.OK || !group.Same(got, []api.Group{{Time: 30, By: []string{"p"}, Terms: []int{1}}}) {
		t.Errorf("%v, %v", got, bad)
	}
	// A projection without a file is none.
	other, _ := configured(t)
	must(t, other.Tick(9), other.Ingest(event(3, "x,p", 1)))
	if _, bad := other.Answer("select count from 0 to 10", []api.Plan{plan(0, 10, 0, 2, 0)}); bad != api.ErrAnswer {
		t.Errorf("%v", bad)
	}
	if got, bad := other.Answer("select count from 0 to 10", []api.Plan{plan(0, 10, 0, -1, 0)}); bad != api.OK || !group.Same(got, []api.Group{{Terms: []int{1}}}) {
		t.Errorf("%v, %v", got, bad)
	}
}

func TestNewMemory(t *testing.T) {
	v := fresh(t, 1<<16)
	e := open(t, v)
	s, p := schema(), usual()
	must(t, e.Configure(s, p))
	s.Dims[0], s.Metrics[0], p.Tiers[0].Gran, p.Tiers[1].Dims[0], p.Projs[0].Dims[0] = "q", "q", 1, "q", "q"
	x := event(3, "x,p", 1)
	must(t, e.Tick(37), e.Ingest(x), e.Compact(), e.Ingest(event(37, "x,p", 1)))
	x.Dims[0], x.Metrics[0] = "q", 9
	before := state(e)
	full, _ := e.Manifest()
	m, _ := e.Manifest()
	m.Schema.Dims[0], m.Schema.Metrics[0], m.Policy.Tiers[0].Gran, m.Policy.Tiers[0].Dims[0], m.Policy.Projs[0].Dims[0], m.Edges[0], m.Spent.Sizes[0], m.Files[0].Name = "z", "z", 9, "z", "z", 9, 9, "z"
	r := e.Rows(0, -1)
	r[0].Dims[0], r[0].Aggs[0].Sum = "z", 9
	if again, _ := e.Manifest(); state(e) != before || !manifest.Same(again, full) {
		t.Error("shared")
	}
	must(t, e.Merge())
	if state(open(t, v.Crash(0))) == "" || len(e.Rows(0, -1)) != 1 {
		t.Error("Merge")
	}
}
