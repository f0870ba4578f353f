package engine_test

import (
	"math/rand"
	"slices"
	"strings"
	"testing"

	"columbary/api"
	"columbary/engine"
	"columbary/group"
	"columbary/manifest"
	"columbary/parser"
	"columbary/policy"
	"columbary/rows"
	"columbary/selector"
	"columbary/typer"
	"columbary/vault"
)

// model is what an engine is to be in, as the events tell.
type model struct {
	s      api.Schema
	p      api.Policy
	now    int
	edges  []int
	events []api.Event
}

// somePolicy is a right one of the usual schema.
func somePolicy(r *rand.Rand) api.Policy {
	var p api.Policy
	dims, gran, age := schema().Dims, 1+r.Intn(4), 0
	for range 1 + r.Intn(4) {
		p.Tiers = append(p.Tiers, api.Tier{Age: age, Gran: gran, Dims: dims})
		if k := r.Intn(3); k < len(dims) {
			dims = slices.Delete(slices.Clone(dims), k, k+1)
		}
		gran, age = gran*(1+r.Intn(3)), age+1+r.Intn(30)
	}
	for range r.Intn(5) {
		k := r.Intn(len(p.Tiers))
		p.Projs = append(p.Projs, api.Proj{Tier: k, Gran: p.Tiers[k].Gran * (1 + r.Intn(2)), Dims: p.Tiers[k].Dims[:r.Intn(len(p.Tiers[k].Dims)+1)]})
	}
	p.Horizon = age + r.Intn(40)
	return p
}

// someQuery is a typed one, often of ends that begin buckets.
func (m *model) someQuery(r *rand.Rand) api.Query {
	g := m.p.Tiers[len(m.p.Tiers)-1].Gran
	if r.Intn(4) == 0 {
		g = 1
	}
	terms := []api.Term{{}, {Func: api.Sum, Metric: "m"}, {Func: api.Min, Metric: "m"}, {Func: api.Max, Metric: "m"}}
	q := api.Query{Terms: terms[:1+r.Intn(4)], From: g * r.Intn(1+m.now/g), By: [][]string{nil, nil, {"a"}, {"b"}, {"b", "a"}}[r.Intn(5)]}
	q.To = q.From + g*(1+r.Intn(2+m.now/g))
	if r.Intn(3) == 0 {
		q.Every = g * (1 + r.Intn(2))
	}
	is := api.Filter{Op: api.Is, Dim: "a", Value: "x"}
	q.Where = []api.Filter{{}, {}, is, {Op: api.Not, Kids: []api.Filter{is}}, {Op: api.Or, Kids: []api.Filter{is, {Op: api.IsNull, Dim: "b"}}}}[r.Intn(5)]
	if r.Intn(4) == 0 {
		q.Having = []api.Having{{Sign: 1, Value: r.Intn(3)}}
	}
	if r.Intn(4) == 0 {
		q.Order, q.Limit = r.Intn(3)-1, r.Intn(4)
	}
	return q
}

// tells is what a query is to be answered; false and a tier, if that does not keep what it uses.
func (m *model) tells(t *testing.T, q api.Query) ([]api.Group, int, bool) {
	t.Helper()
	for i, tier := range m.p.Tiers {
		from, to := max(q.From, m.edges[i]), q.To
		if i > 0 {
			to = min(to, m.edges[i-1])
		}
		if from >= to {
			continue
		}
		for _, name := range typer.Used(m.s, q) {
			if !slices.Contains(tier.Dims, name) {
				return nil, i, false
			}
		}
		if q.Every%tier.Gran != 0 || from%tier.Gran != 0 || to%tier.Gran != 0 {
			return nil, i, false
		}
	}
	var l []api.Row
	for _, x := range m.events {
		if x.Time >= m.edges[len(m.edges)-1] {
			r, _ := rows.Of(m.s, x)
			l = append(l, r)
		}
	}
	g, bad := group.Run(m.s, q, l)
	if bad != api.OK {
		t.Fatal(bad)
	}
	return g, -1, true
}

// step does something of an engine and of the model.
func (m *model) step(t *testing.T, r *rand.Rand, e *engine.Engine) {
	t.Helper()
	switch k := r.Intn(40); {
	case k < 27:
		x := event(m.now-r.Intn(30), []string{"x,p", "x,", "y,p", ",q", "y,"}[r.Intn(5)], r.Intn(50)-20)
		want := api.OK
		if x.Time < m.edges[0] || x.Time < 0 {
			want = api.ErrTime
		}
		if bad := e.Ingest(x); bad != want {
			t.Fatalf("%v: %v", x, bad)
		}
		if want == api.OK {
			m.events = append(m.events, x)
		}
	case k < 34:
		m.now += r.Intn(12)
		must(t, e.Tick(m.now))
	case k < 36:
		must(t, e.Merge())
	case k < 38:
		last := m.edges[len(m.edges)-1]
		m.edges, _ = policy.Edges(m.p, m.now)
		m.edges[len(m.edges)-1] = last
		must(t, e.Compact())
	default:
		m.edges, _ = policy.Edges(m.p, m.now)
		must(t, e.Expire())
	}
}

// asked holds a query's answer against the model's.
func (m *model) asked(t *testing.T, e *engine.Engine, q api.Query) bool {
	t.Helper()
	if typer.Check(m.s, q) != api.OK {
		return false
	}
	text := parser.Text(q)
	want, tier, ok := m.tells(t, q)
	got, bad := e.Query(text)
	plans, n, same := e.Plan(text)
	if !ok {
		if bad != api.ErrAnswer || same != api.ErrAnswer || n != tier || len(got)+len(plans) != 0 {
			t.Fatalf("%q: %v, %v, %d; not to be answered, by %d", text, bad, same, n, tier)
		}
		return false
	}
	if bad != api.OK || same != api.OK || n != -1 || !group.Same(got, want) {
		t.Fatalf("%q: %v, %v; want %v; edges %v", text, got, bad, want, m.edges)
	}
	m.whichever(t, e, q, plans, want)
	return true
}

// whichever asks by all plans.
func (m *model) whichever(t *testing.T, e *engine.Engine, q api.Query, plans []api.Plan, want []api.Group) {
	t.Helper()
	now, _ := e.Manifest()
	for i := range plans {
		for k := -1; k < len(m.p.Projs); k++ {
			l := slices.Clone(plans)
			l[i].Proj, l[i].Rows = k, 77
			there := k == -1 || slices.ContainsFunc(now.Files, func(f api.Stored) bool { return f.Tier == l[i].Tier && f.Proj == k })
			eligible := there && selector.Eligible(m.s, m.p, q, l[i])
			got, bad := e.Answer(parser.Text(q), l)
			if eligible && (bad != api.OK || !group.Same(got, want)) || !eligible && bad != api.ErrAnswer {
				t.Fatalf("%v by %v: %v, %v; want %v", q, l, got, bad, want)
			}
		}
	}
}

// TestAsTheEventsTell: each typed query is answered just if each tier whose stretch it has keeps what it uses; then as all events tell that are not below the last edge; by whichever plan.
func TestAsTheEventsTell(t *testing.T) {
	r := rand.New(rand.NewSource(1))
	answered, not := 0, 0
	for range 60 {
		m := &model{s: schema(), p: somePolicy(r)}
		m.edges = make([]int, len(m.p.Tiers))
		v := fresh(t, 1<<20)
		e := open(t, v)
		must(t, e.Configure(m.s, m.p))
		for i := range 150 {
			m.step(t, r, e)
			if i%40 == 39 {
				before := state(e)
				v = v.Crash(r.Intn(3))
				e = open(t, v)
				if state(e) != before {
					t.Fatalf("%s, opened: %s", before, state(e))
				}
			}
			now, _ := e.Manifest()
			if now.Now != m.now || !slices.Equal(now.Edges, m.edges) || now.Spent.Count != len(m.events) {
				t.Fatalf("%v: %v, %d", now, m.edges, m.now)
			}
			if m.asked(t, e, m.someQuery(r)) {
				answered++
			} else {
				not++
			}
		}
	}
	if answered < 1000 || not < 1000 {
		t.Errorf("%d, %d", answered, not)
	}
}

// script are acts that touch all of an engine.
func script() []func(e *engine.Engine) api.Errno {
	type act = func(e *engine.Engine) api.Errno
	tick := func(n int) act { return func(e *engine.Engine) api.Errno { return e.Tick(n) } }
	add := func(time int, dims string, n int) act {
		return func(e *engine.Engine) api.Errno { return e.Ingest(event(time, dims, n)) }
	}
	return []act{
		func(e *engine.Engine) api.Errno { return e.Configure(schema(), usual()) }, tick(12), add(3, "x,p", 1), add(12, "y,p", -2), (*engine.Engine).Merge, add(7, "x,p", 3), add(7, "x,p", 3), tick(60), (*engine.Engine).Compact, add(59, "x,q", 4), add(41, ",", 5),
		tick(130), (*engine.Engine).Expire, (*engine.Engine).Merge, add(129, "x,p", 6), tick(150), add(150, "z,p", 7), (*engine.Engine).Compact, tick(151), (*engine.Engine).Expire,
	}
}

// states are those of an engine to which nothing happens, ahead of the script and behind each act.
func states(t *testing.T) []string {
	t.Helper()
	e := open(t, fresh(t, 1<<20))
	l := []string{state(e)}
	for _, act := range script() {
		must(t, act(e))
		l = append(l, state(e))
	}
	return l
}

// resume does the script's acts from one on, and tells whether all ends as it does without a crash.
func resume(t *testing.T, e *engine.Engine, from int, want []string) {
	t.Helper()
	for i, act := range script() {
		if i < from {
			continue
		}
		if bad := act(e); bad != api.OK || state(e) != want[i+1] {
			t.Fatalf("resumed at %d, act %d: %v, %s; want %s", from, i, bad, state(e), want[i+1])
		}
	}
}

// TestCrashes: behind a crash at any act Open gives the state behind all acts that were answered, and at most one more.
func TestCrashes(t *testing.T) {
	want := states(t)
	ended := false
	for fuse := 1; !ended; fuse++ {
		for _, keep := range []int{0, 1, 2, 5, 9, 30, 1 << 20} {
			v := fresh(t, 1<<20)
			e := open(t, v)
			must(t, v.Arm(fuse))
			done := 0
			for _, act := range script() {
				bad := act(e)
				if bad == api.ErrStore {
					break
				}
				must(t, bad)
				done++
			}
			ended = done == len(script())
			c := v.Crash(keep)
			again := c.Copy()
			got := state(open(t, c))
			at := done
			if got != want[at] && done+1 < len(want) {
				at++
			}
			if got != want[at] {
				t.Fatalf("fuse %d, keep %d, act %d: %s; want %s", fuse, keep, done, got, want[done])
			}
			opened(t, again, keep, got)
			resume(t, open(t, c), at, want)
		}
	}
}

// opened breaks a vault while it is opened, at each act: what comes of it is the same.
func opened(t *testing.T, v *vault.Vault, keep int, want string) {
	t.Helper()
	for fuse := 1; ; fuse++ {
		w := v.Copy()
		must(t, w.Arm(fuse))
		e, bad := engine.Open(w)
		if bad == api.OK {
			if state(e) != want {
				t.Fatalf("opened with a fuse of %d: %s; want %s", fuse, state(e), want)
			}
			return
		}
		if e != nil || bad != api.ErrStore {
			t.Fatalf("a fuse of %d: %v", fuse, bad)
		}
		if got := state(open(t, w.Crash(keep))); got != want {
			t.Fatalf("a fuse of %d: %s; want %s", fuse, got, want)
		}
	}
}

// TestNoRoom: what is ErrFull changes nothing.
func TestNoRoom(t *testing.T) {
	want := states(t)
	fulls := 0
	queries := []string{"select count from 0 to 200", "select sum m, min m from 40 to 200 by a", "select count from 120 to 200 by b, a", "select max m from 0 to 200 every 20"}
	answers := func(e *engine.Engine) string {
		s := ""
		for _, q := range queries {
			g, bad := e.Query(q)
			s = number(s+" |", int(bad))
			for _, x := range g {
				s = number(number(s, x.Time)+" "+strings.Join(x.By, ","), x.Terms...)
			}
		}
		return s
	}
	for room := 0; room < 1500; room += 7 {
		v := fresh(t, room)
		e := open(t, v)
		for i, act := range script() {
			before, bytes, told := state(e), files(v), answers(e)
			bad := act(e)
			if bad == api.OK {
				if state(e) != want[i+1] || state(open(t, v.Crash(0))) != want[i+1] {
					t.Fatalf("room %d, act %d: %s", room, i, state(e))
				}
				continue
			}
			fulls++
			if bad != api.ErrFull || state(e) != before || files(v) != bytes || answers(e) != told {
				t.Fatalf("room %d, act %d: %v, %s; want %s", room, i, bad, state(e), before)
			}
			if c := open(t, v.Crash(0)); state(c) != before {
				t.Fatalf("room %d, act %d, behind a crash: %s", room, i, state(c))
			}
			break
		}
	}
	if fulls < 20 {
		t.Error(fulls)
	}
}

// TestArmedAgain: a vault that broke and is armed again has all that is answered from then on, and at most the one act more that broke.
func TestArmedAgain(t *testing.T) {
	for fuse := 1; fuse < 60; fuse++ {
		v := fresh(t, 1<<20)
		e := open(t, v)
		must(t, e.Configure(schema(), usual()), e.Tick(150), v.Arm(fuse))
		var told []int
		broke := 0
		for i := 1; i < 12; i++ {
			bad := e.Ingest(event(149, "x,p", 1<<i))
			if bad == api.OK {
				told = append(told, 1<<i)
			} else if bad == api.ErrStore {
				broke = 1 << i
				must(t, v.Arm(1<<20))
			} else {
				t.Fatal(bad)
			}
			if i%4 == 0 {
				if bad := e.Merge(); bad == api.ErrStore {
					must(t, v.Arm(1<<20))
				} else {
					must(t, bad)
				}
			}
		}
		sum := 0
		for _, n := range told {
			sum += n
		}
		if l := e.Rows(0, -1); len(l) != 1 || l[0].Aggs[0].Sum != sum {
			t.Fatalf("fuse %d: %v, want %d", fuse, l, sum)
		}
		for _, x := range []*engine.Engine{open(t, v.Crash(0)), open(t, v.Crash(1<<20))} {
			l := x.Rows(0, -1)
			if len(l) != 1 || l[0].Aggs[0].Sum != sum && l[0].Aggs[0].Sum != sum+broke {
				t.Fatalf("fuse %d: %v, want %d, or %d more", fuse, l, sum, broke)
			}
		}
	}
}

// TestTooManyRows: what no file can have is not merged, and nothing has changed.
func TestTooManyRows(t *testing.T) {
	v := fresh(t, api.MaxFile)
	e := open(t, v)
	p := api.Policy{Tiers: []api.Tier{{Gran: 1, Dims: []string{"a"}}}, Horizon: api.MaxTime}
	must(t, e.Configure(api.Schema{Dims: []string{"a"}}, p), e.Tick(api.MaxRows))
	for i := range api.MaxRows + 1 {
		must(t, e.Ingest(api.Event{Time: i, Dims: []string{"x"}}))
	}
	m, _ := e.Manifest()
	names := v.List()
	if bad := e.Merge(); bad == api.OK {
		t.Fatal("it is merged")
	}
	now, _ := e.Manifest()
	if !manifest.Same(now, m) || !slices.Equal(v.List(), names) || len(e.Rows(0, -1)) != api.MaxRows+1 {
		t.Errorf("%v, %v", now, v.List())
	}
	if g, bad := e.Query("select count from 0 to 70000"); bad != api.OK || g[0].Terms[0] != api.MaxRows+1 {
		t.Errorf("%v, %v", g, bad)
	}
}

// TestNoRoomForAFile: a file that is greater than a manifest finds no room, where a manifest would.
func TestNoRoomForAFile(t *testing.T) {
	fulls, built := 0, 0
	one := api.Policy{Tiers: []api.Tier{{Gran: 5, Dims: []string{"a", "b"}}}, Horizon: 100}
	for free := 0; free < 2600; free += 13 {
		v := fresh(t, 1<<16)
		e := open(t, v)
		must(t, e.Configure(schema(), one), e.Tick(90))
		for i := range 60 {
			must(t, e.Ingest(event(i+30, string(rune('a'+i%7))+","+string(rune('a'+i%11)), i*i)))
		}
		must(t, v.Append("fill", make([]byte, v.Free()-free)))
		before, bytes := state(e), files(v)
		bad := e.Merge()
		switch {
		case bad == api.OK:
			built++
			before = state(e)
		case bad != api.ErrFull || state(e) != before || files(v) != bytes:
			t.Fatalf("%d bytes: %v, %s", free, bad, state(e))
		default:
			fulls++
		}
		if c := open(t, v.Crash(0)); state(c) != before {
			t.Fatalf("%d bytes, %v, behind a crash: %s", free, bad, state(c))
		}
	}
	if fulls < 20 || built < 20 {
		t.Errorf("%d, %d", fulls, built)
	}
}
