package cuboid_test

import (
	"math"
	"math/rand"
	"slices"
	"strings"
	"testing"

	"columbary/api"
	"columbary/cuboid"
	"columbary/rows"
)

const most = api.MaxInt

func schema() api.Schema {
	return api.Schema{Dims: []string{"a", "b", "c"}, Metrics: []string{"m", "n"}}
}

func row(time int, dims string, count, sum, least, greatest int) api.Row {
	r := api.Row{Time: time, Count: count, Aggs: []api.Agg{{Sum: sum, Min: least, Max: greatest}, {Sum: count, Min: 1, Max: 1}}}
	if dims != "" {
		r.Dims = strings.Split(dims, ",")
	}
	return r
}

func one(time int, dims string, n int) api.Row { return row(time, dims, 1, n, n, n) }

func some(r *rand.Rand) []api.Row {
	l := make([]api.Row, r.Intn(40))
	for i := range l {
		l[i] = one(r.Intn(60), string("xyz"[r.Intn(3)])+","+strings.Repeat("w", r.Intn(2))+","+string("pq"[r.Intn(2)]), r.Intn(100)-50)
	}
	return l
}

func TestSchema(t *testing.T) {
	for _, dims := range []string{"", "a", "b c", "a c", "a b c"} {
		s, e := cuboid.Schema(schema(), strings.Fields(dims))
		if e != api.OK || !slices.Equal(s.Dims, strings.Fields(dims)) || !slices.Equal(s.Metrics, schema().Metrics) {
			t.Errorf("%q: %v, %v", dims, s, e)
		}
	}
	for _, dims := range []string{"d", "b a", "a a", "a b c d", "A", "m"} {
		s, e := cuboid.Schema(schema(), strings.Fields(dims))
		l, f := cuboid.Project(schema(), []api.Row{one(1, "x,y,z", 5)}, strings.Fields(dims), 0)
		if e != api.ErrCuboid || len(s.Dims) != 0 || len(s.Metrics) != 0 || f != api.ErrCuboid || len(l) != 0 {
			t.Errorf("%q: %v, %v, %v", dims, s, e, f)
		}
	}
}

func TestProject(t *testing.T) {
	l := []api.Row{one(3, "x,y,z", 5), one(4, "x,w,z", -7), one(5, "x,y,z", 1), row(9, "v,y,z", 3, 30, 2, 20)}
	for _, x := range []struct {
		dims string
		gran int
		want []api.Row
	}{
		{"a b c", 1, l}, {"a c", 5, []api.Row{row(0, "x,z", 2, -2, -7, 5), row(5, "v,z", 3, 30, 2, 20), one(5, "x,z", 1)}},
		{"b", 10, []api.Row{one(0, "w", -7), row(0, "y", 5, 36, 1, 20)}}, {"", 100, []api.Row{row(0, "", 6, 29, -7, 20)}}, {"", 1, []api.Row{one(3, "", 5), one(4, "", -7), one(5, "", 1), row(9, "", 3, 30, 2, 20)}},
	} {
		given := rows.Copy(l)
		got, e := cuboid.Project(schema(), l, strings.Fields(x.dims), x.gran)
		if e != api.OK || !rows.Same(got, x.want) || !rows.Same(l, given) {
			t.Errorf("%q of %d: %v, %v", x.dims, x.gran, got, e)
		}
	}
	if got, e := cuboid.Project(schema(), nil, nil, 1); len(got) != 0 || e != api.OK {
		t.Errorf("of no rows: %v, %v", got, e)
	}
}

func TestProjectWrong(t *testing.T) {
	l := []api.Row{one(1, "x,y,z", most), one(2, "x,w,z", most), one(2, "v,w,z", 1)}
	for _, g := range []int{0, -1, api.MaxGran + 1, math.MinInt, math.MaxInt} {
		if got, e := cuboid.Project(schema(), l, nil, g); len(got) != 0 || e != api.ErrGran {
			t.Errorf("of %d: %v, %v", g, got, e)
		}
		if got, e := cuboid.Project(schema(), nil, []string{"a"}, g); len(got) != 0 || e != api.ErrGran {
			t.Errorf("of %d, no rows: %v, %v", g, got, e)
		}
	}
	if got, e := cuboid.Project(schema(), l, []string{"a"}, 10); len(got) != 0 || e != api.ErrOver {
		t.Errorf("too much: %v, %v", got, e)
	}
	if got, e := cuboid.Project(schema(), []api.Row{row(0, "x,y,z", api.MaxCount, 0, 0, 0), one(0, "x,w,z", 0)}, []string{"a"}, 10); len(got) != 0 || e != api.ErrOver {
		t.Errorf("too many: %v, %v", got, e)
	}
	if got, e := cuboid.Project(schema(), l, []string{"a"}, 1); len(got) != 3 || e != api.OK {
		t.Errorf("apart: %v, %v", got, e)
	}
	if got, e := cuboid.Project(schema(), []api.Row{one(api.MaxTime, "x,y,z", 1)}, nil, api.MaxGran); e != api.OK || got[0].Time != api.MaxTime {
		t.Errorf("at MaxTime: %v, %v", got, e)
	}
}

func TestWithinAndSplit(t *testing.T) {
	l := []api.Row{one(1, "x,y,z", 1), one(3, "x,y,z", 2), one(3, "x,z,z", 3), one(5, "x,y,z", 4), one(2, "x,y,z", 5)}
	for _, x := range []struct {
		from, to int
		want     []int
	}{
		{1, 6, []int{0, 1, 2, 3, 4}}, {1, 5, []int{0, 1, 2, 4}}, {2, 4, []int{1, 2, 4}}, {3, 3, nil}, {5, 1, nil}, {3, 4, []int{1, 2}}, {6, 99, nil}, {-9, 1, nil}, {math.MinInt, math.MaxInt, []int{0, 1, 2, 3, 4}}, {5, 6, []int{3}},
	} {
		var want []api.Row
		for _, i := range x.want {
			want = append(want, l[i])
		}
		if got := cuboid.Within(l, x.from, x.to); !rows.Same(got, want) {
			t.Errorf("%d, %d: %v", x.from, x.to, got)
		}
	}
	for _, at := range []int{math.MinInt, 0, 1, 2, 3, 4, 5, 6, math.MaxInt} {
		var want [2][]api.Row
		for _, r := range l {
			k := 0
			if r.Time >= at {
				k = 1
			}
			want[k] = append(want[k], r)
		}
		below, others := cuboid.Split(l, at)
		if !rows.Same(below, want[0]) || !rows.Same(others, want[1]) {
			t.Errorf("%d: %v, %v", at, below, others)
		}
	}
}

func TestNewMemory(t *testing.T) {
	dims := []string{"a", "b", "c"}
	s := schema()
	own, _ := cuboid.Schema(s, dims)
	own.Dims[0], own.Metrics[0] = "q", "q"
	l := []api.Row{one(1, "x,y,z", 1), one(3, "x,y,z", 2)}
	projected, _ := cuboid.Project(s, l, dims, 1)
	below, others := cuboid.Split(l, 2)
	for _, x := range [][]api.Row{projected, cuboid.Within(l, 0, 9), below, others} {
		for i := range x {
			x[i].Dims[0], x[i].Aggs[0].Sum = "changed", 99
			x[i] = api.Row{}
		}
	}
	if !rows.Same(l, []api.Row{one(1, "x,y,z", 1), one(3, "x,y,z", 2)}) || dims[0] != "a" || s.Dims[0] != "a" || s.Metrics[0] != "m" {
		t.Errorf("%v", l)
	}
}

// TestByWayOfAnother: what a cuboid's rows are, in a coarser one with some of its dimensions, is what the rows are in that at once.
func TestByWayOfAnother(t *testing.T) {
	r := rand.New(rand.NewSource(1))
	s := schema()
	for range 600 {
		l := some(r)
		var first, then []string
		for _, d := range s.Dims {
			if r.Intn(4) > 0 {
				first = append(first, d)
				if r.Intn(2) == 0 {
					then = append(then, d)
				}
			}
		}
		g := 1 + r.Intn(6)
		k := g * (1 + r.Intn(4))
		mid, e := cuboid.Project(s, l, first, g)
		t2, f := cuboid.Schema(s, first)
		way, h := cuboid.Project(t2, mid, then, k)
		once, i := cuboid.Project(s, l, then, k)
		if e != api.OK || f != api.OK || h != api.OK || i != api.OK || !rows.Same(way, once) || !rows.Sorted(once) {
			t.Fatalf("%v by %v %d, %v %d: %v, %v", l, first, g, then, k, way, once)
		}
		count := 0
		for _, x := range l {
			count += x.Count
		}
		for _, x := range once {
			count -= x.Count
			if len(x.Dims) != len(then) || x.Time%k != 0 {
				t.Fatalf("%v", x)
			}
		}
		if count != 0 {
			t.Fatal("events are lost")
		}
	}
}
