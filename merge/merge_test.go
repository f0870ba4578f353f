package merge_test

import (
	"math/rand"
	"slices"
	"strings"
	"testing"

	"columbary/api"
	"columbary/merge"
	"columbary/rows"
)

const most = api.MaxInt

func row(time int, dims string, count, sum, least, greatest int) api.Row {
	return api.Row{Time: time, Dims: strings.Split(dims, ","), Count: count, Aggs: []api.Agg{{Sum: sum, Min: least, Max: greatest}}}
}

func one(time int, dims string, n int) api.Row { return row(time, dims, 1, n, n, n) }

func some(r *rand.Rand) []api.Row {
	var l []api.Row
	for range r.Intn(15) {
		l = append(l, one(r.Intn(4), string("ab"[r.Intn(2)])+","+strings.Repeat("w", r.Intn(3)), r.Intn(100)-50))
	}
	l, _ = rows.Fold(l)
	return l
}

func TestLists(t *testing.T) {
	a := []api.Row{one(1, "a,b", 5), one(2, "a,b", 7)}
	b := []api.Row{one(0, "z,z", 1), row(2, "a,b", 3, 9, 1, 8), one(2, "b,", 4)}
	c := []api.Row{one(2, "a,b", -1)}
	got, e := merge.Lists([][]api.Row{a, b, nil, c})
	want := []api.Row{one(0, "z,z", 1), one(1, "a,b", 5), row(2, "a,b", 5, 15, -1, 8), one(2, "b,", 4)}
	if e != api.OK || !rows.Same(got, want) {
		t.Errorf("%v, %v", got, e)
	}
	if !rows.Same(a, []api.Row{one(1, "a,b", 5), one(2, "a,b", 7)}) || len(b) != 3 || !rows.Same(c, []api.Row{one(2, "a,b", -1)}) {
		t.Error("changed")
	}
	for _, l := range [][][]api.Row{nil, {}, {nil}, {nil, {}}} {
		if got, e := merge.Lists(l); len(got) != 0 || e != api.OK {
			t.Errorf("%v: %v, %v", l, got, e)
		}
		if n, k := merge.Stats(l); n != 0 || k != 0 {
			t.Errorf("%v: %d, %d", l, n, k)
		}
	}
	if got, e := merge.Lists([][]api.Row{a}); e != api.OK || !rows.Same(got, a) {
		t.Errorf("one list: %v, %v", got, e)
	}
}

func TestNotSorted(t *testing.T) {
	ok := []api.Row{one(1, "a,b", 5)}
	for i, bad := range [][]api.Row{
		{one(2, "a,b", 5), one(1, "a,b", 5)}, {one(1, "a,b", 5), one(1, "a,b", 6)}, {one(1, "b,b", 5), one(1, "a,c", 6)}, {one(1, "a,b", most), one(1, "a,b", most)},
	} {
		for _, l := range [][][]api.Row{{bad}, {ok, bad}, {bad, ok}, {ok, nil, bad, ok}} {
			if got, e := merge.Lists(l); len(got) != 0 || e != api.ErrRow {
				t.Errorf("%d: %v, %v", i, got, e)
			}
			if n, k := merge.Stats(l); n != 0 || k != 0 {
				t.Errorf("%d: %d, %d", i, n, k)
			}
		}
	}
	over := [][]api.Row{{one(1, "a,b", most)}, {one(1, "a,b", most)}, {one(2, "a,b", 5), one(1, "a,b", 5)}}
	if got, e := merge.Lists(over); len(got) != 0 || e != api.ErrRow {
		t.Errorf("ErrRow is ahead of ErrOver: %v, %v", got, e)
	}
}

func TestTooMuch(t *testing.T) {
	full := row(1, "a,b", api.MaxCount, 0, 0, 0)
	for i, l := range [][][]api.Row{{{one(1, "a,b", most)}, {one(1, "a,b", 1)}}, {{full}, {one(0, "a,b", 1), one(1, "a,b", 0)}}, {{one(1, "a,b", most)}, {one(1, "a,b", 1)}, {one(1, "a,b", -1)}}} {
		if got, e := merge.Lists(l); len(got) != 0 || e != api.ErrOver {
			t.Errorf("%d: %v, %v", i, got, e)
		}
	}
	if n, k := merge.Stats([][]api.Row{{full}, {full}}); n != 2 || k != 1 {
		t.Errorf("Stats: %d, %d", n, k)
	}
}

// TestJoinedInTheListsOrder: in any other order these are too much.
func TestJoinedInTheListsOrder(t *testing.T) {
	var l [][]api.Row
	for i := range 30 {
		n := most
		if i%2 == 1 {
			n = -most
		}
		l = append(l, []api.Row{one(i%3, "a,", 1), one(5, "a,b", n)})
	}
	got, e := merge.Lists(l)
	if e != api.OK || len(got) != 4 || !rows.Same(got[3:], []api.Row{row(5, "a,b", 30, 0, -most, most)}) {
		t.Errorf("%v, %v", got, e)
	}
}

func TestStats(t *testing.T) {
	a := []api.Row{one(1, "a,b", 5), one(2, "a,b", 7)}
	b := []api.Row{one(2, "a,b", 9), one(2, "b,", 4)}
	for _, x := range []struct {
		l    [][]api.Row
		n, k int
	}{{[][]api.Row{a}, 2, 2}, {[][]api.Row{a, a}, 4, 2}, {[][]api.Row{a, b}, 4, 3}, {[][]api.Row{a, b, b, nil}, 6, 3}} {
		if n, k := merge.Stats(x.l); n != x.n || k != x.k {
			t.Errorf("%d, %d, want %d, %d", n, k, x.n, x.k)
		}
	}
}

func TestNewMemory(t *testing.T) {
	a := []api.Row{one(1, "a,b", 5), one(2, "a,b", 7)}
	got, _ := merge.Lists([][]api.Row{a, {one(2, "a,b", 1)}})
	for i := range got {
		got[i].Dims[0], got[i].Aggs[0].Sum = "changed", 99
	}
	merge.Stats([][]api.Row{a, a})
	if !rows.Same(a, []api.Row{one(1, "a,b", 5), one(2, "a,b", 7)}) {
		t.Errorf("%v", a)
	}
}

// TestInAnyOrder: lists may be merged in any order, and in parts; they come to what all rows fold to.
func TestInAnyOrder(t *testing.T) {
	r := rand.New(rand.NewSource(1))
	for range 500 {
		l := make([][]api.Row, r.Intn(8))
		for i := range l {
			l[i] = some(r)
		}
		want, _ := rows.Fold(slices.Concat(l...))
		got, e := merge.Lists(l)
		if e != api.OK || !rows.Same(got, want) {
			t.Fatalf("%v: %v, %v", l, got, e)
		}
		if n, k := merge.Stats(l); n != len(slices.Concat(l...)) || k != len(want) {
			t.Fatalf("%v: %d, %d", l, n, k)
		}
		r.Shuffle(len(l), func(i, j int) { l[i], l[j] = l[j], l[i] })
		k := r.Intn(len(l) + 1)
		x, _ := merge.Lists(l[:k])
		y, _ := merge.Lists(l[k:])
		if got, e := merge.Lists([][]api.Row{x, y}); e != api.OK || !rows.Same(got, want) {
			t.Fatalf("%v in parts: %v, %v", l, got, e)
		}
	}
}
