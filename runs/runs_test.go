package runs_test

import (
	"math"
	"math/rand"
	"slices"
	"testing"

	"columbary/api"
	"columbary/runs"
)

type set = []api.Run

const last = api.MaxRows - 1

func same(a, b set) bool { return slices.Equal(a, b) }

// of is the set of the numbers from 0 on that are bits of a number.
func of(bits int) set {
	var s set
	for x := 0; bits>>x > 0; x++ {
		if bits>>x&1 == 1 {
			if k := len(s); k > 0 && s[k-1].To == x {
				s[k-1].To++
			} else {
				s = append(s, api.Run{From: x, To: x + 1})
			}
		}
	}
	return s
}

func TestRight(t *testing.T) {
	for _, s := range []set{nil, {}, {{From: 0, To: 1}}, {{From: 0, To: 1}, {From: 2, To: 3}}, {{From: 0, To: api.MaxRows}}, {{From: 5, To: 9}, {From: 10, To: 11}, {From: 40, To: api.MaxRows}}, {{From: last, To: api.MaxRows}}} {
		if !runs.Right(s) {
			t.Errorf("%v is right", s)
		}
	}
	for _, s := range []set{
		{{From: -1, To: 1}}, {{From: 0, To: 0}}, {{From: 3, To: 2}}, {{From: 0, To: api.MaxRows + 1}}, {{From: 0, To: 1}, {From: 1, To: 2}}, {{From: 0, To: 5}, {From: 3, To: 9}}, {{From: 5, To: 6}, {From: 0, To: 1}},
		{{From: 0, To: 1}, {From: 3, To: 3}}, {{From: 0, To: 1}, {From: 5, To: 4}}, {{From: 0, To: 4}, {From: 2, To: 3}}, {{From: math.MinInt, To: 0}}, {{From: api.MaxRows, To: api.MaxRows + 1}}, {{From: 0, To: math.MaxInt}}, {{From: 0, To: 1}, {From: 2, To: 3}, {From: 3, To: 4}},
	} {
		if runs.Right(s) {
			t.Errorf("%v is not right", s)
		}
	}
}

func TestOf(t *testing.T) {
	for _, x := range []struct {
		l    []int
		want set
	}{
		{nil, nil}, {[]int{5}, set{{From: 5, To: 6}}}, {[]int{7, 5, 6, 5, 7, 7}, set{{From: 5, To: 8}}}, {[]int{9, 1, 3, 2}, set{{From: 1, To: 4}, {From: 9, To: 10}}},
		{[]int{last, 0}, set{{From: 0, To: 1}, {From: last, To: api.MaxRows}}},
	} {
		l := slices.Clone(x.l)
		s, e := runs.Of(l)
		if !same(s, x.want) || e != api.OK || !slices.Equal(l, x.l) {
			t.Errorf("%v: %v, %v", x.l, s, e)
		}
	}
	for _, l := range [][]int{{-1}, {api.MaxRows}, {1, 2, api.MaxRows}, {3, -1, 2}, {math.MinInt}, {math.MaxInt}} {
		if s, e := runs.Of(l); len(s) != 0 || e != api.ErrSet {
			t.Errorf("%v: %v, %v", l, s, e)
		}
	}
	all := make([]int, 3*api.MaxRows)
	for i := range all {
		all[i] = (i * 7) % api.MaxRows
	}
	if s, e := runs.Of(all); !same(s, set{{From: 0, To: api.MaxRows}}) || e != api.OK {
		t.Errorf("all: %v, %v", s, e)
	}
}

func TestOneSet(t *testing.T) {
	for bits := range 1 << 10 {
		s := of(bits)
		var want []int
		for x := range 10 {
			if bits>>x&1 == 1 {
				want = append(want, x)
			}
		}
		if l := runs.List(s); !slices.Equal(l, want) {
			t.Fatalf("List(%v): %v", s, l)
		}
		if o, e := runs.Of(want); !same(o, s) || e != api.OK {
			t.Fatalf("Of(%v): %v, %v", want, o, e)
		}
		if runs.Count(s) != len(want) {
			t.Fatalf("Count(%v): %d", s, runs.Count(s))
		}
		for x := -2; x < 13; x++ {
			below := 0
			for _, y := range want {
				if y < x {
					below++
				}
			}
			if runs.Has(s, x) != slices.Contains(want, x) || runs.Rank(s, x) != below {
				t.Fatalf("%v, %d: %v, %d", s, x, runs.Has(s, x), runs.Rank(s, x))
			}
		}
		for k := -2; k < 13; k++ {
			y, ok := runs.Select(s, k)
			if in := k >= 0 && k < len(want); ok != in || in && y != want[k] || !in && y != 0 {
				t.Fatalf("Select(%v, %d): %d, %v", s, k, y, ok)
			}
		}
	}
}

func TestRankAndSelectFarOut(t *testing.T) {
	s := set{{From: 3, To: 10}, {From: 20, To: api.MaxRows}}
	n := 7 + api.MaxRows - 20
	if runs.Count(s) != n || runs.Rank(s, math.MaxInt) != n || runs.Rank(s, api.MaxRows) != n || runs.Rank(s, last) != n-1 || runs.Rank(s, math.MinInt) != 0 {
		t.Error("Rank")
	}
	if x, ok := runs.Select(s, n-1); x != last || !ok {
		t.Errorf("%d", x)
	}
	for _, k := range []int{n, math.MaxInt, -1, math.MinInt} {
		if x, ok := runs.Select(s, k); x != 0 || ok {
			t.Errorf("Select %d: %d", k, x)
		}
	}
	if runs.Has(s, math.MaxInt) || runs.Has(s, math.MinInt) || runs.Has(s, api.MaxRows) || !runs.Has(s, last) {
		t.Error("Has")
	}
}

// TestRankOfSelect: the k-th number has the rank k.
func TestRankOfSelect(t *testing.T) {
	r := rand.New(rand.NewSource(1))
	for range 50 {
		var l []int
		for range r.Intn(300) {
			l = append(l, r.Intn(api.MaxRows)>>r.Intn(10))
		}
		s, _ := runs.Of(l)
		for k := range runs.Count(s) {
			x, ok := runs.Select(s, k)
			if !ok || runs.Rank(s, x) != k || !runs.Has(s, x) || runs.Rank(s, x+1) != k+1 {
				t.Fatalf("%v: %d, %d", s, k, x)
			}
		}
	}
}

func TestTwoSets(t *testing.T) {
	for a := range 1 << 6 {
		for b := range 1 << 6 {
			if s := runs.And(of(a), of(b)); !same(s, of(a&b)) {
				t.Fatalf("And(%v, %v): %v", of(a), of(b), s)
			}
			if s := runs.Or(of(a), of(b)); !same(s, of(a|b)) {
				t.Fatalf("Or(%v, %v): %v", of(a), of(b), s)
			}
			if s := runs.Minus(of(a), of(b)); !same(s, of(a&^b)) {
				t.Fatalf("Minus(%v, %v): %v", of(a), of(b), s)
			}
		}
	}
}

func TestLawsOfSets(t *testing.T) {
	r := rand.New(rand.NewSource(2))
	some := func() set {
		var l []int
		for range r.Intn(40) {
			x := r.Intn(api.MaxRows) >> r.Intn(12)
			for y := x; y < min(x+r.Intn(60), api.MaxRows); y++ {
				l = append(l, y)
			}
		}
		s, _ := runs.Of(l)
		return s
	}
	all := runs.Upto(api.MaxRows)
	for range 400 {
		a, b, c := some(), some(), some()
		for i, x := range [][2]set{
			{runs.And(a, b), runs.And(b, a)}, {runs.Or(a, b), runs.Or(b, a)},
			{runs.And(a, runs.And(b, c)), runs.And(runs.And(a, b), c)}, {runs.Or(a, runs.Or(b, c)), runs.Or(runs.Or(a, b), c)},
			{runs.And(a, runs.Or(b, c)), runs.Or(runs.And(a, b), runs.And(a, c))},
			{runs.And(a, runs.Or(a, b)), a}, {runs.Or(a, runs.And(a, b)), a}, {runs.And(a, a), a}, {runs.Or(a, a), a},
			{runs.Minus(a, b), runs.And(a, runs.Minus(all, b))}, {runs.Minus(a, a), nil}, {runs.Minus(all, runs.Minus(all, a)), a},
			{runs.Minus(all, runs.And(a, b)), runs.Or(runs.Minus(all, a), runs.Minus(all, b))},
			{runs.And(a, nil), nil}, {runs.Or(a, nil), a}, {runs.And(a, all), a}, {runs.Or(a, all), all},
		} {
			if !same(x[0], x[1]) || !runs.Right(x[0]) {
				t.Fatalf("law %d of %v, %v, %v: %v, %v", i, a, b, c, x[0], x[1])
			}
		}
		if runs.Count(a)+runs.Count(b) != runs.Count(runs.And(a, b))+runs.Count(runs.Or(a, b)) {
			t.Fatal("counts")
		}
	}
}

func TestUpto(t *testing.T) {
	for n, want := range map[int]set{
		math.MinInt: nil, -1: nil, 0: nil, 1: {{From: 0, To: 1}}, 77: {{From: 0, To: 77}}, last: {{From: 0, To: last}},
		api.MaxRows: {{From: 0, To: api.MaxRows}}, api.MaxRows + 1: {{From: 0, To: api.MaxRows}}, math.MaxInt: {{From: 0, To: api.MaxRows}},
	} {
		if s := runs.Upto(n); !same(s, want) {
			t.Errorf("Upto(%d): %v", n, s)
		}
	}
}

func TestHandedInStays(t *testing.T) {
	a, b := set{{From: 1, To: 4}, {From: 6, To: 8}}, set{{From: 2, To: 7}, {From: 9, To: 12}}
	for _, f := range []func(a, b set) set{runs.And, runs.Or, runs.Minus} {
		s := f(a, b)
		s = append(f(a, nil), s...)
		for i := range s {
			s[i] = api.Run{}
		}
	}
	if !same(a, set{{From: 1, To: 4}, {From: 6, To: 8}}) || !same(b, set{{From: 2, To: 7}, {From: 9, To: 12}}) {
		t.Errorf("%v, %v", a, b)
	}
}

// TestWrongSetsEnd: of sets that are not right nothing is said, but that each call ends.
func TestWrongSetsEnd(t *testing.T) {
	for _, s := range []set{{{From: 0, To: math.MaxInt}}, {{From: math.MinInt, To: math.MaxInt}}, {{From: 5, To: 3}, {From: 2, To: 9}}, {{From: 1, To: 2}, {From: 1, To: 2}}, {{From: math.MaxInt, To: math.MinInt}, {From: 3, To: 3}}} {
		runs.List(s)
		runs.Has(s, 5)
		runs.Count(s)
		runs.Rank(s, math.MaxInt)
		runs.Select(s, math.MaxInt)
		runs.And(s, of(6))
		runs.Or(of(6), s)
		runs.Minus(s, s)
	}
}
