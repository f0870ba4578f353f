package agg_test

import (
	"math"
	"math/rand"
	"slices"
	"testing"

	"columbary/agg"
	"columbary/api"
)

const most = api.MaxInt

func of(sum, least, greatest int) api.Agg { return api.Agg{Sum: sum, Min: least, Max: greatest} }

func TestRight(t *testing.T) {
	for _, a := range []api.Agg{{}, of(5, 5, 5), of(0, -3, 3), of(most, most, most), of(-most, -most, -most), of(0, -most, most), of(100, 1, 2)} {
		if !agg.Right(a) {
			t.Errorf("%v is right", a)
		}
	}
	for _, a := range []api.Agg{of(0, 1, 0), of(most+1, 0, 0), of(-most-1, 0, 0), of(0, -most-1, 0), of(0, 0, most+1), of(0, most+1, most+1), of(0, -most-1, -most-1), of(math.MinInt, 0, 0), of(0, 0, math.MaxInt)} {
		if agg.Right(a) {
			t.Errorf("%v is not right", a)
		}
	}
}

func TestOne(t *testing.T) {
	for _, n := range []int{0, 1, -1, 77, most, -most} {
		if a, e := agg.One(n); a != of(n, n, n) || e != api.OK {
			t.Errorf("%d: %v, %v", n, a, e)
		}
	}
	for _, n := range []int{most + 1, -most - 1, math.MaxInt, math.MinInt} {
		if a, e := agg.One(n); a != (api.Agg{}) || e != api.ErrOver {
			t.Errorf("%d: %v, %v", n, a, e)
		}
	}
}

func TestJoin(t *testing.T) {
	for _, x := range []struct{ a, b, want api.Agg }{
		{of(5, 5, 5), of(3, 3, 3), of(8, 3, 5)}, {of(8, 3, 5), of(-9, -9, -9), of(-1, -9, 5)}, {of(0, -2, 2), of(7, 1, 4), of(7, -2, 4)},
		{of(most, most, most), of(0, 0, 0), of(most, 0, most)}, {of(most, 0, most), of(-most, -most, 0), of(0, -most, most)}, {of(most-1, 1, 2), of(1, 1, 1), of(most, 1, 2)},
		{of(-most+1, 0, 0), of(-1, -1, -1), of(-most, -1, 0)}, {of(most, 1, 1), of(-1, -1, -1), of(most-1, -1, 1)}, {of(-most, 1, 1), of(1, 1, 1), of(-most+1, 1, 1)},
	} {
		a, e := agg.Join(x.a, x.b)
		b, f := agg.Join(x.b, x.a)
		if a != x.want || b != x.want || e != api.OK || f != api.OK {
			t.Errorf("%v, %v: %v %v, %v %v", x.a, x.b, a, e, b, f)
		}
	}
	ok := of(1, 1, 1)
	for _, x := range []struct {
		a, b api.Agg
		e    api.Errno
	}{
		{of(most, 1, 1), ok, api.ErrOver}, {of(-most, 1, 1), of(-1, -1, -1), api.ErrOver}, {of(most, most, most), of(most, most, most), api.ErrOver}, {of(-most, 0, 0), of(-most, 0, 0), api.ErrOver},
		{of(0, 1, 0), ok, api.ErrArg}, {of(most+1, 0, 0), ok, api.ErrArg}, {of(most+1, 0, 0), of(most, 0, 0), api.ErrArg}, {of(0, -most-1, 0), ok, api.ErrArg}, {of(0, 0, math.MaxInt), of(math.MinInt, 0, 0), api.ErrArg},
	} {
		a, e := agg.Join(x.a, x.b)
		b, f := agg.Join(x.b, x.a)
		if a != (api.Agg{}) || b != (api.Agg{}) || e != x.e || f != x.e {
			t.Errorf("%v, %v: %v %v, %v %v", x.a, x.b, a, e, b, f)
		}
	}
}

func TestAll(t *testing.T) {
	for _, x := range []struct {
		l    []int
		want api.Agg
	}{{[]int{7}, of(7, 7, 7)}, {[]int{4, -9, 6, 6}, of(7, -9, 6)}, {[]int{most, -most, most}, of(most, -most, most)}, {[]int{0, 0}, of(0, 0, 0)}} {
		l := slices.Clone(x.l)
		if a, e := agg.All(l); a != x.want || e != api.OK || !slices.Equal(l, x.l) {
			t.Errorf("%v: %v, %v", x.l, a, e)
		}
	}
	for _, x := range []struct {
		l []int
		e api.Errno
	}{
		{nil, api.ErrArg}, {[]int{}, api.ErrArg}, {[]int{most, 1}, api.ErrOver}, {[]int{most, most, -most}, api.ErrOver}, {[]int{-most, 5, -6}, api.ErrOver}, {[]int{most + 1}, api.ErrOver},
		{[]int{1, -most - 1}, api.ErrOver}, {[]int{math.MinInt, 5, 5}, api.ErrOver}, {[]int{5, math.MaxInt, 5}, api.ErrOver}, {[]int{most, 1, -1}, api.ErrOver},
	} {
		if a, e := agg.All(x.l); a != (api.Agg{}) || e != x.e {
			t.Errorf("%v: %v, %v", x.l, a, e)
		}
	}
}

func TestSize(t *testing.T) {
	for n, want := range map[int]int{0: 0, 5: 5, -5: 5, most: most, -most: most, most + 1: most, -most - 1: most, most - 1: most - 1, 1 - most: most - 1, math.MaxInt: most, math.MinInt: most, math.MinInt + 1: most} {
		if agg.Size(n) != want {
			t.Errorf("%d: %d", n, agg.Size(n))
		}
	}
}

// TestInAnyOrder: as long as the sizes come to no more than MaxInt together, numbers may be joined in any order.
func TestInAnyOrder(t *testing.T) {
	r := rand.New(rand.NewSource(1))
	for range 2000 {
		left := most
		var l []int
		for range 1 + r.Intn(12) {
			n := r.Intn(left + 1)
			if r.Intn(2) == 0 {
				n >>= r.Intn(60)
			}
			left -= n
			if r.Intn(2) == 0 {
				n = -n
			}
			l = append(l, n)
		}
		if r.Intn(2) == 0 {
			l = append(l, left)
		}
		want, e := agg.All(l)
		if e != api.OK {
			t.Fatalf("%v: %v", l, e)
		}
		var parts []api.Agg
		for _, n := range l {
			a, _ := agg.One(n)
			parts = append(parts, a)
		}
		for len(parts) > 1 {
			r.Shuffle(len(parts), func(i, j int) { parts[i], parts[j] = parts[j], parts[i] })
			a, e := agg.Join(parts[0], parts[1])
			if e != api.OK {
				t.Fatalf("%v: %v", l, e)
			}
			parts = append(parts[2:], a)
		}
		if parts[0] != want || !agg.Right(want) {
			t.Fatalf("%v: %v, %v", l, parts[0], want)
		}
	}
}
