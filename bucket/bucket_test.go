package bucket_test

import (
	"math"
	"math/rand"
	"slices"
	"testing"

	"columbary/api"
	"columbary/bucket"
)

func TestRight(t *testing.T) {
	for g, want := range map[int]bool{math.MinInt: false, -1: false, 0: false, 1: true, 7: true, api.MaxGran: true, api.MaxGran + 1: false, math.MaxInt: false} {
		if bucket.Right(g) != want {
			t.Errorf("%d", g)
		}
	}
}

func TestFloorAndCeil(t *testing.T) {
	for _, x := range [][4]int{
		{-7, 5, -10, -5}, {7, 5, 5, 10}, {5, 5, 5, 5}, {-5, 5, -5, -5}, {0, 5, 0, 0}, {-1, 5, -5, 0}, {1, 5, 0, 5}, {4, 5, 0, 5}, {-4, 5, -5, 0}, {-6, 5, -10, -5},
		{9, 1, 9, 9}, {-9, 1, -9, -9}, {api.MaxTime, 3, api.MaxTime - 1, api.MaxTime + 2}, {-api.MaxTime, 3, -api.MaxTime - 2, -api.MaxTime + 1},
		{api.MaxTime, api.MaxGran, api.MaxTime, api.MaxTime}, {api.MaxTime - 1, api.MaxGran, api.MaxTime - api.MaxGran, api.MaxTime}, {-1, api.MaxGran, -api.MaxGran, 0},
	} {
		f, e := bucket.Floor(x[0], x[1])
		c, d := bucket.Ceil(x[0], x[1])
		if f != x[2] || c != x[3] || e != api.OK || d != api.OK {
			t.Errorf("%v: %d %v, %d %v", x, f, e, c, d)
		}
	}
	for _, x := range [][2]int{{5, 0}, {5, -3}, {5, api.MaxGran + 1}, {api.MaxTime + 1, 5}, {-api.MaxTime - 1, 5}, {math.MinInt, 1}, {math.MaxInt, 1}, {0, math.MinInt}, {0, math.MaxInt}} {
		f, e := bucket.Floor(x[0], x[1])
		c, d := bucket.Ceil(x[0], x[1])
		if f != 0 || c != 0 || e != api.ErrGran || d != api.ErrGran {
			t.Errorf("%v: %d %v, %d %v", x, f, e, c, d)
		}
	}
}

func TestAligned(t *testing.T) {
	for _, x := range [][2]int{{0, 5}, {10, 5}, {-10, 5}, {7, 1}, {0, api.MaxGran}, {math.MinInt, 2}, {api.MaxTime * 4, 1024}} {
		if !bucket.Aligned(x[0], x[1]) {
			t.Errorf("%v", x)
		}
	}
	for _, x := range [][2]int{{1, 5}, {-1, 5}, {11, 5}, {0, 0}, {10, -5}, {0, api.MaxGran + 1}, {0, -1}, {math.MaxInt, 2}, {math.MinInt, -1}} {
		if bucket.Aligned(x[0], x[1]) {
			t.Errorf("%v", x)
		}
	}
}

func TestCoarser(t *testing.T) {
	for _, x := range [][2]int{{5, 5}, {10, 5}, {5, 1}, {api.MaxGran, 1}, {api.MaxGran, api.MaxGran}, {12, 4}} {
		if !bucket.Coarser(x[0], x[1]) {
			t.Errorf("%v", x)
		}
	}
	for _, x := range [][2]int{{5, 10}, {7, 5}, {0, 5}, {5, 0}, {-10, 5}, {10, -5}, {2 * api.MaxGran, 1}, {2 * api.MaxGran, api.MaxGran}, {0, 0}, {math.MinInt, -1}, {1, 2}} {
		if bucket.Coarser(x[0], x[1]) {
			t.Errorf("%v", x)
		}
	}
}

func TestCut(t *testing.T) {
	for _, x := range []struct {
		from, to, g int
		want        []int
	}{
		{0, 10, 5, []int{0, 5, 10}}, {3, 12, 5, []int{3, 5, 10, 12}}, {3, 4, 5, []int{3, 4}}, {-7, 1, 5, []int{-7, -5, 0, 1}}, {-10, -5, 5, []int{-10, -5}},
		{5, 5, 5, nil}, {9, 3, 5, nil}, {4, 6, 1, []int{4, 5, 6}}, {-api.MaxTime, -api.MaxTime + 2, 3, []int{-api.MaxTime, -api.MaxTime + 1, -api.MaxTime + 2}},
		{api.MaxTime - 2, api.MaxTime, 3, []int{api.MaxTime - 2, api.MaxTime - 1, api.MaxTime}},
	} {
		var want []api.Run
		for i := 1; i < len(x.want); i++ {
			want = append(want, api.Run{From: x.want[i-1], To: x.want[i]})
		}
		if l, e := bucket.Cut(x.from, x.to, x.g); !slices.Equal(l, want) || e != api.OK {
			t.Errorf("%v: %v, %v", x, l, e)
		}
	}
	for _, x := range [][3]int{{0, 9, 0}, {0, 9, -1}, {0, 9, api.MaxGran + 1}, {-api.MaxTime - 1, 0, 5}, {0, api.MaxTime + 1, 5}, {9, 0, 0}, {api.MaxTime + 5, 0, 5}, {0, -api.MaxTime - 1, 5}, {math.MaxInt, math.MinInt, 1}, {math.MinInt, math.MaxInt, 1}} {
		if l, e := bucket.Cut(x[0], x[1], x[2]); len(l) != 0 || e != api.ErrGran {
			t.Errorf("%v: %v, %v", x, l, e)
		}
	}
}

func TestCutAtMost(t *testing.T) {
	for _, x := range []struct{ from, to, n, last int }{{0, 999, 999, 999}, {0, 1000, 1000, 1000}, {0, 1001, 1000, 1000}, {-api.MaxTime, api.MaxTime, 1000, -api.MaxTime + 1000}} {
		l, e := bucket.Cut(x.from, x.to, 1)
		if len(l) != x.n || e != api.OK || l[0].From != x.from || l[len(l)-1].To != x.last {
			t.Errorf("%v: %d, %v", x, len(l), e)
		}
	}
	l, _ := bucket.Cut(3, 100000, 10)
	if len(l) != 1000 || l[0] != (api.Run{From: 3, To: 10}) || l[999] != (api.Run{From: 9990, To: 10000}) {
		t.Errorf("%d", len(l))
	}
}

// TestBucketsInBuckets: a bucket lies within one of each coarser granularity.
func TestBucketsInBuckets(t *testing.T) {
	r := rand.New(rand.NewSource(1))
	for range 5000 {
		g := 1 + r.Intn(1000)
		k := g * (1 + r.Intn(api.MaxGran/g))
		x := r.Intn(2*api.MaxTime) - api.MaxTime
		if r.Intn(2) == 0 {
			x = r.Intn(4000) - 2000
		}
		f, _ := bucket.Floor(x, g)
		c, _ := bucket.Floor(x, k)
		if !bucket.Coarser(k, g) || c > f || f+g > c+k || f > x || x >= f+g || !bucket.Aligned(f, g) || !bucket.Aligned(c, g) {
			t.Fatalf("%d: %d of %d, %d of %d", x, f, g, c, k)
		}
		up, _ := bucket.Ceil(x, g)
		if up < x || up-g >= x || !bucket.Aligned(up, g) {
			t.Fatalf("Ceil(%d, %d): %d", x, g, up)
		}
	}
}
