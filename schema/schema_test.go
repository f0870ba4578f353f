package schema_test

import (
	"math"
	"strings"
	"testing"

	"columbary/api"
	"columbary/schema"
)

func words() []string {
	return strings.Fields("count sum min max from to by every where having order limit and or not is null asc desc select")
}

func TestName(t *testing.T) {
	for _, s := range []string{"a", "z", "a1", "x_1", "a_", "abcdefghijkl", "counts", "su", "selected", "nul", "z09_", "m__9", "descr", "ascend"} {
		if !schema.Name(s) {
			t.Errorf("%q is one", s)
		}
	}
	for _, s := range append(words(), "", "1", "_", "1a", "_a", "0", "9z", "A", "aB", "Z", "abcdefghijklm", "a b", "a-b", "a.b", " a", "a ", "é", "aé", "a\xff", "a\x00", "a{", "a`", "{", "`", "a/", "a:") {
		if schema.Name(s) {
			t.Errorf("%q is none", s)
		}
	}
	for i := range 256 {
		c := byte(i)
		letter, more := c >= 'a' && c <= 'z', c >= '0' && c <= '9' || c == '_'
		if schema.Name(string([]byte{c})) != letter || schema.Name(string([]byte{'q', c})) != (letter || more) {
			t.Errorf("byte %d", i)
		}
	}
}

func TestValue(t *testing.T) {
	for i := range 256 {
		c := byte(i)
		want := c >= 32 && c <= 126 && c != '"' && c != '\\'
		if schema.Value(string([]byte{c})) != want || schema.Value(string([]byte{'a', c, 'b'})) != want {
			t.Errorf("byte %d", i)
		}
	}
	long := strings.Repeat("x", api.MaxText)
	if !schema.Value("") || !schema.Value(long) || schema.Value(long+"x") || schema.Value("é") || schema.Value(long[1:]+"\n") {
		t.Error("its length")
	}
}

func TestRight(t *testing.T) {
	six, four := []string{"a", "b", "c", "d", "e", "f"}, []string{"m", "n", "o", "p"}
	for _, s := range []api.Schema{{Dims: []string{"a"}}, {Dims: six, Metrics: four}, {Dims: []string{"a"}, Metrics: []string{"b"}}} {
		if !schema.Right(s) {
			t.Errorf("%v is right", s)
		}
	}
	for _, s := range []api.Schema{
		{}, {Metrics: four}, {Dims: append(six[:6:6], "g")}, {Dims: six, Metrics: append(four[:4:4], "q")}, {Dims: []string{"a", "a"}}, {Dims: []string{"a", "b", "a"}},
		{Dims: []string{"a"}, Metrics: []string{"m", "m"}}, {Dims: []string{"a"}, Metrics: []string{"a"}}, {Dims: []string{"a", "b"}, Metrics: []string{"m", "b"}},
		{Dims: []string{""}}, {Dims: []string{"A"}}, {Dims: []string{"sum"}}, {Dims: []string{"a"}, Metrics: []string{"count"}}, {Dims: []string{"a"}, Metrics: []string{"1"}},
	} {
		if schema.Right(s) {
			t.Errorf("%v is not right", s)
		}
	}
}

func TestPlaces(t *testing.T) {
	s := api.Schema{Dims: []string{"a", "b", "c"}, Metrics: []string{"m", "n"}}
	for name, want := range map[string][2]int{"a": {0, -1}, "b": {1, -1}, "c": {2, -1}, "m": {-1, 0}, "n": {-1, 1}, "x": {-1, -1}, "": {-1, -1}, "sum": {-1, -1}} {
		d, isDim := schema.Dim(s, name)
		m, isMetric := schema.Metric(s, name)
		if isDim != (want[0] >= 0) || d != max(want[0], 0) || isMetric != (want[1] >= 0) || m != max(want[1], 0) {
			t.Errorf("%q: %d %v, %d %v", name, d, isDim, m, isMetric)
		}
	}
}

func TestCheck(t *testing.T) {
	s := api.Schema{Dims: []string{"a", "b"}, Metrics: []string{"m"}}
	d, m := []string{"x", ""}, []int{5}
	for i, x := range []struct {
		time    int
		dims    []string
		metrics []int
		want    api.Errno
	}{
		{7, d, m, api.OK}, {0, d, m, api.OK}, {api.MaxTime, d, m, api.OK}, {0, d, []int{api.MaxInt}, api.OK}, {0, d, []int{-api.MaxInt}, api.OK}, {0, []string{"", ""}, m, api.OK},
		{-1, d, m, api.ErrTime}, {api.MaxTime + 1, d, m, api.ErrTime}, {math.MinInt, d, m, api.ErrTime}, {math.MaxInt, d, m, api.ErrTime},
		{0, d, []int{api.MaxInt + 1}, api.ErrValue}, {0, d, []int{-api.MaxInt - 1}, api.ErrValue}, {0, d, []int{math.MinInt}, api.ErrValue}, {0, d, []int{math.MaxInt}, api.ErrValue},
		{0, []string{"\"", "x"}, m, api.ErrValue}, {0, []string{"x", "\n"}, m, api.ErrValue}, {-1, []string{"x", "\n"}, m, api.ErrValue}, {-1, d, []int{math.MinInt}, api.ErrValue},
		{0, []string{"x"}, m, api.ErrSchema}, {0, []string{"x", "y", "z"}, m, api.ErrSchema}, {0, nil, m, api.ErrSchema}, {0, d, nil, api.ErrSchema}, {0, d, []int{1, 2}, api.ErrSchema},
		{-1, []string{"\n"}, []int{math.MinInt}, api.ErrSchema}, {0, []string{"\n", "\n"}, nil, api.ErrSchema},
	} {
		if e := schema.Check(s, api.Event{Time: x.time, Dims: x.dims, Metrics: x.metrics}); e != x.want {
			t.Errorf("%d: %v, want %v", i, e, x.want)
		}
	}
	if e := schema.Check(api.Schema{Dims: []string{"a"}}, api.Event{Dims: []string{"x"}}); e != api.OK {
		t.Errorf("no metrics: %v", e)
	}
}

func TestSubset(t *testing.T) {
	all := []string{"a", "b", "c", "d"}
	for _, x := range []string{"", "a", "d", "a b", "a d", "b c", "a b c d", "a c d"} {
		if !schema.Subset(strings.Fields(x), all) {
			t.Errorf("%q is one", x)
		}
	}
	for _, x := range []string{"e", "b a", "a a", "d c", "a b c d e", "a e", "a b b", "d a b", "A"} {
		if schema.Subset(strings.Fields(x), all) {
			t.Errorf("%q is none", x)
		}
	}
	if schema.Subset([]string{"a"}, nil) || !schema.Subset(nil, nil) {
		t.Error("of nothing")
	}
	for _, l := range [][]string{{""}, {"A"}, {"sum"}, {"a", "1"}} {
		if schema.Subset(l, l) {
			t.Errorf("%q: no names", l)
		}
	}
	if schema.Subset([]string{"a", "a"}, []string{"a", "b", "a"}) {
		t.Error("two alike")
	}
}
