package promises_test

import (
	"testing"

	"columbary/api"
	"columbary/bucket"
	"columbary/check"
	"columbary/cuboid"
	"columbary/delta"
	"columbary/desk"
	"columbary/filter"
	"columbary/lexer"
	"columbary/policy"
	"columbary/rows"
	"columbary/segment"
	"columbary/zig"
)

func TestExamplesOfBytes(t *testing.T) {
	if b := zig.Int(nil, -150); string(b) != "\x82\x2b" {
		t.Errorf("1: %x", b)
	}
	if n := check.Sum([]byte("123456789")); n != 0xE3069283 {
		t.Errorf("2: %X", n)
	}
	if b, e := delta.Encode([]int{10, 13, 15, 20}); string(b) != "\x08\x14\x04\x04\x31" || e != api.OK {
		t.Errorf("3: %x, %v", b, e)
	}
	// sum, (, x_1, ), <, -40
	if l, e := lexer.Tokens("sum(x_1)<-40"); e != api.OK || l[len(l)-1] != (api.Token{Kind: api.Number, Text: "-40", Num: -40}) || lexer.Text(l) != "sum ( x_1 ) < -40" {
		t.Errorf("7: %v, %v", l, e)
	}
}

func TestExamplesOfTime(t *testing.T) {
	if n, e := bucket.Floor(-7, 5); n != -10 || e != api.OK {
		t.Errorf("4: %d, %v", n, e)
	}
	s := api.Schema{Dims: []string{"a", "b"}, Metrics: []string{"m"}}
	one := func(time int, a, b string, n int) api.Row {
		return api.Row{Time: time, Dims: []string{a, b}, Count: 1, Aggs: []api.Agg{{Sum: n, Min: n, Max: n}}}
	}
	l := []api.Row{one(3, "x", "p", 4), one(4, "x", "q", 5)}
	got, e := cuboid.Project(s, l, []string{"a"}, 5)
	if want := []api.Row{{Time: 0, Dims: []string{"x"}, Count: 2, Aggs: []api.Agg{{Sum: 9, Min: 4, Max: 5}}}}; e != api.OK || !rows.Same(got, want) {
		t.Errorf("5: %v, %v", got, e)
	}
	p := api.Policy{Tiers: []api.Tier{{Gran: 5}, {Age: 20, Gran: 10}}, Horizon: 100}
	if n, e := policy.Edge(p, 0, 137); n != 110 || e != api.OK {
		t.Errorf("6: %d, %v", n, e)
	}
	g, _ := segment.New(s, l)
	is := api.Filter{Op: api.Is, Dim: "b", Value: "p"}
	all := api.Run{From: 0, To: 2}
	if filter.Count(is, g, all)+filter.Count(api.Filter{Op: api.Not, Kids: []api.Filter{is}}, g, all) != filter.Count(api.Filter{}, g, all) {
		t.Error("8")
	}
}

func TestExampleOfTheWhole(t *testing.T) {
	d := desk.New()
	for _, s := range []string{"tier 0 5 a,b", "tier 20 10 a", "horizon 100", "configure a,b m", "tick 35", "event 3 x,p 4", "event 7 x,q 5", "compact"} {
		if told, e := d.Line(s); told != "" || e != api.OK {
			t.Fatalf("%q: %q, %v", s, told, e)
		}
	}
	if told, e := d.Line("select sum m from 0 to 50 by a"); told != "0:x:9" || e != api.OK {
		t.Errorf("9: %q, %v", told, e)
	}
	if told, e := d.Line("select sum m from 0 to 50 by b"); told != "" || e != api.ErrAnswer {
		t.Errorf("9: %q, %v", told, e)
	}
}
