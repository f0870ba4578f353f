package desk_test

import (
	"math/rand"
	"strconv"
	"strings"
	"testing"

	"columbary/api"
	"columbary/desk"
	"columbary/engine"
	"columbary/policy"
	"columbary/vault"
)

// do does lines, and wants each to tell nothing, and no error.
func do(t *testing.T, d *desk.Desk, lines ...string) {
	t.Helper()
	for _, s := range lines {
		if told, e := d.Line(s); told != "" || e != api.OK {
			t.Fatalf("%q: %q, %v", s, told, e)
		}
	}
}

// tells wants a line to tell something.
func tells(t *testing.T, d *desk.Desk, line, want string) {
	t.Helper()
	if told, e := d.Line(line); told != want || e != api.OK {
		t.Errorf("%q: %q, %v; want %q", line, told, e, want)
	}
}

// fails wants a line to be an error.
func fails(t *testing.T, d *desk.Desk, line string, want api.Errno) {
	t.Helper()
	if told, e := d.Line(line); told != "" || e != want {
		t.Errorf("%q: %q, %v; want %v", line, told, e, want)
	}
}

// configured is a desk with a policy of two tiers and a projection.
func configured(t *testing.T) *desk.Desk {
	t.Helper()
	d := desk.New()
	do(t, d, "tier 0 5 a,b", "tier 20 10 a", "proj 0 5 b", "horizon 100", "configure a,b m")
	return d
}

func TestTheWhole(t *testing.T) {
	d := configured(t)
	do(t, d, "tick 35", "event 3 x,p 4", "event 7 x,q 5", "compact")
	tells(t, d, "select sum m from 0 to 50 by a", "0:x:9")
	fails(t, d, "select sum m from 0 to 50 by b", api.ErrAnswer)
	tells(t, d, "files", "manifest s1")
	tells(t, d, "plan select sum m from 0 to 50 by a", "10:50:0:-1:0 0:10:1:-1:1")
	do(t, d, "event 35 _,q -7", "merge")
	tells(t, d, "select sum m, count from 0 to 50 by a order 1", "0:_:-7:1 0:x:9:2")
	tells(t, d, "select count from 10 to 40 every 5 by b, a", "35:q:_:1")
}

func TestSelectTells(t *testing.T) {
	d := configured(t)
	do(t, d, "tick 19", "event 3 x,p 4", "event 7 _,q 5", "event 7 _,_ -6", "event 12 x,_ 1")
	tells(t, d, "select count, sum m, min m from 0 to 20 every 5 by b, a", "0:p:x:1:4:4 5:_:_:1:-6:-6 5:q:_:1:5:5 10:_:x:1:1:1")
	tells(t, d, "select count from 0 to 20", "0:4")
	tells(t, d, "select   count from 15 to 20", "")
	tells(t, d, "select count from 5 to 10 where a is null and b = \"q\"", "5:1")
	do(t, d, "merge")
	tells(t, d, "plan select count from 0 to 20 by b", "0:20:0:-1:4")
	do(t, d, "event 3 y,p 4", "merge")
	tells(t, d, "plan select count from 0 to 20 by b", "0:20:0:0:4")
	tells(t, d, "plan  select count from 0 to 20 by b ", "0:20:0:0:4")
	tells(t, d, "plan select count from 0 to 20 by a", "0:20:0:-1:5")
	for s, want := range map[string]api.Errno{"select ": api.ErrSyntax, "select nonsense": api.ErrSyntax, "select count from 0 to 20 where a = \"": api.ErrToken, "select count from 0 to 20 by c": api.ErrName, "select count from 20 to 0": api.ErrType, "select count from 0 to 21": api.ErrAnswer, "select count from 0 to 20 where " + strings.Repeat("not ", 13): api.ErrDeep} {
		fails(t, d, s, want)
		fails(t, d, "plan "+s, want)
	}
	fails(t, d, "plan ", api.ErrSyntax)
	fails(t, d, "plan merge", api.ErrSyntax)
	fails(t, d, "select count from 0 to 20 "+strings.Repeat(" ", 400), api.ErrToken)
}

func TestNoLines(t *testing.T) {
	for _, fresh := range []bool{true, false} {
		d := desk.New()
		if !fresh {
			d = configured(t)
		}
		for _, s := range []string{
			"", " ", "    ", "\n", "merge\n", "\nmerge", "me\nrge", "tick 5\n", strings.Repeat(" ", 501), "merge" + strings.Repeat(" ", 496), "select count from 0 to 5" + strings.Repeat(" ", 500), "horizon " + strings.Repeat("1", 500), "select count\nfrom 0 to 5", "plan \n",
			"nonsense", "Merge", "merges", "select", "plan", " select count from 0 to 5", " plan select count from 0 to 5", "selectcount", "planet x", "merge 1", "compact now", "expire 5", "files x", "tick", "tick 1 2", "tick x", "tick 1x", "tick +1", "tick --1", "tick -", "tick 1-", "tick 12345678901234", "tick -12345678901234", "tick 00000000000005", "tick 1.5", "tick _", "tick 1,2",
			"crash", "crash x", "crash 1 2", "fuse", "fuse x", "fuse 1 2", "crash -", "fuse +1", "configure", "configure a", "configure a m n", "event", "event 1", "event 1 x,y", "event 1 x,y 5 6", "event x x,y 5", "event 1 x,y z", "event 1 x,y 5,", "event 1 x,y ,5", "event 1 x,y _", "event 1 x,y 5,_", "event 1 x,y 12345678901234", "event 12345678901234 x,y 5", "event 1 x,y --5", "event - x,y 5",
			"merge\t", "\tmerge", "tick\t5", "tiers 0 5 a", "tier,0",
		} {
			fails(t, d, s, api.ErrLine)
		}
	}
}

func TestLongestLine(t *testing.T) {
	d := configured(t)
	do(t, d, "merge"+strings.Repeat(" ", 495), strings.Repeat(" ", 495)+"merge", "  tick   7  ")
	fails(t, d, "select count from 0 to 5"+strings.Repeat(" ", 476), api.ErrToken)
}

func TestNumbers(t *testing.T) {
	d := configured(t)
	do(t, d, "tick 0000000000007", "event 007 x,y -9999999999999", "event 0 x,y 9999999999999", "event -0 x,y 00", "crash -5", "crash 0", "crash 9999999999999", "fuse 9999999999999")
	tells(t, d, "select count, min m, max m from 0 to 10", "0:3:-9999999999999:9999999999999")
	fails(t, d, "tick -1", api.ErrTime)
	fails(t, d, "tick 9999999999999", api.ErrTime)
	fails(t, d, "event -1 x,y 5", api.ErrTime)
	fails(t, d, "fuse -1", api.ErrArg)
}

func TestConfigure(t *testing.T) {
	d := desk.New()
	for s, want := range map[string]api.Errno{"tick 5": api.ErrState, "event 1 x 5": api.ErrState, "merge": api.ErrState, "compact": api.ErrState, "expire": api.ErrState, "select x": api.ErrState, "plan x": api.ErrState, "configure a m": api.ErrText} {
		fails(t, d, s, want)
	}
	tells(t, d, "files", "")
	// The text is empty behind it, whatever came of it.
	do(t, d, "tier 0 5 a", "tier 1")
	fails(t, d, "configure a m", api.ErrText)
	do(t, d, "horizon 9")
	fails(t, d, "configure a m", api.ErrPolicy)
	do(t, d, "tier 0 5 a", "horizon 9")
	fails(t, d, "configure a,a m", api.ErrSchema)
	fails(t, d, "configure a m", api.ErrText)
	do(t, d, "tier 0 5 a", "horizon 9")
	fails(t, d, "configure _ m", api.ErrSchema)
	do(t, d, "tier 0 5 a")
	fails(t, d, "configure", api.ErrLine)
	do(t, d, "  horizon    9 ")
	do(t, d, "configure a -")
	tells(t, d, "files", "manifest")
	do(t, d, "tier 0 5 a", "horizon 9")
	fails(t, d, "configure a -", api.ErrState)
	do(t, d, "tick 7", "event 7 x -", "event 7 _ -")
	tells(t, d, "select count from 5 to 10 by a", "5:_:1 5:x:1")
}

func TestPolicyLines(t *testing.T) {
	d := desk.New()
	do(t, d, "tier", "proj", "horizon", "tier nonsense at all")
	fails(t, d, "configure a -", api.ErrText)
}

func TestEvents(t *testing.T) {
	d := configured(t)
	do(t, d, "tick 9")
	for s, want := range map[string]api.Errno{"event 5 x 1": api.ErrSchema, "event 5 - 1": api.ErrSchema, "event 5 x,y -": api.ErrSchema, "event 5 x,y,z 1": api.ErrSchema, "event 5 x,y 1,2": api.ErrSchema, "event 5 x,\" 1": api.ErrValue, "event 10 x,y 1": api.ErrTime, "event 5 x,y\t 1": api.ErrValue} {
		fails(t, d, s, want)
	}
	do(t, d, "event 5 x, 1", "event 5 ,y 1", "event 5 -,- 1", "event 5 __,_ 1")
	tells(t, d, "select count from 5 to 10 by a, b", "5:_:y:1 5:-:-:1 5:__:_:1 5:x:_:1")
}

func TestCrashAndFuse(t *testing.T) {
	d := configured(t)
	do(t, d, "tick 9", "event 5 x,y 1", "crash 0")
	tells(t, d, "select count from 0 to 10", "0:1")
	do(t, d, "fuse 0")
	fails(t, d, "event 5 x,y 1", api.ErrStore)
	fails(t, d, "tick 10", api.ErrStore)
	fails(t, d, "merge", api.ErrStore)
	tells(t, d, "select count from 0 to 10", "0:1")
	do(t, d, "crash 0", "event 5 x,y 1")
	tells(t, d, "select count from 0 to 10", "0:2")
	do(t, d, "fuse 2")
	fails(t, d, "event 6 x,y 1", api.ErrStore)
	do(t, d, "crash 0")
	tells(t, d, "select count from 0 to 10", "0:2")
	do(t, d, "fuse 2")
	fails(t, d, "event 6 x,y 1", api.ErrStore)
	do(t, d, "crash 500")
	tells(t, d, "select count from 0 to 10", "0:3")
	do(t, d, "fuse 2")
	fails(t, d, "event 6 x,y 1", api.ErrStore)
	do(t, d, "crash 3")
	tells(t, d, "select count from 0 to 10", "0:3")
	tells(t, d, "files", "j1 manifest")
	do(t, d, "event 6 x,y 1", "crash 0", "merge", "crash 0")
	tells(t, d, "select count from 0 to 10", "0:4")
	tells(t, d, "files", "manifest s2 s3")
}

func TestRoom(t *testing.T) {
	d := desk.New()
	do(t, d, "tier 0 1 a,b,c,d,e,f", "horizon 9", "configure a,b,c,d,e,f -", "tick 9")
	value := strings.Repeat("x", api.MaxText)
	line := "event 9 " + strings.Join([]string{value, value, value, value, value, value}, ",") + " -"
	n := 0
	for ; n < 10000; n++ {
		if _, e := d.Line(line); e != api.OK {
			break
		}
	}
	fails(t, d, line, api.ErrFull)
	if n < 6500 || n > 6700 { // 2^20 bytes, of 158 or so an event
		t.Errorf("%d events", n)
	}
}

func TestNilDesk(t *testing.T) {
	var d *desk.Desk
	for _, s := range []string{"", "merge", "files", "select ", strings.Repeat("x", 999)} {
		fails(t, d, s, api.ErrArg)
	}
}

// TestLines: a desk does what an engine does that is asked the same.
func TestLines(t *testing.T) {
	r := rand.New(rand.NewSource(1))
	for range 20 {
		d := configured(t)
		v, _ := vault.New(1 << 20)
		e, _ := engine.Open(v)
		p, _ := policy.Parse("tier 0 5 a,b\ntier 20 10 a\nproj 0 5 b\nhorizon 100")
		e.Configure(api.Schema{Dims: []string{"a", "b"}, Metrics: []string{"m"}}, p)
		now := 0
		for range 200 {
			var line, told, want string
			var bad, wanted api.Errno
			switch k := r.Intn(20); {
			case k < 8:
				time, a, n := now-r.Intn(40)+2, string("xyz"[r.Intn(3)]), r.Intn(100)-50
				line = "event " + strconv.Itoa(time) + " " + a + ",_ " + strconv.Itoa(n)
				wanted = e.Ingest(api.Event{Time: time, Dims: []string{a, ""}, Metrics: []int{n}})
			case k < 11:
				now += r.Intn(12) - 1
				line, wanted = "tick "+strconv.Itoa(now), e.Tick(now)
				if m, _ := e.Manifest(); wanted != api.OK {
					now = m.Now
				}
			case k < 12:
				line, wanted = "merge", e.Merge()
			case k < 13:
				line, wanted = "compact", e.Compact()
			case k < 14:
				line, wanted = "expire", e.Expire()
			case k < 15:
				v = v.Crash(7)
				e, wanted = engine.Open(v)
				line = "crash 7"
			case k < 16:
				line, want = "files", strings.Join(v.List(), " ")
			default:
				q := "select count, sum m from " + strconv.Itoa(10*r.Intn(1+now/10)) + " to " + strconv.Itoa(now/10*10+10) + []string{"", " by a", " by b", " every 10"}[r.Intn(4)]
				g, x := e.Query(q)
				line, wanted = q, x
				var l []string
				for _, y := range g {
					s := strconv.Itoa(y.Time)
					for _, b := range y.By {
						if b == "" {
							b = "_"
						}
						s += ":" + b
					}
					for _, n := range y.Terms {
						s += ":" + strconv.Itoa(n)
					}
					l = append(l, s)
				}
				want = strings.Join(l, " ")
			}
			if told, bad = d.Line(line); told != want || bad != wanted {
				t.Fatalf("%q: %q, %v; want %q, %v", line, told, bad, want, wanted)
			}
		}
	}
}
