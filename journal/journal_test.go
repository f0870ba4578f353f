package journal_test

import (
	"bytes"
	"math"
	"math/rand"
	"slices"
	"strings"
	"testing"

	"columbary/api"
	"columbary/check"
	"columbary/journal"
	"columbary/vault"
	"columbary/zig"
)

func schema() api.Schema {
	return api.Schema{Dims: []string{"a", "b"}, Metrics: []string{"m"}}
}

func event(time int, dims string, metrics ...int) api.Entry {
	return api.Entry{Event: api.Event{Time: time, Dims: strings.Split(dims, ","), Metrics: metrics}}
}

func tick(now int) api.Entry { return api.Entry{Tick: true, Now: now} }

func some(r *rand.Rand) api.Entry {
	if r.Intn(3) == 0 {
		return tick(r.Intn(api.MaxTime) >> r.Intn(40))
	}
	return event(r.Intn(api.MaxTime)>>r.Intn(40), strings.Repeat("x", r.Intn(4))+","+string(rune('0'+r.Intn(40))), r.Intn(999)-500)
}

func fresh(t *testing.T, room int) *vault.Vault {
	t.Helper()
	v, e := vault.New(room)
	if e != api.OK {
		t.Fatal(e)
	}
	return v
}

// wrong are no entries.
func wrong() []api.Entry {
	full := event(1, "x,y", 5)
	full.Now = 3
	late := full
	late.Tick = true
	timed, dims, numbers := tick(3), tick(3), tick(3)
	timed.Event.Time = 1
	dims.Event.Dims = []string{""}
	numbers.Event.Metrics = []int{0}
	below := full
	below.Now = -1
	return []api.Entry{
		{}, full, late, timed, dims, numbers, below, tick(-1), tick(api.MaxTime + 1), tick(math.MinInt), tick(math.MaxInt), event(-1, "x,y", 5), event(api.MaxTime+1, "x,y", 5), event(1, "x", 5), event(1, "x,y,z", 5),
		event(1, "x,y"), event(1, "x,y", 1, 2), event(1, "x,\"", 5), event(1, strings.Repeat("x", api.MaxText+1)+",y", 5), event(1, "x,y", api.MaxInt+1), event(1, "x,y", math.MinInt),
	}
}

func TestBytes(t *testing.T) {
	for _, x := range []struct {
		e    api.Entry
		want string
	}{
		{tick(0), "\x02\x00"}, {tick(5), "\x02\x0a"}, {tick(api.MaxTime), "\x02" + string(zig.Int(nil, api.MaxTime))}, {event(3, "x,yz", -7), "\x00\x06\x02x\x04yz\x0d"}, {event(0, ",", 0), "\x00\x00\x00\x00\x00"},
		{event(api.MaxTime, "~,", api.MaxInt), "\x00" + string(zig.Int(nil, api.MaxTime)) + "\x02~\x00" + string(zig.Int(nil, api.MaxInt))},
	} {
		b, e := journal.Encode(schema(), x.e)
		if string(b) != x.want || e != api.OK {
			t.Errorf("%v: %x, %v", x.e, b, e)
		}
		d, e := journal.Decode(schema(), []byte(x.want))
		if e != api.OK || !journal.Same([]api.Entry{d}, []api.Entry{x.e}) {
			t.Errorf("%x: %v, %v", x.want, d, e)
		}
	}
}

func TestEncodeWrong(t *testing.T) {
	for i, x := range wrong() {
		if b, e := journal.Encode(schema(), x); len(b) != 0 || e != api.ErrJournal {
			t.Errorf("%d: %x, %v", i, b, e)
		}
		v := fresh(t, 99)
		if e := journal.Append(v, "j", schema(), x); e != api.ErrJournal || len(v.List()) != 0 {
			t.Errorf("%d: Append: %v", i, e)
		}
	}
}

func TestDecodeWrong(t *testing.T) {
	for _, s := range []string{
		"", "\x00", "\x02", "\x01", "\x04\x00", "\x02\x00\x00", "\x02\x01", "\x02\x80\x00", "\x02" + string(zig.Int(nil, api.MaxTime+1)), "\x00" + string(zig.Int(nil, api.MaxTime+1)) + "\x00\x00\x00", "\x00\x01\x00\x00\x00",
		"\x00\x00\x00\x00", "\x00\x00\x00\x00\x00\x00", "\x00\x00\x02\"\x00\x00", "\x00\x00\x02\n\x00\x00", "\x00\x00\x00\x02x", "\x00\x00\x00\x04x\x00", "\x00\x00\x32" + strings.Repeat("x", 25) + "\x00\x00",
		"\x00\x00\x00\x00" + string(zig.Int(nil, api.MaxInt+1)), "\x00\x00\x00\x00" + string(zig.Int(nil, -api.MaxInt-1)), "\x00\x00\x00\x00\x80\x00", "\x80\x02\x00",
	} {
		if d, e := journal.Decode(schema(), []byte(s)); e != api.ErrJournal || d.Tick || d.Now != 0 || d.Event.Time != 0 || len(d.Event.Dims)+len(d.Event.Metrics) != 0 {
			t.Errorf("%x: %v, %v", s, d, e)
		}
	}
}

func TestOneWay(t *testing.T) {
	r := rand.New(rand.NewSource(1))
	told := 0
	for range 5000 {
		x := some(r)
		b, _ := journal.Encode(schema(), x)
		if d, e := journal.Decode(schema(), b); e != api.OK || !journal.Same([]api.Entry{d}, []api.Entry{x}) {
			t.Fatalf("%v: %v, %v", x, d, e)
		}
		b[r.Intn(len(b))] ^= 1 << r.Intn(8)
		d, e := journal.Decode(schema(), b)
		if e == api.OK {
			told++
			if own, _ := journal.Encode(schema(), d); !bytes.Equal(own, b) {
				t.Fatalf("%x: %v", b, d)
			}
		} else if e != api.ErrJournal {
			t.Fatalf("%x: %v", b, e)
		}
	}
	if told == 0 {
		t.Error("none was told")
	}
}

func TestAppendAndRead(t *testing.T) {
	v := fresh(t, 9999)
	if l, n := journal.Read(v, "j", schema()); len(l) != 0 || n != 0 {
		t.Errorf("no file: %v, %d", l, n)
	}
	l := []api.Entry{tick(7), event(3, "x,", 5), event(3, "x,", 5), tick(9), event(8, "y,z", -1)}
	var want []byte
	for i, x := range l {
		if e := journal.Append(v, "j", schema(), x); e != api.OK {
			t.Fatal(e)
		}
		b, _ := journal.Encode(schema(), x)
		block, _ := check.Block(b)
		want = append(want, block...)
		got, n := journal.Read(v, "j", schema())
		if !journal.Same(got, l[:i+1]) || n != len(want) {
			t.Errorf("%d: %v, %d", i, got, n)
		}
		if b, _ := v.Crash(0).Read("j"); !bytes.Equal(b, want) {
			t.Errorf("%d: %x is safe", i, b)
		}
	}
	if !slices.Equal(v.List(), []string{"j"}) {
		t.Error(v.List())
	}
}

func TestReadAsFarAsItGoes(t *testing.T) {
	v := fresh(t, 9999)
	journal.Append(v, "j", schema(), tick(7))
	journal.Append(v, "j", schema(), event(3, "x,", 5))
	good, _ := v.Read("j")
	next := fresh(t, 99)
	journal.Append(next, "j", schema(), tick(99))
	block, _ := next.Read("j")
	none, _ := check.Block([]byte("\x04\x00"))
	other, _ := check.Block([]byte("\x00\x06\x02x\x0d"))
	turned := slices.Clone(block)
	turned[1] ^= 1
	tails := [][]byte{nil, {0}, none, other, turned, append(slices.Clone(none), block...), append(slices.Clone(turned), block...)}
	for cut := range block {
		tails = append(tails, block[:cut])
	}
	for i, tail := range tails {
		w := fresh(t, 9999)
		w.Append("f", append(slices.Clone(good), tail...))
		l, n := journal.Read(w, "f", schema())
		if !journal.Same(l, []api.Entry{tick(7), event(3, "x,", 5)}) || n != len(good) {
			t.Errorf("%d: %v, %d", i, l, n)
		}
	}
}

func TestAppendErrors(t *testing.T) {
	v := fresh(t, 20)
	if e := journal.Append(v, "J", schema(), tick(1)); e != api.ErrFile {
		t.Error(e)
	}
	for journal.Append(v, "j", schema(), tick(1)) == api.OK {
	}
	before, _ := v.Read("j")
	if e := journal.Append(v, "j", schema(), tick(1)); e != api.ErrFull {
		t.Error(e)
	}
	if b, _ := v.Read("j"); !bytes.Equal(b, before) || len(b) < 14 {
		t.Errorf("%x", b)
	}
	if e := journal.Append(v, "j", schema(), tick(-1)); e != api.ErrJournal {
		t.Errorf("ErrJournal is ahead of ErrFull: %v", e)
	}
	v.Arm(0)
	if e := journal.Append(v, "j", schema(), tick(1)); e != api.ErrStore {
		t.Error(e)
	}
}

func TestNilVault(t *testing.T) {
	if e := journal.Append(nil, "j", schema(), tick(1)); e != api.ErrArg {
		t.Error(e)
	}
	if l, n := journal.Read(nil, "j", schema()); len(l) != 0 || n != 0 {
		t.Errorf("%v, %d", l, n)
	}
}

// TestWhatWasToldIsThere: behind a crash the entries whose Append answered OK are read, in order, and at most one more.
func TestWhatWasToldIsThere(t *testing.T) {
	r := rand.New(rand.NewSource(2))
	for fuse := 1; fuse < 30; fuse++ {
		for keep := range 20 {
			v := fresh(t, 9999)
			v.Arm(fuse)
			var told []api.Entry
			var more []api.Entry
			for {
				x := some(r)
				if e := journal.Append(v, "j", schema(), x); e != api.OK {
					if e != api.ErrStore {
						t.Fatal(e)
					}
					more = append(slices.Clone(told), x)
					break
				}
				told = append(told, x)
			}
			l, n := journal.Read(v.Crash(keep), "j", schema())
			if b, _ := v.Read("j"); !journal.Same(l, told) && !journal.Same(l, more) || n > len(b) || len(told) != (fuse-1)/2 {
				t.Fatalf("fuse %d, keep %d: %v, told %v", fuse, keep, l, told)
			}
		}
	}
}

func TestSame(t *testing.T) {
	l := []api.Entry{tick(7), event(3, "x,y", 5)}
	if !journal.Same(l, slices.Clone(l)) || !journal.Same(nil, []api.Entry{}) || journal.Same(l, l[:1]) || journal.Same(l[:1], l) || journal.Same(l, []api.Entry{l[1], l[0]}) {
		t.Error("lists")
	}
	for i, x := range []api.Entry{tick(7), event(4, "x,y", 5), event(3, "z,y", 5), event(3, "x,y", 6), event(3, "x", 5), event(3, "x,y"), {Now: 1, Event: l[1].Event}, {Tick: true, Event: l[1].Event}} {
		if journal.Same(l, []api.Entry{l[0], x}) {
			t.Errorf("%d", i)
		}
	}
	if journal.Same([]api.Entry{tick(1)}, []api.Entry{tick(2)}) || !journal.Same([]api.Entry{{Event: api.Event{Dims: []string{}}}}, []api.Entry{{Event: api.Event{Metrics: []int{}}}}) {
		t.Error("ticks")
	}
}

func TestNewMemory(t *testing.T) {
	x := event(3, "x,y", 5)
	b, _ := journal.Encode(schema(), x)
	d, _ := journal.Decode(schema(), b)
	d.Event.Dims[0], d.Event.Metrics[0], b[0] = "q", 9, 9
	if x.Event.Dims[0] != "x" || x.Event.Metrics[0] != 5 {
		t.Error("shared")
	}
	v := fresh(t, 99)
	journal.Append(v, "j", schema(), x)
	l, _ := journal.Read(v, "j", schema())
	l[0].Event.Dims[0] = "q"
	if m, _ := journal.Read(v, "j", schema()); m[0].Event.Dims[0] != "x" {
		t.Error("shared")
	}
}
