package engine_test

import (
	"slices"
	"testing"

	"columbary/api"
	"columbary/engine"
	"columbary/journal"
	"columbary/manifest"
	"columbary/segment"
	"columbary/vault"
)

// filled is a vault of a store with files and a journal of one entry.
func filled(t *testing.T) *vault.Vault {
	t.Helper()
	e, v := configured(t)
	must(t, e.Tick(37), e.Ingest(event(3, "x,p", 1)), e.Ingest(event(36, "x,p", 2)), e.Compact(), e.Ingest(event(37, "y,p", 3)))
	return v
}

// with is a vault of a room with other bytes of one file.
func with(t *testing.T, v *vault.Vault, room int, name string, b []byte) *vault.Vault {
	t.Helper()
	w := fresh(t, room)
	for _, s := range v.List() {
		x, _ := v.Read(s)
		if s == name {
			x = b
		}
		must(t, w.Append(s, x), w.Sync(s))
	}
	if _, there := v.Read(name); !there {
		must(t, w.Append(name, b), w.Sync(name))
	}
	return w
}

func TestOpenAgain(t *testing.T) {
	v := filled(t)
	want := state(open(t, v.Copy()))
	for _, keep := range []int{0, 5} {
		c := v.Crash(keep)
		bytes := files(c)
		e := open(t, c)
		m, _ := e.Manifest()
		if state(e) != want || files(c) != bytes || m.Now != 37 || m.Spent.Count != 3 || len(e.Rows(0, -1)) != 2 {
			t.Errorf("%s", state(e))
		}
	}
}

func TestOpenSweeps(t *testing.T) {
	v := filled(t)
	bytes := files(v)
	must(t, v.Append("manifest.new", []byte("x")), v.Append("s99", []byte("x")), v.Append("j99", nil), v.Append("other", []byte("x")))
	open(t, v)
	if files(v) != bytes {
		t.Error(v.List())
	}
}

func TestOpenBrokenVault(t *testing.T) {
	v := filled(t)
	must(t, v.Arm(0))
	if _, bad := engine.Open(v); bad != api.OK {
		t.Errorf("there is nothing to do: %v", bad)
	}
	must(t, v.Arm(9), v.Append("other", nil), v.Arm(0))
	if e, bad := engine.Open(v); e != nil || bad != api.ErrStore {
		t.Errorf("there is something to delete: %v", bad)
	}
}

func TestOpenWrongManifest(t *testing.T) {
	v := filled(t)
	good, _ := v.Read("manifest")
	for i, b := range [][]byte{nil, {1, 2, 3}, good[:len(good)-1], append(slices.Clone(good), 0)} {
		w := with(t, v, 1<<16, "manifest", b)
		must(t, w.Append("other", nil))
		bytes := files(w)
		if e, bad := engine.Open(w); e != nil || bad != api.ErrManifest || files(w) != bytes {
			t.Errorf("%d: %v", i, bad)
		}
	}
}

func TestOpenWrongFile(t *testing.T) {
	v := filled(t)
	m, _, _ := manifest.Load(v)
	for i, f := range m.Files {
		b, _ := v.Read(f.Name)
		g, bad := segment.Parse(b)
		must(t, bad)
		of := func(s api.Schema, l []api.Row) []byte {
			x, bad := segment.New(s, l)
			must(t, bad)
			return x.Bytes()
		}
		s := g.Schema()
		more := append(g.Rows(), g.Rows()[g.Len()-1])
		more[len(more)-1].Time += 20
		other := api.Schema{Dims: append(slices.Clone(s.Dims), "z"), Metrics: s.Metrics}
		var wide []api.Row
		for _, r := range g.Rows() {
			r.Dims = append(r.Dims, "")
			wide = append(wide, r)
		}
		renamed := api.Schema{Dims: s.Dims, Metrics: []string{"n"}}
		turned := slices.Clone(b)
		turned[len(turned)/2] ^= 1
		for k, x := range [][]byte{nil, {1}, b[:len(b)-1], append(slices.Clone(b), 0), turned, of(s, nil), of(s, more), of(other, wide), of(renamed, g.Rows())} {
			w := with(t, v, 1<<16, f.Name, x)
			must(t, w.Append("other", nil))
			bytes := files(w)
			if e, bad := engine.Open(w); e != nil || bad != api.ErrSegment || files(w) != bytes {
				t.Errorf("file %d, %d: %v", i, k, bad)
			}
		}
		w := v.Copy()
		must(t, w.Delete(f.Name))
		if e, bad := engine.Open(w); e != nil || bad != api.ErrSegment {
			t.Errorf("file %d is not there: %v", i, bad)
		}
	}
}

func TestTornJournal(t *testing.T) {
	v := filled(t)
	m, _, _ := manifest.Load(v)
	good, _ := v.Read(m.Journal)
	want := state(open(t, v.Copy()))
	for _, tail := range [][]byte{{0}, good[:3], {255, 255}, append([]byte{2, 9}, good...)} {
		w := with(t, v, 1<<16, m.Journal, append(slices.Clone(good), tail...))
		broken := w.Copy()
		must(t, broken.Arm(2))
		if e, bad := engine.Open(broken); e != nil || bad != api.ErrStore {
			t.Errorf("%x: it broke: %v", tail, bad)
		}
		e := open(t, w)
		name := "j" + number("", m.Next)[1:]
		now, _ := e.Manifest()
		if state(e) != want || now.Journal != name || now.Next != m.Next+1 || slices.Contains(w.List(), m.Journal) {
			t.Errorf("%x: %s, %v", tail, state(e), w.List())
		}
		if b, _ := w.Crash(0).Read(name); !slices.Equal(b, good) {
			t.Errorf("%x: the journal has %x", tail, b)
		}
		if state(open(t, w.Crash(0))) != want {
			t.Errorf("%x: behind a crash: %s", tail, state(open(t, w.Crash(0))))
		}
		must(t, e.Tick(38), e.Ingest(event(38, "x,p", 9)))
		if c := open(t, w.Crash(0)); state(c) != state(e) || state(c) == want {
			t.Errorf("%x: what came behind: %s", tail, state(c))
		}
	}
}

// TestTornJournalAndNoRoom: it is mended ahead of the next entry, which is ErrFull as long as there is no room.
func TestTornJournalAndNoRoom(t *testing.T) {
	v := filled(t)
	m, _, _ := manifest.Load(v)
	good, _ := v.Read(m.Journal)
	whole := with(t, v, 1<<16, m.Journal, append(slices.Clone(good), 0))
	used := 1<<16 - whole.Free()
	want := state(open(t, v.Copy()))
	w := with(t, whole, used+20, "manifest", read(whole, "manifest"))
	bytes := files(w)
	e := open(t, w)
	if state(e) != want || files(w) != bytes {
		t.Errorf("opened: %s", state(e))
	}
	for i, bad := range []api.Errno{e.Tick(38), e.Ingest(event(37, "x,p", 9)), e.Merge()} {
		if bad != api.ErrFull || state(e) != want || files(w) != bytes {
			t.Errorf("%d: %v, %s", i, bad, state(e))
		}
	}
	if bad := e.Tick(3); bad != api.ErrTime {
		t.Errorf("its own errors are ahead: %v", bad)
	}
	if got, bad := e.Query("select count from 0 to 40"); bad != api.OK || got[0].Terms[0] != 3 {
		t.Errorf("%v, %v", got, bad)
	}
	bigger := with(t, w, 1<<16, "manifest", read(w, "manifest"))
	f := open(t, bigger)
	must(t, f.Tick(38))
	l, n := journal.Read(bigger, "j"+number("", m.Next)[1:], schema())
	if len(l) != 2 || n == 0 || state(open(t, bigger.Crash(0))) != state(f) {
		t.Errorf("%v", l)
	}
}

func read(v *vault.Vault, name string) []byte {
	b, _ := v.Read(name)
	return b
}
