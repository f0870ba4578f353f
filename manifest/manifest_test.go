package manifest_test

import (
	"bytes"
	"math"
	"math/rand"
	"slices"
	"strconv"
	"strings"
	"testing"

	"columbary/api"
	"columbary/check"
	"columbary/manifest"
	"columbary/policy"
	"columbary/vault"
	"columbary/zig"
)

// usual is a right manifest.
func usual() api.Manifest {
	return api.Manifest{
		Schema: api.Schema{Dims: []string{"a", "b"}, Metrics: []string{"m"}},
		Policy: api.Policy{
			Tiers: []api.Tier{{Age: 0, Gran: 5, Dims: []string{"a", "b"}}, {Age: 20, Gran: 10, Dims: []string{"a"}}},
			Projs: []api.Proj{{Tier: 0, Gran: 5, Dims: []string{"b"}}, {Tier: 1, Gran: 20}}, Horizon: 100,
		},
		Now: 137, Edges: []int{110, 30}, Spent: api.Budget{Count: 9, Sizes: []int{1000}},
		Files:   []api.Stored{{Name: "s1", Tier: 0, Proj: -1, Rows: 7}, {Name: "s2", Tier: 0, Proj: 0, Rows: 3}, {Name: "s3", Tier: 1, Proj: -1, Rows: 2}},
		Journal: "j4", Next: 5,
	}
}

func fresh(t *testing.T, room int) *vault.Vault {
	t.Helper()
	v, e := vault.New(room)
	if e != api.OK {
		t.Fatal(e)
	}
	return v
}

func told(v *vault.Vault) string {
	s := ""
	for _, name := range v.List() {
		b, _ := v.Read(name)
		s += name + "=" + string(b) + "|"
	}
	return s
}

// changes are changes that leave a manifest wrong.
func changes() map[string]func(m *api.Manifest) {
	file := func(i int, change func(f *api.Stored)) func(m *api.Manifest) {
		return func(m *api.Manifest) { change(&m.Files[i]) }
	}
	out := map[string]func(m *api.Manifest){
		"schema":               func(m *api.Manifest) { m.Schema.Metrics = []string{"a"} },
		"no schema":            func(m *api.Manifest) { m.Schema = api.Schema{} },
		"policy":               func(m *api.Manifest) { m.Policy.Horizon = 20 },
		"another's policy":     func(m *api.Manifest) { m.Schema.Dims = []string{"a", "c"} },
		"now below 0":          func(m *api.Manifest) { m.Now, m.Edges = -1, []int{-1, -1} },
		"a great now":          func(m *api.Manifest) { m.Now = api.MaxTime + 1 },
		"one edge":             func(m *api.Manifest) { m.Edges = m.Edges[:1] },
		"three edges":          func(m *api.Manifest) { m.Edges = []int{110, 30, 0} },
		"edges that rise":      func(m *api.Manifest) { m.Edges = []int{30, 31} },
		"an edge below 0":      func(m *api.Manifest) { m.Edges = []int{110, -1} },
		"an edge above now":    func(m *api.Manifest) { m.Edges = []int{138, 30} },
		"a count below 0":      func(m *api.Manifest) { m.Spent.Count = -1 },
		"a great count":        func(m *api.Manifest) { m.Spent.Count = api.MaxCount + 1 },
		"no sizes":             func(m *api.Manifest) { m.Spent.Sizes = nil },
		"two sizes":            func(m *api.Manifest) { m.Spent.Sizes = []int{1, 2} },
		"a size below 0":       func(m *api.Manifest) { m.Spent.Sizes = []int{-1} },
		"a great size":         func(m *api.Manifest) { m.Spent.Sizes = []int{api.MaxInt + 1} },
		"next below 0":         func(m *api.Manifest) { m.Next = -1 },
		"a great next":         func(m *api.Manifest) { m.Next = 1<<30 + 1 },
		"two names alike":      file(1, func(f *api.Stored) { f.Name = "s1" }),
		"no such tier":         file(2, func(f *api.Stored) { f.Tier = 2 }),
		"a tier below 0":       file(2, func(f *api.Stored) { f.Tier = -1 }),
		"no such projection":   file(1, func(f *api.Stored) { f.Proj = 2 }),
		"projection -2":        file(1, func(f *api.Stored) { f.Proj = -2 }),
		"another's projection": file(1, func(f *api.Stored) { f.Proj = 1 }),
		"another's tier":       file(1, func(f *api.Stored) { f.Tier = 1 }),
		"rows below 0":         file(0, func(f *api.Stored) { f.Rows = -1 }),
		"too many rows":        file(0, func(f *api.Stored) { f.Rows = api.MaxRows + 1 }),
		"two of one place":     file(2, func(f *api.Stored) { f.Tier = 0 }),
		"two of a projection":  func(m *api.Manifest) { m.Files = append(m.Files, api.Stored{Name: "x", Tier: 0, Proj: 0}) },
		"a file's journal":     func(m *api.Manifest) { m.Journal = "s2" },
	}
	for _, name := range []string{"", "manifest", "manifest.new", "A", "s_1", "abcdefghijklm", "s 1", "é", "s\x00", "s-1"} {
		out["file "+name] = file(1, func(f *api.Stored) { f.Name = name })
		out["journal "+name] = func(m *api.Manifest) { m.Journal = name }
	}
	return out
}

// bounds are changes that leave it right.
func bounds() map[string]func(m *api.Manifest) {
	return map[string]func(m *api.Manifest){
		"nothing": func(m *api.Manifest) {},
		"the least": func(m *api.Manifest) {
			m.Now, m.Edges, m.Next, m.Spent = 0, []int{0, 0}, 0, api.Budget{Sizes: []int{0}}
		},
		"the most":    func(m *api.Manifest) { m.Now, m.Next = api.MaxTime, 1<<30 },
		"edges":       func(m *api.Manifest) { m.Edges = []int{137, 137} },
		"spent":       func(m *api.Manifest) { m.Spent = api.Budget{Count: api.MaxCount, Sizes: []int{api.MaxInt}} },
		"no files":    func(m *api.Manifest) { m.Files = nil },
		"rows":        func(m *api.Manifest) { m.Files[0].Rows, m.Files[1].Rows = 0, api.MaxRows },
		"names":       func(m *api.Manifest) { m.Files[0].Name, m.Journal = ".", "az09.az09.az" },
		"projections": func(m *api.Manifest) { m.Files = append(m.Files, api.Stored{Name: "x", Tier: 1, Proj: 1}) },
		"like names":  func(m *api.Manifest) { m.Files[0].Name, m.Journal = "manifest.", "manifest.ne" },
		"no metrics":  func(m *api.Manifest) { m.Schema.Metrics, m.Spent.Sizes = nil, nil },
	}
}

func TestRight(t *testing.T) {
	for what, change := range bounds() {
		m := usual()
		change(&m)
		if !manifest.Right(m) {
			t.Errorf("%s: it is right", what)
		}
		b, e := manifest.Encode(m)
		d, f := manifest.Decode(b)
		if e != api.OK || f != api.OK || !manifest.Same(d, m) {
			t.Errorf("%s: %v, %v", what, e, f)
		}
	}
	for what, change := range changes() {
		m := usual()
		change(&m)
		if manifest.Right(m) {
			t.Errorf("%s: it is not right", what)
		}
		if b, e := manifest.Encode(m); len(b) != 0 || e != api.ErrManifest {
			t.Errorf("%s: Encode: %v", what, e)
		}
		v := fresh(t, 9999)
		v.Append("manifest.new", []byte("x"))
		if e := manifest.Commit(v, m); e != api.ErrManifest || told(v) != "manifest.new=x|" {
			t.Errorf("%s: Commit: %v", what, e)
		}
	}
	if manifest.Right(api.Manifest{}) {
		t.Error("nothing is right")
	}
}

// words are a manifest's bytes, without the block, by the chapter's words.
func words(m api.Manifest) []byte {
	b := zig.Int(zig.Text(nil, "columbary"), len(m.Schema.Dims))
	for _, s := range m.Schema.Dims {
		b = zig.Text(b, s)
	}
	b = zig.Int(b, len(m.Schema.Metrics))
	for _, s := range m.Schema.Metrics {
		b = zig.Text(b, s)
	}
	b = zig.Int(zig.Int(zig.Text(b, policy.Text(m.Policy)), m.Now), len(m.Edges))
	for _, n := range m.Edges {
		b = zig.Int(b, n)
	}
	b = zig.Int(zig.Int(b, m.Spent.Count), len(m.Spent.Sizes))
	for _, n := range m.Spent.Sizes {
		b = zig.Int(b, n)
	}
	b = zig.Int(b, len(m.Files))
	for _, f := range m.Files {
		b = zig.Int(zig.Int(zig.Int(zig.Text(b, f.Name), f.Tier), f.Proj), f.Rows)
	}
	return zig.Int(zig.Text(b, m.Journal), m.Next)
}

func block(b []byte) []byte {
	x, _ := check.Block(b)
	return x
}

func TestBytes(t *testing.T) {
	b, e := manifest.Encode(usual())
	if e != api.OK || !bytes.Equal(b, block(words(usual()))) {
		t.Errorf("%x, %v", b, e)
	}
	m := api.Manifest{Schema: api.Schema{Dims: []string{"a"}}, Policy: api.Policy{Tiers: []api.Tier{{Gran: 1, Dims: []string{"a"}}}, Horizon: 9}, Edges: []int{0}, Journal: "j0", Next: 1}
	b, e = manifest.Encode(m)
	if want := "\x12columbary\x02\x02a\x00\x28tier 0 1 a\nhorizon 9\x00\x02\x00\x00\x00\x00\x04j0\x02"; e != api.OK || !bytes.Equal(b, block([]byte(want))) {
		t.Errorf("%x, %v", b, e)
	}
}

func TestDecodeWrong(t *testing.T) {
	good := words(usual())
	for what, b := range map[string][]byte{
		"nothing": nil, "no block": good, "an empty block": block(nil), "a byte behind": append(block(good), 0), "another block": append(block(good), block(good)...),
		"a byte behind in the block": block(append(slices.Clone(good), 0)), "another text": block(bytes.Replace(good, []byte("columbary"), []byte("columbarx"), 1)),
		"another policy": block(bytes.Replace(good, []byte("horizon 100"), []byte("horizon 020"), 1)), "a wrong policy": block(bytes.Replace(good, []byte("horizon 100"), []byte("horizon 010"), 1)),
		"many": block([]byte("\x12columbary" + string(zig.Int(nil, math.MaxInt)))), "below 0": block([]byte("\x12columbary\x01")),
	} {
		if m, e := manifest.Decode(b); e != api.ErrManifest || !manifest.Same(m, api.Manifest{}) {
			t.Errorf("%s: %v", what, e)
		}
	}
	for cut := range good {
		if _, e := manifest.Decode(block(good[:cut])); e != api.ErrManifest {
			t.Errorf("cut at %d: %v", cut, e)
		}
	}
	whole := block(good)
	for cut := range whole {
		if _, e := manifest.Decode(whole[:cut]); e != api.ErrManifest {
			t.Errorf("the block cut at %d: %v", cut, e)
		}
	}
	for what, change := range changes() {
		m := usual()
		change(&m)
		if _, e := manifest.Decode(block(words(m))); e != api.ErrManifest {
			t.Errorf("%s: %v", what, e)
		}
	}
}

func TestOneWay(t *testing.T) {
	r := rand.New(rand.NewSource(1))
	told := 0
	good := words(usual())
	for range 5000 {
		b := slices.Clone(good)
		switch k := r.Intn(len(b)); r.Intn(3) {
		case 0:
			b[k] ^= 1 << r.Intn(8)
		case 1:
			b = slices.Delete(b, k, k+1)
		case 2:
			b = slices.Insert(b, k, byte(r.Intn(4)))
		}
		m, e := manifest.Decode(block(b))
		if e == api.OK {
			told++
			if !manifest.Right(m) || !bytes.Equal(words(m), b) {
				t.Fatalf("%x: %v", b, m)
			}
		} else if e != api.ErrManifest || !manifest.Same(m, api.Manifest{}) {
			t.Fatalf("%x: %v", b, e)
		}
	}
	if told == 0 {
		t.Error("none was told")
	}
}

func TestCommitAndLoad(t *testing.T) {
	v := fresh(t, 9999)
	if m, ok, e := manifest.Load(v); ok || e != api.OK || !manifest.Same(m, api.Manifest{}) {
		t.Errorf("no file: %v, %v", ok, e)
	}
	v.Append("manifest.new", []byte("left behind"))
	v.Append("other", []byte("x"))
	if e := manifest.Commit(v, usual()); e != api.OK {
		t.Fatal(e)
	}
	b, _ := manifest.Encode(usual())
	if got := told(v); got != "manifest="+string(b)+"|other=x|" || told(v.Crash(0)) != "manifest="+string(b)+"|other=|" {
		t.Errorf("%q", got)
	}
	next := usual()
	next.Now, next.Next = 140, 6
	if e := manifest.Commit(v, next); e != api.OK {
		t.Fatal(e)
	}
	if m, ok, e := manifest.Load(v); !ok || e != api.OK || !manifest.Same(m, next) {
		t.Errorf("%v, %v, %v", m, ok, e)
	}
	for _, b := range [][]byte{nil, []byte("x"), append(b, 0), b[:len(b)-1]} {
		w := fresh(t, 9999)
		w.Append("manifest", b)
		if m, ok, e := manifest.Load(w); ok || e != api.ErrManifest || !manifest.Same(m, api.Manifest{}) {
			t.Errorf("%x: %v, %v", b, ok, e)
		}
	}
}

func TestCommitNoRoom(t *testing.T) {
	b, _ := manifest.Encode(usual())
	for room := range 2*len(b) + 1 {
		v := fresh(t, room)
		e := manifest.Commit(v, usual())
		if (e == api.OK) != (room >= len(b)) || e != api.OK && (e != api.ErrFull || told(v) != "") {
			t.Fatalf("room %d: %v, %q", room, e, told(v))
		}
		if room < len(b) {
			continue
		}
		next := usual()
		next.Next = 6
		e = manifest.Commit(v, next)
		if m, ok, _ := manifest.Load(v); (e == api.OK) != (room >= 2*len(b)) || !ok || m.Next != 5+room/(2*len(b)) || len(v.List()) != 1 {
			t.Fatalf("room %d: %v, %q", room, e, told(v))
		}
	}
	v := fresh(t, 9999)
	for i := range api.MaxFiles {
		v.Append("f"+strconv.Itoa(i), nil)
	}
	if e := manifest.Commit(v, usual()); e != api.ErrFull || len(v.List()) != api.MaxFiles {
		t.Errorf("too many files: %v", e)
	}
}

func TestCommitActs(t *testing.T) {
	for left, acts := range map[bool]int{false: 3, true: 4} {
		v := fresh(t, 9999)
		if left {
			v.Append("manifest.new", nil)
		}
		v.Arm(acts + 1)
		if e := manifest.Commit(v, usual()); e != api.OK || v.Append("x", nil) != api.ErrStore {
			t.Errorf("%v: %v", left, e)
		}
	}
}

// TestAllOrNothing: behind a crash at any act there is the old manifest, or the new one; when Commit answered OK, the new one.
func TestAllOrNothing(t *testing.T) {
	next := usual()
	next.Now, next.Next = 140, 6
	size, _ := manifest.Encode(next)
	for _, old := range []bool{false, true} {
		for fuse := range 9 {
			for keep := range len(size) + 2 {
				v := fresh(t, 9999)
				if old {
					manifest.Commit(v, usual())
				}
				if keep%3 == 0 {
					v.Append("manifest.new", []byte(strings.Repeat("z", 300)))
				}
				v.Arm(fuse)
				e := manifest.Commit(v, next)
				if e != api.OK && e != api.ErrStore {
					t.Fatal(e)
				}
				c := v.Crash(keep)
				m, ok, f := manifest.Load(c)
				isOld := ok == old && (!old || manifest.Same(m, usual()))
				isNew := ok && manifest.Same(m, next)
				if f != api.OK || !isNew && (e == api.OK || !isOld) {
					t.Fatalf("fuse %d, keep %d: %v, %v, %v", fuse, keep, e, ok, f)
				}
				if e := manifest.Commit(c, next); e != api.OK {
					t.Fatalf("fuse %d, keep %d, again: %v", fuse, keep, e)
				}
			}
		}
	}
}

func TestNilVault(t *testing.T) {
	if e := manifest.Commit(nil, usual()); e != api.ErrArg {
		t.Error(e)
	}
	if m, ok, _ := manifest.Load(nil); ok || !manifest.Same(m, api.Manifest{}) {
		t.Error("Load")
	}
}

func TestSame(t *testing.T) {
	for what, change := range map[string]func(m *api.Manifest){
		"dims": func(m *api.Manifest) { m.Schema.Dims = []string{"a", "c"} }, "metrics": func(m *api.Manifest) { m.Schema.Metrics = nil }, "policy": func(m *api.Manifest) { m.Policy.Horizon++ },
		"now": func(m *api.Manifest) { m.Now++ }, "edges": func(m *api.Manifest) { m.Edges[1]++ }, "count": func(m *api.Manifest) { m.Spent.Count++ }, "sizes": func(m *api.Manifest) { m.Spent.Sizes[0]++ },
		"files": func(m *api.Manifest) { m.Files = m.Files[1:] }, "name": func(m *api.Manifest) { m.Files[2].Name = "q" }, "tier": func(m *api.Manifest) { m.Files[2].Tier++ }, "proj": func(m *api.Manifest) { m.Files[2].Proj++ },
		"rows": func(m *api.Manifest) { m.Files[2].Rows++ }, "journal": func(m *api.Manifest) { m.Journal = "q" }, "next": func(m *api.Manifest) { m.Next++ }, "order": func(m *api.Manifest) { m.Files[0], m.Files[1] = m.Files[1], m.Files[0] },
	} {
		m := usual()
		change(&m)
		if manifest.Same(m, usual()) || manifest.Same(usual(), m) {
			t.Error(what)
		}
	}
	if !manifest.Same(usual(), usual()) || !manifest.Same(api.Manifest{}, api.Manifest{Edges: []int{}, Files: []api.Stored{}}) {
		t.Error("alike")
	}
}

func TestNewMemory(t *testing.T) {
	m := usual()
	b, _ := manifest.Encode(m)
	d, _ := manifest.Decode(b)
	for i := range b {
		b[i] = 0
	}
	if !manifest.Same(d, usual()) || !manifest.Same(m, usual()) {
		t.Error("shared")
	}
}
