package vault_test

import (
	"math"
	"math/rand"
	"slices"
	"strconv"
	"strings"
	"testing"

	"columbary/api"
	"columbary/vault"
)

func fresh(t *testing.T, room int) *vault.Vault {
	t.Helper()
	v, e := vault.New(room)
	if v == nil || e != api.OK {
		t.Fatalf("New(%d): %v", room, e)
	}
	return v
}

// told is all that a vault tells of its files, as a text.
func told(v *vault.Vault) string {
	s := strconv.Itoa(v.Free())
	for _, name := range v.List() {
		b, ok := v.Read(name)
		s += " " + name + "=" + string(b) + strconv.FormatBool(ok)
	}
	return s
}

func must(t *testing.T, l ...api.Errno) {
	t.Helper()
	for i, e := range l {
		if e != api.OK {
			t.Fatalf("act %d: %v", i, e)
		}
	}
}

func TestNew(t *testing.T) {
	for room, want := range map[int]api.Errno{-1: api.ErrArg, math.MinInt: api.ErrArg, 0: api.OK, api.MaxFile: api.OK, api.MaxFile + 1: api.ErrArg, math.MaxInt: api.ErrArg} {
		v, e := vault.New(room)
		if e != want || (v == nil) != (e != api.OK) || e == api.OK && (v.Free() != room || len(v.List()) != 0 || v.Broken()) {
			t.Errorf("New(%d): %v", room, e)
		}
	}
}

func TestNames(t *testing.T) {
	wrong := []string{"", "A", "a_b", "a-b", "a b", "a/b", "{", "`", ":", "/", "é", "a\x00", "abcdefghijklm", "\xff"}
	right := []string{"a", "z", "0", "9", ".", "..", "az09.", "abcdefghijkl"}
	for _, name := range wrong {
		v := fresh(t, 100)
		must(t, v.Append("a", []byte("x")))
		for i, e := range []api.Errno{v.Append(name, nil), v.Sync(name), v.Rename("a", name), v.Rename(name, "a"), v.Delete(name)} {
			if e != api.ErrFile {
				t.Errorf("%q, %d: %v", name, i, e)
			}
		}
		if told(v) != "99 a=xtrue" {
			t.Errorf("%q: %s", name, told(v))
		}
	}
	for _, name := range right {
		v := fresh(t, 100)
		must(t, v.Append(name, []byte("x")), v.Sync(name), v.Rename(name, "b"), v.Rename("b", name), v.Delete(name))
	}
}

func TestFiles(t *testing.T) {
	v := fresh(t, 10)
	must(t, v.Append("b", []byte("12")), v.Append("a", nil), v.Append("b", []byte("345")))
	if told(v) != "5 a=true b=12345true" {
		t.Error(told(v))
	}
	must(t, v.Rename("b", "a"))
	if told(v) != "5 a=12345true" {
		t.Error(told(v))
	}
	must(t, v.Rename("a", "a"))
	if told(v) != "5 a=12345true" {
		t.Error(told(v))
	}
	must(t, v.Append("c", []byte("xyz")), v.Rename("c", "a"))
	if told(v) != "7 a=xyztrue" {
		t.Error(told(v))
	}
	must(t, v.Delete("a"))
	if told(v) != "10" {
		t.Error(told(v))
	}
	if b, ok := v.Read("a"); len(b) != 0 || ok {
		t.Errorf("%x %v", b, ok)
	}
	for i, e := range []api.Errno{v.Sync("a"), v.Rename("a", "b"), v.Delete("a")} {
		if e != api.ErrFile {
			t.Errorf("no such file, %d: %v", i, e)
		}
	}
}

func TestFull(t *testing.T) {
	v := fresh(t, 4)
	must(t, v.Append("a", []byte("123")))
	if e := v.Append("a", []byte("45")); e != api.ErrFull {
		t.Error(e)
	}
	if e := v.Append("b", []byte("45")); e != api.ErrFull {
		t.Error(e)
	}
	if told(v) != "1 a=123true" {
		t.Error(told(v))
	}
	must(t, v.Append("b", []byte("4")), v.Append("c", nil))
	if e := v.Append("b", []byte("5")); e != api.ErrFull || v.Free() != 0 {
		t.Error(e)
	}
	must(t, v.Delete("a"), v.Append("b", []byte("567")))
}

func TestMaxFiles(t *testing.T) {
	v := fresh(t, 100)
	for i := range api.MaxFiles {
		must(t, v.Append("f"+strconv.Itoa(i), nil))
	}
	if e := v.Append("more", nil); e != api.ErrFull || len(v.List()) != api.MaxFiles {
		t.Error(e)
	}
	must(t, v.Append("f7", []byte("x")), v.Rename("f7", "more"), v.Delete("more"), v.Append("again", nil))
}

func TestListRises(t *testing.T) {
	v := fresh(t, 100)
	r := rand.New(rand.NewSource(1))
	for range 60 {
		must(t, v.Append(strings.Repeat(string("az.09"[r.Intn(5)]), 1+r.Intn(3))+strconv.Itoa(r.Intn(99)), nil))
	}
	if l := v.List(); !slices.IsSorted(l) || len(l) < 20 {
		t.Error(l)
	}
}

func TestFuse(t *testing.T) {
	acts := []func(v *vault.Vault) api.Errno{
		func(v *vault.Vault) api.Errno { return v.Append("a", []byte("x")) },
		func(v *vault.Vault) api.Errno { return v.Append("new", nil) },
		func(v *vault.Vault) api.Errno { return v.Sync("a") },
		func(v *vault.Vault) api.Errno { return v.Rename("a", "c") },
		func(v *vault.Vault) api.Errno { return v.Delete("a") },
	}
	for i, act := range acts {
		for fuse := range 3 {
			v := fresh(t, 100)
			must(t, v.Append("a", []byte("123")), v.Arm(fuse))
			before := told(v)
			if v.Broken() != (fuse == 0) {
				t.Errorf("act %d, fuse %d: broken %v", i, fuse, v.Broken())
			}
			e := act(v)
			if fuse < 2 && (e != api.ErrStore || told(v) != before || !v.Broken()) || fuse == 2 && (e != api.OK || v.Broken()) {
				t.Errorf("act %d, fuse %d: %v, %v", i, fuse, e, v.Broken())
			}
			if f := v.Append("d", nil); f != api.ErrStore || !v.Broken() {
				t.Errorf("act %d, fuse %d, behind: %v", i, fuse, f)
			}
		}
	}
}

func TestFuseCountsActsAlone(t *testing.T) {
	v := fresh(t, 3)
	must(t, v.Append("a", []byte("123")), v.Arm(3))
	for i, e := range []api.Errno{v.Append("A", nil), v.Sync("b"), v.Rename("b", "c"), v.Rename("a", ""), v.Delete("b"), v.Arm(-1)} {
		if e != api.ErrFile && e != api.ErrArg {
			t.Errorf("%d: %v", i, e)
		}
	}
	v.Read("a")
	v.List()
	v.Free()
	v.Crash(1)
	v.Copy()
	if e := v.Append("a", []byte("4")); e != api.ErrFull {
		t.Errorf("no room: %v", e)
	}
	must(t, v.Sync("a"))
	if e := v.Sync("a"); e != api.ErrStore || !v.Broken() {
		t.Errorf("the third act: %v", e)
	}
	if e := v.Append("", nil); e != api.ErrFile {
		t.Errorf("ErrFile is ahead of ErrStore: %v", e)
	}
	if e := v.Append("a", []byte("4")); e != api.ErrStore {
		t.Errorf("ErrStore is ahead of ErrFull: %v", e)
	}
}

func TestArm(t *testing.T) {
	v := fresh(t, 9)
	if v.Arm(-1) != api.ErrArg || v.Arm(math.MinInt) != api.ErrArg || v.Broken() {
		t.Error("below 0")
	}
	must(t, v.Arm(0))
	if !v.Broken() || v.Append("a", nil) != api.ErrStore {
		t.Error("0")
	}
	must(t, v.Arm(math.MaxInt), v.Append("a", nil))
	if v.Arm(-5) != api.ErrArg || v.Broken() {
		t.Error("below 0, armed")
	}
}

// TestBrokenIsBroken: behind a fuse that burnt nothing changes.
func TestBrokenIsBroken(t *testing.T) {
	v := fresh(t, 50)
	must(t, v.Append("a", []byte("12345")), v.Sync("a"), v.Append("a", []byte("67")), v.Append("b", []byte("8")), v.Arm(0))
	before, c0, c1 := told(v), told(v.Crash(0)), told(v.Crash(1))
	for range 3 {
		for i, e := range []api.Errno{v.Append("a", []byte("x")), v.Sync("a"), v.Sync("b"), v.Rename("a", "b"), v.Delete("a"), v.Append("n", nil), v.Append("a", make([]byte, 99))} {
			if e != api.ErrStore {
				t.Errorf("%d: %v", i, e)
			}
		}
	}
	if told(v) != before || told(v.Crash(0)) != c0 || told(v.Crash(1)) != c1 || !v.Broken() {
		t.Errorf("%s, %s", before, told(v))
	}
}

func TestCrash(t *testing.T) {
	v := fresh(t, 50)
	must(t, v.Append("a", []byte("12345")), v.Sync("a"), v.Append("a", []byte("678")), v.Append("b", []byte("x")), v.Append("c", []byte("yz")), v.Sync("c"))
	for keep, want := range map[int]string{
		math.MinInt: "43 a=12345true b=true c=yztrue", -1: "43 a=12345true b=true c=yztrue", 0: "43 a=12345true b=true c=yztrue",
		1: "41 a=123456true b=xtrue c=yztrue", 2: "40 a=1234567true b=xtrue c=yztrue", 3: "39 a=12345678true b=xtrue c=yztrue",
		4: "39 a=12345678true b=xtrue c=yztrue", math.MaxInt: "39 a=12345678true b=xtrue c=yztrue",
	} {
		c := v.Crash(keep)
		if told(c) != want || told(c.Crash(0)) != want {
			t.Errorf("keep %d: %s, then %s", keep, told(c), told(c.Crash(0)))
		}
	}
	if told(v) != "39 a=12345678true b=xtrue c=yztrue" {
		t.Error(told(v))
	}
}

func TestCrashHasNoFuseAndIsItsOwn(t *testing.T) {
	v := fresh(t, 50)
	must(t, v.Append("a", []byte("12")), v.Arm(0))
	c := v.Crash(2)
	if c.Broken() {
		t.Error("it has a fuse")
	}
	must(t, c.Append("a", []byte("3")), c.Append("b", nil), v.Arm(9), v.Append("a", []byte("4")))
	if told(v) != "47 a=124true" || told(c) != "47 a=123true b=true" {
		t.Errorf("%s, %s", told(v), told(c))
	}
}

func TestSafeGoesWithTheFile(t *testing.T) {
	v := fresh(t, 50)
	must(t, v.Append("a", []byte("12")), v.Sync("a"), v.Append("a", []byte("3")), v.Append("b", []byte("456")), v.Sync("b"), v.Rename("a", "b"))
	if got := told(v.Crash(0)); got != "48 b=12true" {
		t.Error(got)
	}
	must(t, v.Delete("b"), v.Append("b", []byte("7")))
	if got := told(v.Crash(0)); got != "50 b=true" {
		t.Error(got)
	}
}

func TestCopy(t *testing.T) {
	v := fresh(t, 50)
	must(t, v.Append("a", []byte("12")), v.Sync("a"), v.Append("a", []byte("3")), v.Arm(3))
	c := v.Copy()
	if told(c) != told(v) || told(c.Crash(0)) != told(v.Crash(0)) {
		t.Error(told(c))
	}
	must(t, c.Append("a", []byte("c")), c.Sync("a"))
	if c.Append("a", nil) != api.ErrStore || !c.Broken() || v.Broken() {
		t.Error("the fuse")
	}
	must(t, v.Append("a", []byte("v")))
	if told(v) != "46 a=123vtrue" || told(c) != "46 a=123ctrue" || told(v.Crash(0)) != "48 a=12true" {
		t.Errorf("%s, %s", told(v), told(c))
	}
	must(t, v.Arm(0))
	if !v.Copy().Broken() {
		t.Error("a broken one's")
	}
}

func TestNewMemory(t *testing.T) {
	v := fresh(t, 50)
	b := []byte("123")
	must(t, v.Append("a", b))
	b[0] = 'x'
	got, _ := v.Read("a")
	got[1] = 'y'
	_ = append(got, "zz"...)
	must(t, v.Append("a", []byte("4")))
	if again, _ := v.Read("a"); string(again) != "1234" {
		t.Errorf("%q", again)
	}
	v.List()[0] = "other"
	if v.List()[0] != "a" {
		t.Error(v.List())
	}
}

func TestNilVault(t *testing.T) {
	var v *vault.Vault
	for i, e := range []api.Errno{v.Append("", nil), v.Append("a", nil), v.Sync("a"), v.Rename("a", "b"), v.Delete("a"), v.Arm(1), v.Arm(-1)} {
		if e != api.ErrArg {
			t.Errorf("%d: %v", i, e)
		}
	}
	b, ok := v.Read("a")
	if len(b) != 0 || ok || len(v.List()) != 0 || v.Free() != 0 || v.Broken() || v.Crash(1) != nil || v.Copy() != nil {
		t.Error("what is told")
	}
}

// TestSafeStays: behind a crash each file has its safe bytes, and a beginning of what was behind.
func TestSafeStays(t *testing.T) {
	r := rand.New(rand.NewSource(5))
	for range 200 {
		v := fresh(t, 200)
		all, safe := map[string]string{}, map[string]string{}
		for range 40 {
			a, b := string("abcd"[r.Intn(4)]), string("abcd"[r.Intn(4)])
			_, there := all[a]
			switch r.Intn(5) {
			case 0, 1:
				x := strings.Repeat(string("xyz"[r.Intn(3)]), r.Intn(12))
				if v.Append(a, []byte(x)) == api.OK {
					all[a] += x
				}
			case 2:
				if v.Sync(a) == api.OK {
					safe[a] = all[a]
				}
			case 3:
				if v.Delete(a) == api.OK {
					delete(all, a)
					delete(safe, a)
				} else if there {
					t.Fatal("Delete")
				}
			case 4:
				if v.Rename(a, b) == api.OK && a != b {
					all[b], safe[b] = all[a], safe[a]
					delete(all, a)
					delete(safe, a)
				}
			}
		}
		keep := r.Intn(20)
		c := v.Crash(keep)
		if len(c.List()) != len(all) {
			t.Fatalf("%v", c.List())
		}
		for name, x := range all {
			n := min(len(safe[name])+keep, len(x))
			if b, ok := c.Read(name); !ok || string(b) != x[:n] {
				t.Fatalf("%s: %q, want %q", name, b, x[:n])
			}
		}
	}
}
