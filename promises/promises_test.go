package promises_test

import (
	"math"
	"math/rand"
	"reflect"
	"runtime"
	"testing"

	"columbary/api"
	"columbary/engine"
	"columbary/vault"
)

// maker makes arguments: of numbers and texts at the edges, and of what calls answered.
type maker struct {
	r    *rand.Rand
	pool map[reflect.Type][]reflect.Value
}

func numbers() []int {
	return []int{
		0, 1, -1, 2, 3, 5, 7, 10, 12, 24, 25, 63, 64, 65, 255, 256, 65535, 65536, 65537, 1 << 20, 1<<20 + 1, 1 << 24, 1<<24 + 1, 1 << 30,
		api.MaxTime, api.MaxTime + 1, -api.MaxTime - 1, api.MaxInt, api.MaxInt + 1, -api.MaxInt, -api.MaxInt - 1, math.MaxInt, math.MinInt, -5, 100,
	}
}

func texts() []string {
	return []string{
		"", "a", "b", "m", "x", "count", "manifest", "j0", "s1", "\"", "\xff", "tier 0 5 a,b\nhorizon 100", "aaaaaaaaaaaaaaaaaaaaaaaaaaaaaaaaaaaaaaa", "select count from 0 to 100", "select sum m from 0 to 50 by a",
		"select count from 0 to 10 where not (a=\"x\" or b is null) having count > 0 order 1 desc limit 3", "\x12columbary\x02\x02a\x00\x00\x00\x00", "merge", "event 5 x,y 1", "tick 100", "crash 5", "fuse 3", "files",
	}
}

// seeds are such as a store has.
func seeds() []any {
	v, _ := vault.New(1 << 16)
	e, _ := engine.Open(v)
	s := api.Schema{Dims: []string{"a", "b"}, Metrics: []string{"m"}}
	p := api.Policy{Tiers: []api.Tier{{Gran: 5, Dims: []string{"a", "b"}}, {Age: 20, Gran: 10, Dims: []string{"a"}}}, Projs: []api.Proj{{Tier: 0, Gran: 5, Dims: []string{"b"}}}, Horizon: 100}
	e.Configure(s, p)
	e.Tick(100)
	for i := range 20 {
		e.Ingest(api.Event{Time: i * 5, Dims: []string{"x", "y"}, Metrics: []int{i}})
	}
	e.Compact()
	m, _ := e.Manifest()
	l := e.Rows(0, -1)
	return []any{s, p, e, v, m, m.Files, l, l[0], e.Rows(1, -1), api.Event{Time: 5, Dims: []string{"x", "y"}, Metrics: []int{4}}}
}

func newMaker(seed int64) *maker {
	m := &maker{rand.New(rand.NewSource(seed)), map[reflect.Type][]reflect.Value{}}
	for _, x := range seeds() {
		m.keep(reflect.ValueOf(x))
	}
	return m
}

// keep lays a value by, as an argument of calls to come.
func (m *maker) keep(v reflect.Value) {
	t := v.Type()
	plain := t.Kind() == reflect.Int || t.Kind() == reflect.Bool
	long := (t.Kind() == reflect.Slice || t.Kind() == reflect.String) && v.Len() > 3000
	if plain || long {
		return
	}
	if l := m.pool[t]; len(l) < 100 {
		m.pool[t] = append(l, v)
	} else {
		l[m.r.Intn(len(l))] = v
	}
}

// some is a value of a type.
func (m *maker) some(t reflect.Type, deep int) reflect.Value {
	if l := m.pool[t]; len(l) > 0 && m.r.Intn(3) > 0 {
		return l[m.r.Intn(len(l))]
	}
	v := reflect.New(t).Elem()
	switch t.Kind() {
	case reflect.Int:
		v.SetInt(int64(numbers()[m.r.Intn(len(numbers()))]))
	case reflect.Uint64, reflect.Uint32, reflect.Uint8:
		v.SetUint(m.r.Uint64() >> m.r.Intn(64))
	case reflect.Bool:
		v.SetBool(m.r.Intn(2) == 0)
	case reflect.String:
		v.SetString(texts()[m.r.Intn(len(texts()))])
	case reflect.Slice:
		for range m.r.Intn(max(1, 5-deep)) {
			v = reflect.Append(v, m.some(t.Elem(), deep+1))
		}
	case reflect.Struct:
		for i := range t.NumField() {
			v.Field(i).Set(m.some(t.Field(i).Type, deep+1))
		}
	}
	return v
}

func (m *maker) arguments(f reflect.Value) []reflect.Value {
	var l []reflect.Value
	for i := range f.Type().NumIn() {
		l = append(l, m.some(f.Type().In(i), 0))
	}
	return l
}

// each hands calls, one behind the other, and arguments to a closure.
func each(t *testing.T, seed int64, times int, take func(name string, f reflect.Value, args []reflect.Value)) {
	m := newMaker(seed)
	l := calls()
	for range times {
		f := l[m.r.Intn(len(l))]
		name, args := runtime.FuncForPC(f.Pointer()).Name(), m.arguments(f)
		func() {
			defer func() {
				if x := recover(); x != nil {
					t.Fatalf("%s panics: %v; %v", name, x, args)
				}
			}()
			take(name, f, args)
			for _, x := range f.Call(args) {
				if m.r.Intn(3) == 0 {
					m.keep(x)
				}
			}
		}()
	}
}

// TestNoCallPanics is P1.
func TestNoCallPanics(t *testing.T) {
	each(t, 1, 300000, func(string, reflect.Value, []reflect.Value) {})
}

// whole tells whether a value is no object: a copy of it is its own.
func whole(t reflect.Type) bool {
	return t.Kind() != reflect.Pointer
}

// copyOf is a value of its own; its lists have a few parts more behind their ends.
func copyOf(v reflect.Value, more int) reflect.Value {
	t := v.Type()
	switch {
	case t.Kind() == reflect.Slice && !v.IsNil():
		n := v.Len()
		o := reflect.MakeSlice(t, n+more, n+more)
		for i := range n {
			o.Index(i).Set(copyOf(v.Index(i), more))
		}
		return o.Slice(0, n)
	case t.Kind() == reflect.Struct:
		o := reflect.New(t).Elem()
		for i := range t.NumField() {
			o.Field(i).Set(copyOf(v.Field(i), more))
		}
		return o
	}
	return v
}

// scribble writes into all that a value's lists have.
func scribble(v reflect.Value) {
	switch v.Kind() {
	case reflect.Slice:
		for i := range v.Len() {
			scribble(v.Index(i))
			switch x := v.Index(i); x.Kind() {
			case reflect.Int:
				x.SetInt(x.Int() + 77)
			case reflect.Uint8, reflect.Uint64:
				x.SetUint(x.Uint() ^ 77)
			case reflect.String:
				x.SetString("scribbled")
			default:
				x.SetZero()
			}
		}
	case reflect.Struct:
		for i := range v.NumField() {
			scribble(v.Field(i))
		}
	}
}

// behind tells whether nothing was written behind the ends of a value's lists.
func behind(v reflect.Value) bool {
	switch v.Kind() {
	case reflect.Slice:
		for i := v.Len(); i < v.Cap(); i++ {
			if !v.Slice(0, v.Cap()).Index(i).IsZero() {
				return false
			}
		}
		for i := range v.Len() {
			if !behind(v.Index(i)) {
				return false
			}
		}
	case reflect.Struct:
		for i := range v.NumField() {
			if !behind(v.Field(i)) {
				return false
			}
		}
	}
	return true
}

// TestArgumentsStay: what is handed in is not written into, nor what lies behind a list's length; and what is answered shares no memory with it, nor one answer with another one.
func TestArgumentsStay(t *testing.T) {
	each(t, 2, 150000, func(name string, f reflect.Value, args []reflect.Value) {
		var in, before []reflect.Value
		for _, x := range args {
			if whole(x.Type()) {
				x = copyOf(x, 2)
			}
			in, before = append(in, x), append(before, x)
			if whole(x.Type()) {
				before[len(before)-1] = copyOf(x, 0)
			}
		}
		out := f.Call(in)
		for i, x := range in {
			if whole(x.Type()) && (!reflect.DeepEqual(x.Interface(), before[i].Interface()) || !behind(x)) {
				t.Fatalf("%s writes into what is handed in: %v, ahead %v", name, x, before[i])
			}
		}
		var told []reflect.Value
		for _, x := range out {
			told = append(told, copyOf(x, 0))
		}
		for _, x := range in {
			scribble(x)
		}
		for i, x := range out {
			if whole(x.Type()) && !reflect.DeepEqual(x.Interface(), told[i].Interface()) {
				t.Fatalf("%s answers what is handed in: %v", name, told[i])
			}
		}
		for i := range out {
			scribble(out[i])
			for k := i + 1; k < len(out); k++ {
				if whole(out[k].Type()) && !reflect.DeepEqual(out[k].Interface(), told[k].Interface()) {
					t.Fatalf("%s answers one thing twice: %v", name, told)
				}
			}
		}
	})
}

// TestSameAnswers is P2, of the calls that have no object.
func TestSameAnswers(t *testing.T) {
	each(t, 3, 150000, func(name string, f reflect.Value, args []reflect.Value) {
		for i := range f.Type().NumIn() {
			if !whole(f.Type().In(i)) {
				return
			}
		}
		a, b := f.Call(args), f.Call(args)
		for i := range a {
			if whole(a[i].Type()) && !reflect.DeepEqual(a[i].Interface(), b[i].Interface()) {
				t.Fatalf("%s answers %v, then %v", name, a[i], b[i])
			}
		}
	})
}
