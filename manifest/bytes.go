package manifest

import (
	"bytes"
	"iter"
	"math"

	"columbary/api"
	"columbary/check"
	"columbary/policy"
	"columbary/zig"
)

// numbers puts numbers behind bytes.
func numbers(b []byte, l ...int) []byte {
	for _, n := range l {
		b = zig.Int(b, n)
	}
	return b
}

// list puts numbers behind bytes, and ahead of them how many they are.
func list(b []byte, l []int) []byte {
	return numbers(numbers(b, len(l)), l...)
}

// names puts texts behind bytes, and ahead of them how many they are.
func names(b []byte, l []string) []byte {
	b = numbers(b, len(l))
	for _, s := range l {
		b = zig.Text(b, s)
	}
	return b
}

// Encode are its bytes.
func Encode(m api.Manifest) ([]byte, api.Errno) {
	if !Right(m) {
		return nil, api.ErrManifest
	}
	b := names(names(zig.Text(nil, magic), m.Schema.Dims), m.Schema.Metrics)
	b = zig.Text(b, policy.Text(m.Policy))
	b = list(numbers(b, m.Now), m.Edges)
	b = list(numbers(b, m.Spent.Count), m.Spent.Sizes)
	b = numbers(b, len(m.Files))
	for _, f := range m.Files {
		b = numbers(zig.Text(b, f.Name), f.Tier, f.Proj, f.Rows)
	}
	b = numbers(zig.Text(b, m.Journal), m.Next)
	block, e := check.Block(b)
	if e != api.OK {
		return nil, api.ErrManifest
	}
	return block, api.OK
}

// reader reads a manifest's parts; where there is none, it tells nothing, and stays wrong.
type reader struct {
	*zig.Reader
	wrong bool
}

func (r *reader) number() int {
	n, e := r.Int(math.MinInt, math.MaxInt)
	r.wrong = r.wrong || e != api.OK
	return n
}

// many are the numbers of the parts that come next, as long as nothing is wrong.
func (r *reader) many() iter.Seq[int] {
	n, e := r.Int(0, r.Left()) // each part has a byte at least
	r.wrong = r.wrong || e != api.OK
	return func(yield func(int) bool) {
		for i := range n {
			if r.wrong || !yield(i) {
				return
			}
		}
	}
}

func (r *reader) text() string {
	s, e := r.Text(maxText)
	r.wrong = r.wrong || e != api.OK
	return s
}

func (r *reader) list() []int {
	var l []int
	for range r.many() {
		l = append(l, r.number())
	}
	return l
}

func (r *reader) names() []string {
	var l []string
	for range r.many() {
		l = append(l, r.text())
	}
	return l
}

func (r *reader) files() []api.Stored {
	var l []api.Stored
	for range r.many() {
		l = append(l, api.Stored{Name: r.text(), Tier: r.number(), Proj: r.number(), Rows: r.number()})
	}
	return l
}

// manifest is the one that comes next, right or not.
func (r *reader) manifest() api.Manifest {
	var m api.Manifest
	r.wrong = r.text() != magic || r.wrong
	m.Schema = api.Schema{Dims: r.names(), Metrics: r.names()}
	p, e := policy.Parse(r.text())
	r.wrong = r.wrong || e != api.OK
	m.Policy = p
	m.Now, m.Edges = r.number(), r.list()
	m.Spent = api.Budget{Count: r.number(), Sizes: r.list()}
	m.Files = r.files()
	m.Journal, m.Next = r.text(), r.number()
	return m
}

// Decode is the one of bytes.
func Decode(b []byte) (api.Manifest, api.Errno) {
	part, _, e := check.First(b)
	if e != api.OK {
		return api.Manifest{}, api.ErrManifest
	}
	r := &reader{Reader: zig.Open(part)}
	m := r.manifest()
	own, e := Encode(m)
	if r.wrong || e != api.OK || !bytes.Equal(own, b) {
		return api.Manifest{}, api.ErrManifest
	}
	return m, api.OK
}
