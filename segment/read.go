package segment

import (
	"bytes"
	"errors"
	"strconv"

	"columbary/api"
	"columbary/check"
	"columbary/delta"
	"columbary/dimcol"
	"columbary/zig"
)

// fault is an error of a block.
type fault struct {
	block int
	err   error
}

// Error tells the block and its error.
func (f *fault) Error() string {
	return "block " + strconv.Itoa(f.block) + ": " + f.err.Error()
}

// Unwrap is the error without the block.
func (f *fault) Unwrap() error {
	return f.err
}

// parts are what a segment's blocks tell, that may be another's than any segment's.
type parts struct {
	schema  api.Schema
	rows    int
	times   []int
	dims    []*dimcol.Column
	counts  []int
	metrics []numbers
}

// reader reads a segment's blocks, one by one.
type reader struct {
	left  []byte
	block int // the number of the next one
	parts parts
}

// wrap is a block's error, or nil.
func (r *reader) wrap(e api.Errno) error {
	if e == api.OK {
		return nil
	}
	return &fault{r.block, e}
}

// next takes the next block, and hands its bytes to a closure.
func (r *reader) next(take func(b []byte) api.Errno) error {
	b, size, e := check.First(r.left)
	if e == api.OK {
		e = take(b)
	}
	err := r.wrap(e)
	r.left = r.left[size:]
	r.block++
	return err
}

// readNames takes a list of names, of which there may be so many.
func readNames(r *zig.Reader, most int) ([]string, api.Errno) {
	n, e := r.Int(0, most)
	var l []string
	for range n {
		s, bad := r.Text(api.MaxName)
		if bad != api.OK {
			return nil, bad
		}
		l = append(l, s)
	}
	return l, e
}

// head takes the first block, up to how many rows there are.
func (p *parts) head(b []byte) api.Errno {
	r := zig.Open(b)
	s, e := r.Text(len(magic))
	if e != api.OK || s != magic {
		return api.ErrZig
	}
	if p.schema.Dims, e = readNames(r, api.MaxDims); e != api.OK {
		return e
	}
	if p.schema.Metrics, e = readNames(r, api.MaxMetrics); e != api.OK {
		return e
	}
	p.rows, e = r.Int(0, api.MaxRows)
	return e
}

// column takes a block of numbers, as many as there are rows.
func (p *parts) column(b []byte) ([]int, api.Errno) {
	l, e := delta.Decode(b)
	if e == api.OK && len(l) != p.rows {
		e = api.ErrSegment
	}
	return l, e
}

// texts takes a block of values, as many as there are rows.
func (p *parts) texts(b []byte) api.Errno {
	c, e := dimcol.Parse(b)
	if e == api.OK && c.Len() != p.rows {
		e = api.ErrSegment
	}
	p.dims = append(p.dims, c)
	return e
}

// into is what takes a block of numbers into a list.
func (p *parts) into(l *[]int) func(b []byte) api.Errno {
	return func(b []byte) api.Errno {
		var e api.Errno
		*l, e = p.column(b)
		return e
	}
}

// read takes the blocks that bytes begin with; the error is that of the first one that is wrong.
func read(b []byte) (*parts, error) {
	r := &reader{left: b}
	p := &r.parts
	if err := r.next(p.head); err != nil {
		return nil, err
	}
	if err := r.next(p.into(&p.times)); err != nil {
		return nil, err
	}
	for range p.schema.Dims {
		if err := r.next(p.texts); err != nil {
			return nil, err
		}
	}
	if err := r.next(p.into(&p.counts)); err != nil {
		return nil, err
	}
	p.metrics = make([]numbers, len(p.schema.Metrics))
	for i := range p.metrics {
		for k := range p.metrics[i] {
			if err := r.next(p.into(&p.metrics[i][k])); err != nil {
				return nil, err
			}
		}
	}
	return p, nil
}

// Parse is the one of bytes.
func Parse(b []byte) (*Segment, api.Errno) {
	p, err := read(b)
	if err != nil {
		return nil, api.ErrSegment
	}
	told := &Segment{schema: p.schema, times: p.times, dims: p.dims, counts: p.counts, metrics: p.metrics}
	// Wrong rows, other times in the head, or bytes behind, are not those of the rows' own segment.
	g, e := New(p.schema, told.Rows())
	if e != api.OK || !bytes.Equal(g.Bytes(), b) {
		return nil, api.ErrSegment
	}
	return g, api.OK
}

// Fault is which block is the first that is wrong, and how.
func Fault(b []byte) (int, api.Errno) {
	_, err := read(b)
	var f *fault
	if errors.As(err, &f) {
		for _, kind := range [5]api.Errno{api.ErrCheck, api.ErrZig, api.ErrDelta, api.ErrColumn, api.ErrSegment} {
			if errors.Is(err, kind) {
				return f.block, kind
			}
		}
	}
	_, e := Parse(b)
	return -1, e
}
