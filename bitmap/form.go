package bitmap

import (
	"math/bits"

	"columbary/api"
	"columbary/zig"
)

const (
	wordBits   = 64
	chunkWords = api.Chunk / wordBits
	chunkBytes = api.Chunk / 8
)

// words are a chunk's numbers as bits, the lowest first.
type words [chunkWords]uint64

func (w *words) set(x int) {
	w[x/wordBits] |= 1 << (x % wordBits)
}

func (w *words) has(x int) bool {
	return w[x/wordBits]>>(x%wordBits)&1 == 1
}

func (w *words) count() int {
	n := 0
	for _, u := range w {
		n += bits.OnesCount64(u)
	}
	return n
}

// form is one of the ways in which a chunk's numbers are told by bytes.
type form interface {
	size(w words) int
	put(w words) []byte
	take(r *zig.Reader) (words, api.Errno)
}

// forms are all, each at the place that is its number.
func forms() [3]form {
	return [3]form{list{}, plain{}, stretches{}}
}

// shortest is the form with the fewest bytes, of several the first one.
func shortest(w words) int {
	best := 0
	for i, f := range forms() {
		if f.size(w) < forms()[best].size(w) {
			best = i
		}
	}
	return best
}

// counted takes a byte that is a count less 1, and so many times some bytes.
func counted(r *zig.Reader, each int) ([]byte, api.Errno) {
	n, e := r.Bytes(1)
	if e != api.OK {
		return nil, e
	}
	return r.Bytes((int(n[0]) + 1) * each)
}

// list tells each number by a byte.
type list struct{}

func (list) size(w words) int {
	return 1 + w.count()
}

func (list) put(w words) []byte {
	b := []byte{byte(w.count() - 1)}
	for x := range api.Chunk {
		if w.has(x) {
			b = append(b, byte(x))
		}
	}
	return b
}

func (list) take(r *zig.Reader) (words, api.Errno) {
	var w words
	b, e := counted(r, 1)
	for _, x := range b {
		w.set(int(x))
	}
	return w, e
}

// plain tells whether there is each number by a bit.
type plain struct{}

func (plain) size(words) int {
	return chunkBytes
}

func (plain) put(w words) []byte {
	b := make([]byte, chunkBytes)
	for i := range b {
		b[i] = byte(w[i/8] >> (i % 8 * 8))
	}
	return b
}

func (plain) take(r *zig.Reader) (words, api.Errno) {
	var w words
	b, e := r.Bytes(chunkBytes)
	for i, x := range b {
		w[i/8] |= uint64(x) << (i % 8 * 8)
	}
	return w, e
}

// stretches tells of each run its first and its last number.
type stretches struct{}

func (stretches) size(w words) int {
	n := 0
	carry := uint64(0)
	for _, u := range w {
		n += bits.OnesCount64(u &^ (u<<1 | carry))
		carry = u >> (wordBits - 1)
	}
	return 1 + 2*n
}

func (f stretches) put(w words) []byte {
	b := []byte{byte(f.size(w)/2 - 1)}
	for x := range api.Chunk {
		if !w.has(x) {
			continue
		}
		if x == 0 || !w.has(x-1) {
			b = append(b, byte(x))
		}
		if x == api.Chunk-1 || !w.has(x+1) {
			b = append(b, byte(x))
		}
	}
	return b
}

func (stretches) take(r *zig.Reader) (words, api.Errno) {
	var w words
	b, e := counted(r, 2)
	for i := range len(b) / 2 {
		for x := int(b[2*i]); x <= int(b[2*i+1]); x++ {
			w.set(x)
		}
	}
	return w, e
}
