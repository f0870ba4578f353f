// Package zig is layer 1: whole numbers, below 0 too, and texts as bytes.
package zig

import (
	"math"
	"math/bits"

	"columbary/api"
)

const (
	groupBits = 7
	more      = 1 << groupBits // a byte that has it is not the last one
)

// Fold folds a number, so that those near 0 stay small, whatever their sign.
func Fold(n int) uint64 {
	if n < 0 {
		return ^(uint64(n) << 1)
	}
	return uint64(n) << 1
}

// Unfold unfolds one.
func Unfold(u uint64) int {
	if u&1 == 1 {
		return int(^(u >> 1))
	}
	return int(u >> 1)
}

// Int puts a number behind.
func Int(b []byte, n int) []byte {
	u := Fold(n)
	groups := max(1, (bits.Len64(u)+groupBits-1)/groupBits)
	b = b[:len(b):len(b)] // what is behind b's length is its owner's
	for i := range groups {
		last := groups - 1 - i
		g := byte(u>>(groupBits*last)) & (more - 1)
		if last > 0 {
			g |= more
		}
		b = append(b, g)
	}
	return b
}

// Text puts a text behind.
func Text(b []byte, s string) []byte {
	return append(Int(b, len(s)), s...)
}

// Reader is at a place of bytes.
type Reader struct {
	left []byte
}

// Open is one at the first of these bytes.
func Open(b []byte) *Reader {
	return &Reader{left: append([]byte(nil), b...)}
}

// number is the number that some bytes begin with, and how many bytes it has; 0 bytes, if there is none.
func number(b []byte) (int, int) {
	var u uint64
	for i, c := range b {
		if i == 0 && c == more || u > math.MaxUint64>>groupBits {
			return 0, 0
		}
		u = u<<groupBits | uint64(c&(more-1))
		if c < more {
			return Unfold(u), i + 1
		}
	}
	return 0, 0
}

// Int is the next number.
func (r *Reader) Int(least, most int) (int, api.Errno) {
	if r == nil {
		return 0, api.ErrArg
	}
	n, size := number(r.left)
	if size == 0 || n < least || n > most {
		return 0, api.ErrZig
	}
	r.left = r.left[size:]
	return n, api.OK
}

// Text is the next text.
func (r *Reader) Text(most int) (string, api.Errno) {
	if r == nil {
		return "", api.ErrArg
	}
	n, size := number(r.left)
	if size == 0 || n < 0 || n > most || n > len(r.left)-size {
		return "", api.ErrZig
	}
	s := string(r.left[size : size+n])
	r.left = r.left[size+n:]
	return s, api.OK
}

// Bytes are the next bytes.
func (r *Reader) Bytes(n int) ([]byte, api.Errno) {
	if r == nil {
		return nil, api.ErrArg
	}
	if n < 0 || n > len(r.left) {
		return nil, api.ErrZig
	}
	b := append([]byte(nil), r.left[:n]...)
	r.left = r.left[n:]
	return b, api.OK
}

// Left is how many bytes are left.
func (r *Reader) Left() int {
	if r == nil {
		return 0
	}
	return len(r.left)
}
