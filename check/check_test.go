package check_test

import (
	"bytes"
	"encoding/binary"
	"hash/crc32"
	"math/rand"
	"testing"

	"columbary/api"
	"columbary/check"
	"columbary/zig"
)

var table = crc32.MakeTable(crc32.Castagnoli)

func some(r *rand.Rand, n int) []byte {
	b := make([]byte, n)
	r.Read(b)
	return b
}

// block is a block by the chapter's words and the library's sum.
func block(b []byte) []byte {
	x := append(zig.Int(nil, len(b)), b...)
	return binary.BigEndian.AppendUint32(x, crc32.Checksum(x, table))
}

func TestSum(t *testing.T) {
	if s := check.Sum([]byte("123456789")); s != 0xE3069283 {
		t.Errorf("%08X", s)
	}
	if s := check.Sum(nil); s != 0 {
		t.Errorf("of nothing: %08X", s)
	}
	r := rand.New(rand.NewSource(1))
	for n := range 300 {
		b := some(r, n)
		if check.Sum(b) != crc32.Checksum(b, table) {
			t.Errorf("%x: %08X", b, check.Sum(b))
		}
	}
	for i := range 256 {
		if b := []byte{byte(i)}; check.Sum(b) != crc32.Checksum(b, table) {
			t.Errorf("%x: %08X", b, check.Sum(b))
		}
	}
}

func TestBlockBytes(t *testing.T) {
	x, e := check.Block([]byte("123456789"))
	want := append([]byte{18}, "123456789"...)
	want = binary.BigEndian.AppendUint32(want, crc32.Checksum(want, table))
	if e != api.OK || !bytes.Equal(x, want) {
		t.Errorf("%x, %v", x, e)
	}
	x, e = check.Block(nil)
	if e != api.OK || len(x) != 5 || !bytes.Equal(x, block(nil)) {
		t.Errorf("of nothing: %x, %v", x, e)
	}
}

func TestBlockLimit(t *testing.T) {
	b := make([]byte, api.MaxFile+1)
	if x, e := check.Block(b); len(x) != 0 || e != api.ErrCheck {
		t.Errorf("too many: %d, %v", len(x), e)
	}
	x, e := check.Block(b[:api.MaxFile])
	if e != api.OK {
		t.Fatal(e)
	}
	y, n, e := check.First(x)
	if len(y) != api.MaxFile || n != len(x) || e != api.OK {
		t.Errorf("most: %d %d %v", len(y), n, e)
	}
	if y, n, e := check.First(block(b)); len(y) != 0 || n != 0 || e != api.ErrCheck {
		t.Errorf("a block of too many: %d %d %v", len(y), n, e)
	}
}

func TestFirst(t *testing.T) {
	r := rand.New(rand.NewSource(2))
	for n := range 200 {
		b := some(r, n)
		x, e := check.Block(b)
		if e != api.OK || !bytes.Equal(x, block(b)) {
			t.Fatalf("Block %d: %v", n, e)
		}
		behind := append(append([]byte(nil), x...), some(r, n%7)...)
		y, k, e := check.First(behind)
		if !bytes.Equal(y, b) || k != len(x) || e != api.OK {
			t.Errorf("%d: %x, %d, %v", n, y, k, e)
		}
		for cut := range x {
			if y, k, e := check.First(x[:cut]); len(y) != 0 || k != 0 || e != api.ErrCheck {
				t.Fatalf("%d cut at %d: %x, %d, %v", n, cut, y, k, e)
			}
		}
	}
}

func TestFirstOfNone(t *testing.T) {
	below := binary.BigEndian.AppendUint32([]byte{1}, crc32.Checksum([]byte{1}, table))
	long := []byte{0x80, 0x02, 'a'}
	long = binary.BigEndian.AppendUint32(long, crc32.Checksum(long, table))
	little := block([]byte("abc"))
	n := len(little)
	little[n-1], little[n-2], little[n-3], little[n-4] = little[n-4], little[n-3], little[n-2], little[n-1]
	bare := append([]byte{2, 'a'}, 0, 0, 0, 0)
	binary.BigEndian.PutUint32(bare[2:], crc32.Checksum([]byte("a"), table))
	for _, b := range [][]byte{nil, {0}, {0x80}, below, long, little, bare, bytes.Repeat([]byte{0xff}, 30)} {
		if y, k, e := check.First(b); len(y) != 0 || k != 0 || e != api.ErrCheck {
			t.Errorf("%x: %x, %d, %v", b, y, k, e)
		}
	}
}

func TestBlocks(t *testing.T) {
	r := rand.New(rand.NewSource(3))
	for k := range 20 {
		var all []byte
		var want [][]byte
		for range k {
			b := some(r, r.Intn(100))
			x, _ := check.Block(b)
			all, want = append(all, x...), append(want, b)
		}
		for _, tail := range [][]byte{nil, {0}, {2, 'a', 1, 2, 3, 4}, block([]byte("xyz"))[:7]} {
			got, n := check.Blocks(append(append([]byte(nil), all...), tail...))
			if n != len(all) || len(got) != k {
				t.Fatalf("%d: %d of %d, %d", k, len(got), k, n)
			}
			for i := range got {
				if !bytes.Equal(got[i], want[i]) {
					t.Errorf("%d: %x", i, got[i])
				}
			}
		}
	}
}

func TestBlocksEndAtTheFirstWrongOne(t *testing.T) {
	a, b, c := block([]byte("first")), block([]byte("second")), block([]byte("third"))
	b[3] ^= 1
	got, n := check.Blocks(append(append(append([]byte(nil), a...), b...), c...))
	if len(got) != 1 || string(got[0]) != "first" || n != len(a) {
		t.Errorf("%q, %d", got, n)
	}
}

func TestNewMemory(t *testing.T) {
	b := []byte("abc")
	x, _ := check.Block(b)
	b[0] = 'x'
	two := append(append([]byte(nil), x...), x...)
	y, _, e := check.First(x)
	l, _ := check.Blocks(two)
	for i := range x {
		x[i], two[i] = 0, 0
	}
	if e != api.OK || string(y) != "abc" || string(l[0]) != "abc" {
		t.Errorf("%q %q", y, l)
	}
	_ = append(l[0], "zzzzzzzz"...)
	if string(l[1]) != "abc" {
		t.Errorf("%q", l)
	}
}

// TestTurned: bits within 32 beside one another, of a block's bytes, are turned.
func TestTurned(t *testing.T) {
	r := rand.New(rand.NewSource(4))
	for _, n := range []int{1, 2, 4, 5, 63, 64, 300} {
		b := some(r, n)
		x := block(b)
		begin := len(x) - 4 - n
		for bit := range 8 * n {
			for k := range 6 {
				mask := uint64(1) | uint64(r.Uint32())
				if k == 0 {
					mask = 1
				}
				y := append([]byte(nil), x...)
				for i := range min(32, 8*n-bit) {
					if mask>>i&1 == 1 {
						y[begin+(bit+i)/8] ^= 1 << ((bit + i) % 8)
					}
				}
				if _, _, e := check.First(y); e != api.ErrCheck {
					t.Fatalf("%d bytes, bit %d, %x: %v", n, bit, mask, e)
				}
			}
		}
	}
}
