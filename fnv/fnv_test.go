package fnv_test

import (
	"bytes"
	"encoding/binary"
	libfnv "hash/fnv"
	"math"
	"math/big"
	"math/rand"
	"testing"

	"rootstock/fnv"
)

// nothing is the sum of no bytes.
const nothing = 0xcbf29ce484222325

// sums are edges, and each bit alone.
func sums() []uint64 {
	list := []uint64{0, nothing, 14695981039346656037, 1099511628211, 0x0102030405060708, 0xf1e2d3c4b5a69788, math.MaxInt64, math.MaxUint64 - 1, math.MaxUint64}
	for shift := range 64 {
		list = append(list, 1<<shift, math.MaxUint64-1<<shift)
	}
	return list
}

// texts are bytes of many kinds: none, each one alone, noughts, high ones, long ones.
func texts() [][]byte {
	list := [][]byte{nil, {}, {0, 0}, {0, 0, 0, 0, 0, 0, 0, 0}, {0xff, 0xff}, {0x80, 0x7f, 0x80}, []byte("foobar"), []byte("foobaz")}
	for c := range 256 {
		list = append(list, []byte{byte(c)})
	}
	rnd := rand.New(rand.NewSource(1))
	for _, size := range []int{2, 3, 7, 8, 9, 15, 16, 17, 63, 64, 65, 255, 256, 257, 5000, 1 << 17} {
		b := make([]byte, size)
		rnd.Read(b)
		list = append(list, b)
	}
	return list
}

// model goes on from a sum by the chapter's words, in numbers that have no end, cut to 64 bits behind each byte.
func model(sum uint64, b []byte) uint64 {
	prime := big.NewInt(1099511628211)
	cut := new(big.Int).Lsh(big.NewInt(1), 64)
	n := new(big.Int).SetUint64(sum)
	for _, c := range b {
		n.Xor(n, big.NewInt(int64(c)))
		n.Mul(n, prime)
		n.Mod(n, cut)
	}
	return n.Uint64()
}

// library is the sum that Go's own library answers.
func library(b []byte) uint64 {
	h := libfnv.New64a()
	h.Write(b)
	return h.Sum64()
}

// P2.1: sums that are known.
func TestSumsThatAreKnown(t *testing.T) {
	cases := []struct {
		s    string
		want uint64
	}{
		{"", 0xcbf29ce484222325},
		{"\x00", 0xaf63bd4c8601b7df},
		{"a", 0xaf63dc4c8601ec8c},
		{"b", 0xaf63df4c8601f1a5},
		{"c", 0xaf63de4c8601eff2},
		{"fo", 0x08985907b541d342},
		{"foo", 0xdcb27518fed9d577},
		{"foob", 0xdd120e790c2512af},
		{"fooba", 0xcac165afa2fef40a},
		{"foobar", 0x85944171f73967e8},
	}
	for _, c := range cases {
		if got := fnv.Sum([]byte(c.s)); got != c.want {
			t.Errorf("Sum(%q) = %x, want %x", c.s, got, c.want)
		}
		if got := fnv.More(nothing, []byte(c.s)); got != c.want {
			t.Errorf("More(start, %q) = %x, want %x", c.s, got, c.want)
		}
	}
}

// P2.1: of no pieces, and of pieces without bytes, the sum is its beginning, and going on by no bytes leaves it.
func TestNoBytes(t *testing.T) {
	var none [][]byte
	for i, got := range []uint64{fnv.Sum(), fnv.Sum(none...), fnv.Sum(nil), fnv.Sum([]byte{}), fnv.Sum(nil, []byte{}, nil), fnv.Sum([][]byte{}...)} {
		if got != nothing {
			t.Errorf("no bytes, way %d: %x", i, got)
		}
	}
	for _, sum := range sums() {
		if got := fnv.More(sum, nil); got != sum {
			t.Errorf("More(%x, nil) = %x", sum, got)
		}
		if got := fnv.More(sum, []byte{}); got != sum {
			t.Errorf("More(%x, none) = %x", sum, got)
		}
	}
}

// P2.1: the sum of bytes is the library's, of all kinds of bytes.
func TestSumIsTheLibrarys(t *testing.T) {
	for _, b := range texts() {
		if got, want := fnv.Sum(b), library(b); got != want {
			t.Errorf("Sum of %d bytes, %.8x = %x, want %x", len(b), b, got, want)
		}
	}
	for n := range 1 << 16 {
		b := []byte{byte(n >> 8), byte(n)}
		if got, want := fnv.Sum(b), library(b); got != want {
			t.Fatalf("Sum(%x) = %x, want %x", b, got, want)
		}
	}
}

// P2.1: a sum is gone on from as the chapter says, whatever it is: each one is as good as the first.
func TestMoreFromEverySum(t *testing.T) {
	for _, sum := range sums() {
		for _, b := range texts() {
			if len(b) > 300 {
				continue
			}
			if got, want := fnv.More(sum, b), model(sum, b); got != want {
				t.Fatalf("More(%x, %.8x) = %x, want %x", sum, b, got, want)
			}
		}
	}
	if got := fnv.More(0, make([]byte, 100)); got != 0 {
		t.Errorf("noughts behind 0: %x", got)
	}
	if got := fnv.More(0, []byte{1}); got != 1099511628211 {
		t.Errorf("one behind 0: %d", got)
	}
	if got := fnv.More(1, []byte{1, 0xff}); got != 255*1099511628211 {
		t.Errorf("taken in exclusively: %d", got)
	}
}

// P2.1: the bytes of a sum, the highest first.
func TestBytes(t *testing.T) {
	cases := []struct {
		sum  uint64
		want [8]byte
	}{
		{0, [8]byte{}},
		{1, [8]byte{7: 1}},
		{0x0102030405060708, [8]byte{1, 2, 3, 4, 5, 6, 7, 8}},
		{nothing, [8]byte{0xcb, 0xf2, 0x9c, 0xe4, 0x84, 0x22, 0x23, 0x25}},
		{1 << 63, [8]byte{0x80}},
		{math.MaxUint64, [8]byte{255, 255, 255, 255, 255, 255, 255, 255}},
	}
	for _, c := range cases {
		if got := fnv.Bytes(c.sum); got != c.want {
			t.Errorf("Bytes(%x) = %x", c.sum, got)
		}
	}
	for _, sum := range sums() {
		b := fnv.Bytes(sum)
		if got := binary.BigEndian.Uint64(b[:]); got != sum {
			t.Errorf("Bytes(%x) = %x", sum, b)
		}
	}
}

// P2.1: an answer hangs on the arguments alone: what was asked ahead of it changes nothing.
func TestAskedAgain(t *testing.T) {
	list := texts()
	first := make([]uint64, len(list))
	for i, b := range list {
		first[i] = fnv.Sum(b)
	}
	for i := len(list) - 1; i >= 0; i-- {
		fnv.More(uint64(i), []byte("between"))
		fnv.Sum([]byte("between"), list[i])
		if got := fnv.Sum(list[i]); got != first[i] {
			t.Errorf("text %d: %x, then %x", i, first[i], got)
		}
	}
}

// P2.2: wherever bytes are cut in two, the pieces' sum is the whole one's, and More goes on from the first to the second.
func TestCutInTwo(t *testing.T) {
	for _, b := range texts() {
		if len(b) > 300 {
			continue
		}
		whole := library(b)
		for i := range len(b) + 1 {
			if got := fnv.Sum(b[:i], b[i:]); got != whole {
				t.Errorf("%.8x cut at %d: %x, want %x", b, i, got, whole)
			}
			if got := fnv.More(fnv.Sum(b[:i]), b[i:]); got != whole {
				t.Errorf("%.8x gone on from at %d: %x, want %x", b, i, got, whole)
			}
		}
	}
}

// P2.2: many pieces, some without bytes, have the sum of all their bytes, in their order.
func TestManyPieces(t *testing.T) {
	rnd := rand.New(rand.NewSource(2))
	for range 2000 {
		pieces := make([][]byte, rnd.Intn(12))
		sum, whole := fnv.Sum(), []byte(nil)
		for i := range pieces {
			if rnd.Intn(8) > 0 {
				pieces[i] = make([]byte, rnd.Intn(9))
				rnd.Read(pieces[i])
			}
			sum = fnv.More(sum, pieces[i])
			whole = append(whole, pieces[i]...)
			if got := fnv.Sum(pieces[:i+1]...); got != sum {
				t.Fatalf("%x: %x, want %x", pieces[:i+1], got, sum)
			}
		}
		if want := library(whole); sum != want || fnv.Sum(pieces...) != want {
			t.Fatalf("%x: %x, want %x", pieces, sum, want)
		}
	}
	if fnv.Sum([]byte("ab"), []byte("c")) == fnv.Sum([]byte("c"), []byte("ab")) {
		t.Error("the pieces' order makes no difference")
	}
}

// P2.2: two sums that part go on parting behind each byte that follows both.
func TestSumsGoOnParting(t *testing.T) {
	long := make([]byte, 200)
	rand.New(rand.NewSource(3)).Read(long)
	for _, start := range []uint64{0, nothing, math.MaxUint64} {
		for bit := range 64 {
			one, two := start, start^1<<bit
			for _, c := range long {
				one, two = fnv.More(one, []byte{c}), fnv.More(two, []byte{c})
				if one == two {
					t.Fatalf("%x without its bit %d meets it", start, bit)
				}
			}
			if one != fnv.More(start, long) || two != fnv.More(start^1<<bit, long) {
				t.Fatalf("%x without its bit %d: byte by byte isn't at once", start, bit)
			}
		}
	}
}

// inverse is the number with which the prime makes 1, cut to 64 bits.
func inverse() uint64 {
	cut := new(big.Int).Lsh(big.NewInt(1), 64)
	return new(big.Int).ModInverse(big.NewInt(1099511628211), cut).Uint64()
}

// P2.2: a sum tells which one was gone on from, by the same bytes backwards; so no two of them meet.
func TestSumsAreGoneBackFrom(t *testing.T) {
	back := inverse()
	for _, sum := range sums() {
		for _, b := range texts() {
			if len(b) > 300 {
				continue
			}
			got := fnv.More(sum, b)
			for i := len(b) - 1; i >= 0; i-- {
				got = got*back ^ uint64(b[i])
			}
			if got != sum {
				t.Fatalf("More(%x, %.8x) goes back to %x", sum, b, got)
			}
		}
	}
}

// P2.3: neither the bytes, nor their spare room, nor the list of pieces is changed.
func TestNothingIsChanged(t *testing.T) {
	whole := bytes.Repeat([]byte{0xee}, 64)
	copy(whole, "abcdef")
	before := bytes.Clone(whole)
	room := [][]byte{whole[:2], nil, whole[2:6], []byte("spare"), []byte("room")}
	pieces := room[:3]
	sum := fnv.Sum(pieces...)
	if sum != library([]byte("abcdef")) || fnv.More(fnv.Sum(), whole[:6]) != sum {
		t.Errorf("%x", sum)
	}
	if !bytes.Equal(whole, before) {
		t.Errorf("bytes that are handed in are changed: %x", whole)
	}
	if len(pieces) != 3 || string(pieces[0]) != "ab" || pieces[1] != nil || string(pieces[2]) != "cdef" {
		t.Errorf("the pieces are changed: %q", pieces)
	}
	if string(room[3]) != "spare" || string(room[4]) != "room" {
		t.Errorf("the pieces' spare room is changed: %q", room[3:])
	}
}

// P2.3: what the caller writes behind a call into what was handed in is seen by the next call, and by no earlier answer.
func TestNothingIsKept(t *testing.T) {
	b := []byte("abc")
	pieces := [][]byte{b, b}
	first, more := fnv.Sum(pieces...), fnv.More(7, b)
	copy(b, "xyz")
	if got, want := fnv.Sum(pieces...), library([]byte("xyzxyz")); got != want || got == first {
		t.Errorf("Sum of what was written anew: %x, want %x", got, want)
	}
	if got, want := fnv.More(7, b), model(7, []byte("xyz")); got != want || got == more {
		t.Errorf("More of what was written anew: %x, want %x", got, want)
	}
	pieces[1] = []byte("uvw")
	if got, want := fnv.Sum(pieces...), library([]byte("xyzuvw")); got != want {
		t.Errorf("Sum of other pieces: %x, want %x", got, want)
	}
	one := fnv.Bytes(nothing)
	one[0] = 1
	if two := fnv.Bytes(nothing); two[0] != 0xcb {
		t.Errorf("an answer is kept: %x", two)
	}
}
