package sha_test

import (
	"bytes"
	"crypto/sha256"
	"encoding/hex"
	"math/rand"
	"strings"
	"sync"
	"testing"

	"rootstock/sha"
)

// emptyDigest is the digest of no bytes.
const emptyDigest = "e3b0c44298fc1c149afbf4c8996fb92427ae41e4649b934ca495991b7852b855"

// edges are counts of bytes at which a block, or what stands behind the bytes, begins or ends, and what lies beside them.
func edges() []int {
	return []int{0, 1, 2, 3, 4, 5, 31, 32, 33, 54, 55, 56, 57, 62, 63, 64, 65, 66, 118, 119, 120, 121, 127, 128, 129, 183, 184, 191, 192, 193, 256, 512}
}

// random answers so many bytes, the same ones for the same seed.
func random(seed int64, size int) []byte {
	b := make([]byte, size)
	rand.New(rand.NewSource(seed)).Read(b)
	return b
}

// want fails if a digest isn't what Go's own library answers of the bytes.
func want(t *testing.T, what string, got [32]byte, b []byte) {
	t.Helper()
	if lib := sha256.Sum256(b); got != lib {
		t.Fatalf("%s: %x, want %x", what, got, lib)
	}
}

// P3.1: digests that are known.
func TestDigestsThatAreKnown(t *testing.T) {
	cases := []struct{ s, want string }{
		{"", emptyDigest},
		{"\x00", "6e340b9cffb37a989ca544e6bb780a2c78901d3fb33738768511a30617afa01d"},
		{"\xbd", "68325720aabd7c82f30f554b313d0570c95accbb7dc4b5aae11204c08ffe732b"},
		{"a", "ca978112ca1bbdcafac231b39a23dc4da786eff8147c4e72b9807785afee48bb"},
		{"abc", "ba7816bf8f01cfea414140de5dae2223b00361a396177a9cb410ff61f20015ad"},
		{"abcdbcdecdefdefgefghfghighijhijkijkljklmklmnlmnomnopnopq", "248d6a61d20638b8e5c026930c3e6039a33ce45964ff2167f6ecedd419db06c1"},
		{"abcdefghbcdefghicdefghijdefghijkefghijklfghijklmghijklmnhijklmnoijklmnopjklmnopqklmnopqrlmnopqrsmnopqrstnopqrstu", "cf5b16a778af8380036ce59e7b0492370b249b11e8f07a51afac45037afee9d1"},
		{strings.Repeat("\x00", 55), "02779466cdec163811d078815c633f21901413081449002f24aa3e80f0b88ef7"},
		{strings.Repeat("\x00", 56), "d4817aa5497628e7c77e6b606107042bbba3130888c5f47a375e6179be789fbb"},
		{strings.Repeat("\x00", 57), "65a16cb7861335d5ace3c60718b5052e44660726da4cd13bb745381b235a1785"},
		{strings.Repeat("\x00", 64), "f5a5fd42d16a20302798ef6ed309979b43003d2320d9f0e8ea9831a92759fb4b"},
		{strings.Repeat("a", 1000000), "cdc76e5c9914fb9281a1c7e284d73e67f1809a48a497200e046d39ccc7112cd0"},
	}
	for _, c := range cases {
		got := sha.Of([]byte(c.s))
		if hex.EncodeToString(got[:]) != c.want {
			t.Errorf("%d bytes, %.9q: %x, want %s", len(c.s), c.s, got, c.want)
		}
	}
}

// P3.1: of no pieces, and of pieces without bytes, the digest is that of no bytes.
func TestNoBytes(t *testing.T) {
	var none [][]byte
	for i, got := range [][32]byte{sha.Of(), sha.Of(none...), sha.Of([][]byte{}...), sha.Of(nil), sha.Of([]byte{}), sha.Of(nil, []byte{}, nil)} {
		if hex.EncodeToString(got[:]) != emptyDigest {
			t.Errorf("no bytes, way %d: %x", i, got)
		}
	}
}

// P3.1: the digest of every count of bytes up to many blocks, of bytes of several kinds.
func TestEveryLength(t *testing.T) {
	kinds := [][]byte{random(1, 1100), make([]byte, 1100), bytes.Repeat([]byte{0xff}, 1100), bytes.Repeat([]byte{0x80}, 1100)}
	for _, b := range kinds {
		for n := range len(b) + 1 {
			want(t, "a length", sha.Of(b[:n]), b[:n])
		}
	}
}

// P3.1: every byte, alone and in each place of two blocks.
func TestEveryByte(t *testing.T) {
	for c := range 256 {
		one := []byte{byte(c)}
		want(t, "one byte", sha.Of(one), one)
		for at := range 128 {
			b := make([]byte, 128)
			b[at] = byte(c)
			want(t, "a byte in its place", sha.Of(b), b)
		}
	}
}

// P3.1: each bit makes another digest.
func TestEveryBit(t *testing.T) {
	b := random(2, 130)
	seen := map[[32]byte]bool{sha.Of(b): true}
	for bit := range 8 * len(b) {
		b[bit/8] ^= 1 << (bit % 8)
		got := sha.Of(b)
		want(t, "a bit turned", got, b)
		if seen[got] {
			t.Fatalf("the bit %d makes no other digest", bit)
		}
		seen[got] = true
		b[bit/8] ^= 1 << (bit % 8)
	}
}

// P3.1: bytes of many random lengths, and long ones.
func TestRandomBytes(t *testing.T) {
	rnd := rand.New(rand.NewSource(3))
	for range 3000 {
		b := random(rnd.Int63(), rnd.Intn(700))
		want(t, "random bytes", sha.Of(b), b)
	}
	for _, n := range []int{1<<12 - 9, 1 << 12, 1<<13 - 1, 1 << 13, 1<<16 - 1, 1 << 16, 1<<16 + 55, 1<<21 - 8, 1<<21 + 1} {
		b := random(int64(n), n)
		want(t, "long bytes", sha.Of(b), b)
	}
}

// P3.1: how many bits there were takes more than four bytes, from 2^29 bytes on.
func TestMoreBitsThanOneWordTells(t *testing.T) {
	part := random(4, 1<<20)
	pieces, lib := make([][]byte, 1<<9+1), sha256.New()
	for i := range pieces {
		pieces[i] = part
		if i == len(pieces)-1 {
			pieces[i] = part[:3]
		}
		lib.Write(pieces[i])
	}
	if got := sha.Of(pieces...); string(got[:]) != string(lib.Sum(nil)) {
		t.Errorf("%x, want %x", got, lib.Sum(nil))
	}
}

// P3.1: wherever bytes are cut in two, the pieces' digest is the whole one's.
func TestCutInTwo(t *testing.T) {
	for _, n := range edges() {
		b := random(int64(n), n)
		for at := range n + 1 {
			want(t, "cut in two", sha.Of(b[:at], b[at:]), b)
		}
	}
}

// P3.1: pieces that end at all edges, and pieces of one byte.
func TestCutAtEdges(t *testing.T) {
	b := random(5, 1600)
	for _, one := range edges() {
		for _, two := range edges() {
			for _, three := range edges() {
				all := one + two + three
				want(t, "cut at edges", sha.Of(b[:one], b[one:one+two], b[one+two:all]), b[:all])
			}
		}
	}
	for _, n := range edges() {
		var pieces [][]byte
		for i := range n {
			pieces = append(pieces, b[i:i+1])
		}
		want(t, "byte by byte", sha.Of(pieces...), b[:n])
	}
}

// P3.1: many pieces, some without bytes, in their order.
func TestManyPieces(t *testing.T) {
	rnd := rand.New(rand.NewSource(6))
	for range 3000 {
		pieces, whole := make([][]byte, rnd.Intn(12)), []byte(nil)
		for i := range pieces {
			if rnd.Intn(6) > 0 {
				pieces[i] = random(rnd.Int63(), rnd.Intn(90))
			}
			whole = append(whole, pieces[i]...)
		}
		want(t, "many pieces", sha.Of(pieces...), whole)
	}
	if sha.Of([]byte("ab"), []byte("c")) == sha.Of([]byte("c"), []byte("ab")) {
		t.Error("the pieces' order makes no difference")
	}
}

// P3.1: a piece that is handed in more than once stands there as often; pieces may lie over one another.
func TestTheSamePieceAgain(t *testing.T) {
	b := random(7, 100)
	want(t, "twice", sha.Of(b, b), append(bytes.Clone(b), b...))
	want(t, "over one another", sha.Of(b[:70], b[30:]), append(bytes.Clone(b[:70]), b[30:]...))
}

// P3.1: bytes that end as what stands behind others aren't those others.
func TestWhatStandsBehindIsNoBytes(t *testing.T) {
	padded := append([]byte("abc\x80"), make([]byte, 60)...)
	padded[63] = 24
	for _, b := range [][]byte{padded, padded[:4], padded[:56], []byte("abc\x00")} {
		got := sha.Of(b)
		want(t, "bytes that look padded", got, b)
		if got == sha.Of([]byte("abc")) {
			t.Errorf("%x has the digest of abc", b)
		}
	}
}

// P3.1: an answer hangs on the arguments alone, whatever was asked ahead of it, and by whomever.
func TestAskedAgain(t *testing.T) {
	var all sync.WaitGroup
	for worker := range 4 {
		all.Go(func() {
			for _, n := range edges() {
				b := random(int64(n), n)
				sha.Of(random(int64(worker), 100))
				if got := sha.Of(b); got != sha256.Sum256(b) || got != sha.Of(b) {
					t.Errorf("%d bytes: %x", n, got)
				}
			}
		})
	}
	all.Wait()
}

// P3.2: neither the bytes, nor their spare room, nor the list of pieces is changed.
func TestNothingIsChanged(t *testing.T) {
	for _, n := range edges() {
		whole := random(int64(n), 2*n+200)
		before := bytes.Clone(whole)
		room := [][]byte{whole[:n/2], nil, whole[n/2 : n], []byte("spare"), []byte("room")}
		pieces := room[:3]
		want(t, "bytes with spare room", sha.Of(pieces...), before[:n])
		if !bytes.Equal(whole, before) {
			t.Fatalf("%d bytes: they, or their spare room, are changed", n)
		}
		if len(pieces[0]) != n/2 || pieces[1] != nil || len(pieces[2]) != n-n/2 {
			t.Errorf("%d bytes: the pieces are changed", n)
		}
		if string(room[3]) != "spare" || string(room[4]) != "room" {
			t.Errorf("%d bytes: the pieces' spare room is changed: %q", n, room[3:])
		}
	}
}

// P3.2: what the caller writes behind a call into what was handed in is seen by the next call, and by no earlier answer.
func TestNothingIsKept(t *testing.T) {
	for _, n := range edges() {
		b := random(int64(n), n)
		old := bytes.Clone(b)
		pieces := [][]byte{b[:n/3], b[n/3:]}
		first := sha.Of(pieces...)
		copy(b, random(int64(n)+1000, n))
		want(t, "what was written anew", sha.Of(pieces...), b)
		want(t, "an earlier answer", first, old)
		pieces[1] = []byte("another")
		want(t, "another piece", sha.Of(pieces...), append(bytes.Clone(b[:n/3]), "another"...))
		first[0] ^= 0xff
		want(t, "an answer written into", sha.Of(old), old)
	}
}
