package ident_test

import (
	"bytes"
	"crypto/sha256"
	"encoding/hex"
	libfnv "hash/fnv"
	"math/rand"
	"strings"
	"testing"

	"rootstock/api"
	"rootstock/ident"
)

// kinds are the hashes.
func kinds() []byte { return []byte{api.Fnv, api.Sha} }

// sizes answers how many bytes the sums of each kind have, by the chapter's words; of all others, 0.
func sizes(kind byte) int { return map[byte]int{1: 8, 2: 32}[kind] }

// sum answers what Go's own library says that bytes' sum is.
func sum(kind byte, b []byte) []byte {
	if kind == 1 {
		h := libfnv.New64a()
		h.Write(b)
		return h.Sum(nil)
	}
	out := sha256.Sum256(b)
	return out[:]
}

// named answers the name of a kind whose sum begins with these bytes.
func named(kind byte, begin ...byte) api.Id {
	id := api.Id{Kind: kind}
	copy(id.Sum[:], begin)
	return id
}

// full answers a name of a kind all of whose bytes are of one kind.
func full(kind, c byte) api.Id { return named(kind, bytes.Repeat([]byte{c}, 32)...) }

// can tells by the chapter's words whether a name can be.
func can(id api.Id) bool {
	size := sizes(id.Kind)
	return size > 0 && strings.Trim(string(id.Sum[size:]), "\x00") == ""
}

// text tells by the chapter's words what a name's text is.
func text(id api.Id) string {
	if !can(id) {
		return ""
	}
	return string([]byte{id.Kind}) + string(id.Sum[:sizes(id.Kind)])
}

// pieces are bytes of many kinds: none, each one alone, noughts, high ones, those about a block, long ones.
func pieces() [][]byte {
	list := [][]byte{nil, {}, {0, 0}, {0xff, 0xff}, []byte("ab"), []byte("foobar"), []byte("abc")}
	for c := range 256 {
		list = append(list, []byte{byte(c)})
	}
	rnd := rand.New(rand.NewSource(14))
	for _, size := range []int{3, 7, 8, 9, 31, 32, 33, 55, 56, 63, 64, 65, 119, 128, 511, 512, 513, 5000, 1 << 16} {
		b := make([]byte, size)
		list = append(list, b)
		b = make([]byte, size)
		rnd.Read(b)
		list = append(list, b)
	}
	return list
}

// names are those that can be, and that can't, of every kind that a byte can be: noughts, each place alone, all places.
func names() []api.Id {
	var list []api.Id
	for k := range 256 {
		kind := byte(k)
		list = append(list, named(kind), full(kind, 1), full(kind, 0xff), full(kind, 0x80))
		for at := range 32 {
			one := api.Id{Kind: kind}
			one.Sum[at] = 1
			high := one
			high.Sum[at] = 0x80
			to := api.Id{Kind: kind}
			copy(to.Sum[:], bytes.Repeat([]byte{7}, at))
			list = append(list, one, high, to)
		}
	}
	for _, b := range pieces() {
		for _, kind := range kinds() {
			list = append(list, ident.Of(kind, b))
		}
	}
	return list
}

// P14.1: names that are known, and the chapter's example.
func TestNamesThatAreKnown(t *testing.T) {
	cases := []struct {
		kind byte
		b    string
		want string
	}{
		{api.Fnv, "a", "01af63dc4c8601ec8c"},
		{api.Fnv, "", "01cbf29ce484222325"},
		{api.Fnv, "foobar", "0185944171f73967e8"},
		{api.Fnv, "\x00", "01af63bd4c8601b7df"},
		{api.Sha, "", "02e3b0c44298fc1c149afbf4c8996fb92427ae41e4649b934ca495991b7852b855"},
		{api.Sha, "abc", "02ba7816bf8f01cfea414140de5dae2223b00361a396177a9cb410ff61f20015ad"},
		{0, "a", ""},
		{3, "a", ""},
		{255, "", ""},
	}
	for _, c := range cases {
		id := ident.Of(c.kind, []byte(c.b))
		if got := hex.EncodeToString([]byte(ident.Text(id))); got != c.want {
			t.Errorf("Text(Of(%d, %q)) = %s, want %s", c.kind, c.b, got, c.want)
		}
	}
	if api.Fnv != 1 || api.Sha != 2 {
		t.Errorf("the hashes are %d, %d", api.Fnv, api.Sha)
	}
}

// P14.1: the name of bytes is its kind and the library's sum, with noughts behind; of no hash, the zero one.
func TestOf(t *testing.T) {
	for _, b := range pieces() {
		for k := range 256 {
			kind := byte(k)
			var want api.Id
			if sizes(kind) > 0 {
				want = named(kind, sum(kind, b)...)
			}
			if got := ident.Of(kind, b); got != want {
				t.Fatalf("Of(%d, %d bytes, %.8x) = %x, want %x", kind, len(b), b, got, want)
			}
		}
	}
}

// P14.1: nil and no bytes have one name, which isn't the zero one.
func TestOfNoBytes(t *testing.T) {
	for _, kind := range kinds() {
		if ident.Of(kind, nil) != ident.Of(kind, []byte{}) {
			t.Errorf("kind %d: nil and no bytes part", kind)
		}
		if ident.Of(kind, nil) == (api.Id{}) {
			t.Errorf("kind %d: no bytes have the zero name", kind)
		}
	}
}

// P14.1: sums of Fnv have 8 bytes, of Sha 32, and there is no other hash.
func TestSize(t *testing.T) {
	for k := range 256 {
		if got, want := ident.Size(byte(k)), sizes(byte(k)); got != want {
			t.Errorf("Size(%d) = %d, want %d", k, got, want)
		}
	}
}

// P14.1: a name can be if its kind is a hash, and nothing stands behind its sum.
func TestGood(t *testing.T) {
	behind := named(api.Fnv, 1, 2, 3, 4, 5, 6, 7, 8)
	last := behind
	behind.Sum[8], last.Sum[31] = 1, 0x80
	cases := []struct {
		id   api.Id
		want bool
	}{
		{api.Id{}, false},
		{named(api.Fnv), true},
		{named(api.Sha), true},
		{named(api.Fnv, 1, 2, 3, 4, 5, 6, 7, 8), true},
		{named(api.Fnv, 0, 0, 0, 0, 0, 0, 0, 8), true},
		{behind, false},
		{last, false},
		{full(api.Fnv, 0xff), false},
		{full(api.Sha, 0xff), true},
		{named(0, 1), false},
		{named(3), false},
		{named(255, 1, 2, 3), false},
	}
	for _, c := range cases {
		if got := ident.Good(c.id); got != c.want {
			t.Errorf("Good(%x) = %t", c.id, got)
		}
	}
	for _, id := range names() {
		if got, want := ident.Good(id), can(id); got != want {
			t.Fatalf("Good(%x) = %t, want %t", id, got, want)
		}
	}
}

// P14.1: a name's text is its kind and its sum; one that can't be has nothing.
func TestText(t *testing.T) {
	for _, id := range names() {
		if got, want := ident.Text(id), text(id); got != want {
			t.Fatalf("Text(%x) = %x, want %x", id, got, want)
		}
	}
}

// P14.2: there and back: a name that can be is parsed from its text.
func TestThereAndBack(t *testing.T) {
	count := 0
	for _, id := range names() {
		if !can(id) {
			continue
		}
		count++
		if got, ok := ident.Parse(ident.Text(id)); got != id || !ok {
			t.Fatalf("Parse(Text(%x)) = %x, %t", id, got, ok)
		}
	}
	if count < 2*len(pieces()) {
		t.Errorf("only %d names can be", count)
	}
}

// P14.2: of texts of every first byte and every length, just those of a hash with all bytes of a sum are a name's.
func TestParseOfEveryLength(t *testing.T) {
	for k := range 256 {
		for n := range 70 {
			for _, c := range []string{"\x00", "\x01", "\x7f", "\xff"} {
				s := string([]byte{byte(k)}) + strings.Repeat(c, n)
				checkParse(t, s, sizes(byte(k)) > 0 && n == sizes(byte(k)))
			}
		}
	}
	checkParse(t, "", false)
	checkParse(t, "\x01"+strings.Repeat("a", 1<<16), false)
}

// P14.2: of texts by chance, cut, and with bytes behind, only a name's own one is parsed, and to the name that has it.
func TestParseOfOtherTexts(t *testing.T) {
	rnd := rand.New(rand.NewSource(142))
	for range 20000 {
		b := make([]byte, []int{0, 1, 7, 8, 9, 10, 31, 32, 33, 34, rnd.Intn(80)}[rnd.Intn(11)])
		rnd.Read(b)
		if len(b) > 0 {
			b[0] = byte(rnd.Intn(5))
		}
		want := len(b) == 9 && b[0] == 1 || len(b) == 33 && b[0] == 2
		checkParse(t, string(b), want)
	}
	for _, kind := range kinds() {
		s := ident.Text(ident.Of(kind, []byte("x")))
		for n := range len(s) {
			checkParse(t, s[:n], false)
			checkParse(t, s[len(s)-n:], false)
		}
		checkParse(t, s, true)
		for _, behind := range []string{"\x00", "a", "\n", s, strings.Repeat("\x00", 24)} {
			checkParse(t, s+behind, false)
		}
		checkParse(t, " "+s, false)
		checkParse(t, "\x00"+s, false)
	}
}

// checkParse holds what Parse answers of a text against whether it is a name's.
func checkParse(t *testing.T, s string, want bool) {
	t.Helper()
	id, ok := ident.Parse(s)
	if ok != want {
		t.Fatalf("Parse(%x) = %x, %t", s, id, ok)
	}
	if !ok && id != (api.Id{}) {
		t.Fatalf("Parse(%x): %x beside false", s, id)
	}
	if ok && (!can(id) || text(id) != s || ident.Text(id) != s || !ident.Good(id)) {
		t.Fatalf("Parse(%x) = %x, whose text is %x", s, id, ident.Text(id))
	}
}

// P14.2: names of both hashes are never the same, nor their texts, whatever the bytes are, and even where the sums are.
func TestHashesPart(t *testing.T) {
	weak, strong := map[api.Id]bool{}, map[api.Id]bool{}
	texts := map[string]byte{}
	for _, b := range pieces() {
		for _, kind := range kinds() {
			id := ident.Of(kind, b)
			if kind == api.Fnv {
				weak[id] = true
			} else {
				strong[id] = true
			}
			if other := texts[ident.Text(id)]; other != 0 && other != kind {
				t.Errorf("%x is a text of both hashes", ident.Text(id))
			}
			texts[ident.Text(id)] = kind
		}
	}
	for id := range weak {
		if strong[id] {
			t.Errorf("%x is a name of both hashes", id)
		}
	}
	a, b := named(api.Fnv, 1, 2), named(api.Sha, 1, 2)
	if a == b || ident.Text(a) == ident.Text(b) {
		t.Errorf("sums that are the same: %x, %x", ident.Text(a), ident.Text(b))
	}
}

// P14.1 (rules 3 and 4): bytes that are handed in aren't changed, spare room included, nor kept, and the same is answered again.
func TestHandedIn(t *testing.T) {
	for _, kind := range kinds() {
		room := bytes.Repeat([]byte{9}, 100)
		for _, n := range []int{0, 1, 8, 9, 32, 33, 64} {
			id := ident.Of(kind, room[:n])
			if !bytes.Equal(room, bytes.Repeat([]byte{9}, 100)) {
				t.Fatalf("kind %d: Of(%d bytes) changed what was handed in", kind, n)
			}
			again, s := id, ident.Text(id)
			other := ident.Of(kind, []byte("other"))
			if n > 0 {
				room[0] = 1
			}
			if id != again || ident.Text(id) != s || other == id {
				t.Errorf("kind %d: the name of %d bytes changed", kind, n)
			}
			room[0] = 9
			if ident.Of(kind, room[:n]) != id {
				t.Errorf("kind %d: another name of the same %d bytes", kind, n)
			}
		}
	}
}
