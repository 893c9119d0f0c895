package leaf_test

import (
	"bytes"
	"fmt"
	"math"
	"math/rand"
	"slices"
	"strings"
	"testing"

	"rootstock/api"
	"rootstock/leaf"
)

// P7.1: the bytes of nodes that the chapter's words give by hand.
func TestBytes(t *testing.T) {
	cases := []struct {
		n    api.Node
		want string
	}{
		{leafOf(), "\x01"},
		{leafOf("", ""), "\x03\x00\x00"},
		{leafOf("", "x"), "\x03\x00\x01x"},
		{leafOf("a", ""), "\x03\x01a\x00"},
		{leafOf("a", "1", "b", "22"), "\x05\x01a\x011\x01b\x0222"},
		{leafOf("", "", "\x00", "\x00", "\x00\x00", "\xff", "\x80", "", "\xff", "a"), "\x0b\x00\x00\x01\x00\x01\x00\x02\x00\x00\x01\xff\x01\x80\x00\x01\xff\x01a"},
		{leafOf(fat(48), fat(127)), "\x03\x30" + fat(48) + "\x7f" + fat(127)},
		{leafOf(fat(48), fat(128)), "\x03\x30" + fat(48) + "\x80\x01" + fat(128)},
		{leafOf("k", fat(160)), "\x03\x01k\xa0\x01" + fat(160)},
		{inner(1), "\x00\x01"},
		{inner(127), "\x00\x7f"},
		{inner(128), "\x00\x80\x01"},
		{inner(4095), "\x00\xff\x1f"},
		{inner(1, ""), "\x02\x00\x01\x02"},
		{inner(126, "a", "b"), "\x04\x01a\x01b\x7e\x7f\x80\x01"},
		{api.Node{Keys: []string{"a", "b"}, Kids: []int{300, 1, 4095}}, "\x04\x01a\x01b\xac\x02\x01\xff\x1f"},
		{api.Node{Keys: []string{"a"}, Kids: []int{7, 7}}, "\x02\x01a\x07\x07"},
		{inner(5, fat(48)), "\x02\x30" + fat(48) + "\x05\x06"},
	}
	for _, c := range cases {
		wantGood(t, c.n, c.want)
		wantNode(t, "by hand", c.want, c.n)
	}
}

// P7.1: nil lists and empty ones mean the same; the zero node is an inner one without the one kid that it must have.
func TestNilAndEmpty(t *testing.T) {
	wantGood(t, api.Node{Leaf: true, Keys: []string{}, Vals: []string{}, Kids: []int{}}, "\x01")
	wantGood(t, api.Node{Leaf: true, Keys: []string{"a"}, Vals: []string{"b"}, Kids: []int{}}, "\x03\x01a\x01b")
	wantGood(t, api.Node{Keys: []string{}, Vals: []string{}, Kids: []int{9}}, "\x00\x09")
	wantBad(t, "the zero node", api.Node{})
	wantBad(t, "empty lists", api.Node{Keys: []string{}, Vals: []string{}, Kids: []int{}})
	wantForm(t, "nil", "")
	if n, e := leaf.Decode(nil); !zero(n) || e != api.ErrForm {
		t.Errorf("Decode(nil) = %v, %d", n, e)
	}
}

// P7.1: keys rise, each above the one ahead of it, by their bytes.
func TestKeysRise(t *testing.T) {
	for _, keys := range [][]string{
		{"", "a"}, {"a", "aa"}, {"a", "b"}, {"B", "a"}, {"10", "9"}, {"a", "a\x00"}, {"\x7f", "\x80"}, {"z", "é"}, {"a", "b", "c"}, {fat(47), fat(48)},
	} {
		wantGood(t, leafOf(zip(keys)...), model(leafOf(zip(keys)...)))
		wantGood(t, inner(1, keys...), model(inner(1, keys...)))
		slices.Reverse(keys)
		wantBadAndForm(t, "keys that fall", keys)
	}
	for _, keys := range [][]string{
		{"", ""}, {"a", "a"}, {"a", "b", "b"}, {"a", "a", "b"}, {"a", "c", "b"}, {"b", "a", "c"}, {"a", "b", "a"}, {"a", ""}, {"b", "c", "d", "a"},
	} {
		wantBadAndForm(t, "keys that don't rise", keys)
	}
}

// zip answers keys, each with a value.
func zip(keys []string) []string {
	var list []string
	for _, key := range keys {
		list = append(list, key, "v"+fmt.Sprint(len(key)))
	}
	return list
}

// wantBadAndForm fails if there can be a leaf or an inner node of these keys, or its bytes are read.
func wantBadAndForm(t *testing.T, what string, keys []string) {
	t.Helper()
	for _, n := range []api.Node{leafOf(zip(keys)...), inner(1, keys...)} {
		wantBad(t, what, n)
		wantForm(t, what, model(n))
		wantForm(t, what+", and more behind", model(n)+fat(600))
	}
}

// P7.1: keys have at most 48 bytes, wherever they stand, in leaves and inner nodes.
func TestKeysThatAreLong(t *testing.T) {
	for _, size := range []int{0, 1, 47, 48} {
		wantGood(t, leafOf(fat(size), "v"), model(leafOf(fat(size), "v")))
		wantGood(t, inner(1, fat(size)), model(inner(1, fat(size))))
	}
	for _, size := range []int{49, 50, 127, 128, 160, 161, 600} {
		wantBadAndForm(t, "a long key", []string{fat(size)})
		wantBadAndForm(t, "a long key behind", []string{"", "a", fat(size)})
		wantBadAndForm(t, "a long key between", []string{"a", "b" + fat(size-1), "c"})
		wantBadAndForm(t, "a long key ahead", []string{"a" + fat(size-1), "b", "c"})
	}
}

// P7.1: values have at most 160 bytes, wherever they stand.
func TestValuesThatAreLong(t *testing.T) {
	for _, size := range []int{0, 1, 48, 49, 127, 128, 159, 160} {
		n := leafOf("a", fat(size))
		wantGood(t, n, model(n))
		wantNode(t, "a value", model(n), n)
	}
	for _, size := range []int{161, 162, 255, 256, 512, 5000} {
		for _, n := range []api.Node{leafOf("a", fat(size)), leafOf("a", fat(size), "b", ""), leafOf("a", "", "b", fat(size)), leafOf("a", "", "b", fat(size), "c", "")} {
			wantBad(t, "a long value", n)
			wantForm(t, "a long value", model(n))
		}
	}
}

// P7.1: a leaf has as many values as keys, and no kids.
func TestListsOfLeaves(t *testing.T) {
	for _, n := range []api.Node{
		{Leaf: true, Keys: []string{"a"}},
		{Leaf: true, Keys: []string{"a", "b"}, Vals: []string{"1"}},
		{Leaf: true, Vals: []string{"1"}},
		{Leaf: true, Keys: []string{"a"}, Vals: []string{"1", "2"}},
		{Leaf: true, Kids: []int{1}},
		{Leaf: true, Keys: []string{"a"}, Vals: []string{"1"}, Kids: []int{1}},
		{Leaf: true, Keys: []string{"a"}, Vals: []string{"1"}, Kids: []int{1, 2}},
		{Leaf: true, Keys: []string{"a"}, Kids: []int{1, 2}},
	} {
		wantBad(t, "lists of a leaf", n)
	}
}

// P7.1: an inner node has one kid more than keys, and no values.
func TestListsOfInnerNodes(t *testing.T) {
	for _, n := range []api.Node{
		{Kids: []int{1, 2}},
		{Keys: []string{"a"}},
		{Keys: []string{"a"}, Kids: []int{1}},
		{Keys: []string{"a"}, Kids: []int{1, 2, 3}},
		{Keys: []string{"a", "b"}, Kids: []int{1, 2}},
		{Vals: []string{""}, Kids: []int{1}},
		{Keys: []string{"a"}, Vals: []string{"1"}, Kids: []int{1, 2}},
		{Keys: []string{"a"}, Vals: []string{"1", "2"}, Kids: []int{1, 2}},
		{Keys: []string{"a"}, Vals: []string{"1"}},
	} {
		wantBad(t, "lists of an inner node", n)
	}
}

// P7.1: kids are from 1 to 4095, wherever they stand, and need not rise.
func TestKids(t *testing.T) {
	for _, kid := range []int{1, 2, 127, 128, 4094, 4095} {
		for i := range 3 {
			n := inner(2, "a", "b")
			n.Kids[i] = kid
			wantGood(t, n, model(n))
			wantNode(t, "a kid", model(n), n)
		}
	}
	for _, kid := range []int{0, -1, -4095, 4096, 4097, 1 << 16, 1<<16 + 1, 1 << 32, 1<<32 + 1, math.MaxInt, math.MinInt, math.MinInt + 1} {
		for i := range 3 {
			n := inner(2, "a", "b")
			n.Kids[i] = kid
			wantBad(t, "a kid", n)
			wantForm(t, "a kid", model(n))
		}
	}
	for _, kid := range []string{number(math.MaxUint64), number(1 << 63), number(1<<63 + 1), number(1<<63 + 4095), "\xff\xff\xff\xff\xff\xff\xff\xff\xff\x02", "\x81\x00", "\x80"} {
		wantForm(t, "a kid alone", "\x00"+kid)
		wantForm(t, "a kid", "\x02\x01a\x05"+kid)
		wantForm(t, "a kid", "\x02\x01a"+kid+"\x05")
	}
}

// P7.1: 512 bytes may be encoded, 513 may not; Size tells how many there would be.
func TestJustAPage(t *testing.T) {
	for size := 505; size <= 520; size++ {
		for _, n := range []api.Node{
			leafOf("a", fat(160), "b", fat(160), "c", fat(100), "d", fat(size-435)),
			leafOf("a", fat(160), "b", fat(160), fat(41), fat(size-373)),
			inner(1, append(manyKeys(44, 9), fat(size-488))...),
		} {
			if len(model(n)) != size {
				t.Fatalf("a node of %d bytes, wanted %d", len(model(n)), size)
			}
			wantGood(t, n, model(n))
			wantNode(t, "about a page", model(n), n)
		}
	}
}

// P7.1: there may be many keys, or few, with short kids and long; what can't be is told ahead of what is too long.
func TestManyKeys(t *testing.T) {
	for _, count := range []int{0, 1, 2, 63, 64, 65, 100, 127, 128, 129, 511, 512, 513, 700, 8191, 8192, 10000} {
		keys := manyKeys(count, 5)
		for _, n := range []api.Node{
			leafOf(zip(keys)...),
			{Keys: keys, Kids: slices.Repeat([]int{1}, count+1)},
			{Keys: keys, Kids: slices.Repeat([]int{4095}, count+1)},
		} {
			wantGood(t, n, model(n))
			if count == 0 {
				continue
			}
			n.Keys = slices.Clone(n.Keys)
			n.Keys[count-1] = fat(49)
			wantBad(t, "many keys, the last one too long", n)
			n.Keys[count-1] = ""
			if count > 1 {
				wantBad(t, "many keys, the last one below the others", n)
			}
		}
	}
	for _, size := range []int{200, 250, 252, 253, 254, 255, 256} {
		// Keys of one byte: 256 of them rise.
		n := api.Node{Kids: []int{1}}
		for i := range size {
			n.Keys = append(n.Keys, string([]byte{byte(i)}))
			n.Kids = append(n.Kids, 1)
		}
		wantGood(t, n, model(n))
	}
}

// P7.1: nodes of 512 keys are read, also of more than 512 bytes; of more keys none is.
func TestMostKeysThatAreRead(t *testing.T) {
	for _, count := range []int{1, 63, 64, 127, 128, 255, 256, 500, 511, 512} {
		for _, n := range []api.Node{leafOf(zip(manyKeys(count, 3))...), inner(1, manyKeys(count, 48)...)} {
			wantNode(t, "many keys", model(n), n)
			wantNode(t, "many keys, and more behind", model(n)+fat(9), n)
			wantForm(t, "many keys, cut off", model(n)[:len(model(n))-1])
		}
	}
	for _, count := range []int{513, 514, 600, 1024, 1025, 8192, 65536, 65537} {
		for _, n := range []api.Node{leafOf(zip(manyKeys(count, 5))...), inner(1, manyKeys(count, 5)...)} {
			n.Kids = slices.Repeat([]int{1}, len(n.Kids))
			wantForm(t, "too many keys", model(n))
		}
	}
	for shift := 10; shift <= 64; shift++ {
		for _, d := range []uint64{2, 3, 4, 5, 6, 7} {
			// Of shift 64 these are the greatest numbers.
			head := number(1<<shift + d)
			if shift == 64 {
				head = number(math.MaxUint64 - d + 2)
			}
			// Cut to fewer bits, it would tell of a few keys, and these would be there.
			wantForm(t, "a great number of keys", head+"\x01a\x01b\x01c\x01d\x01e\x01f")
			wantForm(t, "a great number of keys", head+"\x01\x01\x01\x01\x01\x01")
			wantForm(t, "a great number of keys", head)
		}
	}
}

// P7.1: what layer 1 doesn't write is no node's: numbers with noughts behind, or above what there are, wherever they stand.
func TestNumbersThatAreFaults(t *testing.T) {
	for _, bad := range []string{
		"\x80\x00", "\x81\x00", "\x83\x00", "\x81\x80\x00", "\x80", "\xff", "\x81\x80",
		"\x81\x80\x80\x80\x80\x80\x80\x80\x80\x02", "\xff\xff\xff\xff\xff\xff\xff\xff\xff\x02", "\x81\x80\x80\x80\x80\x80\x80\x80\x80\x80\x01", strings.Repeat("\x80", 100),
	} {
		for _, behind := range []string{"", "\x01", "\x01a\x01b\x01c\x01d"} {
			for _, ahead := range []string{"", "\x00", "\x03", "\x03\x01a", "\x05\x01a\x00", "\x05\x01a\x00\x01b", "\x02", "\x02\x01a", "\x02\x01a\x05", "\x04\x01a"} {
				s := ahead + bad + behind
				want, ok := modelDecode(s)
				if ok {
					wantNode(t, "a number that goes on", s, want)
					continue
				}
				wantForm(t, "a fault", s)
			}
		}
	}
	wantForm(t, "a leaf without keys, a byte too long", "\x81\x00")
	wantForm(t, "a key's length, a byte too long", "\x03\x81\x00a\x00")
	wantForm(t, "a value's length, a byte too long", "\x03\x01a\x80\x00")
	wantForm(t, "a kid, a byte too long", "\x00\x85\x00")
}

// P7.1: bytes that end ahead of the node's end begin with none, whatever stands in the room behind them.
func TestCutOff(t *testing.T) {
	for _, n := range nodes() {
		b := []byte(model(n))
		for i := range b {
			wantForm(t, "cut off", string(b[:i]))
			if got, e := leaf.Decode(b[:i]); !zero(got) || e != api.ErrForm {
				t.Errorf("cut off at %d, with room: Decode = %s, %d", i, show(got), e)
			}
		}
	}
}

// nodes answers nodes of all kinds whose bytes have at most a page.
func nodes() []api.Node {
	return []api.Node{
		leafOf(), leafOf("", ""), leafOf("a", "1"), leafOf("a", fat(160), "b", fat(160), "c", fat(160)), leafOf(zip(manyKeys(40, 5))...), leafOf(zip(manyKeys(70, 3))...),
		leafOf("a", "\x00\x80", "a\x00", "\xff"), leafOf(fat(48), fat(128)), leafOf("a", fat(160), "b", fat(160), "c", fat(100), "d", fat(77)),
		inner(1), inner(4095), inner(126, "a", "b", "c"), inner(1, ""), inner(4000, manyKeys(90, 2)...), inner(1, manyKeys(9, 48)...),
		inner(1, append(manyKeys(44, 9), fat(24))...), {Keys: []string{"a", "b"}, Kids: []int{9, 9, 1}},
	}
}

// P7.2: a node that is encoded is decoded, whatever stands behind it.
func TestThereAndBack(t *testing.T) {
	for _, n := range nodes() {
		b, e := leaf.Encode(n)
		if e != api.OK || len(b) > api.PageSize {
			t.Fatalf("%s: %d bytes, error %d", show(n), len(b), e)
		}
		for _, behind := range []string{"", "\x00", "\x01", "\x80", "\xff", fat(1), string(b), "\x01" + string(b), strings.Repeat("\x00", 512), strings.Repeat("\x80", 512), strings.Repeat("\xff", 512), fat(2000)} {
			wantNode(t, "there and back", string(b)+behind, n)
		}
		page := make([]byte, api.PageSize)
		copy(page, b)
		wantNode(t, "a page", string(page), n)
	}
}

// randomNode answers a node that can be, mostly of a page.
func randomNode(rnd *rand.Rand) api.Node {
	n := api.Node{Leaf: rnd.Intn(2) == 0}
	for range rnd.Intn(12) {
		n.Keys = append(n.Keys, randomText(rnd, 48))
	}
	slices.Sort(n.Keys)
	n.Keys = slices.Compact(n.Keys)
	for range n.Keys {
		if n.Leaf {
			n.Vals = append(n.Vals, randomText(rnd, 160))
		}
	}
	for range len(n.Keys) + 1 {
		if !n.Leaf {
			n.Kids = append(n.Kids, 1+rnd.Intn(4095))
		}
	}
	return n
}

// randomText answers a text of any bytes, mostly a short one.
func randomText(rnd *rand.Rand, most int) string {
	if rnd.Intn(4) > 0 {
		most = 5
	}
	b := make([]byte, rnd.Intn(most+1))
	rnd.Read(b)
	return string(b)
}

// P7.2: so it is with nodes of all kinds, with any bytes behind.
func TestRandomThereAndBack(t *testing.T) {
	rnd := rand.New(rand.NewSource(7))
	long := 0
	for range 20000 {
		n := randomNode(rnd)
		wantGood(t, n, model(n))
		wantNode(t, "random", model(n)+randomText(rnd, 300), n)
		if len(model(n)) > 512 {
			long++
		}
	}
	if long < 100 || long > 10000 {
		t.Errorf("%d nodes were too long", long)
	}
}

// spoil answers a node in which one thing is another, so that it mostly can't be.
func spoil(rnd *rand.Rand, n api.Node) api.Node {
	n.Keys, n.Vals, n.Kids = slices.Clone(n.Keys), slices.Clone(n.Vals), slices.Clone(n.Kids)
	switch rnd.Intn(8) {
	case 0:
		n.Leaf = !n.Leaf
	case 1:
		n.Keys = append(n.Keys, randomText(rnd, 52))
	case 2:
		n.Vals = append(n.Vals, randomText(rnd, 164))
	case 3:
		n.Kids = append(n.Kids, rnd.Intn(4100)-2)
	case 4:
		if len(n.Keys) > 0 {
			n.Keys[rnd.Intn(len(n.Keys))] = fat(45 + rnd.Intn(8))
		}
	case 5:
		if len(n.Vals) > 0 {
			n.Vals[rnd.Intn(len(n.Vals))] = fat(156 + rnd.Intn(9))
		}
	case 6:
		if len(n.Kids) > 0 {
			n.Kids[rnd.Intn(len(n.Kids))] = []int{-1, 0, 1, 4095, 4096, math.MinInt, math.MaxInt}[rnd.Intn(7)]
		}
	case 7:
		rnd.Shuffle(len(n.Keys), func(i, j int) { n.Keys[i], n.Keys[j] = n.Keys[j], n.Keys[i] })
	}
	return n
}

// P7.1: of nodes of all kinds, those that can be and those that can't are told as the model tells them.
func TestRandomGood(t *testing.T) {
	rnd := rand.New(rand.NewSource(8))
	good, bad := 0, 0
	for range 20000 {
		n := spoil(rnd, randomNode(rnd))
		if modelGood(n) {
			good++
			wantGood(t, n, model(n))
			continue
		}
		bad++
		wantBad(t, "spoiled", n)
	}
	if good < 1000 || bad < 1000 {
		t.Errorf("%d can be, %d can't", good, bad)
	}
}

// wantAsModel fails if bytes aren't decoded as the model decodes them, or what is read isn't written as them.
func wantAsModel(t *testing.T, s string) bool {
	t.Helper()
	want, ok := modelDecode(s)
	if !ok {
		wantForm(t, "as the model", s)
		return false
	}
	wantNode(t, "as the model", s, want)
	if !strings.HasPrefix(s, model(want)) {
		t.Errorf("%x is read as %s", s, show(want))
	}
	if b, e := leaf.Encode(want); e == api.OK && !strings.HasPrefix(s, string(b)) {
		t.Errorf("%x is read as %s, and written as %x", s, show(want), b)
	}
	return true
}

// P7.1: all short bytes of some kinds are read as the model reads them.
func TestAllShortBytes(t *testing.T) {
	list := []string{""}
	for i := 0; i < len(list) && len(list[i]) < 7; i++ {
		for _, d := range []byte{0, 1, 2, 3, 4, 5, 0x80} {
			if list[i] == "" || len(list[i]) < 6 || d < 4 {
				list = append(list, list[i]+string([]byte{d}))
			}
		}
	}
	read := 0
	for _, s := range list {
		if wantAsModel(t, s) {
			read++
		}
	}
	if read < 1000 {
		t.Errorf("of %d bytes only %d were read", len(list), read)
	}
}

// P7.1: bytes of nodes in which some are turned, left out or put in are read as the model reads them.
func TestTurnedBytes(t *testing.T) {
	rnd := rand.New(rand.NewSource(9))
	read := 0
	for range 30000 {
		b := []byte(model(spoil(rnd, randomNode(rnd))))
		for range rnd.Intn(3) {
			i := rnd.Intn(len(b))
			switch rnd.Intn(3) {
			case 0:
				b[i] ^= 1 << rnd.Intn(8)
			case 1:
				b = slices.Insert(b, i, byte(rnd.Intn(256)))
			case 2:
				b[i] = byte(rnd.Intn(256))
			}
		}
		if wantAsModel(t, string(b)) {
			read++
		}
	}
	if read < 1000 || read > 29000 {
		t.Errorf("%d were read", read)
	}
}

// P7.3: neither a node's lists nor bytes are changed, spare room included.
func TestNothingIsChanged(t *testing.T) {
	for _, n := range append(nodes(), leafOf("b", "1", "a", "2"), inner(0, "a"), leafOf(fat(49), ""), leafOf(zip(manyKeys(600, 5))...)) {
		keys, vals, kids := roomy(n.Keys, "room"), roomy(n.Vals, "room"), roomy(n.Kids, 77)
		handed := api.Node{Leaf: n.Leaf, Keys: keys[:len(n.Keys)], Vals: vals[:len(n.Vals)], Kids: kids[:len(n.Kids)]}
		leaf.Good(handed)
		leaf.Size(handed)
		leaf.Encode(handed)
		if !same(handed, n) || !slices.Equal(keys, roomy(n.Keys, "room")) || !slices.Equal(vals, roomy(n.Vals, "room")) || !slices.Equal(kids, roomy(n.Kids, 77)) {
			t.Errorf("%s is changed", show(n))
		}
		b := roomy([]byte(model(n)), 0xee)
		before := bytes.Clone(b)
		leaf.Decode(b[:len(model(n))])
		leaf.Decode(b[:len(model(n))-1])
		if !bytes.Equal(b, before) {
			t.Errorf("%s: its bytes are changed", show(n))
		}
	}
}

// roomy answers a list with spare room that is filled, all of it in sight.
func roomy[T any](list []T, fill T) []T {
	return append(slices.Clone(list), slices.Repeat([]T{fill}, 600)...)
}

// P7.3: what is written into a node's lists, or into bytes, behind a call changes no answer, and the next call sees it.
func TestNothingIsKept(t *testing.T) {
	n := leafOf("a", "1", "b", "2")
	b, _ := leaf.Encode(n)
	n.Keys[0], n.Vals[1] = "aa", "22"
	if string(b) != "\x05\x01a\x011\x01b\x012" {
		t.Errorf("an answer is changed: %x", b)
	}
	wantGood(t, n, "\x05\x02aa\x011\x01b\x0222")
	read, _ := leaf.Decode(b)
	clear(b)
	if !same(read, leafOf("a", "1", "b", "2")) {
		t.Errorf("an answer is changed: %s", show(read))
	}
	if again, e := leaf.Decode(b); !zero(again) || e != api.ErrForm {
		t.Errorf("bytes are kept: %s, %d", show(again), e)
	}
	m := inner(5, "k")
	b, _ = leaf.Encode(m)
	m.Kids[0] = 9
	if string(b) != "\x02\x01k\x05\x06" {
		t.Errorf("an answer is changed: %x", b)
	}
	wantGood(t, m, "\x02\x01k\x09\x06")
}

// P7.3: answers are new memory: two of them, and two lists of one, share none.
func TestAnswersAreNewMemory(t *testing.T) {
	for _, n := range nodes() {
		one, _ := leaf.Encode(n)
		two, _ := leaf.Encode(n)
		_ = append(one, fat(20)...)
		clear(one)
		if string(two) != model(n) {
			t.Errorf("%s: two answers of Encode share memory", show(n))
		}
		first, _ := leaf.Decode(two)
		second, _ := leaf.Decode(two)
		_ = append(append(first.Keys, "x"), first.Keys...)
		_ = append(append(first.Vals, "x"), first.Vals...)
		if !same(first, n) {
			t.Errorf("%s: two lists of an answer share memory", show(n))
		}
		for i := range first.Keys {
			first.Keys[i] = "gone"
		}
		if !slices.Equal(first.Vals, n.Vals) {
			t.Errorf("%s: Keys and Vals share memory", show(n))
		}
		clear(first.Vals)
		clear(first.Kids)
		if !same(second, n) || string(two) != model(n) {
			t.Errorf("%s: two answers of Decode share memory", show(n))
		}
	}
}
