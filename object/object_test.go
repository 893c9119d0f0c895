package object_test

import (
	"bytes"
	"math"
	"math/rand"
	"slices"
	"strings"
	"testing"

	"rootstock/api"
	"rootstock/object"
)

// kinds are the hashes.
func kinds() []byte { return []byte{api.Fnv, api.Sha} }

// badNames are names that can't be.
func badNames() []api.Id {
	behind := full(api.Fnv, 1)
	behind.Sum[8] = 1
	last := full(api.Fnv, 1)
	last.Sum[31] = 1
	return []api.Id{{}, {Kind: 3}, {Kind: 255, Sum: full(api.Sha, 1).Sum}, {Sum: full(api.Sha, 1).Sum}, {Kind: api.Fnv, Sum: full(api.Sha, 1).Sum}, behind, last}
}

// P15.1: the bytes of trees that the chapter's words give by hand, and its example.
func TestTreesByHand(t *testing.T) {
	weak, strong := "\x01"+strings.Repeat("\xaa", 8), "\x02"+strings.Repeat("\xbb", 32)
	cases := []struct {
		x    api.Tree
		want string
	}{
		{api.Tree{}, "\x01\x00"},
		{api.Tree{Pairs: []api.Pair{}, Kids: []api.Kid{}}, "\x01\x00"},
		{pairsOf("", ""), "\x01\x01\x00\x00"},
		{pairsOf("a", "1"), "\x01\x01\x01a\x011"},
		{pairsOf("a", "", "b", "22"), "\x01\x02\x01a\x00\x01b\x0222"},
		{pairsOf("", "x", "\x00", "\xff", "z", "", "\xff", "\x00\x01"), "\x01\x04\x00\x01x\x01\x00\x01\xff\x01z\x00\x01\xff\x02\x00\x01"},
		{pairsOf(fat(16), fat(16)), "\x01\x01\x10" + fat(16) + "\x10" + fat(16)},
		{api.Tree{Kids: []api.Kid{{Key: "", Id: full(1, 0xaa)}, {Key: "b", Id: full(1, 0xaa)}}}, "\x02\x02\x00" + weak + "\x01b" + weak},
		{api.Tree{Kids: []api.Kid{{Key: "a", Id: full(2, 0xbb)}, {Key: "b", Id: full(2, 0xbb)}, {Key: fat(16), Id: full(2, 0xbb)}}}, "\x02\x03\x01a" + strong + "\x01b" + strong + "\x10" + fat(16) + strong},
	}
	for _, c := range cases {
		b, e := object.PutTree(c.x)
		if e != api.OK || string(b) != c.want {
			t.Errorf("PutTree(%+v) = %x, %d, want %x", c.x, b, e, c.want)
		}
		if x, e := object.GetTree([]byte(c.want)); e != api.OK || !sameTree(x, c.x) {
			t.Errorf("GetTree(%x) = %+v, %d, want %+v", c.want, x, e, c.x)
		}
		checkTree(t, c.x)
	}
	if object.Wide != 4 || object.Few != 3 {
		t.Errorf("Wide, Few = %d, %d", object.Wide, object.Few)
	}
}

// P15.1: the bytes of commits that the chapter's words give by hand.
func TestCommitsByHand(t *testing.T) {
	weak, strong := "\x01"+strings.Repeat("\xaa", 8), "\x02"+strings.Repeat("\xbb", 32)
	other := "\x01" + strings.Repeat("\xcc", 8)
	cases := []struct {
		x    api.Commit
		want string
	}{
		{api.Commit{Root: full(1, 0xaa), Num: 1}, "\x03\x00" + weak + "\x00\x02"},
		{api.Commit{Root: full(2, 0xbb), Num: 63, Note: "hello"}, "\x03\x00" + strong + "\x05hello\x7e"},
		{api.Commit{Root: full(2, 0xbb), Parents: []api.Id{}, Num: 64}, "\x03\x00" + strong + "\x00\x80\x01"},
		{api.Commit{Root: full(1, 0xaa), Parents: []api.Id{full(1, 0xcc)}, Num: 1024}, "\x03\x01" + weak + other + "\x00\x80\x10"},
		{api.Commit{Root: full(1, 0xaa), Parents: []api.Id{full(1, 0xcc), full(1, 0xaa)}, Num: 1023, Note: fat(32)}, "\x03\x02" + weak + other + weak + "\x20" + fat(32) + "\xfe\x0f"},
		{api.Commit{Root: full(1, 0), Parents: []api.Id{full(1, 0)}, Num: 5, Note: "\x00\xff"}, "\x03\x01" + strings.Repeat("\x01"+strings.Repeat("\x00", 8), 2) + "\x02\x00\xff\x0a"},
	}
	for _, c := range cases {
		b, e := object.PutCommit(c.x)
		if e != api.OK || string(b) != c.want {
			t.Errorf("PutCommit(%+v) = %x, %d, want %x", c.x, b, e, c.want)
		}
		if x, e := object.GetCommit([]byte(c.want)); e != api.OK || !sameCommit(x, c.x) {
			t.Errorf("GetCommit(%x) = %+v, %d, want %+v", c.want, x, e, c.x)
		}
		checkCommit(t, c.x)
	}
}

// P15.1: at most four pairs, or two or three kids, and never both.
func TestHowMany(t *testing.T) {
	keys := strings.Split("a b c d e f g h", " ")
	for n := range len(keys) + 1 {
		var list []string
		for _, key := range keys[:n] {
			list = append(list, key, "v")
		}
		x := pairsOf(list...)
		if got := object.GoodTree(x); got != (n <= 4) {
			t.Errorf("GoodTree of %d pairs: %t", n, got)
		}
		checkTree(t, x)
		for _, kind := range kinds() {
			for m := range 6 {
				y := kidsOf(kind, keys[:m]...)
				if got := object.GoodTree(y); got != (m == 0 || m == 2 || m == 3) {
					t.Errorf("GoodTree of %d kids: %t", m, got)
				}
				y.Pairs = x.Pairs
				checkTree(t, y)
				y.Pairs = []api.Pair{}
				checkTree(t, y)
			}
		}
	}
	checkTree(t, api.Tree{Pairs: []api.Pair{{}}, Kids: kidsOf(1, "a", "b").Kids})
	checkTree(t, api.Tree{Pairs: make([]api.Pair, 300)})
	checkTree(t, api.Tree{Kids: make([]api.Kid, 300)})
}

// P15.1: keys rise, each above the one ahead of it, by their bytes.
func TestKeysRise(t *testing.T) {
	for _, keys := range [][]string{
		{"", "a"}, {"a", "aa"}, {"B", "a"}, {"10", "9"}, {"a", "a\x00"}, {"\x7f", "\x80"}, {"z", "é"}, {"", "\x00", "\x00\x00"}, {fat(15), fat(16)},
		{"", ""}, {"a", "a"}, {"a", "b", "b"}, {"a", "a", "b"}, {"a", "c", "b"}, {"b", "a", "c"}, {"a", "b", "a"}, {"b", "c", "a"},
		{"a", "b", "c", "d"}, {"a", "b", "c", "c"}, {"a", "b", "d", "c"}, {"a", "c", "b", "d"}, {"b", "a", "c", "d"}, {fat(16), fat(16)},
	} {
		for range 2 {
			var x api.Tree
			for _, key := range keys {
				x.Pairs = append(x.Pairs, api.Pair{Key: key, Val: "v"})
			}
			checkTree(t, x)
			checkTree(t, kidsOf(api.Fnv, keys...))
			checkTree(t, kidsOf(api.Sha, keys...))
			slices.Reverse(keys)
		}
	}
}

// P15.1: keys and values have at most 16 bytes, in every place.
func TestHowLong(t *testing.T) {
	for _, n := range []int{0, 1, 15, 16, 17, 18, 127, 128, 160, 1000} {
		for at := range 4 {
			list := []string{"a", "1", "b", "2", "c", "3", "d", "4"}
			list[2*at] = string(rune('a'+at)) + fat(max(n-1, 0))
			x := pairsOf(list...)
			if got := object.GoodTree(x); got != (n <= 16) {
				t.Errorf("GoodTree with the %d-th key of %d bytes: %t", at, n, got)
			}
			checkTree(t, x)
			list = []string{"a", "1", "b", "2", "c", "3", "d", "4"}
			list[2*at+1] = fat(n)
			checkTree(t, pairsOf(list...))
			if at < 3 {
				keys := []string{"a", "b", "c"}
				keys[at] += fat(max(n-1, 0))
				checkTree(t, kidsOf(api.Fnv, keys...))
				checkTree(t, kidsOf(api.Sha, keys...))
			}
		}
	}
}

// P15.1: kids' names can be, and are all by one hash.
func TestKidsNames(t *testing.T) {
	for _, kind := range kinds() {
		for n := 2; n <= 3; n++ {
			for at := range n {
				x := kidsOf(kind, []string{"a", "b", "c"}[:n]...)
				checkTree(t, x)
				for _, id := range append(badNames(), full(api.Fnv+api.Sha-kind, 1)) {
					x.Kids[at].Id = id
					if object.GoodTree(x) {
						t.Errorf("the %d-th of %d kids by hash %d may be %x", at, n, kind, id)
					}
					checkTree(t, x)
				}
				x.Kids[at].Id = full(kind, 0)
				checkTree(t, x)
				x.Kids[at].Id = x.Kids[(at+1)%n].Id
				if !object.GoodTree(x) {
					t.Error("kids may not have one name")
				}
				checkTree(t, x)
			}
		}
	}
}

// P15.1: a commit's tree can be, and its parents can be, by the same hash, are at most two, and not the same.
func TestCommitsNames(t *testing.T) {
	for _, kind := range kinds() {
		other := full(api.Fnv+api.Sha-kind, 1)
		for n := range 6 {
			x := commitOf(kind, 7, "note", "root", []string{"a", "b", "c", "d", "e"}[:n]...)
			if got := object.GoodCommit(x); got != (n <= 2) {
				t.Errorf("GoodCommit of %d parents: %t", n, got)
			}
			checkCommit(t, x)
			for _, id := range append(badNames(), other) {
				y := x
				y.Root = id
				if got := object.GoodCommit(y); got != (n == 0 && id == other) {
					t.Errorf("GoodCommit of the tree %x and %d parents by hash %d: %t", id, n, kind, got)
				}
				checkCommit(t, y)
				for at := range n {
					y = x
					y.Parents = slices.Clone(x.Parents)
					y.Parents[at] = id
					if object.GoodCommit(y) {
						t.Errorf("the %d-th of %d parents by hash %d may be %x", at, n, kind, id)
					}
					checkCommit(t, y)
				}
			}
		}
		checkCommit(t, commitOf(kind, 1, "", "x", "y", "y"))
		checkCommit(t, commitOf(kind, 1, "", "x", "x", "y"))
		checkCommit(t, commitOf(kind, 1, "", "x", "y", "x"))
		checkCommit(t, commitOf(kind, 1, "", "x", "x"))
		checkCommit(t, commitOf(kind, 1, "", "x", "x", "x"))
		if object.GoodCommit(commitOf(kind, 1, "", "x", "y", "y")) || !object.GoodCommit(commitOf(kind, 1, "", "x", "x", "y")) {
			t.Error("two parents that are the same can be, or a parent named as the tree can't")
		}
	}
}

// P15.1: a note has at most 32 bytes, and a commit's number is from 1 to 1024.
func TestNotesAndNums(t *testing.T) {
	for _, kind := range kinds() {
		for n := range 70 {
			x := commitOf(kind, 3, fat(n), "root", "a")
			if got := object.GoodCommit(x); got != (n <= 32) {
				t.Errorf("GoodCommit with a note of %d bytes: %t", n, got)
			}
			checkCommit(t, x)
		}
		checkCommit(t, commitOf(kind, 3, fat(1<<16), "root"))
		for num := -70; num < 1100; num++ {
			x := commitOf(kind, num, "n", "root", "a")
			if got := object.GoodCommit(x); got != (num >= 1 && num <= 1024) {
				t.Errorf("GoodCommit of the number %d: %t", num, got)
			}
			checkCommit(t, x)
		}
		for _, num := range []int{math.MinInt, math.MinInt + 1, -1024, 1 << 14, 1<<32 + 1, math.MaxInt} {
			checkCommit(t, commitOf(kind, num, "n", "root", "a", "b"))
		}
	}
	checkCommit(t, api.Commit{})
	checkCommit(t, api.Commit{Num: 1})
}

// someText answers a text of mostly few bytes, now and then of too many.
func someText(rnd *rand.Rand, most int) string {
	b := make([]byte, rnd.Intn(most+1))
	if rnd.Intn(60) == 0 {
		b = make([]byte, most+1)
	}
	for i := range b {
		b[i] = []byte{'a', 'b', 0, 0xff, 0x80, byte(rnd.Intn(256))}[rnd.Intn(6)]
	}
	return string(b)
}

// someName answers a name by a hash, now and then by the other one, or one that can't be.
func someName(rnd *rand.Rand, kind byte) api.Id {
	switch rnd.Intn(80) {
	case 0:
		return full(api.Fnv+api.Sha-kind, 7)
	case 1:
		list := badNames()
		return list[rnd.Intn(len(list))]
	case 2, 3, 4:
		return full(kind, 0)
	}
	return name(kind, someText(rnd, 2))
}

// someTree answers a tree that mostly can be.
func someTree(rnd *rand.Rand) api.Tree {
	var keys []string
	for range rnd.Intn(5) {
		keys = append(keys, someText(rnd, 16))
	}
	if rnd.Intn(10) > 0 {
		slices.Sort(keys)
	}
	var x api.Tree
	hash := kinds()[rnd.Intn(2)]
	kids := rnd.Intn(2) == 0
	for _, key := range keys {
		if kids {
			x.Kids = append(x.Kids, api.Kid{Key: key, Id: someName(rnd, hash)})
		} else {
			x.Pairs = append(x.Pairs, api.Pair{Key: key, Val: someText(rnd, 16)})
		}
	}
	return x
}

// someCommit answers a commit that mostly can be.
func someCommit(rnd *rand.Rand) api.Commit {
	hash := kinds()[rnd.Intn(2)]
	x := api.Commit{Root: someName(rnd, hash), Note: someText(rnd, 32), Num: rnd.Intn(1030)}
	for range []int{0, 1, 1, 2, 2, 2, 3}[rnd.Intn(7)] {
		x.Parents = append(x.Parents, someName(rnd, hash))
	}
	return x
}

// P15.1, P15.2: trees and commits by chance answer what the words say, and there and back.
func TestByChance(t *testing.T) {
	rnd := rand.New(rand.NewSource(15))
	good := 0
	for range 20000 {
		x, c := someTree(rnd), someCommit(rnd)
		checkTree(t, x)
		checkCommit(t, c)
		if treeCan(x) {
			good++
		}
		if commitCan(c) {
			good++
		}
	}
	if good < 20000 {
		t.Errorf("only %d of 40000 can be", good)
	}
}

// some are objects of each kind and hash: the least, the greatest, and those between.
func some() []string {
	list := []string{treeBytes(api.Tree{}), treeBytes(pairsOf("", "")), treeBytes(pairsOf("a", "1", "b", "22", "c", "")), treeBytes(pairsOf("a"+fat(15), fat(16), "b", "", "c", fat(3), "d"+fat(15), fat(16)))}
	for _, kind := range kinds() {
		list = append(list,
			treeBytes(kidsOf(kind, "", "a")), treeBytes(kidsOf(kind, "a", "b"+fat(15), "c")),
			commitBytes(commitOf(kind, 1, "", "r")), commitBytes(commitOf(kind, 64, "no", "r", "a")), commitBytes(commitOf(kind, 1024, fat(32), "r", "a", "b")), commitBytes(commitOf(kind, 63, "x", "r", "a", "b")))
	}
	return list
}

// P15.2: bytes of which one is changed, to every other byte there is, are just those of what they are read as, or none's.
func TestBytesTurned(t *testing.T) {
	still := 0
	for _, s := range some() {
		for at := range len(s) {
			for c := range 256 {
				b := []byte(s)
				b[at] = byte(c)
				if checkBytes(t, string(b)) {
					still++
				}
			}
		}
	}
	if still < 1000 {
		t.Errorf("only %d are a tree's or a commit's", still)
	}
}

// P15.2: bytes that are cut, with bytes behind or ahead, with one too many or one too few, are mostly none's.
func TestBytesCut(t *testing.T) {
	for _, s := range some() {
		if !checkBytes(t, s) {
			t.Fatalf("%x is none's", s)
		}
		for n := range len(s) {
			if checkBytes(t, s[:n]) || n > 0 && checkBytes(t, s[n:]) && s[n:] != "\x01\x00" {
				t.Errorf("%x cut at %d can be", s, n)
			}
			checkBytes(t, s[:n]+s[n+1:])
			for _, c := range []string{"\x00", "\x01", "\x80", "a", "\xff"} {
				checkBytes(t, s[:n]+c+s[n:])
			}
		}
		for _, behind := range []string{"\x00", "\x01", "\x80", "a", s, fat(1 << 16)} {
			if checkBytes(t, s+behind) {
				t.Errorf("%x can be with %.20x behind", s, behind)
			}
			checkBytes(t, behind+s)
		}
	}
}

// P15.2: of all short bytes, just those that the words allow can be read.
func TestShortBytes(t *testing.T) {
	checkBytes(t, "")
	for a := range 256 {
		checkBytes(t, string([]byte{byte(a)}))
		for b := range 256 {
			checkBytes(t, string([]byte{byte(a), byte(b)}))
			if a > 4 || b > 4 {
				continue
			}
			for c := range 256 {
				for d := range 256 {
					checkBytes(t, string([]byte{byte(a), byte(b), byte(c), byte(d)}))
				}
			}
		}
	}
	if _, e := object.GetTree(nil); e != api.ErrForm {
		t.Errorf("GetTree(nil): %d", e)
	}
	if _, e := object.GetCommit(nil); e != api.ErrForm {
		t.Errorf("GetCommit(nil): %d", e)
	}
}

// P15.2: bytes that would be read as what can't be, or that have another way to write a number, are none's.
func TestForms(t *testing.T) {
	root := nameText(full(1, 5))
	mixed := nameText(full(2, 5))
	for _, s := range []string{
		"\x00\x00", "\x02\x00", "\x04\x00", "\x81\x00\x00", "\x01\x80\x00", // other kinds, another way to write them
		"\x01\x05\x00\x00\x01a\x00\x01b\x00\x01c\x00\x01d\x00", "\x01\xff" + strings.Repeat("\x00", 600), // five pairs, and more
		"\x01\x02\x01a\x00\x01a\x00", "\x01\x02\x01b\x00\x01a\x00", // keys that don't rise
		"\x01\x01\x11" + fat(17) + "\x00", "\x01\x01\x00\x11" + fat(17), // too long
		"\x01\x01\x81\x00a\x00", "\x01\x01\x01a\x80\x00", // lengths that could be shorter
		"\x02\x01\x01a" + root, "\x02\x04\x00" + root + "\x01a" + root + "\x01b" + root + "\x01c" + root, // one kid, four
		"\x02\x02\x01a" + root + "\x01b" + mixed, "\x02\x02\x01a" + mixed + "\x01b" + root, // two hashes
		"\x02\x02\x01b" + root + "\x01a" + root, "\x02\x02\x01a" + root + "\x01a" + root,
		"\x02\x02\x11" + fat(17) + root + "\x01z" + root,
		"\x02\x02\x01a\x03" + root[1:] + "\x01b\x03" + root[1:], "\x02\x02\x01a\x01b", "\x02\x02\x01a\x00\x01b\x00", // no names
		"\x02\x02\x01a\x09" + root + "\x01b\x09" + root,                                                                                    // names as texts
		"\x03\x00" + root + "\x00\x00", "\x03\x00" + root + "\x00\x01", "\x03\x00" + root + "\x00\x03", "\x03\x00" + root + "\x00\x82\x10", // 0, -1, -2, 1025
		"\x03\x00" + root + "\x00\x82\x00", "\x03\x00" + root + "\x00\x82\x80\x00", "\x03\x00" + root + "\x80\x00\x02", // could be shorter
		"\x03\x00" + root + "\x00" + strings.Repeat("\xff", 9) + "\x01", "\x03\x00" + root + "\x00" + strings.Repeat("\xff", 12), // the greatest, and above
		"\x03\x00" + root + "\x21" + fat(33) + "\x02",
		"\x03\x03" + root + root + nameText(full(1, 6)) + nameText(full(1, 7)) + "\x00\x02",
		"\x03\x02" + root + root + root + "\x00\x02",
		"\x03\x01" + root + mixed + "\x00\x02", "\x03\x02" + root + root + mixed + "\x00\x02", "\x03\x01" + mixed + root + "\x00\x02",
		"\x03\x00\x00\x00\x02", "\x03\x01" + root + "\x00\x00\x02", "\x03\x00\x09" + root + "\x00\x02",
		"\x03\x00" + root + "\x00", "\x03\x00" + root, "\x03\x01" + root + "\x00\x02",
	} {
		if checkBytes(t, s) {
			t.Errorf("%.80x can be", s)
		}
		if _, e := object.GetTree([]byte(s)); e != api.ErrForm {
			t.Errorf("GetTree(%.80x): %d", s, e)
		}
		if _, e := object.GetCommit([]byte(s)); e != api.ErrForm {
			t.Errorf("GetCommit(%.80x): %d", s, e)
		}
	}
}

// P15.2: what can be and isn't the same has other bytes.
func TestBytesPart(t *testing.T) {
	rnd := rand.New(rand.NewSource(152))
	trees, commits := map[string]api.Tree{}, map[string]api.Commit{}
	for range 5000 {
		if x := someTree(rnd); treeCan(x) {
			b, _ := object.PutTree(x)
			if other, ok := trees[string(b)]; ok && !sameTree(x, other) {
				t.Fatalf("%x is %+v and %+v", b, x, other)
			}
			trees[string(b)] = x
		}
		if x := someCommit(rnd); commitCan(x) {
			b, _ := object.PutCommit(x)
			if other, ok := commits[string(b)]; ok && !sameCommit(x, other) {
				t.Fatalf("%x is %+v and %+v", b, x, other)
			}
			commits[string(b)] = x
		}
	}
	for s := range trees {
		if _, ok := commits[s]; ok {
			t.Errorf("%x is a tree's and a commit's", s)
		}
	}
}

// P15.3: the longest objects of each kind have no more than 160 bytes, as a store's value must.
func TestLongest(t *testing.T) {
	cases := []struct {
		b    string
		want int
	}{
		{treeBytes(pairsOf("a"+fat(15), fat(16), "b"+fat(15), fat(16), "c"+fat(15), fat(16), "d"+fat(15), fat(16))), 138},
		{treeBytes(kidsOf(api.Sha, "a"+fat(15), "b"+fat(15), "c"+fat(15))), 152},
		{commitBytes(commitOf(api.Sha, 1024, fat(32), "r", "a", "b")), 136},
	}
	for _, c := range cases {
		if !checkBytes(t, c.b) || len(c.b) != c.want || len(c.b) > api.MaxVal {
			t.Errorf("%x has %d bytes, want %d", c.b, len(c.b), c.want)
		}
	}
}

// P15.4: trees that are handed in aren't changed, spare room included, nor kept.
func TestTreesHandedIn(t *testing.T) {
	for _, kind := range kinds() {
		pairs := pairsOf("a", "1", "b", "2", "c", "3", "d", "4").Pairs
		kids := kidsOf(kind, "a", "b", "c", "d").Kids
		for _, x := range []api.Tree{{Pairs: pairs[:2]}, {Pairs: pairs}, {Kids: kids[:2]}, {Kids: kids}, {Pairs: pairs[:1], Kids: kids[:2]}} {
			b, e := object.PutTree(x)
			want := string(b)
			object.GoodTree(x)
			if !slices.Equal(pairs, pairsOf("a", "1", "b", "2", "c", "3", "d", "4").Pairs) || !slices.Equal(kids, kidsOf(kind, "a", "b", "c", "d").Kids) {
				t.Fatalf("PutTree(%+v) changed what was handed in", x)
			}
			if e != api.OK {
				continue
			}
			pairs[0].Val, kids[0].Id = "other", full(kind, 9)
			if string(b) != want {
				t.Error("the bytes of a tree changed with it")
			}
			pairs[0].Val, kids[0].Id = "1", name(kind, "a")
			scribble(b)
			if again, _ := object.PutTree(x); string(again) != want {
				t.Errorf("PutTree(%+v) = %x behind what the caller wrote, want %x", x, again, want)
			}
		}
	}
}

// scribble writes over bytes, spare room included.
func scribble(b []byte) {
	b = b[:cap(b)]
	for i := range b {
		b[i] ^= 0x55
	}
}

// P15.4: commits that are handed in aren't changed, spare room included, nor kept.
func TestCommitsHandedIn(t *testing.T) {
	for _, kind := range kinds() {
		parents := commitOf(kind, 1, "", "r", "a", "b", "c").Parents
		for n := range 4 {
			x := api.Commit{Root: name(kind, "r"), Parents: parents[:n], Note: "note", Num: 9}
			b, e := object.PutCommit(x)
			want := string(b)
			object.GoodCommit(x)
			if !slices.Equal(parents, commitOf(kind, 1, "", "r", "a", "b", "c").Parents) || len(x.Parents) != n {
				t.Fatalf("PutCommit of %d parents changed what was handed in", n)
			}
			if e != api.OK {
				continue
			}
			parents[0] = full(kind, 9)
			if string(b) != want {
				t.Error("the bytes of a commit changed with it")
			}
			parents[0] = name(kind, "a")
			scribble(b)
			if again, _ := object.PutCommit(x); string(again) != want {
				t.Errorf("PutCommit(%+v) = %x behind what the caller wrote, want %x", x, again, want)
			}
		}
	}
}

// P15.4: bytes that are handed in aren't changed, spare room included, nor kept, and what is read is new memory.
func TestBytesHandedIn(t *testing.T) {
	for _, s := range some() {
		room := append([]byte(s), strings.Repeat("\x09", 50)...)
		whole := bytes.Clone(room)
		b := room[:len(s)]
		x, e := object.GetTree(b)
		c, ce := object.GetCommit(b)
		if !bytes.Equal(room, whole) || (e == api.OK) == (ce == api.OK) {
			t.Fatalf("GetTree, GetCommit(%x): %d, %d, behind it %x", s, e, ce, room)
		}
		scribble(b)
		want, _ := readTree(s)
		wantCommit, _ := readCommit(s)
		if !sameTree(x, want) || !sameCommit(c, wantCommit) {
			t.Fatalf("what was read of %x changed with it", s)
		}
		copy(room, whole)
		for i := range x.Pairs {
			x.Pairs[i] = api.Pair{Key: "other", Val: "other"}
		}
		for i := range x.Kids {
			x.Kids[i] = api.Kid{Key: "other"}
		}
		for i := range c.Parents {
			c.Parents[i] = api.Id{}
		}
		x, _ = object.GetTree(b)
		c, _ = object.GetCommit(b)
		if !sameTree(x, want) || !sameCommit(c, wantCommit) || !bytes.Equal(room, whole) {
			t.Fatalf("what is read of %x changed with what was read", s)
		}
	}
}
