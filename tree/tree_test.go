package tree_test

import (
	"math/rand"
	"slices"
	"strings"
	"testing"

	"rootstock/api"
	"rootstock/tree"
)

// fat is a text of n bytes.
func fat(n int) string { return strings.Repeat("f", n) }

// pairsOf answers pairs of keys and values by turns.
func pairsOf(list ...string) []api.Pair {
	var pairs []api.Pair
	for i := 0; i < len(list); i += 2 {
		pairs = append(pairs, api.Pair{Key: list[i], Val: list[i+1]})
	}
	return pairs
}

// P16.1: keys rise, keys and values have at most 16 bytes, and there are at most 256 pairs.
func TestGood(t *testing.T) {
	for _, c := range []struct {
		pairs []api.Pair
		want  bool
	}{
		{nil, true},
		{[]api.Pair{}, true},
		{pairsOf("", ""), true},
		{pairsOf("a", "1"), true},
		{pairsOf("", "x", "a", "x"), true},
		{pairsOf("a", "1", "b", "1", "c", ""), true},
		{pairsOf("B", "", "a", ""), true},
		{pairsOf("a", "", "a\x00", ""), true},
		{pairsOf("10", "", "9", ""), true},
		{pairsOf("\x7f", "", "\x80", "", "\xff", ""), true},
		{pairsOf("a", "1", "a", "2"), false},
		{pairsOf("", "", "", ""), false},
		{pairsOf("b", "", "a", ""), false},
		{pairsOf("a", "", "B", ""), false},
		{pairsOf("a", "", "c", "", "b", ""), false},
		{pairsOf("a", "", "b", "", "c", "", "d", "", "d", ""), false},
		{pairsOf("b", "", "c", "", "d", "", "e", "", "a", ""), false},
		{pairsOf(fat(16), fat(16)), true},
		{pairsOf(fat(17), ""), false},
		{pairsOf("a", fat(17)), false},
		{pairsOf("a", "", fat(17), ""), false},
		{pairsOf("a", "", "b", "", "c", "", "d", "", "e", fat(17)), false},
		{pairsOf("a", fat(1000)), false},
		{pairsTo(255), true},
		{pairsTo(256), true},
		{pairsTo(257), false},
		{pairsTo(1000), false},
	} {
		if got := tree.Good(c.pairs); got != c.want || cans(c.pairs) != c.want {
			t.Errorf("Good(%q) = %t", c.pairs, got)
		}
	}
}

// P16.1: Good says of lists turned in one place what the words say.
func TestGoodTurned(t *testing.T) {
	r := rand.New(rand.NewSource(1))
	for range 3000 {
		pairs := somePairs(r, 1+r.Intn(20))
		p := &pairs[r.Intn(len(pairs))]
		switch r.Intn(4) {
		case 0:
			p.Key += fat(r.Intn(17))
		case 1:
			p.Val += fat(r.Intn(17))
		case 2:
			p.Key = pairs[r.Intn(len(pairs))].Key
		}
		if got := tree.Good(pairs); got != cans(pairs) {
			t.Fatalf("Good(%q) = %t", pairs, got)
		}
	}
}

// P16.1: the chapter's example, and other trees, byte by byte, in the order in which they are made.
func TestBuildByHand(t *testing.T) {
	none, e := "\x01\x00", api.OK
	five := pairsOf("a", "1", "b", "", "c", "3", "d", "4", "e", "5")
	low, last := "\x01\x04\x01a\x011\x01b\x00\x01c\x013\x01d\x014", "\x01\x01\x01e\x015"
	for _, kind := range kinds() {
		var objects []api.Object
		var id api.Id
		hold := func(want ...string) {
			t.Helper()
			var have []api.Object
			for _, s := range want {
				have = append(have, api.Object{Id: name(kind, s), Data: s})
			}
			if e != api.OK || id != have[len(have)-1].Id || !slices.Equal(objects, have) {
				t.Errorf("hash %d: %x, %q, %d, want %q", kind, id, objects, e, have)
			}
		}
		id, objects, e = tree.Build(kind)
		hold(none)
		id, objects, e = tree.Build(kind, []api.Pair{}...)
		hold(none)
		id, objects, e = tree.Build(kind, five[4:]...)
		hold(last)
		id, objects, e = tree.Build(kind, five[:4]...)
		hold(low)
		id, objects, e = tree.Build(kind, five...)
		hold(low, last, "\x02\x02\x01a"+nameText(name(kind, low))+"\x01e"+nameText(name(kind, last)))
	}
}

// shape answers how many pairs each object has, or how many kids and a hundred.
func shape(list []api.Object) []int {
	var counts []int
	for _, o := range list {
		counts = append(counts, int(o.Data[1])+100*int(o.Data[0]-1))
	}
	return counts
}

// P16.1: pairs go four by four; objects three by three, but four left as two and two, and two as these two.
func TestShapes(t *testing.T) {
	fours := func(n int) []int { return slices.Repeat([]int{4}, n) }
	for _, c := range []struct {
		count int
		want  []int
	}{
		{0, []int{0}},
		{1, []int{1}},
		{3, []int{3}},
		{4, []int{4}},
		{5, []int{4, 1, 102}},
		{8, []int{4, 4, 102}},
		{9, []int{4, 4, 1, 103}},
		{12, []int{4, 4, 4, 103}},
		{13, []int{4, 4, 4, 1, 102, 102, 102}},
		{16, []int{4, 4, 4, 4, 102, 102, 102}},
		{17, []int{4, 4, 4, 4, 1, 103, 102, 102}},
		{24, append(fours(6), 103, 103, 102)},
		{28, append(fours(7), 103, 102, 102, 103)},
		{32, append(fours(8), 103, 103, 102, 103)},
		{36, append(fours(9), 103, 103, 103, 103)},
		{40, append(fours(10), 103, 103, 102, 102, 102, 102, 102)},
		{256, append(fours(64), append(slices.Repeat([]int{103}, 20), 102, 102, 103, 103, 103, 103, 103, 103, 102, 102, 103, 103, 102, 103)...)},
	} {
		_, list, e := tree.Build(api.Fnv, pairsTo(c.count)...)
		if got := shape(list); e != api.OK || !slices.Equal(got, c.want) {
			t.Errorf("%d pairs: %d, %d, want %d", c.count, got, e, c.want)
		}
	}
}

// P16.1, P16.2: of every number of pairs the objects are the model's; all pairs are found, and are all.
func TestEveryCount(t *testing.T) {
	r := rand.New(rand.NewSource(2))
	for _, kind := range kinds() {
		for n := range 257 {
			checkBuild(t, kind, pairsTo(n))
			checkBuild(t, kind, somePairs(r, n))
		}
	}
}

// checkBuild holds a tree that is built against the model, and finds its pairs, and what lies about them.
func checkBuild(t *testing.T, kind byte, pairs []api.Pair) {
	t.Helper()
	want := madeOf(kind, pairs)
	root, list, e := tree.Build(kind, pairs...)
	if e != api.OK || !slices.Equal(list, want) || root != want[len(want)-1].Id {
		t.Fatalf("Build(%d) of %d pairs = %x, %q, %d, want %q", kind, len(pairs), root, list, e, want)
	}
	p := tree.NewPool()
	p.Put(list...)
	if p.Size() != len(list) {
		t.Fatalf("%d objects, %d in the pool", len(list), p.Size())
	}
	if all, e := tree.All(p, root); e != api.OK || !slices.Equal(all, pairs) {
		t.Fatalf("All = %q, %d, want %q", all, e, pairs)
	}
	for _, p2 := range pairs {
		if val, has, e := tree.Find(p, root, p2.Key); val != p2.Val || !has || e != api.OK {
			t.Fatalf("Find(%q) = %q, %t, %d, want %q", p2.Key, val, has, e, p2.Val)
		}
		for _, k := range []string{p2.Key + "\x00", p2.Key[:max(len(p2.Key)-1, 0)], p2.Key + fat(20)} {
			val, has, e := tree.Find(p, root, k)
			at, ok := slices.BinarySearchFunc(pairs, k, func(p api.Pair, k string) int { return strings.Compare(p.Key, k) })
			if has != ok || e != api.OK || ok && val != pairs[at].Val || !ok && val != "" {
				t.Fatalf("Find(%q) = %q, %t, %d", k, val, has, e)
			}
		}
	}
	for _, k := range []string{"", "\xff\xff", fat(1000)} {
		at := slices.IndexFunc(pairs, func(p api.Pair) bool { return p.Key == k })
		if val, has, e := tree.Find(p, root, k); has != (at >= 0) || e != api.OK || !has && val != "" {
			t.Fatalf("Find(%q) = %q, %t, %d", k, val, has, e)
		}
	}
}

// P16.1: a hash that isn't there is told ahead of too many pairs, and these ahead of pairs that can't be.
func TestBuildRefuses(t *testing.T) {
	worse := append(pairsTo(257), api.Pair{Key: "a", Val: fat(17)})
	bad := slices.Clone(pairsTo(256))
	bad[255].Key = bad[254].Key
	for _, c := range []struct {
		kind  byte
		pairs []api.Pair
		want  api.Errno
	}{
		{0, nil, api.ErrArg}, {3, nil, api.ErrArg}, {4, pairsTo(5), api.ErrArg}, {255, pairsTo(1), api.ErrArg},
		{0, pairsTo(257), api.ErrArg}, {3, worse, api.ErrArg}, {128, bad, api.ErrArg},
		{1, pairsTo(257), api.ErrLong}, {2, pairsTo(257), api.ErrLong}, {1, worse, api.ErrLong}, {2, worse, api.ErrLong},
		{1, make([]api.Pair, 257), api.ErrLong}, {2, pairsTo(1000), api.ErrLong},
		{1, bad, api.ErrArg}, {2, bad, api.ErrArg}, {1, make([]api.Pair, 256), api.ErrArg}, {1, make([]api.Pair, 2), api.ErrArg},
		{1, pairsOf("b", "", "a", ""), api.ErrArg}, {2, pairsOf("a", "", "a", ""), api.ErrArg},
		{1, pairsOf(fat(17), ""), api.ErrArg}, {2, pairsOf("a", fat(17)), api.ErrArg},
		{1, pairsOf("a", "", "b", "", "c", "", "d", "", "e", fat(17)), api.ErrArg},
		{2, pairsOf("a", "", "b", "", "c", "", "d", "", fat(17), ""), api.ErrArg},
		{1, pairsOf("a", "", "b", "", "c", "", "e", "", "d", ""), api.ErrArg},
	} {
		id, list, e := tree.Build(c.kind, c.pairs...)
		if id != (api.Id{}) || list != nil || e != c.want {
			t.Errorf("Build(%d) of %d pairs = %x, %q, %d, want %d", c.kind, len(c.pairs), id, list, e, c.want)
		}
	}
	for kind := range 256 {
		_, _, e := tree.Build(byte(kind), pairsTo(3)...)
		if (e == api.OK) != (kind == 1 || kind == 2) {
			t.Errorf("Build(%d) = %d", kind, e)
		}
	}
}

// P16.2: two lists have one name just if they are the same.
func TestOneWay(t *testing.T) {
	r := rand.New(rand.NewSource(3))
	for _, kind := range kinds() {
		names := map[api.Id][]api.Pair{}
		for range 1500 {
			pairs := somePairs(r, r.Intn(20))
			for range 2 {
				root, _, e := tree.Build(kind, pairs...)
				if e != api.OK {
					t.Fatal(e)
				}
				if old, ok := names[root]; ok && !slices.Equal(old, pairs) {
					t.Fatalf("%q and %q have one name", old, pairs)
				}
				names[root] = slices.Clone(pairs)
				again, _, _ := tree.Build(kind, slices.Clone(pairs)...)
				if again != root {
					t.Fatalf("%q has two names", pairs)
				}
				if len(pairs) > 0 {
					at := r.Intn(len(pairs))
					pairs[at].Val = someText(r)
				}
			}
		}
		for n := range 257 {
			root, _, _ := tree.Build(kind, pairsTo(n)...)
			if old, ok := names[root]; ok && !slices.Equal(old, pairsTo(n)) {
				t.Fatalf("%q and %d pairs have one name", old, n)
			}
			names[root] = pairsTo(n)
		}
	}
}

// P16.3: what is handed in isn't changed, spare room included, nor kept; answers share nothing.
func TestNewMemory(t *testing.T) {
	for _, n := range []int{1, 4, 5, 13, 256} {
		room := append(pairsTo(n), api.Pair{Key: "spare", Val: "room"}, api.Pair{Key: "more"})
		pairs, before := room[:n], slices.Clone(room)
		if tree.Good(pairs) != true {
			t.Error("not good")
		}
		root, list, _ := tree.Build(api.Sha, pairs...)
		if !slices.Equal(room, before) {
			t.Fatalf("%q, want %q", room, before)
		}
		want := slices.Clone(list)
		roomy := append(slices.Clone(list), api.Object{Data: "spare"})
		p := tree.NewPool()
		p.Put(roomy[:len(list)]...)
		if !slices.Equal(roomy[:len(list)], want) || roomy[len(list)].Data != "spare" || p.Size() != len(list) {
			t.Fatal("Put changes what is handed in")
		}
		clear(roomy)
		clear(pairs)
		if !slices.Equal(list, want) {
			t.Fatal("Build keeps what is handed in")
		}
		for range 2 {
			all, e := tree.All(p, root)
			if e != api.OK || !slices.Equal(all, before[:n]) {
				t.Fatalf("All = %q, %d, want %q", all, e, before[:n])
			}
			clear(all[:cap(all)])
		}
		_, second, _ := tree.Build(api.Sha, before[:n]...)
		clear(list[:cap(list)])
		if !slices.Equal(second, want) {
			t.Fatal("two answers share memory")
		}
	}
}
