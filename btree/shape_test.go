package btree

import (
	"fmt"
	"math/rand"
	"slices"
	"strings"
	"testing"

	"rootstock/api"
	"rootstock/disk"
	"rootstock/leaf"
)

// shape is what is seen of a tree's pages: each one's use, and how many bytes the leaves have.
type shape struct {
	t     *testing.T
	tree  *Tree
	use   map[int]string
	pairs int
	bytes int
	leafs int
}

// claim fails if a page is used twice, or isn't there.
func (s *shape) claim(at int, use string) {
	if s.use[at] != "" || at < 0 || at >= s.tree.Pages() {
		s.t.Fatalf("page %d of %d is %s, and was %q", at, s.tree.Pages(), use, s.use[at])
	}
	s.use[at] = use
}

// walk looks at a page whose keys are from lo on, and below hi, if there is any.
func (s *shape) walk(at, level int, lo string, hi *string) {
	s.claim(at, "a node")
	n, e := s.tree.node(at, level == 1)
	if e != api.OK || leaf.Size(n) > api.PageSize || leaf.Size(n) < 0 {
		s.t.Fatalf("page %d, level %d: error %d, size %d", at, level, e, leaf.Size(n))
	}
	if len(n.Keys) == 0 && (at != s.tree.head.root || !n.Leaf) {
		s.t.Fatalf("page %d, level %d has no keys", at, level)
	}
	for _, key := range n.Keys {
		if key < lo || hi != nil && key >= *hi {
			s.t.Fatalf("page %d: key %q isn't from %q on and below %v", at, key, lo, hi)
		}
	}
	if n.Leaf {
		s.pairs += len(n.Keys)
		s.bytes += leaf.Size(n)
		s.leafs++
		return
	}
	for i, kid := range n.Kids {
		from, to := lo, hi
		if i > 0 {
			from = n.Keys[i-1]
		}
		if i < len(n.Keys) {
			to = &n.Keys[i]
		}
		s.walk(kid, level-1, from, to)
	}
}

// wantShape fails if a tree's pages aren't the head, nodes as they must be, and free ones, each just once.
func wantShape(t *testing.T, tree *Tree) *shape {
	t.Helper()
	s := &shape{t: t, tree: tree, use: map[int]string{}}
	if tree.head.root == 0 {
		return s
	}
	s.claim(0, "the head")
	s.walk(tree.head.root, tree.head.depth, "", nil)
	for at := tree.head.free; at != 0; {
		s.claim(at, "free")
		page, e := tree.pager.Read(at)
		next, ok := readFree(page)
		if e != api.OK || !ok {
			t.Fatalf("free page %d: error %d", at, e)
		}
		at = next
	}
	if len(s.use) != tree.Pages() {
		t.Fatalf("%d of %d pages are in use or free", len(s.use), tree.Pages())
	}
	// Each page that is no leaf has two kids, and each leaf a pair.
	if s.pairs > 0 && 1<<(tree.Depth()-1) > s.pairs || s.pairs == 0 && tree.Depth() != 1 {
		t.Fatalf("Depth %d of %d pairs", tree.Depth(), s.pairs)
	}
	page, e := tree.pager.Read(0)
	if h, ok := readHead(page); h != tree.head || !ok || e != api.OK {
		t.Fatalf("page 0 tells %v, the tree %v", h, tree.head)
	}
	return s
}

// P8.1, P8.3: behind any writes each page is a node that can be, reached once, or free.
func TestShape(t *testing.T) {
	for seed := range int64(40) {
		rnd := rand.New(rand.NewSource(seed))
		tree, e := Open(disk.New([]int{20, 200, api.MaxPages}[rnd.Intn(3)]), "t")
		if e != api.OK {
			t.Fatal(e)
		}
		keys, vals := 1+rnd.Intn(2000), []int{1, 20, 161}[rnd.Intn(3)]
		goneOf10 := 0
		for i := range 60 {
			if i%20 == 0 {
				goneOf10 = []int{1, 9, 4}[(i/20+int(seed))%3]
			}
			var list []api.Write
			for range 1 + rnd.Intn(40) {
				k := rnd.Intn(keys)
				list = append(list, api.Write{
					Key:  fmt.Sprintf("%s%d", strings.Repeat("x", k*k%44), k),
					Val:  strings.Repeat("v", rnd.Intn(vals)),
					Gone: rnd.Intn(10) < goneOf10,
				})
			}
			if e := tree.Apply(list...); e != api.OK && e != api.ErrFull {
				t.Fatalf("seed %d, step %d: error %d", seed, i, e)
			}
			wantShape(t, tree)
		}
	}
}

// P8.1: pages aren't wasted: of small pairs that come in any order most of each page is in use, and of keys that rise or fall nearly all.
func TestPagesAreFilled(t *testing.T) {
	orders := []struct {
		name  string
		at    func(i int) int
		least int // of a hundred
	}{
		{"rising", func(i int) int { return i }, 90},
		{"falling", func(i int) int { return 1000 - i }, 90},
		{"mixed", func(i int) int { return i * 389 % 1000 }, 55},
	}
	for _, o := range orders {
		tree, _ := Open(disk.New(1000), "t")
		for i := range 1000 {
			if e := tree.Apply(api.Write{Key: fmt.Sprintf("key%04d", o.at(i)), Val: "some value"}); e != api.OK {
				t.Fatal(e)
			}
		}
		s := wantShape(t, tree)
		if full := 100 * s.bytes / (s.leafs * api.PageSize); full < o.least {
			t.Errorf("%s: leaves are full by %d of a hundred", o.name, full)
		}
		for i := range 1000 {
			if i%10 > 0 {
				if e := tree.Apply(api.Write{Key: fmt.Sprintf("key%04d", o.at(i)), Gone: true}); e != api.OK {
					t.Fatal(e)
				}
			}
		}
		s = wantShape(t, tree)
		if full := 100 * s.bytes / (s.leafs * api.PageSize); full < 40 {
			t.Errorf("%s, thinned out: leaves are full by %d of a hundred", o.name, full)
		}
	}
}

// longKey answers one of rising keys of as many bytes as may be.
func longKey(i int) string { return fmt.Sprintf("%04d%s", i, strings.Repeat("k", api.MaxKey-4)) }

// laidOut answers a tree of two inner nodes, of so many leaves of one pair each, by rising keys from 0 on.
func laidOut(t *testing.T, counts [2]int) *Tree {
	t.Helper()
	pages := [][]byte{head{1, 3, 0}.bytes(), nil, nil, nil}
	node := func(n api.Node) []byte {
		b, e := leaf.Encode(n)
		if e != api.OK {
			t.Fatalf("%v: error %d", n, e)
		}
		return b
	}
	key := 0
	for k, count := range counts {
		n := api.Node{}
		for i := range count {
			if i > 0 {
				n.Keys = append(n.Keys, longKey(key))
			}
			n.Kids = append(n.Kids, len(pages))
			pages = append(pages, node(api.Node{Leaf: true, Keys: []string{longKey(key)}, Vals: []string{"1"}}))
			key++
		}
		pages[2+k] = node(n)
	}
	pages[1] = node(api.Node{Keys: []string{longKey(counts[0])}, Kids: []int{2, 3}})
	d := disk.New(100)
	lay(d, pages)
	tree, e := Open(d, "t")
	if e != api.OK {
		t.Fatalf("Open: error %d", e)
	}
	if s := wantShape(t, tree); s.pairs != counts[0]+counts[1] {
		t.Fatalf("%d pairs", s.pairs)
	}
	return tree
}

// P8.1, P8.3: an inner node that is left with one kid gets some of its neighbour's, or goes into it, if both fit a page.
func TestOneKidLeft(t *testing.T) {
	cases := []struct {
		counts [2]int
		out    int // which pair is taken out
		depth  int
	}{
		{[2]int{2, 11}, 0, 3}, {[2]int{2, 11}, 1, 3}, {[2]int{11, 2}, 11, 3}, {[2]int{11, 2}, 12, 3},
		{[2]int{2, 10}, 0, 2}, {[2]int{2, 10}, 1, 2}, {[2]int{10, 2}, 10, 2}, {[2]int{10, 2}, 11, 2},
	}
	for _, c := range cases {
		tree := laidOut(t, c.counts)
		if e := tree.Apply(api.Write{Key: longKey(c.out), Gone: true}); e != api.OK {
			t.Fatalf("%v: error %d", c, e)
		}
		if s := wantShape(t, tree); s.pairs != c.counts[0]+c.counts[1]-1 || tree.Depth() != c.depth {
			t.Errorf("%v: %d pairs, Depth %d", c, s.pairs, tree.Depth())
		}
		root, e := tree.node(tree.head.root, false)
		for _, kid := range root.Kids {
			if n, e := tree.node(kid, false); c.depth == 3 && (len(n.Keys) < 4 || e != api.OK) {
				t.Errorf("%v: an inner node has %d keys, error %d", c, len(n.Keys), e)
			}
		}
		if e != api.OK || c.depth == 3 && len(root.Kids) != 2 {
			t.Errorf("%v: the root has %d kids, error %d", c, len(root.Kids), e)
		}
		for i := range c.counts[0] + c.counts[1] {
			if val, ok, e := tree.Get(longKey(i)); ok != (i != c.out) || ok != (val == "1") || e != api.OK {
				t.Errorf("%v: Get of pair %d: %q, %t, %d", c, i, val, ok, e)
			}
		}
	}
}

// P8.1, P8.3: pairs of the longest keys that part leaves are taken out from either end, until there is none.
func TestTakenOut(t *testing.T) {
	for _, back := range []bool{false, true} {
		tree, _ := Open(disk.New(api.MaxPages), "t")
		var keys []string
		for i := range 600 {
			keys = append(keys, strings.Repeat("k", 44)+fmt.Sprintf("%04d", i*7%600))
			if e := tree.Apply(api.Write{Key: keys[i], Val: strings.Repeat("v", 160)}); e != api.OK {
				t.Fatal(e)
			}
			wantShape(t, tree)
		}
		slices.Sort(keys)
		if back {
			slices.Reverse(keys)
		}
		for _, key := range keys {
			if e := tree.Apply(api.Write{Key: key, Gone: true}); e != api.OK {
				t.Fatal(e)
			}
			wantShape(t, tree)
		}
	}
}

// randomLeaf answers a leaf of more than a page, as one write can leave it.
func randomLeaf(rnd *rand.Rand) api.Node {
	n := api.Node{Leaf: true}
	long := rnd.Intn(4)
	for leaf.Size(n) <= api.PageSize {
		n.Keys = append(n.Keys, fmt.Sprintf("%03d%s", len(n.Keys), strings.Repeat("k", rnd.Intn(46))))
		size := rnd.Intn(161)
		if rnd.Intn(4) < long {
			size %= 5
		}
		n.Vals = append(n.Vals, strings.Repeat("v", size))
	}
	return n
}

// P8.1: both parts of a node that got too great are nodes that fit a page, and are that node when they are joined.
func TestParted(t *testing.T) {
	for seed := range int64(3000) {
		rnd := rand.New(rand.NewSource(seed))
		n := randomLeaf(rnd)
		if seed%2 == 0 {
			n = api.Node{Kids: []int{1}}
			for leaf.Size(n) <= api.PageSize {
				n.Keys = append(n.Keys, fmt.Sprintf("%03d%s", len(n.Keys), strings.Repeat("k", rnd.Intn(46))))
				n.Kids = append(n.Kids, 1+rnd.Intn(api.MaxPages-1))
			}
		}
		whole := joined(n, "", api.Node{Leaf: n.Leaf, Kids: nil})
		if !n.Leaf {
			whole = n
		}
		key := n.Keys[rnd.Intn(len(n.Keys))]
		if seed%3 == 0 {
			key = n.Keys[[]int{0, len(n.Keys) - 1}[rnd.Intn(2)]]
		}
		left, mid, right := parted(n, middle(n))
		if at := edge(n, key); at == 1 && n.Keys[0] == key || at == len(n.Keys)-1 && n.Keys[at] == key {
			// The part without that key is as great as the node was without it.
			left, mid, right = parted(n, at)
		} else if max(leaf.Size(left), leaf.Size(right)) > api.PageSize {
			t.Fatalf("seed %d: parts of %d and %d bytes", seed, leaf.Size(left), leaf.Size(right))
		}
		if len(left.Keys) == 0 || len(right.Keys) == 0 || left.Keys[len(left.Keys)-1] >= mid || right.Keys[0] < mid {
			t.Fatalf("seed %d: %q, %q, %q", seed, left.Keys, mid, right.Keys)
		}
		// What is put behind the left part isn't in the right one.
		wasKeys, wasVals, wasKids := slices.Clone(right.Keys), slices.Clone(right.Vals), slices.Clone(right.Kids)
		_, _, _ = append(left.Keys, "x"), append(left.Vals, "x"), append(left.Kids, 9)
		if !slices.Equal(right.Keys, wasKeys) || !slices.Equal(right.Vals, wasVals) || !slices.Equal(right.Kids, wasKids) {
			t.Fatalf("seed %d: the right part is changed", seed)
		}
		both := joined(left, mid, right)
		if !slices.Equal(both.Keys, whole.Keys) || !slices.Equal(both.Vals, whole.Vals) || !slices.Equal(both.Kids, whole.Kids) || both.Leaf != n.Leaf {
			t.Fatalf("seed %d: joined they are %v", seed, both)
		}
	}
}

// P8.1: the key between two is the shortest that is above the one, and not above the other.
func TestBetween(t *testing.T) {
	cases := [][3]string{
		{"", "\x00", "\x00"}, {"", "abc", "a"}, {"a", "b", "b"}, {"a", "bcd", "b"}, {"abc", "abd", "abd"}, {"abc", "abdef", "abd"},
		{"ab", "abc", "abc"}, {"ab", "ab\x00\x00", "ab\x00"}, {"a\xff", "b", "b"}, {"az", "b", "b"},
	}
	for _, c := range cases {
		if got := between(c[0], c[1]); got != c[2] {
			t.Errorf("between(%q, %q) = %q, want %q", c[0], c[1], got, c[2])
		}
	}
}
