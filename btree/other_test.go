package btree

import (
	"math"
	"math/rand"
	"testing"

	"rootstock/api"
	"rootstock/disk"
	"rootstock/leaf"
)

// askAll has every call of a tree end, of a file that may be no tree's.
func askAll(rnd *rand.Rand, d *disk.Disk) {
	tree, e := Open(d, "t")
	if e != api.OK {
		return
	}
	for range 4 {
		tree.Get(randomKey(rnd))
		tree.Scan(randomKey(rnd), 9)
		tree.Scan("", math.MaxInt)
		var list []api.Write
		for range 1 + rnd.Intn(60) {
			list = append(list, api.Write{Key: randomKey(rnd), Val: string(make([]byte, rnd.Intn(161))), Gone: rnd.Intn(3) == 0})
		}
		tree.Apply(list...)
		tree.Depth()
		tree.Pages()
		if again, e := Open(d, "t"); e == api.OK {
			tree = again
		}
	}
}

func randomKey(rnd *rand.Rand) string {
	b := make([]byte, rnd.Intn(4))
	rnd.Read(b)
	return string(b)
}

// lay writes a file past the tree.
func lay(d *disk.Disk, pages [][]byte) {
	for i, b := range pages {
		d.Write("t", i, b)
	}
	d.Sync("t")
}

// randomNode answers a page of a node that can be, of any kids.
func randomNode(rnd *rand.Rand, count int) []byte {
	n := api.Node{Leaf: rnd.Intn(3) == 0}
	key := byte(0)
	for range rnd.Intn([]int{2, 5, 60}[rnd.Intn(3)]) {
		key += byte(1 + rnd.Intn(4))
		n.Keys = append(n.Keys, string([]byte{key}))
		if n.Leaf {
			n.Vals = append(n.Vals, string(make([]byte, rnd.Intn(7))))
		}
	}
	for range len(n.Keys) + 1 {
		if !n.Leaf {
			n.Kids = append(n.Kids, 1+rnd.Intn(count))
		}
	}
	b, _ := leaf.Encode(n)
	return b
}

// P8.1: over a file of any pages all calls end: of nodes that lead back to one another, too.
func TestNodesOfNoTree(t *testing.T) {
	for seed := range int64(2000) {
		rnd := rand.New(rand.NewSource(seed))
		count := 1 + rnd.Intn(12)
		pages := [][]byte{head{1 + rnd.Intn(count), 1 + rnd.Intn(mostDepth), rnd.Intn(count + 2)}.bytes()}
		for range count {
			pages = append(pages, randomNode(rnd, count))
		}
		d := disk.New([]int{20, 60, 400}[rnd.Intn(3)])
		lay(d, pages)
		askAll(rnd, d)
	}
}

// P8.1: bytes of any kind, none, and heads that can't be.
func TestBytesOfNoTree(t *testing.T) {
	for seed := range int64(500) {
		rnd := rand.New(rand.NewSource(seed))
		var pages [][]byte
		for range rnd.Intn(5) {
			b := make([]byte, rnd.Intn(api.PageSize+1))
			rnd.Read(b)
			for i := range b {
				b[i] %= byte(1 + rnd.Intn(255))
			}
			pages = append(pages, b)
		}
		d := disk.New(60)
		lay(d, pages)
		askAll(rnd, d)
	}
	for _, h := range []head{{}, {0, 1, 0}, {1, 0, 0}, {1, mostDepth + 1, 0}, {-1, 1, 0}, {1, -1, 0}, {1, 1, -1}, {api.MaxPages, 1, 0}, {1, 1, api.MaxPages}, {math.MaxInt, math.MaxInt, math.MaxInt}} {
		d := disk.New(9)
		lay(d, [][]byte{h.bytes(), {1}})
		if tree, e := Open(d, "t"); tree != nil || e != api.ErrForm {
			t.Errorf("%v: Open: %v, error %d", h, tree, e)
		}
	}
}

// P8.1: of a tree whose pages are turned, lost, or in each other's place, all calls end.
func TestPagesTurned(t *testing.T) {
	for seed := range int64(700) {
		rnd := rand.New(rand.NewSource(seed))
		d := disk.New(400)
		tree, _ := Open(d, "t")
		for range 3 {
			var list []api.Write
			for range 50 {
				list = append(list, api.Write{Key: randomKey(rnd), Val: string(make([]byte, rnd.Intn(161))), Gone: rnd.Intn(3) == 0})
			}
			if e := tree.Apply(list...); e != api.OK {
				t.Fatal(e)
			}
		}
		for range 1 + rnd.Intn(4) {
			i, j := rnd.Intn(tree.Pages()), rnd.Intn(tree.Pages())
			a, _ := d.Read("t", i)
			b, _ := d.Read("t", j)
			switch rnd.Intn(4) {
			case 0:
				d.Write("t", i, b)
				d.Write("t", j, a)
			case 1:
				d.Write("t", i, b)
			case 2:
				a[rnd.Intn(9)] ^= byte(1 + rnd.Intn(255))
				d.Write("t", i, a)
			case 3:
				d.Cut("t", max(i, 1))
			}
		}
		// The tree that is open, too: what it has read before isn't what it reads now.
		tree.Get(randomKey(rnd))
		tree.Scan("", math.MaxInt)
		tree.Apply(api.Write{Key: randomKey(rnd)}, api.Write{Key: randomKey(rnd), Gone: true})
		askAll(rnd, d)
	}
}

// P8.1: of what all calls answer beside an error there is nothing: where a page is no node, or isn't there.
func TestErrorOfNoNode(t *testing.T) {
	inner := []byte("\x02\x01m\x02\x03")
	cases := [][][]byte{
		{head{1, 1, 0}.bytes()},
		{head{1, 1, 0}.bytes(), {}},
		{head{1, 1, 0}.bytes(), inner, {1}, {1}},
		{head{1, 2, 0}.bytes(), {1}, {1}, {1}},
		{head{1, 2, 0}.bytes(), inner, inner, inner},
		{head{1, 3, 0}.bytes(), inner, {1}, inner},
		{head{1, 2, 0}.bytes(), inner},
	}
	for i, pages := range cases {
		d := disk.New(30)
		lay(d, pages)
		tree, e := Open(d, "t")
		if e != api.OK {
			t.Fatalf("case %d: Open: error %d", i, e)
		}
		if val, ok, e := tree.Get("a"); val != "" || ok || e == api.OK {
			t.Errorf("case %d: Get: %q, %t, %d", i, val, ok, e)
		}
		if list, e := tree.Scan("", 9); len(list) != 0 || e == api.OK {
			t.Errorf("case %d: Scan: %q, %d", i, list, e)
		}
		if e := tree.Apply(api.Write{Key: "a"}); e == api.OK {
			t.Errorf("case %d: Apply is OK", i)
		}
	}
}

// P8.1: behind ErrDown all calls of the tree that isn't opened anew end still.
func TestGoesOnBehindDown(t *testing.T) {
	for seed := range int64(150) {
		rnd := rand.New(rand.NewSource(seed))
		d := disk.New(100)
		tree, _ := Open(d, "t")
		for range 30 {
			d.Arm(1+rnd.Intn(40), rnd.Uint64())
			var list []api.Write
			for range 20 {
				list = append(list, api.Write{Key: randomKey(rnd), Val: string(make([]byte, rnd.Intn(161))), Gone: rnd.Intn(3) == 0})
			}
			tree.Apply(list...)
			tree.Get(randomKey(rnd))
			tree.Scan("", math.MaxInt)
			d.On()
		}
	}
}

// P8.1: a file of as many pages as may be has no new one, whether a new root is needed or not.
func TestMostPages(t *testing.T) {
	val := string(make([]byte, api.MaxVal))
	full, e := leaf.Encode(api.Node{Leaf: true, Keys: []string{"a", "b", "c"}, Vals: []string{val, val, val}})
	if e != api.OK {
		t.Fatal(e)
	}
	root, e := leaf.Encode(api.Node{Keys: []string{"d"}, Kids: []int{2, 3}})
	if e != api.OK {
		t.Fatal(e)
	}
	for depth, pages := range [][][]byte{1: {head{1, 1, 0}.bytes(), full}, 2: {head{1, 2, 0}.bytes(), root, full, {1}}} {
		if depth == 0 {
			continue
		}
		for len(pages) < api.MaxPages {
			pages = append(pages, nil)
		}
		d := disk.New(api.MaxPages)
		lay(d, pages)
		tree, _ := Open(d, "t")
		for _, key := range []string{"", "a1", "c1"} {
			if e := tree.Apply(api.Write{Key: key, Val: val}); e != api.ErrFull {
				t.Errorf("Depth %d, put %q: error %d", depth, key, e)
			}
		}
		if list, e := tree.Scan("", 9); len(list) != 3 || e != api.OK || tree.Depth() != depth || tree.Pages() != api.MaxPages {
			t.Errorf("Scan: %d pairs, error %d, Depth %d, Pages %d", len(list), e, tree.Depth(), tree.Pages())
		}
	}
}
