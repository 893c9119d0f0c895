package btree

import (
	"cmp"
	"maps"
	"slices"

	"rootstock/api"
	"rootstock/leaf"
)

// thin is how many bytes a page has at least, unless it fits together with neither neighbour.
const thin = api.PageSize / 2

// draft is a tree as an Apply makes it, until it is committed.
type draft struct {
	tree  *Tree
	head  head
	nodes map[int]api.Node // the pages that are changed; all others are as the file has them
	spare []int            // the pages that were given back
	count int              // how many pages there are, the new ones among them
}

// draft answers the tree as it is, with a root.
func (t *Tree) draft() *draft {
	// Page 0 is the head's, even if there is no page yet.
	d := &draft{tree: t, head: t.head, nodes: map[int]api.Node{}, count: max(t.pager.Count(), 1)}
	if d.head.root == 0 {
		d.head.root, d.head.depth = d.count, 1
		d.nodes[d.count] = api.Node{Leaf: true}
		d.count++
	}
	return d
}

// write does a write, and leaves a root that fits a page, and has a choice if it is no leaf.
func (d *draft) write(w api.Write) api.Errno {
	if e := d.below(d.head.root, d.head.depth, w); e != api.OK {
		return e
	}
	root := d.nodes[d.head.root]
	switch {
	case leaf.Size(root) > api.PageSize:
		return d.raise(w.Key)
	case len(root.Kids) == 1:
		d.give(d.head.root)
		d.head.root = root.Kids[0]
		d.head.depth--
	}
	return api.OK
}

// below does a write at a page, or below it; the page itself may have too many bytes then, or too few.
func (d *draft) below(at, level int, w api.Write) api.Errno {
	n, e := d.node(at, level == 1)
	if e != api.OK {
		return e
	}
	if n.Leaf {
		if n, changed := written(n, w); changed {
			d.nodes[at] = n
		}
		return api.OK
	}
	i := way(n, w.Key)
	if e := d.below(n.Kids[i], level-1, w); e != api.OK {
		return e
	}
	return d.mend(at, n, i, w.Key)
}

// mend has a kid of the node at a page fit there, behind a write of that key.
func (d *draft) mend(at int, n api.Node, i int, key string) api.Errno {
	kid, changed := d.nodes[n.Kids[i]]
	if !changed {
		return api.OK
	}
	switch size := leaf.Size(kid); {
	case size > api.PageSize:
		return d.part(at, n, i, key)
	case size < thin:
		return d.join(at, n, i)
	}
	return api.OK
}

// raise puts a root above one that has too many bytes.
func (d *draft) raise(key string) api.Errno {
	at, e := d.take()
	if e != api.OK {
		return e
	}
	n := api.Node{Kids: []int{d.head.root}}
	d.head.root = at
	d.head.depth++
	return d.part(at, n, 0, key)
}

// part makes two kids of one that has too many bytes.
func (d *draft) part(at int, n api.Node, i int, key string) api.Errno {
	fresh, e := d.take()
	if e != api.OK {
		return e
	}
	kid := d.nodes[n.Kids[i]]
	left, mid, right := parted(kid, edge(kid, key))
	d.nodes[n.Kids[i]], d.nodes[fresh] = left, right
	n.Keys = slices.Insert(n.Keys, i, mid)
	n.Kids = slices.Insert(n.Kids, i+1, fresh)
	d.nodes[at] = n
	return api.OK
}

// join makes one kid of a thin one and a neighbour, if both fit a page. If they don't, it stays, but an inner one without a choice gets some of the neighbour's kids.
func (d *draft) join(at int, n api.Node, i int) api.Errno {
	kid := d.nodes[n.Kids[i]]
	for j := max(i-1, 0); j <= min(i, len(n.Keys)-1); j++ {
		both, e := d.pair(n, j, kid.Leaf)
		if e != api.OK {
			return e
		}
		if leaf.Size(both) <= api.PageSize {
			d.nodes[n.Kids[j]] = both
			d.give(n.Kids[j+1])
			n.Keys = slices.Delete(n.Keys, j, j+1)
			n.Kids = slices.Delete(n.Kids, j+1, j+2)
			d.nodes[at] = n
			return api.OK
		}
	}
	// A node without a neighbour is of a file that no tree wrote.
	if len(kid.Keys) == 0 && len(n.Keys) > 0 {
		return d.share(at, n, max(i-1, 0))
	}
	return api.OK
}

// share cuts two neighbours anew, the j-th kid and the one behind it, of which one is inner and has no keys.
func (d *draft) share(at int, n api.Node, j int) api.Errno {
	both, e := d.pair(n, j, false)
	if e != api.OK {
		return e
	}
	d.nodes[n.Kids[j]], n.Keys[j], d.nodes[n.Kids[j+1]] = parted(both, middle(both))
	d.nodes[at] = n
	return api.OK
}

// pair answers the j-th kid and the one behind it as one node.
func (d *draft) pair(n api.Node, j int, isLeaf bool) (api.Node, api.Errno) {
	left, e := d.node(n.Kids[j], isLeaf)
	if e != api.OK {
		return api.Node{}, e
	}
	right, e := d.node(n.Kids[j+1], isLeaf)
	if e != api.OK {
		return api.Node{}, e
	}
	return joined(left, n.Keys[j], right), api.OK
}

// areLong answers whether writes are too many, or one has too many bytes.
func areLong(list []api.Write) bool {
	return len(list) > api.MaxBatch || slices.ContainsFunc(list, func(w api.Write) bool {
		return len(w.Key) > api.MaxKey || len(w.Val) > api.MaxVal
	})
}

// last answers of each key its last write, first those that take keys out: others have use for the pages that these give back.
func last(list []api.Write) []api.Write {
	writes := map[string]api.Write{}
	for _, w := range list {
		writes[w.Key] = w
	}
	return slices.SortedFunc(maps.Values(writes), func(a, b api.Write) int {
		if a.Gone != b.Gone {
			if a.Gone {
				return -1
			}
			return 1
		}
		return cmp.Compare(a.Key, b.Key)
	})
}
