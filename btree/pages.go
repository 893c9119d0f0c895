package btree

import (
	"rootstock/api"
	"rootstock/leaf"
)

// node answers a page as it is by now; ErrForm, if no node of that kind is there.
func (d *draft) node(at int, isLeaf bool) (api.Node, api.Errno) {
	n, changed := d.nodes[at]
	if !changed {
		return d.tree.node(at, isLeaf)
	}
	if n.Leaf != isLeaf {
		return api.Node{}, api.ErrForm
	}
	return n, api.OK
}

// give gives a page back.
func (d *draft) give(at int) {
	delete(d.nodes, at)
	d.spare = append(d.spare, at)
}

// take answers a page for a new node: one that was given back, a free one, or a new one; ErrFull, if there are as many as may be.
func (d *draft) take() (int, api.Errno) {
	if end := len(d.spare) - 1; end >= 0 {
		at := d.spare[end]
		d.spare = d.spare[:end]
		return at, api.OK
	}
	if d.head.free > 0 {
		return d.unchain()
	}
	if d.count >= api.MaxPages {
		return 0, api.ErrFull
	}
	d.count++
	return d.count - 1, api.OK
}

// unchain answers the first free page, which the file has.
func (d *draft) unchain() (int, api.Errno) {
	at := d.head.free
	page, e := d.tree.pager.Read(at)
	if e != api.OK {
		return 0, e
	}
	next, ok := readFree(page)
	if !ok {
		return 0, api.ErrForm
	}
	d.head.free = next
	return at, api.OK
}

// commit writes what is changed; the tree is the draft then.
func (d *draft) commit() api.Errno {
	writes := map[int][]byte{}
	for at, n := range d.nodes {
		b, e := leaf.Encode(n)
		if e != api.OK {
			return api.ErrForm
		}
		writes[at] = b
	}
	for _, at := range d.spare {
		writes[at] = freeBytes(d.head.free)
		d.head.free = at
	}
	if d.head != d.tree.head {
		writes[0] = d.head.bytes()
	}
	if e := d.tree.pager.Commit(writes); e != api.OK {
		return e
	}
	d.tree.head = d.head
	return api.OK
}
