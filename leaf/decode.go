package leaf

import (
	"rootstock/api"
	"rootstock/code"
)

// mostKeys is how many keys a node has at most that is read.
const mostKeys = 512

// Decode: the node that a page begins with; ErrForm.
func Decode(b []byte) (api.Node, api.Errno) {
	r := code.Read(b)
	h := r.Uint()
	if h/2 > mostKeys {
		return api.Node{}, api.ErrForm
	}
	n := body(r, int(h/2), h%2 == 1)
	if !r.Good() || !Good(n) {
		return api.Node{}, api.ErrForm
	}
	return n, api.OK
}

// body answers what stands behind the number of keys, up to a fault.
func body(r *code.Reader, count int, leaf bool) api.Node {
	n := api.Node{Leaf: leaf}
	for range count {
		n.Keys = append(n.Keys, r.Text(api.MaxKey))
		if leaf {
			n.Vals = append(n.Vals, r.Text(api.MaxVal))
		}
	}
	if leaf {
		return n
	}
	for range count + 1 {
		// A great number doesn't fit an int; MaxPages, which does, is no kid either.
		n.Kids = append(n.Kids, int(min(r.Uint(), api.MaxPages)))
	}
	return n
}
