package btree

import (
	"rootstock/api"
	"rootstock/code"
)

// mostDepth bounds every way down: each page that is no leaf has two kids or more, so a longer one would take more than MaxPages.
const mostDepth = 12

// head is what page 0 tells: the root's page (0: nothing was ever written), the depth, and the first free page (0: none is), each of which tells the next.
type head struct{ root, depth, free int }

func (h head) bytes() []byte {
	return code.Int(code.Int(code.Int(nil, h.root), h.depth), h.free)
}

// readHead answers the head that a page begins with; false: it is none.
func readHead(page []byte) (head, bool) {
	r := code.Read(page)
	h := head{root: r.In(1, api.MaxPages-1), depth: r.In(1, mostDepth), free: r.In(0, api.MaxPages-1)}
	return h, r.Good()
}

// freeBytes are those of a free page, which tells the next one.
func freeBytes(next int) []byte { return code.Int(nil, next) }

// readFree answers the free page that comes behind one; false: that is none.
func readFree(page []byte) (int, bool) {
	r := code.Read(page)
	next := r.In(0, api.MaxPages-1)
	return next, r.Good()
}
