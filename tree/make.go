package tree

import (
	"slices"

	"rootstock/api"
	"rootstock/ident"
	"rootstock/object"
)

// maker makes a tree's objects by a hash, and keeps them in the order in which they are made.
type maker struct {
	kind byte
	made []api.Object
}

// add makes an object, and answers what an object above it has of it.
func (m *maker) add(least string, t api.Tree) api.Kid {
	// Of good pairs every object can be, so there is no error.
	data, _ := object.PutTree(t)
	id := ident.Of(m.kind, data)
	m.made = append(m.made, api.Object{Id: id, Data: string(data)})
	return api.Kid{Key: least, Id: id}
}

// parts makes the objects of the pairs.
func (m *maker) parts(pairs []api.Pair) []api.Kid {
	if len(pairs) == 0 {
		return []api.Kid{m.add("", api.Tree{})}
	}
	var row []api.Kid
	for part := range slices.Chunk(pairs, object.Wide) {
		row = append(row, m.add(part[0].Key, api.Tree{Pairs: part}))
	}
	return row
}

// together makes the objects above a row of at least two.
func (m *maker) together(kids []api.Kid) []api.Kid {
	var row []api.Kid
	for len(kids) > 0 {
		n := nextOf(len(kids))
		row = append(row, m.add(kids[0].Key, api.Tree{Kids: kids[:n]}))
		kids = kids[n:]
	}
	return row
}

// nextOf answers how many of those that are left are put together next.
func nextOf(left int) int {
	if left == object.Few+1 {
		// Three would leave one alone, and an object of one kid can't be.
		return left / 2
	}
	return min(left, object.Few)
}
