package tree

import (
	"rootstock/api"
	"rootstock/ident"
	"rootstock/object"
)

// read answers the tree's object of a name.
func read(s Source, id api.Id) (api.Tree, api.Errno) {
	if s == nil {
		return api.Tree{}, api.ErrNil
	}
	data, e := s.Object(id)
	if e != api.OK {
		return api.Tree{}, e
	}
	b := []byte(data)
	if ident.Size(id.Kind) == 0 || ident.Of(id.Kind, b) != id {
		return api.Tree{}, api.ErrSum
	}
	return object.GetTree(b)
}

// wayTo answers the name of the object in which a key is, if it is in any.
func wayTo(kids []api.Kid, key string) api.Id {
	id := kids[0].Id
	for _, k := range kids[1:] {
		if k.Key <= key {
			id = k.Id
		}
	}
	return id
}

// valueOf answers a key's value.
func valueOf(pairs []api.Pair, key string) (string, bool) {
	for _, p := range pairs {
		if p.Key == key {
			return p.Val, true
		}
	}
	return "", false
}

// walk goes over all objects of a tree, depth first, and has the pairs of those that it read.
type walk struct {
	source Source
	pairs  []api.Pair
}

// object reads the object of a name, which lies so deep, and all those that lie below it.
func (w *walk) object(id api.Id, depth int) api.Errno {
	if depth > deepest {
		return api.ErrForm
	}
	t, e := read(w.source, id)
	if e != api.OK {
		return e
	}
	w.pairs = append(w.pairs, t.Pairs...)
	for _, k := range t.Kids {
		if e := w.kid(k, depth+1); e != api.OK {
			return e
		}
	}
	return api.OK
}

// kid reads all of a kid, and holds its pairs against what is said of it.
func (w *walk) kid(k api.Kid, depth int) api.Errno {
	first := len(w.pairs)
	if e := w.object(k.Id, depth); e != api.OK {
		return e
	}
	// What is too much is told at each kid's end, so that no tree is read on and on.
	if len(w.pairs) == first || w.pairs[first].Key != k.Key || len(w.pairs) > api.MaxKeys {
		return api.ErrForm
	}
	return api.OK
}
