package object

import (
	"rootstock/api"
	"rootstock/code"
	"rootstock/ident"
)

// goodPairs answers whether these can be a tree's Pairs.
func goodPairs(pairs []api.Pair) bool {
	if len(pairs) > Wide {
		return false
	}
	for i, p := range pairs {
		if len(p.Key) > api.MaxText || len(p.Val) > api.MaxText {
			return false
		}
		if i > 0 && pairs[i-1].Key >= p.Key {
			return false
		}
	}
	return true
}

// goodKids answers whether these can be a tree's Kids; none can't.
func goodKids(kids []api.Kid) bool {
	if len(kids) < leastKids || len(kids) > Few {
		return false
	}
	for i, k := range kids {
		if len(k.Key) > api.MaxText || !ident.Good(k.Id) || k.Id.Kind != kids[0].Id.Kind {
			return false
		}
		if i > 0 && kids[i-1].Key >= k.Key {
			return false
		}
	}
	return true
}

// goodParents answers whether these can be the Parents of a commit whose tree is named by such a hash.
func goodParents(parents []api.Id, kind byte) bool {
	if len(parents) > mostParents {
		return false
	}
	for i, id := range parents {
		if !ident.Good(id) || id.Kind != kind {
			return false
		}
		if i > 0 && parents[i-1] == id {
			return false
		}
	}
	return true
}

// putPairs answers the bytes of an object of pairs.
func putPairs(pairs []api.Pair) []byte {
	b := []byte{ofPairs, byte(len(pairs))}
	for _, p := range pairs {
		b = code.Text(code.Text(b, p.Key), p.Val)
	}
	return b
}

// putKids answers the bytes of an object of kids.
func putKids(kids []api.Kid) []byte {
	b := []byte{ofKids, byte(len(kids))}
	for _, k := range kids {
		b = append(code.Text(b, k.Key), ident.Text(k.Id)...)
	}
	return b
}

// getPairs reads pairs, as many as are told ahead of them.
func getPairs(r *code.Reader) []api.Pair {
	var pairs []api.Pair
	for range getByte(r) {
		key := r.Text(api.MaxText)
		pairs = append(pairs, api.Pair{Key: key, Val: r.Text(api.MaxText)})
	}
	return pairs
}

// getKids reads kids, as many as are told ahead of them.
func getKids(r *code.Reader) []api.Kid {
	var kids []api.Kid
	for range getByte(r) {
		key := r.Text(api.MaxText)
		kids = append(kids, api.Kid{Key: key, Id: getName(r)})
	}
	return kids
}

// getCommit reads what stands behind a commit's first byte.
func getCommit(r *code.Reader) api.Commit {
	count := getByte(r)
	c := api.Commit{Root: getName(r)}
	for range count {
		c.Parents = append(c.Parents, getName(r))
	}
	c.Note = r.Text(api.MaxNote)
	c.Num = r.In(1, api.MaxDag)
	return c
}

// getName reads a name, whose first byte tells how many follow; the zero one, if there is no such hash.
func getName(r *code.Reader) api.Id {
	kind := getByte(r)
	sum := r.Take(ident.Size(kind))
	id, _ := ident.Parse(string([]byte{kind}) + sum)
	return id
}

// getByte reads a byte as it is; 0, if there is none.
func getByte(r *code.Reader) byte {
	s := r.Take(1)
	if s == "" {
		return 0
	}
	return s[0]
}
