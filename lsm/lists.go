package lsm

import (
	"slices"
	"strings"

	"rootstock/api"
)

// lists answers the tables' writes and memory's, an elder list ahead of a younger one; none of a nil tree.
func (t *Tree) lists() [][]api.Write {
	if t == nil {
		return nil
	}
	return append(slices.Clone(t.tables), t.memory)
}

// place answers where a key's write stands in a list, or would; false: it has none.
func place(list []api.Write, key string) (int, bool) {
	return slices.BinarySearchFunc(list, key, func(w api.Write, key string) int { return strings.Compare(w.Key, key) })
}

// next takes the least key's writes off the beginnings of all lists, and answers the youngest of them; false: nothing is left.
func next(rests [][]api.Write) (api.Write, bool) {
	var least api.Write
	found := false
	for _, list := range rests {
		// A younger list's write of the same key takes an elder one's place.
		if len(list) > 0 && (!found || list[0].Key <= least.Key) {
			least, found = list[0], true
		}
	}
	for i, list := range rests {
		if found && len(list) > 0 && list[0].Key == least.Key {
			rests[i] = list[1:]
		}
	}
	return least, found
}
