package btree

import (
	"slices"

	"rootstock/api"
	"rootstock/code"
)

// way answers which kid of an inner node a key stands below.
func way(n api.Node, key string) int {
	i, same := slices.BinarySearch(n.Keys, key)
	if same {
		i++
	}
	return i
}

// pairsFrom answers a leaf's pairs whose keys aren't below from.
func pairsFrom(n api.Node, from string) []api.Pair {
	var pairs []api.Pair
	i, _ := slices.BinarySearch(n.Keys, from)
	for ; i < len(n.Keys); i++ {
		pairs = append(pairs, api.Pair{Key: n.Keys[i], Val: n.Vals[i]})
	}
	return pairs
}

// written answers a leaf behind a write, and whether it is another one than before.
func written(n api.Node, w api.Write) (api.Node, bool) {
	i, has := slices.BinarySearch(n.Keys, w.Key)
	switch {
	case w.Gone && has:
		n.Keys = slices.Delete(n.Keys, i, i+1)
		n.Vals = slices.Delete(n.Vals, i, i+1)
	case !w.Gone && !has:
		n.Keys = slices.Insert(n.Keys, i, w.Key)
		n.Vals = slices.Insert(n.Vals, i, w.Val)
	case !w.Gone && n.Vals[i] != w.Val:
		n.Vals[i] = w.Val
	default:
		return n, false
	}
	return n, true
}

// joined answers one node of two neighbours; of inner ones, with the key between them.
func joined(left api.Node, key string, right api.Node) api.Node {
	n := api.Node{Leaf: left.Leaf}
	if n.Leaf {
		n.Keys = slices.Concat(left.Keys, right.Keys)
		n.Vals = slices.Concat(left.Vals, right.Vals)
		return n
	}
	n.Keys = slices.Concat(left.Keys, []string{key}, right.Keys)
	n.Kids = slices.Concat(left.Kids, right.Kids)
	return n
}

// parted answers two nodes of one, cut at a key, and the key between them: of an inner node that one itself, which is in neither then.
func parted(n api.Node, at int) (api.Node, string, api.Node) {
	left, right := api.Node{Leaf: n.Leaf}, api.Node{Leaf: n.Leaf}
	left.Keys, right.Keys = cut(n.Keys, at)
	if n.Leaf {
		left.Vals, right.Vals = cut(n.Vals, at)
		return left, between(left.Keys[at-1], right.Keys[0]), right
	}
	left.Kids, right.Kids = cut(n.Kids, at+1)
	key := right.Keys[0]
	right.Keys = right.Keys[1:]
	return left, key, right
}

// cut answers the two parts of a list; what is put behind the first one isn't in the other.
func cut[T any](list []T, at int) ([]T, []T) {
	return list[:at:at], list[at:]
}

// edge answers where a node is cut that a write of that key made too great. A leaf whose last or first key it is has it cut off alone, so that keys which come by rising or falling order fill their pages.
func edge(n api.Node, key string) int {
	end := len(n.Keys) - 1
	switch {
	case n.Leaf && n.Keys[end] == key:
		return end
	case n.Leaf && n.Keys[0] == key:
		return 1
	}
	return middle(n)
}

// middle answers the key at which a node is cut into parts of bytes as equal as can be.
func middle(n api.Node) int {
	total := 0
	for i := range n.Keys {
		total += entrySize(n, i)
	}
	at, left := 0, 0
	for i := range n.Keys {
		size := entrySize(n, i)
		if 2*left+size > total {
			break
		}
		at, left = i+1, left+size
	}
	return at
}

// entrySize answers how many bytes a key takes, with its value, or the kid behind it.
func entrySize(n api.Node, i int) int {
	if n.Leaf {
		return textSize(n.Keys[i]) + textSize(n.Vals[i])
	}
	return textSize(n.Keys[i]) + code.Size(uint64(n.Kids[i+1]))
}

func textSize(s string) int { return code.Size(uint64(len(s))) + len(s) }

// between answers the shortest key that parts two: above left, and not above right.
func between(left, right string) string {
	for i := range len(right) {
		if right[:i] > left {
			return right[:i]
		}
	}
	return right
}
