package leaf_test

import (
	"encoding/binary"
	"fmt"
	"slices"
	"strings"
	"testing"

	"rootstock/api"
	"rootstock/leaf"
)

// number answers a number's bytes as layer 1 has them.
func number(n uint64) string { return string(binary.AppendUvarint(nil, n)) }

// text answers a text's bytes as layer 1 has them.
func text(s string) string { return number(uint64(len(s))) + s }

// model answers a node's bytes by the chapter's words, whether it can be or not.
func model(n api.Node) string {
	count := 2 * len(n.Keys)
	if n.Leaf {
		count++
	}
	b := []byte(number(uint64(count)))
	for i, key := range n.Keys {
		b = append(b, text(key)...)
		if n.Leaf && i < len(n.Vals) {
			b = append(b, text(n.Vals[i])...)
		}
	}
	for _, kid := range n.Kids {
		b = append(b, number(uint64(kid))...)
	}
	return string(b)
}

// modelGood tells whether a node can be, by the chapter's words.
func modelGood(n api.Node) bool {
	sorted := slices.Clone(n.Keys)
	slices.Sort(sorted)
	good := slices.Equal(n.Keys, slices.Compact(sorted))
	for _, key := range n.Keys {
		good = good && len(key) <= 48
	}
	for _, val := range n.Vals {
		good = good && len(val) <= 160
	}
	for _, kid := range n.Kids {
		good = good && 1 <= kid && kid <= 4095
	}
	if n.Leaf {
		return good && len(n.Vals) == len(n.Keys) && len(n.Kids) == 0
	}
	return good && len(n.Kids) == len(n.Keys)+1 && len(n.Vals) == 0
}

// cutNumber takes a number off bytes as layer 1 reads it: false, if none stands there.
func cutNumber(s string) (uint64, string, bool) {
	n, size := binary.Uvarint([]byte(s))
	if size <= 0 || number(n) != s[:size] {
		return 0, "", false
	}
	return n, s[size:], true
}

// cutText takes a text off bytes as layer 1 reads it.
func cutText(s string) (string, string, bool) {
	n, s, ok := cutNumber(s)
	if !ok || n > uint64(len(s)) {
		return "", "", false
	}
	return s[:n], s[n:], true
}

// modelDecode answers the node that bytes begin with, by the chapter's words; false: they begin with none.
func modelDecode(s string) (api.Node, bool) {
	count, s, ok := cutNumber(s)
	if !ok || count/2 > 512 {
		return api.Node{}, false
	}
	n := api.Node{Leaf: count%2 == 1}
	for range count / 2 {
		var key, val string
		key, s, ok = cutText(s)
		if ok && n.Leaf {
			val, s, ok = cutText(s)
			n.Vals = append(n.Vals, val)
		}
		if !ok {
			return api.Node{}, false
		}
		n.Keys = append(n.Keys, key)
	}
	for i := uint64(0); !n.Leaf && i <= count/2; i++ {
		var kid uint64
		kid, s, ok = cutNumber(s)
		if !ok || kid < 1 || kid > 4095 {
			return api.Node{}, false
		}
		n.Kids = append(n.Kids, int(kid))
	}
	return n, modelGood(n)
}

// same tells whether two nodes are the same; nil and empty lists are.
func same(a, b api.Node) bool {
	return a.Leaf == b.Leaf && slices.Equal(a.Keys, b.Keys) && slices.Equal(a.Vals, b.Vals) && slices.Equal(a.Kids, b.Kids)
}

// zero tells whether a node is the zero one.
func zero(n api.Node) bool { return same(n, api.Node{}) }

// show tells a node in short.
func show(n api.Node) string { return fmt.Sprintf("%.300q", fmt.Sprint(n)) }

// wantGood fails if a node isn't encoded into just these bytes, or, if they are too many, refused as too long.
func wantGood(t *testing.T, n api.Node, bytes string) {
	t.Helper()
	if !leaf.Good(n) || leaf.Size(n) != len(bytes) {
		t.Errorf("%s: Good %t, Size %d, want %d", show(n), leaf.Good(n), leaf.Size(n), len(bytes))
	}
	b, e := leaf.Encode(n)
	if len(bytes) > 512 {
		if len(b) != 0 || e != api.ErrLong {
			t.Errorf("%s: Encode = %x, %d, want ErrLong", show(n), b, e)
		}
		return
	}
	if string(b) != bytes || e != api.OK {
		t.Errorf("%s: Encode = %x, %d, want %x", show(n), b, e, bytes)
	}
}

// wantBad fails if a node can be.
func wantBad(t *testing.T, what string, n api.Node) {
	t.Helper()
	if leaf.Good(n) || leaf.Size(n) != -1 {
		t.Errorf("%s: %s: Good %t, Size %d", what, show(n), leaf.Good(n), leaf.Size(n))
	}
	if b, e := leaf.Encode(n); len(b) != 0 || e != api.ErrArg {
		t.Errorf("%s: %s: Encode = %x, %d, want ErrArg", what, show(n), b, e)
	}
}

// wantNode fails if bytes aren't decoded as just this node.
func wantNode(t *testing.T, what, bytes string, want api.Node) {
	t.Helper()
	n, e := leaf.Decode([]byte(bytes))
	if !same(n, want) || e != api.OK {
		t.Errorf("%s: Decode(%.60x) = %s, %d, want %s", what, bytes, show(n), e, show(want))
	}
}

// wantForm fails if bytes are decoded.
func wantForm(t *testing.T, what, bytes string) {
	t.Helper()
	if n, e := leaf.Decode([]byte(bytes)); !zero(n) || e != api.ErrForm {
		t.Errorf("%s: Decode(%.60x) = %s, %d, want ErrForm", what, bytes, show(n), e)
	}
}

// leafOf answers a leaf of keys and values by turns.
func leafOf(list ...string) api.Node {
	n := api.Node{Leaf: true}
	for i := 0; i < len(list); i += 2 {
		n.Keys = append(n.Keys, list[i])
		n.Vals = append(n.Vals, list[i+1])
	}
	return n
}

// inner answers an inner node of a first kid, and of keys, each with the next kid.
func inner(first int, keys ...string) api.Node {
	n := api.Node{Keys: keys, Kids: []int{first}}
	for i := range keys {
		n.Kids = append(n.Kids, first+i+1)
	}
	return n
}

// manyKeys answers so many rising keys of so many bytes.
func manyKeys(count, size int) []string {
	var keys []string
	for i := range count {
		keys = append(keys, fmt.Sprintf("%0*d", size, i))
	}
	return keys
}

// fat answers a text of so many bytes.
func fat(n int) string { return strings.Repeat("z", n) }
