package object_test

import (
	"bytes"
	"crypto/sha256"
	libfnv "hash/fnv"
	"slices"
	"strings"
	"testing"

	"rootstock/api"
	"rootstock/object"
)

// sizes answers how many bytes the sums of each kind have; of all others, 0.
func sizes(kind byte) int { return map[byte]int{1: 8, 2: 32}[kind] }

// name answers the name of a text by Go's own hashes.
func name(kind byte, s string) api.Id {
	id := api.Id{Kind: kind}
	if kind == api.Fnv {
		h := libfnv.New64a()
		h.Write([]byte(s))
		copy(id.Sum[:], h.Sum(nil))
		return id
	}
	id.Sum = sha256.Sum256([]byte(s))
	return id
}

// full answers a name of a kind each byte of whose sum is c.
func full(kind, c byte) api.Id {
	id := api.Id{Kind: kind}
	copy(id.Sum[:], bytes.Repeat([]byte{c}, sizes(kind)))
	return id
}

// fat is a text of n bytes.
func fat(n int) string { return strings.Repeat("f", n) }

// pairsOf answers a tree of keys and values by turns.
func pairsOf(list ...string) api.Tree {
	var t api.Tree
	for i := 0; i < len(list); i += 2 {
		t.Pairs = append(t.Pairs, api.Pair{Key: list[i], Val: list[i+1]})
	}
	return t
}

// kidsOf answers a tree whose kids have these keys, and names by one hash.
func kidsOf(kind byte, keys ...string) api.Tree {
	var t api.Tree
	for _, key := range keys {
		t.Kids = append(t.Kids, api.Kid{Key: key, Id: name(kind, key)})
	}
	return t
}

// commitOf answers a commit whose root and parents are names of these texts, by one hash.
func commitOf(kind byte, num int, note, root string, parents ...string) api.Commit {
	c := api.Commit{Root: name(kind, root), Note: note, Num: num}
	for _, p := range parents {
		c.Parents = append(c.Parents, name(kind, p))
	}
	return c
}

// nameCan tells by layer 14's words whether a name can be.
func nameCan(id api.Id) bool {
	n := sizes(id.Kind)
	return n > 0 && strings.Trim(string(id.Sum[n:]), "\x00") == ""
}

// namesCan tells whether names can be, all by one hash.
func namesCan(ids []api.Id) bool {
	return !slices.ContainsFunc(ids, func(id api.Id) bool { return !nameCan(id) || id.Kind != ids[0].Kind })
}

// keysCan tells whether keys rise, and are short enough.
func keysCan(keys []string) bool {
	long := slices.ContainsFunc(keys, func(k string) bool { return len(k) > 16 })
	return !long && slices.IsSorted(keys) && len(slices.Compact(slices.Clone(keys))) == len(keys)
}

// treeCan tells by the chapter's words whether a tree's object can be.
func treeCan(t api.Tree) bool {
	var keys []string
	var ids []api.Id
	for _, p := range t.Pairs {
		if len(p.Val) > 16 {
			return false
		}
		keys = append(keys, p.Key)
	}
	for _, k := range t.Kids {
		keys, ids = append(keys, k.Key), append(ids, k.Id)
	}
	some := len(t.Kids) == 0 && len(t.Pairs) <= 4 || len(t.Pairs) == 0 && (len(t.Kids) == 2 || len(t.Kids) == 3)
	return some && keysCan(keys) && namesCan(ids)
}

// commitCan tells by the chapter's words whether a commit can be.
func commitCan(c api.Commit) bool {
	if len(c.Parents) > 2 || len(c.Parents) == 2 && c.Parents[0] == c.Parents[1] {
		return false
	}
	return namesCan(append([]api.Id{c.Root}, c.Parents...)) && len(c.Note) <= 32 && c.Num >= 1 && c.Num <= 1024
}

// text answers how many bytes a short text has, and these.
func text(s string) string { return string([]byte{byte(len(s))}) + s }

// nameText answers a name's text, by layer 14's words.
func nameText(id api.Id) string {
	return string([]byte{id.Kind}) + string(id.Sum[:sizes(id.Kind)])
}

// treeBytes answers, by the chapter's words, the bytes of a tree that can be.
func treeBytes(t api.Tree) string {
	if len(t.Kids) == 0 {
		s := "\x01" + string([]byte{byte(len(t.Pairs))})
		for _, p := range t.Pairs {
			s += text(p.Key) + text(p.Val)
		}
		return s
	}
	s := "\x02" + string([]byte{byte(len(t.Kids))})
	for _, k := range t.Kids {
		s += text(k.Key) + nameText(k.Id)
	}
	return s
}

// commitBytes answers, by the chapter's words, the bytes of a commit that can be.
func commitBytes(c api.Commit) string {
	s := "\x03" + string([]byte{byte(len(c.Parents))}) + nameText(c.Root)
	for _, id := range c.Parents {
		s += nameText(id)
	}
	s += text(c.Note)
	twice := 2 * c.Num
	if twice < 128 {
		return s + string([]byte{byte(twice)})
	}
	return s + string([]byte{byte(twice%128 + 128), byte(twice / 128)})
}

// piece is what is left of bytes that are read.
type piece struct {
	s   string
	bad bool
}

// take cuts n bytes off.
func (p *piece) take(n int) string {
	if p.bad || n > len(p.s) {
		p.bad, p.s = true, ""
		return ""
	}
	s := p.s[:n]
	p.s = p.s[n:]
	return s
}

// one cuts a byte off.
func (p *piece) one() int {
	s := p.take(1)
	if p.bad {
		return 0
	}
	return int(s[0])
}

// text cuts a text off, one of fewer than 128 bytes.
func (p *piece) text() string {
	n := p.one()
	p.bad = p.bad || n > 127
	return p.take(n)
}

// name cuts a name off.
func (p *piece) name() api.Id {
	id := api.Id{Kind: byte(p.one())}
	copy(id.Sum[:], p.take(sizes(id.Kind)))
	return id
}

// num cuts a number off that takes at most two bytes, and isn't below 0.
func (p *piece) num() int {
	n := p.one()
	if n > 127 {
		high := p.one()
		p.bad = p.bad || high == 0 || high > 127
		n += 128 * (high - 1)
	}
	p.bad = p.bad || n%2 == 1
	return n / 2
}

// readTree tells by the chapter's words which tree's bytes these are.
func readTree(s string) (api.Tree, bool) {
	var t api.Tree
	p := &piece{s: s}
	kind, count := p.one(), p.one()
	for i := 0; i < count && !p.bad; i++ {
		key := p.text()
		if kind == 1 {
			t.Pairs = append(t.Pairs, api.Pair{Key: key, Val: p.text()})
		} else {
			t.Kids = append(t.Kids, api.Kid{Key: key, Id: p.name()})
		}
	}
	if p.bad || p.s != "" || !treeCan(t) || kind != 1 && (kind != 2 || count == 0) {
		return api.Tree{}, false
	}
	return t, true
}

// readCommit tells by the chapter's words which commit's bytes these are.
func readCommit(s string) (api.Commit, bool) {
	p := &piece{s: s}
	kind, count := p.one(), p.one()
	c := api.Commit{Root: p.name()}
	for i := 0; i < count && !p.bad; i++ {
		c.Parents = append(c.Parents, p.name())
	}
	c.Note = p.text()
	c.Num = p.num()
	if p.bad || p.s != "" || kind != 3 || !commitCan(c) {
		return api.Commit{}, false
	}
	return c, true
}

// sameTree tells whether two trees are the same; nil lists are as empty ones.
func sameTree(a, b api.Tree) bool {
	return slices.Equal(a.Pairs, b.Pairs) && slices.Equal(a.Kids, b.Kids)
}

// sameCommit tells whether two commits are the same; nil lists are as empty ones.
func sameCommit(a, b api.Commit) bool {
	return a.Root == b.Root && slices.Equal(a.Parents, b.Parents) && a.Note == b.Note && a.Num == b.Num
}

// checkTree holds all that is asked of a tree against the model.
func checkTree(t *testing.T, x api.Tree) {
	t.Helper()
	want := treeCan(x)
	if got := object.GoodTree(x); got != want {
		t.Fatalf("GoodTree(%+v) = %t", x, got)
	}
	b, e := object.PutTree(x)
	if !want {
		if b != nil || e != api.ErrArg {
			t.Fatalf("PutTree(%+v) = %x, %d", x, b, e)
		}
		return
	}
	if e != api.OK || string(b) != treeBytes(x) || len(b) > 160 {
		t.Fatalf("PutTree(%+v) = %x, %d, want %x", x, b, e, treeBytes(x))
	}
	if back, e := object.GetTree(b); e != api.OK || !sameTree(back, x) {
		t.Fatalf("GetTree(%x) = %+v, %d, want %+v", b, back, e, x)
	}
	checkBytes(t, string(b))
}

// checkCommit holds all that is asked of a commit against the model.
func checkCommit(t *testing.T, x api.Commit) {
	t.Helper()
	want := commitCan(x)
	if got := object.GoodCommit(x); got != want {
		t.Fatalf("GoodCommit(%+v) = %t", x, got)
	}
	b, e := object.PutCommit(x)
	if !want {
		if b != nil || e != api.ErrArg {
			t.Fatalf("PutCommit(%+v) = %x, %d", x, b, e)
		}
		return
	}
	if e != api.OK || string(b) != commitBytes(x) || len(b) > 160 {
		t.Fatalf("PutCommit(%+v) = %x, %d, want %x", x, b, e, commitBytes(x))
	}
	if back, e := object.GetCommit(b); e != api.OK || !sameCommit(back, x) {
		t.Fatalf("GetCommit(%x) = %+v, %d, want %+v", b, back, e, x)
	}
	checkBytes(t, string(b))
}

// checkBytes holds what is read from bytes against the model; it answers whether they are a tree's, or a commit's.
func checkBytes(t *testing.T, s string) bool {
	t.Helper()
	isTree, isCommit := checkTreeBytes(t, s), checkCommitBytes(t, s)
	if isTree && isCommit {
		t.Fatalf("%x is a tree's and a commit's", s)
	}
	return isTree || isCommit
}

// checkTreeBytes holds what GetTree answers against the model, and against PutTree.
func checkTreeBytes(t *testing.T, s string) bool {
	t.Helper()
	want, ok := readTree(s)
	x, e := object.GetTree([]byte(s))
	if !ok {
		if e != api.ErrForm || x.Pairs != nil || x.Kids != nil {
			t.Fatalf("GetTree(%x) = %+v, %d, want ErrForm", s, x, e)
		}
		return false
	}
	if e != api.OK || !sameTree(x, want) || !object.GoodTree(x) {
		t.Fatalf("GetTree(%x) = %+v, %d, want %+v", s, x, e, want)
	}
	if b, e := object.PutTree(x); e != api.OK || string(b) != s {
		t.Fatalf("PutTree(GetTree(%x)) = %x, %d", s, b, e)
	}
	return true
}

// checkCommitBytes holds what GetCommit answers against the model, and against PutCommit.
func checkCommitBytes(t *testing.T, s string) bool {
	t.Helper()
	want, ok := readCommit(s)
	x, e := object.GetCommit([]byte(s))
	if !ok {
		if e != api.ErrForm || x.Parents != nil || !sameCommit(x, api.Commit{}) {
			t.Fatalf("GetCommit(%x) = %+v, %d, want ErrForm", s, x, e)
		}
		return false
	}
	if e != api.OK || !sameCommit(x, want) || !object.GoodCommit(x) {
		t.Fatalf("GetCommit(%x) = %+v, %d, want %+v", s, x, e, want)
	}
	if b, e := object.PutCommit(x); e != api.OK || string(b) != s {
		t.Fatalf("PutCommit(GetCommit(%x)) = %x, %d", s, b, e)
	}
	return true
}
