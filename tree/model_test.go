package tree_test

import (
	"crypto/sha256"
	libfnv "hash/fnv"
	"math/rand"
	"slices"
	"strconv"
	"strings"
	"testing"

	"rootstock/api"
	"rootstock/object"
	"rootstock/tree"
)

// kinds are the hashes.
func kinds() []byte { return []byte{api.Fnv, api.Sha} }

// name answers the name of a text by Go's own hashes; the zero one, if there is no such hash.
func name(kind byte, s string) api.Id {
	id := api.Id{Kind: kind}
	switch kind {
	case api.Fnv:
		h := libfnv.New64a()
		h.Write([]byte(s))
		copy(id.Sum[:], h.Sum(nil))
	case api.Sha:
		id.Sum = sha256.Sum256([]byte(s))
	default:
		return api.Id{}
	}
	return id
}

// text answers how many bytes a short text has, and these.
func text(s string) string { return string([]byte{byte(len(s))}) + s }

// nameText answers a name's text, whatever name it is.
func nameText(id api.Id) string {
	return string([]byte{id.Kind}) + string(id.Sum[:map[byte]int{api.Fnv: 8, api.Sha: 32}[id.Kind]])
}

// bytesOf answers a tree's bytes by layer 15's words, whether it can be or not.
func bytesOf(t api.Tree) string {
	if len(t.Kids) == 0 {
		s := "\x01" + string([]byte{byte(len(t.Pairs))})
		for _, p := range t.Pairs {
			s += text(p.Key) + text(p.Val)
		}
		return s
	}
	s := "\x02" + string([]byte{byte(len(t.Kids))})
	for _, k := range t.Kids {
		s += text(k.Key) + nameText(k.Id)
	}
	return s
}

// objectOf answers a tree's object by a hash.
func objectOf(kind byte, t api.Tree) api.Object {
	s := bytesOf(t)
	return api.Object{Id: name(kind, s), Data: s}
}

// groups answers by the chapter's words how many of so many objects are put together, one group behind the other.
func groups(count int) []int {
	switch count {
	case 0:
		return nil
	case 2:
		return []int{2}
	case 4:
		return []int{2, 2}
	}
	return append([]int{3}, groups(count-3)...)
}

// cans tells by the chapter's words whether pairs can be a tree.
func cans(pairs []api.Pair) bool {
	var keys []string
	for _, p := range pairs {
		if len(p.Key) > 16 || len(p.Val) > 16 {
			return false
		}
		keys = append(keys, p.Key)
	}
	return len(pairs) <= 256 && slices.IsSorted(keys) && len(slices.Compact(keys)) == len(pairs)
}

// madeOf answers by the chapter's words the objects of a tree of pairs, in their order.
func madeOf(kind byte, pairs []api.Pair) []api.Object {
	var all []api.Object
	var row []api.Kid
	for at := 0; at < len(pairs) || at == 0; at += 4 {
		part := pairs[at:min(at+4, len(pairs))]
		o := objectOf(kind, api.Tree{Pairs: part})
		all = append(all, o)
		row = append(row, api.Kid{Id: o.Id})
		if len(part) > 0 {
			row[len(row)-1].Key = part[0].Key
		}
	}
	for len(row) > 1 {
		var next []api.Kid
		at := 0
		for _, n := range groups(len(row)) {
			o := objectOf(kind, api.Tree{Kids: row[at : at+n]})
			all = append(all, o)
			next = append(next, api.Kid{Key: row[at].Key, Id: o.Id})
			at += n
		}
		row = next
	}
	return all
}

// source is one that isn't a pool: it has what it has, tells errors of its own, and notes what it is asked.
type source struct {
	data  map[api.Id]string
	fail  map[api.Id]api.Errno
	asked []api.Id
}

// newSource answers one that has these objects.
func newSource(list ...api.Object) *source {
	s := &source{data: map[api.Id]string{}, fail: map[api.Id]api.Errno{}}
	s.put(list...)
	return s
}

// put has objects there.
func (s *source) put(list ...api.Object) {
	for _, o := range list {
		s.data[o.Id] = o.Data
	}
}

// tree has a tree's object there, and answers its name.
func (s *source) tree(kind byte, t api.Tree) api.Id {
	o := objectOf(kind, t)
	s.put(o)
	return o.Id
}

// Object answers an object's bytes; beside an error of its own there are some, too.
func (s *source) Object(id api.Id) (string, api.Errno) {
	s.asked = append(s.asked, id)
	data, ok := s.data[id]
	if e := s.fail[id]; e != api.OK {
		return data, e
	}
	if !ok {
		return "", api.ErrNone
	}
	return data, api.OK
}

// pool answers a pool of the same objects.
func (s *source) pool() *tree.Pool {
	p := tree.NewPool()
	for id, data := range s.data {
		p.Put(api.Object{Id: id, Data: data})
	}
	return p
}

// told is the error at which the model ends.
type told struct{ e api.Errno }

// model reads as the chapter says, and notes what it reads.
type model struct {
	s     *source
	asked []api.Id
	pairs []api.Pair
}

// read answers the tree's object of a name.
func (m *model) read(id api.Id) api.Tree {
	m.asked = append(m.asked, id)
	data, ok := m.s.data[id]
	switch {
	case m.s.fail[id] != api.OK:
		panic(told{m.s.fail[id]})
	case !ok:
		panic(told{api.ErrNone})
	case id.Kind != api.Fnv && id.Kind != api.Sha, name(id.Kind, data) != id:
		panic(told{api.ErrSum})
	}
	t, e := object.GetTree([]byte(data))
	if e != api.OK {
		panic(told{api.ErrForm})
	}
	return t
}

// demand ends with ErrForm, unless what must be is.
func demand(ok bool) {
	if !ok {
		panic(told{api.ErrForm})
	}
}

// below reads an object at the end of a way, and all below it; it answers their pairs.
func (m *model) below(id api.Id, way int) []api.Pair {
	demand(way != 9)
	t := m.read(id)
	m.pairs = append(m.pairs, t.Pairs...)
	list := slices.Clone(t.Pairs)
	for _, k := range t.Kids {
		of := m.below(k.Id, way+1)
		demand(len(of) > 0)
		demand(of[0].Key == k.Key)
		demand(len(m.pairs) <= 256)
		list = append(list, of...)
	}
	return list
}

// ended runs what reads, and answers the error at which it ended.
func ended(f func()) (e api.Errno) {
	defer func() {
		if x := recover(); x != nil {
			e = x.(told).e
		}
	}()
	f()
	return api.OK
}

// all answers by the chapter's words what All answers, and what it reads.
func (s *source) all(root api.Id) ([]api.Pair, api.Errno, []api.Id) {
	m := &model{s: s}
	var list []api.Pair
	e := ended(func() {
		list = m.below(root, 1)
		demand(cans(list))
	})
	if e != api.OK {
		list = nil
	}
	return list, e, m.asked
}

// find answers by the chapter's words what Find answers, and what it reads.
func (s *source) find(root api.Id, key string) (val string, has bool, e api.Errno, asked []api.Id) {
	m := &model{s: s}
	e = ended(func() {
		t := m.read(root)
		for n := 1; len(t.Kids) > 0; n++ {
			demand(n != 8)
			at := len(t.Kids) - 1
			for at > 0 && t.Kids[at].Key > key {
				at--
			}
			t = m.read(t.Kids[at].Id)
		}
		for _, p := range t.Pairs {
			if p.Key == key {
				val, has = p.Val, true
			}
		}
	})
	return val, has, e, m.asked
}

// checkAll holds what All answers, of a source and of a pool, against the model; it answers the error.
func checkAll(t *testing.T, s *source, root api.Id) api.Errno {
	t.Helper()
	want, e, asked := s.all(root)
	s.asked = nil
	got, e2 := tree.All(s, root)
	if e2 != e || !slices.Equal(got, want) || e != api.OK && got != nil {
		t.Fatalf("All(%x) = %q, %d, want %q, %d", root, got, e2, want, e)
	}
	if !slices.Equal(s.asked, asked) {
		t.Fatalf("All(%x) asks for %x, want %x", root, s.asked, asked)
	}
	if len(s.fail) == 0 {
		if got, e2 := tree.All(s.pool(), root); e2 != e || !slices.Equal(got, want) {
			t.Fatalf("All(%x) of a pool = %q, %d, want %q, %d", root, got, e2, want, e)
		}
	}
	return e
}

// checkFind holds what Find answers, of a source and of a pool, against the model; it answers the error.
func checkFind(t *testing.T, s *source, root api.Id, key string) api.Errno {
	t.Helper()
	want, has, e, asked := s.find(root, key)
	s.asked = nil
	got, has2, e2 := tree.Find(s, root, key)
	if e2 != e || got != want || has2 != has {
		t.Fatalf("Find(%x, %q) = %q, %t, %d, want %q, %t, %d", root, key, got, has2, e2, want, has, e)
	}
	if !slices.Equal(s.asked, asked) {
		t.Fatalf("Find(%x, %q) asks for %x, want %x", root, key, s.asked, asked)
	}
	if len(s.fail) == 0 {
		if got, has2, e2 := tree.Find(s.pool(), root, key); e2 != e || got != want || has2 != has {
			t.Fatalf("Find(%x, %q) of a pool = %q, %t, %d, want %q, %t, %d", root, key, got, has2, e2, want, has, e)
		}
	}
	return e
}

// key answers a key of three bytes; they rise as n does.
func key(n int) string { return "k" + strconv.Itoa(1000 + n)[1:] }

// pairsTo answers n pairs by rising keys.
func pairsTo(n int) []api.Pair {
	var list []api.Pair
	for i := range n {
		list = append(list, api.Pair{Key: key(i), Val: "v" + strconv.Itoa(i)})
	}
	return list
}

// somePairs answers n random pairs by rising keys.
func somePairs(r *rand.Rand, n int) []api.Pair {
	have := map[string]bool{}
	var list []api.Pair
	for len(list) < n {
		k := someText(r)
		if !have[k] {
			have[k] = true
			list = append(list, api.Pair{Key: k, Val: someText(r)})
		}
	}
	slices.SortFunc(list, func(a, b api.Pair) int { return strings.Compare(a.Key, b.Key) })
	return list
}

// someText answers a random text of at most 16 bytes.
func someText(r *rand.Rand) string {
	b := make([]byte, r.Intn(17))
	for i := range b {
		b[i] = byte(r.Intn(256))
	}
	return string(b)
}
