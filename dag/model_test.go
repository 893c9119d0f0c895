package dag_test

import (
	"crypto/sha256"
	"encoding/binary"
	libfnv "hash/fnv"
	"reflect"
	"slices"
	"testing"

	"rootstock/api"
	"rootstock/dag"
	"rootstock/object"
	"rootstock/tree"
)

// name answers the name of a text by Go's own hashes; the zero one, if there is no such hash.
func name(kind byte, s string) api.Id {
	id := api.Id{Kind: kind}
	switch kind {
	case api.Fnv:
		h := libfnv.New64a()
		h.Write([]byte(s))
		copy(id.Sum[:], h.Sum(nil))
	case api.Sha:
		id.Sum = sha256.Sum256([]byte(s))
	default:
		return api.Id{}
	}
	return id
}

// nameText answers a name's text, whatever name it is.
func nameText(id api.Id) string {
	return string([]byte{id.Kind}) + string(id.Sum[:map[byte]int{api.Fnv: 8, api.Sha: 32}[id.Kind]])
}

// bytesOf answers a commit's bytes by layer 15's words, whether it can be or not.
func bytesOf(c api.Commit) string {
	s := "\x03" + string([]byte{byte(len(c.Parents))}) + nameText(c.Root)
	for _, p := range c.Parents {
		s += nameText(p)
	}
	s += string([]byte{byte(len(c.Note))}) + c.Note
	return string(binary.AppendVarint([]byte(s), int64(c.Num)))
}

// source is one that isn't a pool: it has what it has, tells errors of its own, and notes what it is asked.
type source struct {
	data  map[api.Id]string
	fail  map[api.Id]api.Errno
	asked []api.Id
}

// newSource answers one that has nothing.
func newSource() *source {
	return &source{data: map[api.Id]string{}, fail: map[api.Id]api.Errno{}}
}

// mixed has a commit there, which is named by one hash, and names by another; it answers its name.
func (s *source) mixed(kind, of byte, note string, num int, parents ...api.Id) api.Id {
	data := bytesOf(api.Commit{Root: name(of, "\x01\x00"), Parents: parents, Note: note, Num: num})
	id := name(kind, data)
	s.data[id] = data
	return id
}

// commit has a commit there, and answers its name.
func (s *source) commit(kind byte, note string, num int, parents ...api.Id) api.Id {
	return s.mixed(kind, kind, note, num, parents...)
}

// Object answers an object's bytes; beside an error of its own there are some, too.
func (s *source) Object(id api.Id) (string, api.Errno) {
	s.asked = append(s.asked, id)
	data, ok := s.data[id]
	if e := s.fail[id]; e != api.OK {
		return data, e
	}
	if !ok {
		return "", api.ErrNone
	}
	return data, api.OK
}

// pool answers a pool of the same objects.
func (s *source) pool() *tree.Pool {
	p := tree.NewPool()
	for id, data := range s.data {
		p.Put(api.Object{Id: id, Data: data})
	}
	return p
}

// read answers by the chapter's words what Read answers.
func (s *source) read(id api.Id) (api.Commit, api.Errno) {
	data, ok := s.data[id]
	switch {
	case s.fail[id] != api.OK:
		return api.Commit{}, s.fail[id]
	case !ok:
		return api.Commit{}, api.ErrNone
	case id.Kind != api.Fnv && id.Kind != api.Sha, name(id.Kind, data) != id:
		return api.Commit{}, api.ErrSum
	}
	c, e := object.GetCommit([]byte(data))
	if e != api.OK {
		return api.Commit{}, api.ErrForm
	}
	return c, api.OK
}

// entry is one of the model's row: a name, and whose Parent it is, if it is one's.
type entry struct {
	id    api.Id
	child *api.Commit
}

// all answers by the chapter's words what All answers, and what it reads.
func (s *source) all(heads ...api.Id) (list []api.Entry, e api.Errno, asked []api.Id) {
	var row []entry
	for _, id := range heads {
		row = append(row, entry{id: id})
	}
	have := map[api.Id]api.Commit{}
	for i := 0; i < len(row); i++ {
		at := row[i]
		if _, ok := have[at.id]; !ok {
			asked = append(asked, at.id)
			c, e := s.read(at.id)
			if e != api.OK {
				return nil, e, asked
			}
			if len(have) >= 1024 {
				return nil, api.ErrLong, asked
			}
			have[at.id] = c
			for _, p := range c.Parents {
				row = append(row, entry{p, &c})
			}
		}
		if at.child != nil && have[at.id].Num >= at.child.Num {
			return nil, api.ErrForm, asked
		}
	}
	// One behind the other, the least that is left is taken.
	for len(have) > 0 {
		var least *api.Entry
		for id, c := range have {
			if least == nil || c.Num < least.Commit.Num || c.Num == least.Commit.Num && nameText(id) < nameText(least.Id) {
				least = &api.Entry{Id: id, Commit: c}
			}
		}
		list = append(list, *least)
		delete(have, least.Id)
	}
	return list, api.OK, asked
}

// from tells for all commits of a list, by rising Nums, the ones that each comes from.
func from(list []api.Entry) map[api.Id]map[api.Id]bool {
	comes := map[api.Id]map[api.Id]bool{}
	for _, x := range list {
		of := map[api.Id]bool{x.Id: true}
		for _, p := range x.Commit.Parents {
			for id := range comes[p] {
				of[id] = true
			}
		}
		comes[x.Id] = of
	}
	return comes
}

// base answers by the chapter's words what Base answers, of a list in which all of both are.
func base(list []api.Entry, comes map[api.Id]map[api.Id]bool, a, b api.Id) (api.Id, api.Errno) {
	both := func(id api.Id) bool { return comes[a][id] && comes[b][id] }
	for _, x := range list {
		free := both(x.Id)
		for _, other := range list {
			if other.Id != x.Id && both(other.Id) && comes[other.Id][x.Id] {
				free = false
			}
		}
		if free {
			return x.Id, api.OK
		}
	}
	return api.Id{}, api.ErrBase
}

// same tells whether two lists of commits are the same.
func same(a, b []api.Entry) bool {
	return slices.EqualFunc(a, b, func(x, y api.Entry) bool {
		return x.Id == y.Id && x.Commit.Root == y.Commit.Root && slices.Equal(x.Commit.Parents, y.Commit.Parents) && x.Commit.Note == y.Commit.Note && x.Commit.Num == y.Commit.Num
	})
}

// both runs a check in a source, held against what it is to be asked, and in a pool of the same.
func both(t *testing.T, s *source, asked []api.Id, check func(in tree.Source)) {
	t.Helper()
	s.asked = nil
	check(s)
	if !slices.Equal(s.asked, asked) {
		t.Fatalf("asks for %x, want %x", s.asked, asked)
	}
	if len(s.fail) == 0 {
		check(s.pool())
	}
}

// checkRead holds what Read answers against the model; it answers the error.
func checkRead(t *testing.T, s *source, id api.Id) api.Errno {
	t.Helper()
	want, e := s.read(id)
	both(t, s, []api.Id{id}, func(in tree.Source) {
		t.Helper()
		if c, e2 := dag.Read(in, id); e2 != e || !same([]api.Entry{{Commit: c}}, []api.Entry{{Commit: want}}) || e != api.OK && !reflect.ValueOf(c).IsZero() {
			t.Fatalf("Read(%x) = %v, %d, want %v, %d", id, c, e2, want, e)
		}
	})
	return e
}

// checkAll holds what All answers against the model; it answers the error.
func checkAll(t *testing.T, s *source, heads ...api.Id) api.Errno {
	t.Helper()
	want, e, asked := s.all(heads...)
	both(t, s, asked, func(in tree.Source) {
		t.Helper()
		if list, e2 := dag.All(in, heads...); e2 != e || !same(list, want) || e != api.OK && list != nil {
			t.Fatalf("All(%x) = %v, %d, want %v, %d", heads, list, e2, want, e)
		}
	})
	return e
}

// checkComes holds what Comes answers against the model; it answers that.
func checkComes(t *testing.T, s *source, id, old api.Id) (bool, api.Errno) {
	t.Helper()
	list, e, asked := s.all(id)
	want := from(list)[id][old]
	both(t, s, asked, func(in tree.Source) {
		t.Helper()
		if ok, e2 := dag.Comes(in, id, old); ok != want || e2 != e {
			t.Fatalf("Comes(%x, %x) = %t, %d, want %t, %d", id, old, ok, e2, want, e)
		}
	})
	return want, e
}

// checkBase holds what Base answers against the model; it answers that.
func checkBase(t *testing.T, s *source, a, b api.Id) (api.Id, api.Errno) {
	t.Helper()
	list, e, asked := s.all(a, b)
	var want api.Id
	if e == api.OK {
		want, e = base(list, from(list), a, b)
	}
	both(t, s, asked, func(in tree.Source) {
		t.Helper()
		if id, e2 := dag.Base(in, a, b); id != want || e2 != e {
			t.Fatalf("Base(%x, %x) = %x, %d, want %x, %d", a, b, id, e2, want, e)
		}
	})
	return want, e
}

// chain has commits there, each one the next one's Parent, with the Nums from one to another; it answers their names.
func (s *source) chain(kind byte, note string, low, high int, parents ...api.Id) []api.Id {
	var list []api.Id
	for num := low; num <= high; num++ {
		id := s.commit(kind, note, num, parents...)
		parents = []api.Id{id}
		list = append(list, id)
	}
	return list
}
