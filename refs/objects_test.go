package refs_test

import (
	"fmt"
	"math"
	"math/rand"
	"slices"
	"testing"

	"rootstock/api"
	"rootstock/cache"
	"rootstock/dag"
	"rootstock/disk"
	"rootstock/object"
	"rootstock/refs"
	"rootstock/store"
	"rootstock/tree"
)

// P18.2: an object that is put is there, whatever its bytes are, until another one is put under its name.
func TestObjects(t *testing.T) {
	for _, kind := range hashes() {
		for _, data := range []string{"", "\x00", "a", "\x01\x00", "\xff\xfe", fat(159), fat(160)} {
			id := name(kind, data)
			everywhere(t, model{}, func(c *cache.Cache) {
				wantObject(t, c, id, "", api.ErrNone)
				apply(t, c, refs.Put(api.Object{Id: id, Data: data}))
				wantObject(t, c, id, data, api.OK)
				wantObject(t, c, id, data, api.OK)
				wantObject(t, c, name(3-kind, data), "", api.ErrNone)
				apply(t, c, refs.Put(api.Object{Id: id, Data: "other"}))
				wantObject(t, c, id, "other", api.OK)
				wantList(t, c, nil, api.OK)
				apply(t, c, api.Write{Key: refs.ObjectKey(id), Gone: true})
				wantObject(t, c, id, "", api.ErrNone)
			})
		}
	}
}

// An object that is longer than a value may be isn't laid down.
func TestLongObject(t *testing.T) {
	id := name(api.Sha, "a")
	everywhere(t, model{}, func(c *cache.Cache) {
		if e := c.Apply(refs.Put(api.Object{Id: id, Data: fat(161)})); e != api.ErrLong {
			t.Fatalf("Apply: error %d", e)
		}
		wantObject(t, c, id, "", api.ErrNone)
	})
}

// P18.1: a name that can't be has no object, even where something was laid down for it, and the cache isn't asked.
func TestObjectsThatCant(t *testing.T) {
	m := model{"o": "x", "": "x", "rmain": "x", "o\x00": "x", "o\x03": "x", "o\x01": "x", "o" + text(name(api.Fnv, "a")): "a"}
	for _, id := range badIds() {
		everywhere(t, m, func(c *cache.Cache) {
			c.Drop(api.MaxCache)
			wantObject(t, c, id, "", api.ErrNone)
			apply(t, c, refs.Put(api.Object{Id: id, Data: "y"}))
			size, hits := c.Size(), c.Hits()
			wantObject(t, c, id, "", api.ErrNone)
			if c.Size() != size || c.Hits() != hits {
				t.Fatalf("Object(%x) asks the cache", id)
			}
			wantObject(t, c, name(api.Fnv, "a"), "a", api.OK)
		})
	}
	for kind := range 256 {
		id := api.Id{Kind: byte(kind)}
		c := open(t, store.Mem, nil, 9)
		apply(t, c, m.writes()...)
		apply(t, c, api.Write{Key: "o" + string([]byte{byte(kind)}) + fat(8), Val: "x"})
		copy(id.Sum[:], fat(8))
		want, e := "", api.ErrNone
		if kind == api.Fnv {
			want, e = "x", api.OK
		}
		wantObject(t, c, id, want, e)
	}
}

// P18.1: what is asked of the cache: the object's key, once.
func TestObjectAsked(t *testing.T) {
	id, none := name(api.Sha, "a"), name(api.Sha, "none")
	c := open(t, store.Mem, nil, 9)
	apply(t, c, refs.Put(api.Object{Id: id, Data: "a"}))
	c.Drop(9)
	for i, hits := range []int{0, 1, 2} {
		wantObject(t, c, id, "a", api.OK)
		if c.Size() != 1 || c.Hits() != hits {
			t.Fatalf("ask %d: %d entries, %d hits", i, c.Size(), c.Hits())
		}
	}
	wantObject(t, c, none, "", api.ErrNone)
	wantObject(t, c, none, "", api.ErrNone)
	if c.Size() != 2 || c.Hits() != 3 {
		t.Fatalf("%d entries, %d hits", c.Size(), c.Hits())
	}
}

// P18.1: of a nil cache, or one of a nil store, all is ErrNil, but of names that can't be.
func TestNilObjects(t *testing.T) {
	for _, c := range []*cache.Cache{nil, cache.New(nil, 9)} {
		for range 2 {
			wantObject(t, c, name(api.Fnv, "a"), "", api.ErrNil)
			wantObject(t, c, name(api.Sha, "a"), "", api.ErrNil)
			for _, id := range badIds() {
				wantObject(t, c, id, "", api.ErrNone)
			}
		}
	}
}

// P18.1: with the power off what isn't kept is ErrDown, but of a name that can't be; what is kept is answered.
func TestObjectsPowerOff(t *testing.T) {
	a, b, none := name(api.Fnv, "a"), name(api.Sha, "b"), name(api.Sha, "none")
	for _, kind := range laid() {
		d := disk.New(100)
		c := open(t, kind, d, 2)
		apply(t, c, refs.Put(api.Object{Id: a, Data: "a"}), refs.Put(api.Object{Id: b, Data: "b"}))
		wantObject(t, c, none, "", api.ErrNone)
		if e := c.Sync(); e != api.OK {
			t.Fatalf("Sync: error %d", e)
		}
		d.Off(0)
		for range 2 {
			wantObject(t, c, a, "", api.ErrDown)
			wantObject(t, c, name(api.Sha, "more"), "", api.ErrDown)
			wantObject(t, c, b, "b", api.OK)
			wantObject(t, c, none, "", api.ErrNone)
			wantObject(t, c, api.Id{}, "", api.ErrNone)
		}
		d.On()
		wantObject(t, open(t, kind, d, 0), a, "a", api.OK)
	}
}

// P18.1: a cache's objects are a source: trees and commits are read out of it, and what isn't there, or is other bytes, is told.
func TestSource(t *testing.T) {
	var pairs []api.Pair
	for i := range api.MaxKeys {
		pairs = append(pairs, api.Pair{Key: fmt.Sprintf("%016d", i), Val: fmt.Sprintf("v%015d", i)})
	}
	for _, kind := range hashes() {
		root, list, e := tree.Build(kind, pairs...)
		if e != api.OK {
			t.Fatalf("Build: error %d", e)
		}
		head := api.Id{}
		for num := 1; num <= 5; num++ {
			c := api.Commit{Root: root, Num: num}
			if num > 1 {
				c.Parents = []api.Id{head}
			}
			data, _ := object.PutCommit(c)
			head = name(kind, string(data))
			list = append(list, api.Object{Id: head, Data: string(data)})
		}
		m := model{}
		for _, o := range list {
			m.apply(refs.Put(o))
		}
		everywhere(t, m, func(c *cache.Cache) {
			var s tree.Source = refs.Of(c)
			if all, e := tree.All(s, root); e != api.OK || !slices.Equal(all, pairs) {
				t.Fatalf("All: %d pairs, error %d", len(all), e)
			}
			if l, e := dag.All(s, head); e != api.OK || len(l) != 5 || l[4].Id != head {
				t.Fatalf("%d commits, error %d", len(l), e)
			}
			apply(t, c, refs.Put(api.Object{Id: list[7].Id, Data: list[8].Data}))
			if _, e := tree.All(s, root); e != api.ErrSum {
				t.Fatalf("All of other bytes: error %d", e)
			}
			apply(t, c, api.Write{Key: refs.ObjectKey(list[3].Id), Gone: true})
			if _, e := tree.All(s, root); e != api.ErrNone {
				t.Fatalf("All without an object: error %d", e)
			}
		})
	}
}

// Two caches' objects know nothing of one another, and see what their own cache gets behind Of.
func TestOwnCache(t *testing.T) {
	id := name(api.Sha, "a")
	one, other := open(t, store.Mem, nil, 9), open(t, store.Mem, nil, 9)
	ofOne, ofOther := refs.Of(one), refs.Of(other)
	apply(t, one, refs.Put(api.Object{Id: id, Data: "a"}))
	if data, e := ofOne.Object(id); data != "a" || e != api.OK {
		t.Errorf("%q, %d", data, e)
	}
	if data, e := ofOther.Object(id); data != "" || e != api.ErrNone {
		t.Errorf("%q, %d", data, e)
	}
}

// asking are branches' names, and objects', that random stores have, or haven't.
func asking() ([]string, []api.Id) {
	ids := badIds()
	for _, kind := range hashes() {
		for i := range 6 {
			ids = append(ids, name(kind, fmt.Sprint(i)))
		}
	}
	return append(goodNames(), badNames()...), ids
}

// randomWrite answers one of a branch, of an object, or of any other key, as it should be, or not.
func randomWrite(rnd *rand.Rand, branches []string, ids []api.Id) api.Write {
	id := ids[rnd.Intn(len(ids))]
	branch := branches[rnd.Intn(len(goodNames()))]
	if rnd.Intn(20) == 0 {
		branch = branches[rnd.Intn(len(branches))]
	}
	if rnd.Intn(10) > 0 && !can(id) {
		id = ids[len(ids)-1]
	}
	switch rnd.Intn(9) {
	case 0, 1, 2:
		return refs.Set(branch, id)
	case 3, 4:
		return refs.Drop(branch)
	case 5, 6:
		return refs.Put(api.Object{Id: id, Data: fat(rnd.Intn(161))})
	case 7:
		if rnd.Intn(3) > 0 {
			return refs.Drop(branch)
		}
		return api.Write{Key: "r" + branch, Val: badTexts()[rnd.Intn(len(badTexts()))]}
	}
	key := []string{"", "q", "q\xff", "s", "o", "o\x01", "mkind", "mnum", "c\x01\x00\x01", "\xff"}[rnd.Intn(10)]
	return api.Write{Key: key, Val: "x", Gone: rnd.Intn(3) == 0}
}

// P18.1, P18.2: stores of any pairs, in random orders of writes, opened anew now and then, answer what the chapter's words say.
func TestRandomOrders(t *testing.T) {
	branches, ids := asking()
	listed := map[api.Errno]int{}
	for seed := range int64(10) {
		for _, kind := range kinds() {
			for _, most := range sizes() {
				rnd := rand.New(rand.NewSource(seed))
				d := disk.New(api.MaxPages)
				c := open(t, kind, d, most)
				m := model{}
				for range 60 {
					var list []api.Write
					for range 1 + rnd.Intn(5) {
						if w := randomWrite(rnd, branches, ids); len(w.Key) <= api.MaxKey {
							list = append(list, w)
						}
					}
					apply(t, c, list...)
					m.apply(list...)
					// A key that is no branch's would hide all that List says of others.
					for _, n := range badNames() {
						if _, ok := m["r"+n]; ok && rnd.Intn(3) > 0 {
							apply(t, c, refs.Drop(n))
							m.apply(refs.Drop(n))
						}
					}
					wantAs(t, c, m, branches, ids)
					_, e := m.list()
					listed[e]++
					if kind != store.Mem && rnd.Intn(10) == 0 {
						if e := c.Sync(); e != api.OK {
							t.Fatalf("Sync: error %d", e)
						}
						d.Off(rnd.Uint64())
						d.On()
						c = open(t, kind, d, most)
						wantAs(t, c, m, branches, ids)
					}
				}
			}
		}
	}
	if listed[api.OK] < 100 || listed[api.ErrForm] < 100 {
		t.Errorf("lists: %v", listed)
	}
}

// To ask changes no pair, and writes nothing.
func TestAskingWritesNothing(t *testing.T) {
	branches, ids := asking()
	for _, kind := range kinds() {
		d := disk.New(100)
		c := open(t, kind, d, 3)
		apply(t, c, numbered(20).writes()...)
		before, _ := c.Scan("", math.MaxInt)
		acts := d.Acts()
		for _, n := range branches {
			refs.Get(c, n)
			refs.Good(n)
			refs.Set(n, ids[0])
			refs.Drop(n)
		}
		for _, id := range ids {
			refs.Of(c).Object(id)
			refs.Put(api.Object{Id: id})
		}
		refs.List(c)
		if after, _ := c.Scan("", math.MaxInt); !slices.Equal(before, after) || d.Acts() != acts {
			t.Errorf("kind %d: %d acts", kind, d.Acts()-acts)
		}
	}
}
