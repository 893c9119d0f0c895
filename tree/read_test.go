package tree_test

import (
	"math/rand"
	"slices"
	"strings"
	"testing"

	"rootstock/api"
	"rootstock/tree"
)

// P16.1: a pool has objects under their names, whatever they are, the last one under each.
func TestPool(t *testing.T) {
	p := tree.NewPool()
	hold := func(size int, id api.Id, want string, wantErr api.Errno) {
		t.Helper()
		if data, e := p.Object(id); p.Size() != size || data != want || e != wantErr {
			t.Errorf("%d objects, %x: %q, %d, want %d, %q, %d", p.Size(), id, data, e, size, want, wantErr)
		}
	}
	a, behind := name(api.Fnv, "a"), name(api.Fnv, "a")
	behind.Sum[31] = 1
	other := api.Id{Kind: 7, Sum: a.Sum}
	hold(0, a, "", api.ErrNone)
	hold(0, api.Id{}, "", api.ErrNone)
	p.Put()
	hold(0, a, "", api.ErrNone)
	p.Put(api.Object{Id: a, Data: "a"})
	hold(1, a, "a", api.OK)
	hold(1, behind, "", api.ErrNone)
	hold(1, other, "", api.ErrNone)
	hold(1, api.Id{}, "", api.ErrNone)
	p.Put(api.Object{Id: a, Data: "another"}, api.Object{Id: behind, Data: ""}, api.Object{Data: fat(1000)}, api.Object{Id: other, Data: "x"})
	hold(4, a, "another", api.OK)
	hold(4, behind, "", api.OK)
	hold(4, api.Id{}, fat(1000), api.OK)
	hold(4, other, "x", api.OK)
	hold(4, name(api.Sha, "a"), "", api.ErrNone)
	p.Put(api.Object{Id: a, Data: "1"}, api.Object{Id: a, Data: "2"}, api.Object{Id: a}, api.Object{Id: other, Data: "y"})
	hold(4, a, "", api.OK)
	hold(4, other, "y", api.OK)
	if q := tree.NewPool(); q.Size() != 0 {
		t.Error("pools know of one another")
	}
}

// P16.1: a nil pool has nothing, and is ErrNil; so is what reads in it, or in no source at all.
func TestNil(t *testing.T) {
	var p *tree.Pool
	p.Put(api.Object{Data: "x"})
	p.Put()
	if data, e := p.Object(api.Id{}); data != "" || e != api.ErrNil || p.Size() != 0 {
		t.Errorf("%q, %d, %d objects", data, e, p.Size())
	}
	for _, s := range []tree.Source{p, nil} {
		for _, id := range []api.Id{{}, name(api.Sha, "\x01\x00"), {Kind: 9}} {
			if all, e := tree.All(s, id); all != nil || e != api.ErrNil {
				t.Errorf("All = %q, %d", all, e)
			}
			if val, has, e := tree.Find(s, id, "a"); val != "" || has || e != api.ErrNil {
				t.Errorf("Find = %q, %t, %d", val, has, e)
			}
		}
	}
}

// checkRead reads an object as a tree's own one, by both calls, and holds the error against what is wanted.
func checkRead(t *testing.T, s *source, root api.Id, want api.Errno) {
	t.Helper()
	if e := checkAll(t, s, root); e != want {
		t.Errorf("All(%x) = %d, want %d", root, e, want)
	}
	for _, k := range []string{"", "a", "m", "z", fat(17)} {
		if e := checkFind(t, s, root, k); e != want {
			t.Errorf("Find(%x, %q) = %d, want %d", root, k, e, want)
		}
	}
}

// P16.1: the source's error is told first, then that a name isn't the bytes', then that they are no tree's.
func TestReadErrors(t *testing.T) {
	low, commit := "\x01\x01\x01m\x01v", "\x03\x00\x01"+fat(8)+"\x00\x02"
	for _, kind := range kinds() {
		for data, want := range map[string]api.Errno{
			low: api.OK, "\x01\x00": api.OK, commit: api.ErrForm, "": api.ErrForm, "\x01": api.ErrForm, "\x02\x00": api.ErrForm,
			low + "\x00": api.ErrForm, "\x01\x02\x01m\x01v\x01a\x01v": api.ErrForm, "\x01\x01\x11" + fat(17) + "\x00": api.ErrForm, fat(1000): api.ErrForm,
		} {
			id := name(kind, data)
			s := newSource(api.Object{Id: id, Data: data})
			checkRead(t, s, id, want)
			for _, e := range []api.Errno{api.ErrArg, api.ErrNone, api.ErrDown, api.ErrAway, api.ErrForm, api.ErrSum, 99, -1} {
				s.fail[id] = e
				checkRead(t, s, id, e)
			}
			checkRead(t, newSource(), id, api.ErrNone)
			checkRead(t, newSource(api.Object{Id: id, Data: data + "x"}), id, api.ErrSum)
			checkRead(t, newSource(api.Object{Id: id, Data: low[:5] + "w"}), id, api.ErrSum)
			checkRead(t, newSource(api.Object{Id: id, Data: fat(9)}), id, api.ErrSum)
			checkRead(t, newSource(api.Object{Id: name(kind, data+"x"), Data: data}), id, api.ErrNone)
		}
	}
}

// P16.1: a name whose hash isn't there, or that has anything behind its sum, is no bytes' name.
func TestNamesThatCant(t *testing.T) {
	low := "\x01\x01\x01m\x01v"
	weak, strong := name(api.Fnv, low), name(api.Sha, low)
	behind, last := weak, weak
	behind.Sum[8], last.Sum[31] = 1, 1
	for _, id := range []api.Id{{}, {Kind: 3}, {Kind: 3, Sum: strong.Sum}, {Kind: 255, Sum: weak.Sum}, {Sum: strong.Sum}, {Sum: weak.Sum}, {Kind: api.Fnv, Sum: strong.Sum}, {Kind: api.Sha, Sum: weak.Sum}, {Kind: api.Fnv}, {Kind: api.Sha}, behind, last} {
		for _, data := range []string{low, "", "\x01\x00", "\x03", fat(9)} {
			s := newSource(api.Object{Id: id, Data: data})
			checkRead(t, s, id, api.ErrSum)
			checkRead(t, newSource(api.Object{Id: weak, Data: data}), id, api.ErrNone)
			s.fail[id] = api.ErrAway
			checkRead(t, s, id, api.ErrAway)
		}
	}
	for kind := range 256 {
		id := api.Id{Kind: byte(kind)}
		checkRead(t, newSource(api.Object{Id: id, Data: low}), id, api.ErrSum)
	}
	for at := range 32 {
		for bit := range 8 {
			id := strong
			id.Sum[at] ^= 1 << bit
			checkRead(t, newSource(api.Object{Id: id, Data: low}), id, api.ErrSum)
			id = weak
			id.Sum[at] ^= 1 << bit
			checkRead(t, newSource(api.Object{Id: id, Data: low}), id, api.ErrSum)
		}
	}
}

// P16.1: what is below is read as the tree's own object is; Find reads nothing beside its way.
func TestReadBelow(t *testing.T) {
	for _, kind := range kinds() {
		root, list, _ := tree.Build(kind, pairsTo(40)...)
		for i, o := range list[:len(list)-1] {
			for _, c := range []struct {
				turn func(s *source)
				want api.Errno
			}{
				{func(s *source) { delete(s.data, o.Id) }, api.ErrNone},
				{func(s *source) { s.data[o.Id] += "\x00" }, api.ErrSum},
				{func(s *source) { s.data[o.Id] = "" }, api.ErrSum},
				{func(s *source) { s.data[o.Id] = list[len(list)-2-i].Data + "y" }, api.ErrSum},
				{func(s *source) { s.fail[o.Id] = api.ErrAway }, api.ErrAway},
			} {
				s := newSource(list...)
				c.turn(s)
				if e := checkAll(t, s, root); e != c.want {
					t.Errorf("All without object %d = %d, want %d", i, e, c.want)
				}
				lost := 0
				for n := range 40 {
					if checkFind(t, s, root, key(n)) == c.want {
						lost++
					}
				}
				if lost < 4 || lost > 36 {
					t.Errorf("without object %d, %d keys are lost", i, lost)
				}
			}
		}
	}
}

// deep answers a tree whose last pair's object lies so deep, and the others one each ahead of it; and its last key.
func deep(s *source, kind byte, depth int) (api.Id, string) {
	id := s.tree(kind, api.Tree{Pairs: []api.Pair{{Key: key(depth), Val: "deepest"}}})
	least := key(depth)
	for n := depth - 1; n > 0; n-- {
		side := s.tree(kind, api.Tree{Pairs: []api.Pair{{Key: key(n), Val: "side"}}})
		id = s.tree(kind, api.Tree{Kids: []api.Kid{{Key: key(n), Id: side}, {Key: least, Id: id}}})
		least = key(n)
	}
	return id, key(depth)
}

// P16.1: the eighth object on the way has no Kids, and none lies nine deep.
func TestDepth(t *testing.T) {
	for _, kind := range kinds() {
		for depth := 1; depth <= 20; depth++ {
			s := newSource()
			root, last := deep(s, kind, depth)
			want := api.OK
			if depth > 8 {
				want = api.ErrForm
			}
			if e := checkAll(t, s, root); e != want {
				t.Errorf("All, %d deep: %d, want %d", depth, e, want)
			}
			for n := 1; n <= depth; n++ {
				if e := checkFind(t, s, root, key(n)); e != api.OK && n < 8 || e != want && n >= 8 {
					t.Errorf("Find of a key %d deep of %d: %d", n, depth, e)
				}
			}
			if val, has, e := tree.Find(s, root, last); depth <= 8 && (val != "deepest" || !has || e != api.OK) || depth > 8 && (has || val != "") {
				t.Errorf("%d deep: %q, %t, %d", depth, val, has, e)
			}
		}
	}
}

// P16.1: what lies nine deep isn't asked for, so it is ErrForm, be it there or not.
func TestNineDeep(t *testing.T) {
	for _, kind := range kinds() {
		s := newSource()
		gone := []api.Kid{{Key: "a", Id: name(kind, "a")}, {Key: "b", Id: name(kind, "b")}}
		id := s.tree(kind, api.Tree{Kids: gone})
		checkRead(t, s, id, api.ErrNone)
		for n := 2; n <= 12; n++ {
			id = s.tree(kind, api.Tree{Kids: []api.Kid{{Key: "", Id: id}, {Key: fat(16), Id: name(kind, "c")}}})
			want := api.ErrNone
			if n >= 8 {
				want = api.ErrForm
			}
			if e := checkAll(t, s, id); e != want {
				t.Errorf("All, %d deep: %d, want %d", n+1, e, want)
			}
			if e := checkFind(t, s, id, "a"); e != want {
				t.Errorf("Find, %d deep: %d, want %d", n+1, e, want)
			}
		}
	}
}

// P16.1: the last kid whose key isn't above the key that is asked for, or the first one, if all are.
func TestWhichWay(t *testing.T) {
	s := newSource()
	ofOne := func(val string) api.Id {
		return s.tree(api.Fnv, api.Tree{Pairs: []api.Pair{{Key: "", Val: val}, {Key: "a", Val: val}, {Key: "c", Val: val}, {Key: "cc", Val: val}}})
	}
	three := s.tree(api.Sha, api.Tree{Kids: []api.Kid{{Key: "b", Id: ofOne("1")}, {Key: "c", Id: ofOne("2")}, {Key: "cc", Id: ofOne("3")}}})
	two := s.tree(api.Sha, api.Tree{Kids: []api.Kid{{Key: "", Id: ofOne("1")}, {Key: "a", Id: ofOne("2")}}})
	for _, c := range []struct {
		root api.Id
		key  string
		want string
	}{
		{three, "", "1"}, {three, "a", "1"}, {three, "b", ""}, {three, "bz", ""}, {three, "c", "2"}, {three, "c\x00", ""}, {three, "cc", "3"}, {three, "d", ""},
		{two, "", "1"}, {two, "\x00", ""}, {two, "a", "2"}, {two, "c", "2"}, {two, fat(17), ""}, {two, "cc", "2"},
	} {
		checkFind(t, s, c.root, c.key)
		if val, has, e := tree.Find(s, c.root, c.key); val != c.want || has != (c.want != "") || e != api.OK {
			t.Errorf("Find(%q) = %q, %t, %d, want %q", c.key, val, has, e, c.want)
		}
	}
	if e := checkAll(t, s, three); e != api.ErrForm {
		t.Errorf("All = %d", e)
	}
}

// P16.1: what is wrong with a kid is told at its end: ahead of what is wrong with the next one, behind what is below it.
func TestWhichError(t *testing.T) {
	for _, kind := range kinds() {
		s := newSource()
		leaf := func(keys ...string) api.Id {
			var x api.Tree
			for _, k := range keys {
				x.Pairs = append(x.Pairs, api.Pair{Key: k, Val: "v"})
			}
			return s.tree(kind, x)
		}
		both := func(k1 string, a api.Id, k2 string, b api.Id) api.Id {
			return s.tree(kind, api.Tree{Kids: []api.Kid{{Key: k1, Id: a}, {Key: k2, Id: b}}})
		}
		gone, commit := name(kind, "gone"), name(kind, "\x03")
		s.data[commit] = "\x03"
		for i, c := range []struct {
			root api.Id
			want api.Errno
		}{
			{both("a", leaf("a"), "b", leaf("b")), api.OK},
			{both("a", leaf("a"), "b", gone), api.ErrNone},
			{both("a", leaf("a"), "b", commit), api.ErrForm},
			{both("a", commit, "b", gone), api.ErrForm},
			{both("a", gone, "b", commit), api.ErrNone},
			{both("a", leaf(), "b", leaf("b")), api.ErrForm},
			{both("a", leaf("a"), "b", leaf()), api.ErrForm},
			{both("", leaf(), "b", leaf("b")), api.ErrForm},
			{both("a", leaf(), "b", gone), api.ErrForm},
			{both("a", gone, "b", leaf()), api.ErrNone},
			{both("a", leaf("aa"), "b", leaf("b")), api.ErrForm},
			{both("aa", leaf("a"), "b", leaf("b")), api.ErrForm},
			{both("a", leaf("a"), "b", leaf("a")), api.ErrForm},
			{both("a", leaf("a"), "b", leaf("c")), api.ErrForm},
			{both("", leaf("a"), "b", gone), api.ErrForm},
			{both("b", leaf("a", "b"), "c", gone), api.ErrForm},
			{both("a", both("a", leaf("a"), "c", leaf("b")), "d", gone), api.ErrForm},
			{both("b", both("a", leaf("a"), "b", gone), "d", leaf("d")), api.ErrNone},
			{both("b", both("a", leaf("a"), "b", leaf("b")), "d", gone), api.ErrForm},
			{both("a", leaf("a", "z"), "b", leaf("b")), api.ErrForm},
			{both("a", leaf("a", "b"), "b", leaf("b")), api.ErrForm},
			{both("a", leaf("a", "z"), "b", gone), api.ErrNone},
			{both("a", both("a", leaf("a", "z"), "b", leaf("b")), "c", gone), api.ErrNone},
			{both("a", both("a", leaf("a", "z"), "b", leaf("b")), "c", leaf("c")), api.ErrForm},
			{both("a", both("a", leaf("a"), "c", leaf("c", "d")), "d", leaf("d")), api.ErrForm},
			{both("a", both("a", leaf("a"), "c", leaf("c", "d")), "e", leaf("e")), api.OK},
		} {
			if e := checkAll(t, s, c.root); e != c.want {
				t.Errorf("case %d: %d, want %d", i, e, c.want)
			}
			for _, k := range []string{"", "a", "aa", "b", "c", "d", "e"} {
				checkFind(t, s, c.root, k)
			}
		}
	}
}

// P16.1: an object may name its kids by another hash than its own, and lie in more than one place.
func TestMixedHashes(t *testing.T) {
	s := newSource()
	leaf := func(kind byte, k string) api.Id {
		return s.tree(kind, api.Tree{Pairs: []api.Pair{{Key: k, Val: "v" + k}}})
	}
	low := s.tree(api.Sha, api.Tree{Kids: []api.Kid{{Key: "a", Id: leaf(api.Fnv, "a")}, {Key: "b", Id: leaf(api.Fnv, "b")}}})
	root := s.tree(api.Fnv, api.Tree{Kids: []api.Kid{{Key: "a", Id: low}, {Key: "c", Id: leaf(api.Sha, "c")}}})
	if e := checkAll(t, s, root); e != api.OK {
		t.Errorf("All = %d", e)
	}
	if val, has, e := tree.Find(s, root, "b"); val != "vb" || !has || e != api.OK {
		t.Errorf("Find = %q, %t, %d", val, has, e)
	}
	twice := s.tree(api.Fnv, api.Tree{Kids: []api.Kid{{Key: "a", Id: low}, {Key: "b", Id: low}}})
	if e := checkAll(t, s, twice); e != api.ErrForm {
		t.Errorf("All = %d", e)
	}
	if val, has, e := tree.Find(s, twice, "b"); val != "vb" || !has || e != api.OK {
		t.Errorf("Find = %q, %t, %d", val, has, e)
	}
}

// above puts trees together, three by three and two by two, and answers the last one.
func above(s *source, kind byte, row []api.Kid) api.Id {
	for len(row) > 1 {
		var next []api.Kid
		at := 0
		for _, n := range groups(len(row)) {
			next = append(next, api.Kid{Key: row[at].Key, Id: s.tree(kind, api.Tree{Kids: row[at : at+n]})})
			at += n
		}
		row = next
	}
	return row[0].Id
}

// P16.1: up to a kid's end there are at most 256 pairs; with more nothing behind it is read.
func TestTooMany(t *testing.T) {
	for _, kind := range kinds() {
		for _, n := range []int{64, 65, 66, 100} {
			for _, last := range []int{1, 3, 4} {
				s := newSource()
				var row []api.Kid
				for i := range n {
					var x api.Tree
					for at := 4 * i; at < 4*i+4 && (i < n-1 || at < 4*i+last); at++ {
						x.Pairs = append(x.Pairs, api.Pair{Key: key(at)})
					}
					row = append(row, api.Kid{Key: key(4 * i), Id: s.tree(kind, x)})
				}
				want := api.OK
				if n > 64 {
					want = api.ErrForm
				}
				if e := checkAll(t, s, above(s, kind, row)); e != want {
					t.Errorf("All of %d pairs = %d, want %d", 4*n-4+last, e, want)
				}
				row = append(row, api.Kid{Key: "z", Id: name(kind, "gone")})
				if want == api.OK {
					want = api.ErrNone
				}
				if e := checkAll(t, s, above(s, kind, row)); e != want {
					t.Errorf("All of %d pairs, and what isn't there = %d, want %d", 4*n-4+last, e, want)
				}
			}
		}
	}
}

// P16.1: pairs that are too many are told ahead of a key that doesn't rise, where something behind them is missing.
func TestTooManyOrTurned(t *testing.T) {
	s := newSource()
	var row []api.Kid
	for i := range 63 {
		x := api.Tree{Pairs: []api.Pair{{Key: key(4 * i)}, {Key: key(4*i + 1)}, {Key: key(4*i + 2)}, {Key: "z"}}}
		row = append(row, api.Kid{Key: key(4 * i), Id: s.tree(api.Fnv, x)})
	}
	if e := checkAll(t, s, above(s, api.Fnv, row)); e != api.ErrForm {
		t.Errorf("All = %d", e)
	}
	if e := checkAll(t, s, above(s, api.Fnv, append(row, api.Kid{Key: "y", Id: name(api.Fnv, "gone")}))); e != api.ErrNone {
		t.Errorf("All = %d", e)
	}
}

// forger makes trees of which here and there something is wrong.
type forger struct {
	s    *source
	r    *rand.Rand
	next int
	rate int
}

// chance answers true once in so many times, less often the higher the forger's rate is.
func (f *forger) chance() bool { return f.r.Intn(f.rate) == 0 }

// kid makes a kid of at most so many objects behind one another.
func (f *forger) kid(room int) api.Kid {
	var k api.Kid
	kind := byte(1 + f.r.Intn(2))
	first := f.next
	k.Key = key(first % 1000)
	if room <= 1 || f.r.Intn(3) == 0 {
		k.Id = f.leaf(kind)
	} else {
		k.Id = f.inner(kind, room)
	}
	switch {
	case f.chance():
		k.Key = key(f.r.Intn(1000))
	case f.chance():
		k.Id = name(k.Id.Kind, "gone")
	case f.chance():
		f.s.data[k.Id] += "x"
	case f.chance():
		k.Id = f.object(k.Id.Kind, "\x03\x00\x01"+fat(8)+"\x00\x02")
	case f.chance():
		f.s.fail[k.Id] = api.Errno(1 + f.r.Intn(20))
	}
	return k
}

// object has bytes there, and answers their name.
func (f *forger) object(kind byte, data string) api.Id {
	id := name(kind, data)
	f.s.data[id] = data
	return id
}

// leaf makes an object of pairs.
func (f *forger) leaf(kind byte) api.Id {
	var x api.Tree
	n := 1 + f.r.Intn(4)
	if f.chance() {
		n = 0
	}
	for range n {
		if f.chance() {
			f.next += f.r.Intn(5) - 2
		}
		x.Pairs = append(x.Pairs, api.Pair{Key: key(max(f.next, 0) % 1000), Val: "v"})
		f.next++
	}
	return f.s.tree(kind, x)
}

// inner makes an object of kids.
func (f *forger) inner(kind byte, room int) api.Id {
	var x api.Tree
	for range 2 + f.r.Intn(2) {
		x.Kids = append(x.Kids, f.kid(room-1))
	}
	// Kids by two hashes make an object that can't be; most are to be those that can.
	for i := range x.Kids {
		if x.Kids[i].Id.Kind != x.Kids[0].Id.Kind && f.r.Intn(20) > 0 {
			data := f.s.data[x.Kids[i].Id]
			x.Kids[i].Id = f.object(x.Kids[0].Id.Kind, data)
		}
	}
	return f.s.tree(kind, x)
}

// P16.1: what is read of forged objects is the model's, and each error is told that there is.
func TestForged(t *testing.T) {
	seen := map[api.Errno]int{}
	for seed := range 4000 {
		r := rand.New(rand.NewSource(int64(seed)))
		f := &forger{s: newSource(), r: r, rate: []int{5, 20, 100, 1000}[seed%4]}
		var root api.Id
		if seed%3 == 0 {
			root = f.kid(10).Id
		} else {
			root = f.inner(byte(1+seed%2), 2+r.Intn(6))
		}
		seen[checkAll(t, f.s, root)]++
		for range 20 {
			seen[checkFind(t, f.s, root, key(r.Intn(40)))]++
		}
		checkFind(t, f.s, root, strings.Repeat("z", r.Intn(20)))
	}
	for _, e := range []api.Errno{api.OK, api.ErrNone, api.ErrSum, api.ErrForm, 17} {
		if seen[e] < 5 {
			t.Errorf("%d was told %d times", e, seen[e])
		}
	}
}

// P16.1: to ask changes nothing, and each call answers the same again.
func TestAskedAgain(t *testing.T) {
	root, list, _ := tree.Build(api.Sha, pairsTo(100)...)
	p := tree.NewPool()
	p.Put(list...)
	for range 3 {
		if all, e := tree.All(p, root); e != api.OK || !slices.Equal(all, pairsTo(100)) {
			t.Fatalf("All = %q, %d", all, e)
		}
		if val, has, e := tree.Find(p, root, key(57)); val != "v57" || !has || e != api.OK || p.Size() != len(list) {
			t.Fatalf("Find = %q, %t, %d, of %d objects", val, has, e, p.Size())
		}
	}
}
