package dag_test

import (
	"bytes"
	"cmp"
	"math/rand"
	"slices"
	"strconv"
	"strings"
	"testing"

	"rootstock/api"
	"rootstock/dag"
	"rootstock/tree"
)

// kinds are the hashes.
func kinds() []byte { return []byte{api.Fnv, api.Sha} }

// P17.1: the source's error is told first, then that a name isn't the bytes', then that they are no commit's.
func TestRead(t *testing.T) {
	for _, kind := range kinds() {
		root, other, last := name(kind, "r"), name(kind, "a"), name(kind, "b")
		for _, c := range []struct {
			commit api.Commit
			want   api.Errno
		}{
			{api.Commit{Root: root, Num: 1}, api.OK},
			{api.Commit{Root: root, Parents: []api.Id{other}, Note: "note", Num: 2}, api.OK},
			{api.Commit{Root: root, Parents: []api.Id{last, other}, Note: strings.Repeat("n", 32), Num: 1024}, api.OK},
			{api.Commit{Root: root, Num: 0}, api.ErrForm},
			{api.Commit{Root: root, Num: -1}, api.ErrForm},
			{api.Commit{Root: root, Num: 1025}, api.ErrForm},
			{api.Commit{Root: root, Note: strings.Repeat("n", 33), Num: 1}, api.ErrForm},
			{api.Commit{Root: root, Parents: []api.Id{other, other}, Num: 1}, api.ErrForm},
			{api.Commit{Root: root, Parents: []api.Id{other, last, root}, Num: 1}, api.ErrForm},
			{api.Commit{Root: root, Parents: []api.Id{name(3-kind, "a")}, Num: 1}, api.ErrForm},
			{api.Commit{Num: 1}, api.ErrForm},
		} {
			readAs(t, kind, bytesOf(c.commit), c.want)
		}
		for _, data := range []string{"", "\x01\x00", "\x01\x01\x01a\x01b", "\x03", bytesOf(api.Commit{Root: root, Num: 1}) + "\x00", strings.Repeat("x", 1000)} {
			readAs(t, kind, data, api.ErrForm)
		}
	}
}

// readAs reads bytes under their own name, and beside it, and holds the errors against what is wanted.
func readAs(t *testing.T, kind byte, data string, want api.Errno) {
	t.Helper()
	id := name(kind, data)
	hold := func(s *source, want api.Errno) {
		t.Helper()
		_, e2 := checkComes(t, s, id, id)
		_, e3 := checkBase(t, s, id, id)
		if e := checkRead(t, s, id); e != want || want != api.OK && (checkAll(t, s, id) != want || e2 != want || e3 != want) {
			t.Errorf("%q: %d, want %d", data, e, want)
		}
	}
	s := newSource()
	hold(s, api.ErrNone)
	s.data[id] = data
	if want == api.OK {
		if e := checkRead(t, s, id); e != api.OK {
			t.Errorf("%q: %d", data, e)
		}
	} else {
		hold(s, want)
	}
	for _, turned := range []string{data + "x", data + "\x00", "", "\x01\x00", strings.Repeat("y", 99)} {
		if turned != data {
			s.data[id] = turned
			hold(s, api.ErrSum)
		}
	}
	for _, e := range []api.Errno{api.ErrArg, api.ErrNone, api.ErrAway, api.ErrForm, api.ErrSum, api.ErrShallow, 99, -1} {
		s.fail[id] = e
		hold(s, e)
		s.data[id] = data
	}
}

// P17.1: a name whose hash isn't there, or that has anything behind its sum, is no bytes' name.
func TestNamesThatCant(t *testing.T) {
	data := bytesOf(api.Commit{Root: name(api.Sha, "r"), Num: 1})
	weak, strong := name(api.Fnv, data), name(api.Sha, data)
	list := []api.Id{{}, {Sum: strong.Sum}, {Sum: weak.Sum}, {Kind: api.Fnv, Sum: strong.Sum}, {Kind: api.Sha, Sum: weak.Sum}, {Kind: api.Fnv}, {Kind: api.Sha}}
	for kind := 3; kind < 256; kind++ {
		list = append(list, api.Id{Kind: byte(kind)}, api.Id{Kind: byte(kind), Sum: strong.Sum})
	}
	for at := range 32 {
		for bit := range 8 {
			list = append(list, strong, weak)
			list[len(list)-2].Sum[at] ^= 1 << bit
			list[len(list)-1].Sum[at] ^= 1 << bit
		}
	}
	for _, id := range list {
		s := newSource()
		s.data[id] = data
		_, comes := checkComes(t, s, id, id)
		_, based := checkBase(t, s, id, id)
		for i, e := range []api.Errno{checkRead(t, s, id), checkAll(t, s, id), comes, based} {
			if e != api.ErrSum {
				t.Errorf("call %d of %x = %d", i, id, e)
			}
		}
	}
}

// P17.1: a nil pool is ErrNil, and so is no source at all, if anything is to be read.
func TestNil(t *testing.T) {
	var p *tree.Pool
	for _, s := range []tree.Source{p, nil} {
		for _, id := range []api.Id{{}, name(api.Sha, "a"), {Kind: 9}} {
			c, e1 := dag.Read(s, id)
			list, e2 := dag.All(s, id, api.Id{})
			ok, e3 := dag.Comes(s, id, id)
			base, e4 := dag.Base(s, id, id)
			if !same([]api.Entry{{Commit: c}}, []api.Entry{{}}) || list != nil || ok || base != (api.Id{}) {
				t.Errorf("%v, %v, %t, %x", c, list, ok, base)
			}
			if e1 != api.ErrNil || e2 != api.ErrNil || e3 != api.ErrNil || e4 != api.ErrNil {
				t.Errorf("%d, %d, %d, %d", e1, e2, e3, e4)
			}
		}
		if list, e := dag.All(s); len(list) != 0 || e != api.OK {
			t.Errorf("All = %v, %d", list, e)
		}
	}
}

// P17.1: All answers each commit once, by rising Nums, and by rising texts of names; the weak hash's are less.
func TestOrder(t *testing.T) {
	s := newSource()
	var heads []api.Id
	for i := range 40 {
		note := "n" + strconv.Itoa(i)
		for _, kind := range kinds() {
			heads = append(heads, s.mixed(kind, 3-kind, note, 1+i%3), s.commit(kind, note, 1+i%3))
		}
	}
	if e := checkAll(t, s, heads...); e != api.OK {
		t.Fatal(e)
	}
	list, _ := dag.All(s, heads...)
	slices.Reverse(heads)
	again, _ := dag.All(s, append(heads, heads...)...)
	if len(list) != 160 || !same(list, again) {
		t.Fatalf("%d commits, then %d", len(list), len(again))
	}
	for i, y := range list[1:] {
		x := list[i]
		sums := bytes.Compare(x.Id.Sum[:], y.Id.Sum[:])
		if got := cmp.Or(cmp.Compare(x.Commit.Num, y.Commit.Num), cmp.Compare(x.Id.Kind, y.Id.Kind), sums); got >= 0 {
			t.Errorf("%v stands ahead of %v", x, y)
		}
	}
	if e := checkAll(t, s); e != api.OK {
		t.Error(e)
	}
}

// P17.1: the row is gone over from its front, each commit read once, Parents in their order behind all that stand there.
func TestRow(t *testing.T) {
	for _, kind := range kinds() {
		s := newSource()
		a, b := s.commit(kind, "a", 1), s.commit(kind, "b", 1)
		c, d := s.commit(kind, "c", 2, b, a), s.commit(kind, "d", 3, a)
		e, f := s.commit(kind, "e", 4, d, c), s.commit(kind, "f", 9, c, d)
		for _, x := range []struct{ heads, asked []api.Id }{
			{[]api.Id{f, e}, []api.Id{f, e, c, d, b, a}},
			{[]api.Id{e}, []api.Id{e, d, c, a, b}},
			{[]api.Id{a, f, a, f}, []api.Id{a, f, c, d, b}},
			{[]api.Id{c, d}, []api.Id{c, d, b, a}},
			{[]api.Id{b, b, b}, []api.Id{b}},
			{nil, nil},
		} {
			if e := checkAll(t, s, x.heads...); e != api.OK {
				t.Error(e)
			}
			s.asked = nil
			dag.All(s, x.heads...)
			if !slices.Equal(s.asked, x.asked) {
				t.Errorf("%x: asks for %x, want %x", x.heads, s.asked, x.asked)
			}
		}
	}
}

// P17.1: a Parent's Num must be below that of each commit whose Parent it is; a head's needn't be below anything.
func TestNums(t *testing.T) {
	for _, kind := range kinds() {
		s := newSource()
		one, ten, top := s.commit(kind, "", 1), s.commit(kind, "", 10), s.commit(kind, "", 1024)
		gone := name(kind, "gone")
		for _, c := range []struct {
			want  api.Errno
			heads []api.Id
		}{
			{api.OK, []api.Id{top}},
			{api.OK, []api.Id{s.commit(kind, "a", 11, ten)}},
			{api.OK, []api.Id{s.commit(kind, "a", 1024, ten, one)}},
			{api.ErrForm, []api.Id{s.commit(kind, "a", 10, ten)}},
			{api.ErrForm, []api.Id{s.commit(kind, "a", 9, ten)}},
			{api.ErrForm, []api.Id{s.commit(kind, "a", 1, one)}},
			{api.ErrForm, []api.Id{s.commit(kind, "a", 10, one, ten)}},
			{api.ErrForm, []api.Id{s.commit(kind, "a", 10, ten, one)}},
			{api.ErrForm, []api.Id{s.commit(kind, "a", 1024, top)}},
			// A commit that was read ahead as a head, or as a greater one's Parent, is held against this one's Num, too.
			{api.ErrForm, []api.Id{ten, s.commit(kind, "a", 10, ten)}},
			{api.ErrForm, []api.Id{s.commit(kind, "a", 11, ten), s.commit(kind, "b", 5, ten)}},
			{api.ErrForm, []api.Id{s.commit(kind, "a", 11, ten), s.commit(kind, "b", 12, s.commit(kind, "c", 7, ten))}},
			{api.OK, []api.Id{s.commit(kind, "a", 11, ten), s.commit(kind, "b", 12, s.commit(kind, "c", 11, ten))}},
			// What is read ahead of the Parent tells its error first; what would be read behind it doesn't.
			{api.ErrNone, []api.Id{s.commit(kind, "a", 10, ten), gone}},
			{api.ErrForm, []api.Id{s.commit(kind, "a", 10, ten), s.commit(kind, "b", 10, gone)}},
			{api.ErrNone, []api.Id{s.commit(kind, "a", 10, gone, ten)}},
			{api.ErrForm, []api.Id{s.commit(kind, "a", 10, ten, gone)}},
			{api.ErrForm, []api.Id{s.commit(kind, "a", 10, s.commit(kind, "b", 10, gone))}},
			{api.ErrNone, []api.Id{s.commit(kind, "a", 11, s.commit(kind, "b", 10, gone))}},
		} {
			if e := checkAll(t, s, c.heads...); e != c.want {
				t.Errorf("%x: %d, want %d", c.heads, e, c.want)
			}
			if len(c.heads) == 1 {
				if _, e := checkComes(t, s, c.heads[0], one); e != c.want {
					t.Errorf("Comes(%x): %d, want %d", c.heads, e, c.want)
				}
			}
			if _, e := checkBase(t, s, c.heads[0], c.heads[len(c.heads)-1]); e != c.want && e != api.ErrBase {
				t.Errorf("Base(%x): %d, want %d", c.heads, e, c.want)
			}
		}
	}
}

// P17.1: 1024 commits are all, one more is too much; but if it can't be read, that is told.
func TestTooMany(t *testing.T) {
	s := newSource()
	ids := s.chain(api.Fnv, "", 1, 1024)
	last := ids[1023]
	if e := checkAll(t, s, last); e != api.OK {
		t.Fatal(e)
	}
	if e := checkAll(t, s, append(ids, ids...)...); e != api.OK {
		t.Fatal(e)
	}
	more, gone, low := s.commit(api.Fnv, "more", 1), name(api.Fnv, "gone"), s.commit(api.Sha, "low", 1)
	turned := s.commit(api.Fnv, "turned", 1)
	s.data[turned] = "x"
	under := s.mixed(api.Fnv, api.Sha, "under", 1, low)
	for _, c := range []struct {
		want  api.Errno
		heads []api.Id
	}{
		{api.ErrLong, append(slices.Clone(ids), more)},
		{api.ErrNone, append(slices.Clone(ids), gone)},
		{api.ErrSum, append(slices.Clone(ids), turned)},
		{api.ErrLong, append(slices.Clone(ids), more, gone)},
		{api.ErrLong, []api.Id{last, more}},
		{api.ErrLong, []api.Id{more, last}},
		{api.ErrNone, []api.Id{last, more, gone}},
		{api.OK, []api.Id{ids[1022], more}},
		{api.OK, []api.Id{more, ids[1022], more}},
		{api.ErrLong, []api.Id{more, low, ids[1022]}},
		// Of one that is too much, it isn't told that its Num can't be.
		{api.ErrLong, append(slices.Clone(ids[:1023]), under)},
		{api.ErrForm, append(slices.Clone(ids[:1022]), under)},
	} {
		if e := checkAll(t, s, c.heads...); e != c.want {
			t.Errorf("All of %d heads = %d, want %d", len(c.heads), e, c.want)
		}
	}
	if _, e := checkBase(t, s, last, more); e != api.ErrLong {
		t.Error(e)
	}
	if _, e := checkBase(t, s, ids[1022], more); e != api.ErrBase {
		t.Error(e)
	}
	if id, e := checkBase(t, s, last, ids[700]); e != api.OK || id != ids[700] {
		t.Errorf("%x, %d", id, e)
	}
	if ok, e := checkComes(t, s, last, ids[0]); e != api.OK || !ok {
		t.Errorf("%t, %d", ok, e)
	}
	if ok, e := checkComes(t, s, ids[1022], last); e != api.OK || ok {
		t.Errorf("%t, %d", ok, e)
	}
}

// P17.1: of 1024 commits in rows of two, each of which came from both of the row ahead of it, all is told at once.
func TestLadder(t *testing.T) {
	s := newSource()
	a, b := s.commit(api.Fnv, "a", 1), s.commit(api.Fnv, "b", 1)
	least := a
	if nameText(b) < nameText(a) {
		least = b
	}
	first := least
	for num := 2; num <= 512; num++ {
		a, b = s.commit(api.Fnv, "a", num, a, b), s.commit(api.Fnv, "b", num, b, a)
		if num == 511 {
			least = a
			if nameText(b) < nameText(a) {
				least = b
			}
		}
	}
	all, _, _ := s.all(a, b)
	if list, e := dag.All(s.pool(), a, b); e != api.OK || len(list) != 1024 || !same(list, all) {
		t.Fatalf("%d commits, %d", len(list), e)
	}
	for _, c := range [][2]api.Id{{a, b}, {b, a}} {
		if id, e := dag.Base(s.pool(), c[0], c[1]); id != least || e != api.OK {
			t.Errorf("Base = %x, %d, want %x", id, e, least)
		}
		if ok, e := dag.Comes(s.pool(), c[0], first); !ok || e != api.OK {
			t.Errorf("Comes = %t, %d", ok, e)
		}
		if ok, e := dag.Comes(s.pool(), c[0], c[1]); ok || e != api.OK {
			t.Errorf("Comes = %t, %d", ok, e)
		}
	}
}

// P17.1: Comes asks for nothing of the commit from; one that isn't there, or can't be, isn't come from.
func TestComes(t *testing.T) {
	for _, kind := range kinds() {
		s := newSource()
		ids := s.chain(kind, "", 1, 5)
		side := s.commit(kind, "side", 4, ids[1])
		merged := s.commit(kind, "merged", 6, ids[4], side)
		for _, c := range []struct {
			id, from api.Id
			want     bool
		}{
			{ids[4], ids[0], true}, {ids[4], ids[4], true}, {ids[0], ids[0], true}, {ids[0], ids[4], false},
			{side, ids[1], true}, {side, ids[2], false}, {ids[4], side, false}, {merged, side, true}, {merged, ids[4], true},
			{merged, ids[0], true}, {side, merged, false}, {ids[4], api.Id{}, false}, {ids[4], api.Id{Kind: 9}, false},
			{ids[4], name(kind, "gone"), false}, {ids[4], name(kind, "\x01\x00"), false}, {ids[4], name(3-kind, s.data[ids[0]]), false},
		} {
			if ok, e := checkComes(t, s, c.id, c.from); ok != c.want || e != api.OK {
				t.Errorf("Comes(%x, %x) = %t, %d", c.id, c.from, ok, e)
			}
		}
		if ok, e := checkComes(t, s, name(kind, "gone"), ids[0]); ok || e != api.ErrNone {
			t.Errorf("%t, %d", ok, e)
		}
		delete(s.data, ids[0])
		for _, old := range ids {
			if ok, e := checkComes(t, s, merged, old); ok || e != api.ErrNone {
				t.Errorf("%t, %d", ok, e)
			}
		}
	}
}

// P17.2: the base of a commit and of what it comes from is the latter; of a commit and itself it is that commit.
func TestBase(t *testing.T) {
	for _, kind := range kinds() {
		s := newSource()
		ids := s.chain(kind, "", 1, 5)
		side := s.chain(kind, "side", 3, 9, ids[1])
		alone := s.chain(kind, "alone", 1, 3)
		merged := s.commit(kind, "merged", 10, side[4], ids[3])
		later := s.commit(kind, "later", 11, merged)
		beside := s.commit(kind, "beside", 12, merged, alone[2])
		for _, c := range []struct {
			a, b, want api.Id
			e          api.Errno
		}{
			{ids[4], ids[4], ids[4], api.OK},
			{ids[0], ids[0], ids[0], api.OK},
			{ids[4], ids[2], ids[2], api.OK},
			{ids[4], ids[0], ids[0], api.OK},
			{ids[4], side[6], ids[1], api.OK},
			{ids[4], side[0], ids[1], api.OK},
			{merged, ids[4], ids[3], api.OK},
			{merged, side[6], side[4], api.OK},
			{later, ids[1], ids[1], api.OK},
			{later, beside, merged, api.OK},
			{beside, alone[0], alone[0], api.OK},
			{beside, alone[2], alone[2], api.OK},
			{later, alone[2], api.Id{}, api.ErrBase},
			{ids[0], alone[0], api.Id{}, api.ErrBase},
		} {
			for range 2 {
				if id, e := checkBase(t, s, c.a, c.b); id != c.want || e != c.e {
					t.Errorf("Base(%x, %x) = %x, %d", c.a, c.b, id, e)
				}
				c.a, c.b = c.b, c.a
			}
		}
		if id, e := checkBase(t, s, name(kind, "gone"), ids[0]); id != (api.Id{}) || e != api.ErrNone {
			t.Errorf("%x, %d", id, e)
		}
		if id, e := checkBase(t, s, ids[0], name(kind, "gone")); id != (api.Id{}) || e != api.ErrNone {
			t.Errorf("%x, %d", id, e)
		}
	}
}

// P17.1: what is wrong is told of the first one first, and of one that both are, once.
func TestBaseErrors(t *testing.T) {
	s := newSource()
	one := s.commit(api.Sha, "", 1)
	gone, turned := name(api.Sha, "gone"), s.commit(api.Sha, "turned", 1)
	s.data[turned] = "\x01\x00"
	bad, lost := s.commit(api.Sha, "bad", 1, one), s.commit(api.Sha, "lost", 2, gone)
	for _, c := range []struct {
		a, b api.Id
		want api.Errno
	}{
		{gone, turned, api.ErrNone}, {turned, gone, api.ErrSum}, {turned, turned, api.ErrSum},
		{bad, turned, api.ErrSum}, {bad, lost, api.ErrForm}, {lost, bad, api.ErrNone}, {bad, one, api.ErrForm}, {one, lost, api.ErrNone},
	} {
		if id, e := checkBase(t, s, c.a, c.b); id != (api.Id{}) || e != c.want {
			t.Errorf("Base(%x, %x) = %x, %d, want %d", c.a, c.b, id, e, c.want)
		}
	}
}

// P17.1, P17.2: of two that were merged into one another crosswise there are two bases; the elder one is told, and of one Num the less name.
func TestCrosswise(t *testing.T) {
	for _, kind := range kinds() {
		s := newSource()
		first := s.commit(kind, "first", 1)
		for i := range 20 {
			note := strconv.Itoa(i)
			for _, nums := range [][2]int{{2, 3}, {3, 2}, {2, 2}, {7, 2}, {2, 7}} {
				a, b := s.commit(kind, "a"+note, nums[0], first), s.commit(kind, "b"+note, nums[1], first)
				x, y := s.commit(kind, "x"+note, 8, a, b), s.commit(kind, "y"+note, 8, b, a)
				want := a
				if nums[1] < nums[0] || nums[0] == nums[1] && nameText(b) < nameText(a) {
					want = b
				}
				for _, c := range [][2]api.Id{{x, y}, {y, x}} {
					if id, e := checkBase(t, s, c[0], c[1]); id != want || e != api.OK {
						t.Errorf("Base(%x) = %x, %d, want %x", c, id, e, want)
					}
				}
			}
		}
	}
}

// P17.1, P17.2: of random histories, whole and with objects lost and turned, all calls answer what the words say.
func TestRandom(t *testing.T) {
	r := rand.New(rand.NewSource(17))
	tell := map[api.Errno]int{}
	for range 400 {
		s, ids := someHistory(r)
		for range 4 {
			var heads []api.Id
			for range r.Intn(4) {
				heads = append(heads, ids[r.Intn(len(ids))])
			}
			tell[checkAll(t, s, heads...)]++
		}
		for range 12 {
			a, b := ids[r.Intn(len(ids))], ids[r.Intn(len(ids))]
			id, e := checkBase(t, s, a, b)
			tell[e]++
			back, e2 := checkBase(t, s, b, a)
			ok, e3 := checkComes(t, s, a, b)
			tell[e3]++
			if (e == api.OK) != (e2 == api.OK) || back != id || e == api.OK && ok != (id == b) {
				t.Fatalf("Base(%x, %x) = %x, %d; %x, %d; %t", a, b, id, e, back, e2, ok)
			}
		}
	}
	for _, e := range []api.Errno{api.OK, api.ErrNone, api.ErrSum, api.ErrForm, api.ErrAway, api.ErrBase} {
		if tell[e] < 50 {
			t.Errorf("error %d is met %d times", e, tell[e])
		}
	}
}

// someHistory answers random commits, of which some may be lost, turned, or no commits.
func someHistory(r *rand.Rand) (*source, []api.Id) {
	s, kind := newSource(), kinds()[r.Intn(2)]
	ids := []api.Id{s.commit(kind, "first", 1)}
	nums := []int{1}
	wild := r.Intn(3) == 0
	for n := range 2 + r.Intn(14) {
		var parents []api.Id
		num := 1 + r.Intn(3)
		for range r.Intn(3) {
			at := max(r.Intn(len(ids)), r.Intn(len(ids)))
			if ids[at].Kind == kind && !slices.Contains(parents, ids[at]) {
				parents = append(parents, ids[at])
				num = max(num, nums[at]+1+r.Intn(2))
			}
		}
		if wild && r.Intn(8) == 0 {
			num = 1 + r.Intn(num)
		}
		by := kind
		if r.Intn(8) == 0 {
			by = 3 - kind
		}
		ids = append(ids, s.mixed(by, kind, strconv.Itoa(n), num, parents...))
		nums = append(nums, num)
	}
	if r.Intn(3) == 0 {
		spoil(r, s, ids)
	}
	return s, ids
}

// spoil loses a commit, turns it, has its source fail, or has something else as one more.
func spoil(r *rand.Rand, s *source, ids []api.Id) {
	at := r.Intn(len(ids))
	switch r.Intn(4) {
	case 0:
		delete(s.data, ids[at])
	case 1:
		s.data[ids[at]] += "x"
	case 2:
		s.fail[ids[at]] = api.ErrAway
	case 3:
		ids[at] = name(api.Sha, "\x01\x00")
		s.data[ids[at]] = "\x01\x00"
	}
}

// P17.3: what is handed in stays as it is, spare room included; what is answered is new memory.
func TestMemory(t *testing.T) {
	s := newSource()
	a, b := s.commit(api.Sha, "a", 1), s.commit(api.Sha, "b", 1)
	c, d := s.commit(api.Sha, "c", 2, b, a), s.commit(api.Sha, "d", 2, a, b)
	room := []api.Id{d, c, {Kind: 7}, {Kind: 8}}
	before := slices.Clone(room)
	pool := s.pool()
	list, e := dag.All(pool, room[:2]...)
	if e != api.OK || !slices.Equal(room, before) || pool.Size() != 4 {
		t.Fatalf("%d, %v, %d objects", e, room, pool.Size())
	}
	want, _, _ := s.all(room[:2]...)
	for range 2 {
		if !same(list, want) {
			t.Fatalf("%v, want %v", list, want)
		}
		read, _ := dag.Read(pool, c)
		again, _ := dag.Read(pool, c)
		if !same([]api.Entry{{Commit: read}}, []api.Entry{{Commit: again}}) || !slices.Equal(read.Parents, []api.Id{b, a}) {
			t.Fatalf("%v, then %v", read, again)
		}
		other, _ := dag.All(pool, room[:2]...)
		for i := range list {
			// What stands behind a list's end is no other list's.
			_ = append(list[i].Commit.Parents, api.Id{Kind: 9})
		}
		if !same(list, want) {
			t.Fatalf("%v, want %v", list, want)
		}
		for i := range list {
			clear(list[i].Commit.Parents)
		}
		clear(list)
		clear(read.Parents)
		if !slices.Equal(again.Parents, []api.Id{b, a}) {
			t.Fatal("two answers share memory")
		}
		list = other
	}
	clear(room)
	if !same(list, want) {
		t.Error("what is handed in is kept")
	}
}
