package btree_test

import (
	"fmt"
	"maps"
	"math"
	"math/rand"
	"slices"
	"testing"

	"rootstock/api"
	"rootstock/btree"
	"rootstock/disk"
)

// step is an Apply behind others.
type step struct {
	old  []api.Write
	list []api.Write
}

// many answers writes of so many keys from the first one on.
func many(first, count, size int) []api.Write {
	var list []api.Write
	for i := range count {
		list = append(list, put(fmt.Sprintf("%03d", first+i), fat(size)))
	}
	return list
}

// allGone answers the writes that take out what others put.
func allGone(list []api.Write) []api.Write {
	out := slices.Clone(list)
	for i := range out {
		out[i].Gone = true
	}
	return out
}

// steps are Applies that make a root, change a leaf, part and join pages, raise and lower the root, give pages back and take them.
func steps() []step {
	ten := many(0, 10, 150)
	return []step{
		{nil, []api.Write{put("a", "1")}},
		{nil, []api.Write{put("a", "1"), gone("a")}},
		{nil, ten},
		{ten, []api.Write{put("003", "1")}},
		{ten, []api.Write{put("0031", fat(160))}},
		{ten, []api.Write{gone("000"), put("000x", "1"), put("009", "2")}},
		{ten, allGone(ten[1:])},
		{ten, allGone(ten)},
		{slices.Concat(ten, allGone(ten[2:])), many(20, 6, 160)},
		{many(0, 60, 160), allGone(many(10, 40, 0))},
	}
}

// ready does a step's old writes in two Applies, so that pages can be given back between them.
func (s step) ready(t *testing.T, d *disk.Disk) *btree.Tree {
	t.Helper()
	tr := open(t, d)
	half := len(s.old) / 2
	apply(t, tr, s.old[:half]...)
	apply(t, tr, s.old[half:]...)
	return tr
}

// same tells whether a tree has just a model's pairs.
func same(tr *btree.Tree, m model) bool {
	pairs, e := tr.Scan("", math.MaxInt)
	return e == api.OK && slices.Equal(pairs, m.scan("", math.MaxInt))
}

// wantAllOrNone fails if an opened tree has neither all of a step's writes nor none, or not all where it must; it answers whether it has all.
func wantAllOrNone(t *testing.T, what string, tr *btree.Tree, s step, must bool) bool {
	t.Helper()
	none := model{}.behind(s.old...)
	full := none.behind(s.list...)
	got := none
	has := same(tr, full)
	if has {
		got = full
	} else if must || !same(tr, none) {
		t.Fatalf("%s: neither all nor none (must %t)", what, must)
	}
	wantModel(t, tr, got)
	// It goes on as any tree does.
	apply(t, tr, put("0035", fat(160)), put("zz", "1"), gone("001"))
	wantModel(t, tr, got.behind(put("0035", fat(160)), put("zz", "1"), gone("001")))
	return has
}

// P8.2: wherever the power goes in an Apply, whichever of the writes are kept: all of it, or none; all, if it was OK.
func TestPowerGoesInApply(t *testing.T) {
	for k, s := range steps() {
		seen := [2]bool{}
		for act, ok := 1, false; !ok; act++ {
			for _, keep := range []uint64{0, 1, 2, 3, 4, 5, 6, 7, 0xaaaa, 0x5555, 0xf0f0, 0xff00ff, 1 << 20, all, all - 1, all - 7, all >> 40} {
				what := fmt.Sprintf("step %d, act %d, keep %x", k, act, keep)
				d := disk.New(300)
				tr := s.ready(t, d)
				d.Arm(act, keep)
				e := tr.Apply(s.list...)
				ok = e == api.OK
				if !ok && e != api.ErrDown || d.Down() == ok {
					t.Fatalf("%s: error %d, Down %t", what, e, d.Down())
				}
				d.Off(keep)
				d.On()
				if wantAllOrNone(t, what, open(t, d), s, ok) {
					seen[1] = true
				} else {
					seen[0] = true
				}
			}
		}
		differ := !maps.Equal(model{}.behind(s.old...), model{}.behind(slices.Concat(s.old, s.list)...))
		if seen != [2]bool{differ, true} {
			t.Errorf("step %d: all and none were seen: %v", k, seen)
		}
	}
}

// P8.2: where the power goes in the Open behind that, too, over and over: all or none.
func TestPowerGoesInOpen(t *testing.T) {
	for k, s := range steps() {
		for act, ok := 1, false; !ok; act++ {
			for opened := 1; opened < 5; opened++ {
				keep := uint64(act*opened) * 0x9e3779b97f4a7c15
				what := fmt.Sprintf("step %d, acts %d, %d", k, act, opened)
				d := disk.New(300)
				tr := s.ready(t, d)
				d.Arm(act, keep)
				ok = tr.Apply(s.list...) == api.OK
				for range 3 {
					d.Off(keep)
					d.On()
					d.Arm(opened, keep>>7)
					tr, e := btree.Open(d, "t")
					if (tr == nil) != (e == api.ErrDown) || e != api.OK && e != api.ErrDown {
						t.Fatalf("%s: Open: %v, error %d", what, tr, e)
					}
				}
				d.Off(keep)
				d.On()
				d.Arm(0, 0)
				wantAllOrNone(t, what, open(t, d), s, ok)
			}
		}
	}
}

// randomKey answers one of some hundred keys, which have many beginnings in common.
func randomKey(rnd *rand.Rand) string {
	key := fmt.Sprint([]string{"", "k", "key", fat(40)}[rnd.Intn(4)], rnd.Intn(60))
	return key[:min(len(key), api.MaxKey)]
}

// randomWrites answers writes of which so many of a hundred take keys out.
func randomWrites(rnd *rand.Rand, goneOf100 int) []api.Write {
	var list []api.Write
	for range rnd.Intn([]int{1, 3, 10, 80}[rnd.Intn(4)] + 1) {
		val := make([]byte, []int{0, 1, 10, 60, 159, 160}[rnd.Intn(6)])
		rnd.Read(val)
		list = append(list, api.Write{Key: randomKey(rnd), Val: string(val), Gone: rnd.Intn(100) < goneOf100})
	}
	return list
}

// P8.1, P8.2, P8.3: calls in random orders, over disks of all sizes, with the power going now and then: always as the writes say.
func TestRandomOrders(t *testing.T) {
	for seed := range int64(40) {
		rnd := rand.New(rand.NewSource(seed))
		d := disk.New([]int{5, 12, 30, 80, 400}[rnd.Intn(5)])
		tr, now := open(t, d), model{}
		goneOf100 := 30
		for i := range 60 {
			if i%15 == 0 {
				goneOf100 = rnd.Intn(101)
			}
			list := randomWrites(rnd, goneOf100)
			next := now.behind(list...)
			if rnd.Intn(3) == 0 {
				d.Arm(1+rnd.Intn(30), rnd.Uint64())
			}
			switch e := tr.Apply(list...); {
			case e == api.OK:
				now = next
			case e == api.ErrFull && d.Free() < 200:
			case e == api.ErrDown && d.Down():
				d.On()
				tr = open(t, d)
				if same(tr, next) {
					now = next
				}
			default:
				t.Fatalf("seed %d, step %d: Apply: error %d", seed, i, e)
			}
			d.Arm(0, 0)
			if rnd.Intn(4) == 0 {
				d.Off(rnd.Uint64())
				d.On()
				tr = open(t, d)
			}
			from, n := randomKey(rnd), rnd.Intn(20)
			wantScan(t, tr, from, n, now.scan(from, n))
			wantModel(t, tr, now)
		}
	}
}

// P8.3: of pairs that are put in and taken out in any order the depth is never too great, behind each Apply.
func TestDepth(t *testing.T) {
	orders := map[string]func(n, i int) int{
		"rising":  func(n, i int) int { return i },
		"falling": func(n, i int) int { return n - 1 - i },
		"mixed":   func(n, i int) int { return i * 389 % n },
		"inward":  func(n, i int) int { return []int{i / 2, n - 1 - i/2}[i%2] },
	}
	names := slices.Sorted(maps.Keys(orders))
	for _, in := range names {
		for _, out := range names {
			for _, size := range []int{0, 160} {
				const n = 300
				tr := open(t, disk.New(api.MaxPages))
				for i := range 2 * n {
					pairs := i + 1
					w := put(fmt.Sprintf("%s%03d", fat(44*size/160), orders[in](n, i%n)), fat(size))
					if i >= n {
						pairs = 2*n - i - 1
						w = gone(fmt.Sprintf("%s%03d", fat(44*size/160), orders[out](n, i%n)))
					}
					apply(t, tr, w)
					if tr.Depth() < 1 || tr.Depth() > mostDepth(pairs) {
						t.Fatalf("%s, %s, values of %d: Depth %d of %d pairs", in, out, size, tr.Depth(), pairs)
					}
				}
				wantModel(t, tr, model{})
			}
		}
	}
}

// P8.3: of as many of the longest keys as a disk takes, and of what is left when nearly all are taken out at once.
func TestDepthOfMany(t *testing.T) {
	d := disk.New(api.MaxPages)
	tr, m := open(t, d), model{}
	for i := 0; ; i++ {
		var list []api.Write
		for k := range 200 {
			list = append(list, put(fmt.Sprintf("%s%05d", fat(43), (i*200+k)*7919%100000), fat(160)))
		}
		if e := tr.Apply(list...); e == api.ErrFull {
			break
		} else {
			wantErr(t, "Apply", e, api.OK)
		}
		m.apply(list...)
	}
	if len(m) < 2000 || tr.Depth() < 4 {
		t.Errorf("%d pairs, Depth %d", len(m), tr.Depth())
	}
	wantModel(t, tr, m)
	tr = open(t, d)
	wantModel(t, tr, m)
	keys := slices.Sorted(maps.Keys(m))
	for part := range slices.Chunk(keys[2:], 100) {
		var list []api.Write
		for _, key := range part {
			list = append(list, gone(key))
		}
		apply(t, tr, list...)
		m.apply(list...)
		wantScan(t, tr, "", math.MaxInt, m.scan("", math.MaxInt))
		if tr.Depth() > mostDepth(len(m)) {
			t.Fatalf("Depth %d of %d pairs", tr.Depth(), len(m))
		}
	}
	wantModel(t, tr, m)
	if tr.Depth() != 1 {
		t.Errorf("two pairs: Depth %d", tr.Depth())
	}
}

// P8.4: what is handed in isn't changed, spare room included, and isn't kept.
func TestHandedIn(t *testing.T) {
	d := disk.New(400)
	tr := open(t, d)
	room := many(0, 100, 90)
	slices.Reverse(room)
	room[3].Gone, room[7] = true, room[9]
	was := slices.Clone(room)
	apply(t, tr, room[:80]...)
	wantErr(t, "a long one", tr.Apply(append(room[:79:80], put(fat(49), ""))...), api.ErrLong)
	room[79] = was[79]
	if !slices.Equal(room, was) {
		t.Fatal("the writes aren't what they were")
	}
	m := model{}.behind(room[:80]...)
	for i := range room {
		room[i] = put("other", "other")
	}
	wantModel(t, tr, m)
	wantModel(t, open(t, d), m)
}

// P8.4: what is answered is new memory.
func TestAnswered(t *testing.T) {
	tr, m := open(t, disk.New(400)), model{}.behind(many(0, 50, 50)...)
	apply(t, tr, writesOf(m)...)
	first, _ := tr.Scan("", 20)
	second, _ := tr.Scan("", 20)
	for i := range first {
		first[i] = api.Pair{Key: "other", Val: "other"}
	}
	first = append(first, pairsOf("spare", "room")...)
	if !slices.Equal(second, m.scan("", 20)) {
		t.Errorf("an earlier answer is changed: %.100q", second)
	}
	wantModel(t, tr, m)
}
