package store_test

import (
	"fmt"
	"maps"
	"math/rand"
	"testing"

	"rootstock/api"
	"rootstock/disk"
	"rootstock/store"
)

// power has the power go, and come back.
func power(d *disk.Disk, keep uint64) {
	d.Arm(0, 0)
	d.Off(keep)
	d.On()
}

// wantDown fails if a call of a store isn't ErrDown, and nothing beside it.
func wantDown(t *testing.T, s *store.Store) {
	t.Helper()
	for _, key := range []string{"a", "none", "", fat(49)} {
		if val, ok, e := s.Get(key); val != "" || ok || e != api.ErrDown {
			t.Errorf("kind %d: Get(%q) = %q, %t, error %d", s.Kind(), key, val, ok, e)
		}
	}
	for _, n := range []int{-1, 0, 1, 9} {
		if pairs, e := s.Scan("", n); len(pairs) != 0 || e != api.ErrDown {
			t.Errorf("kind %d: Scan of %d: %q, error %d", s.Kind(), n, pairs, e)
		}
	}
	for i, list := range append(tooLong(), nil, []api.Write{put("a", "2")}, []api.Write{gone("none")}, filling("b", 1000, 160)) {
		if e := s.Apply(list...); e != api.ErrDown {
			t.Errorf("kind %d: Apply, case %d: error %d", s.Kind(), i, e)
		}
	}
	if e := s.Sync(); e != api.ErrDown {
		t.Errorf("kind %d: Sync: error %d", s.Kind(), e)
	}
}

// With the power off every call of a store that has files is ErrDown, ahead of what else is wrong; one that nothing was ever written to, too.
func TestPowerOff(t *testing.T) {
	for _, kind := range laid() {
		for _, list := range [][]api.Write{nil, {put("a", "1")}, append(filling("f", 30, 50), put("a", "1"))} {
			d := disk.New(100)
			s, m := open(t, kind, d), model{}.behind(list...)
			apply(t, s, list...)
			wantErr(t, "Sync", s.Sync(), api.OK)
			leave(t, d, 8)
			if d.Has("other") {
				wantErr(t, "Sync", d.Sync("other"), api.OK)
			}
			d.Off(0)
			wantDown(t, s)
			d.On()
			wantModel(t, open(t, kind, d), m)
		}
	}
}

// P12.1: a store in memory never asks for the power.
func TestMemoryWithoutPower(t *testing.T) {
	d := disk.New(0)
	s, m := open(t, store.Mem, d), model{}
	apply(t, s, put("a", "1"), put("b", "2"))
	m.apply(put("a", "1"), put("b", "2"))
	d.Off(0)
	wantModel(t, s, m)
	apply(t, s)
	apply(t, s, gone("a"), put("c", "3"))
	m.apply(gone("a"), put("c", "3"))
	wantErr(t, "Sync", s.Sync(), api.OK)
	wantModel(t, s, m)
	for _, list := range tooLong() {
		wantErr(t, "too long", s.Apply(list...), api.ErrLong)
	}
	d.On()
	wantModel(t, s, m)
	// P12.2: opened behind it, it has no pairs, though a Sync was OK.
	wantModel(t, open(t, store.Mem, d), model{})
}

// story is Applies, one behind the other, and which of them a Sync comes behind.
type story struct {
	lists [][]api.Write
	syncs map[int]bool
}

// stories are Applies of which no two of one story leave the same pairs.
func stories() []story {
	var few, some, big [][]api.Write
	for i := range 5 {
		few = append(few, []api.Write{put(fmt.Sprint(i), fat(i*30)), put("same", fmt.Sprint(i)), gone(fmt.Sprint(i - 2))})
	}
	for i := range 13 {
		some = append(some, append(filling(fmt.Sprint(i%3, "-"), 9, 10+i), gone(fmt.Sprintf("%d-0004", i%3))))
	}
	for i := range 6 {
		big = append(big, append(filling(fmt.Sprint(i%4, "-"), 25, 40+i), gone(fmt.Sprintf("%d-0003", (i+2)%4))))
	}
	return []story{
		{few, nil},
		{few, map[int]bool{0: true, 3: true}},
		{some, map[int]bool{1: true, 4: true, 9: true, 11: true}},
		{big, map[int]bool{2: true}},
	}
}

// models answers what a store is behind each count of a story's Applies.
func (s story) models() []model {
	list := []model{{}}
	for _, writes := range s.lists {
		list = append(list, list[len(list)-1].behind(writes...))
	}
	return list
}

// The tests of P12.2 tell from the pairs behind how many Applies a store is.
func TestStoriesDiffer(t *testing.T) {
	for k, s := range stories() {
		models := s.models()
		for i := range models {
			for n := range i {
				if maps.Equal(models[i], models[n]) {
					t.Errorf("story %d: the same behind %d and %d Applies", k, n, i)
				}
			}
		}
	}
}

// play does a story till the power goes, and answers how many Applies were OK, how many of them are safe, and whether it was done to its end.
func (s story) play(t *testing.T, what string, kind int, d *disk.Disk) (done, safe int, whole bool) {
	t.Helper()
	st := open(t, kind, d)
	for i, list := range s.lists {
		if e := st.Apply(list...); e != api.OK {
			wantErr(t, what+": Apply", e, api.ErrDown)
			wantDown(t, st)
			return i, safe, false
		}
		if kind == store.Btree {
			safe = i + 1
		}
		if !s.syncs[i] {
			continue
		}
		if e := st.Sync(); e != api.OK {
			wantErr(t, what+": Sync", e, api.ErrDown)
			return i + 1, safe, false
		}
		safe = i + 1
	}
	return len(s.lists), safe, true
}

// wantBeginning fails if a store isn't as it was behind some Applies, from least on and up to most; it answers how many.
func wantBeginning(t *testing.T, what string, s *store.Store, models []model, least, most int) int {
	t.Helper()
	for n := most; n >= least; n-- {
		if same(s, models[n]) {
			return n
		}
	}
	t.Fatalf("%s: as behind none of %d to %d Applies", what, least, most)
	return 0
}

// wantGoesOn fails if a store that was opened behind a loss of power isn't one that goes on as any other does.
func wantGoesOn(t *testing.T, kind int, d *disk.Disk, m model) {
	t.Helper()
	s := open(t, kind, d)
	wantModel(t, s, m)
	for _, list := range [][]api.Write{{put("new", "1"), gone("same")}, filling("n", 30, 9), {gone("n0003"), gone("0-0002"), put("new", "2")}} {
		apply(t, s, list...)
		m = m.behind(list...)
	}
	wantErr(t, "Sync", s.Sync(), api.OK)
	power(d, 0)
	wantModel(t, open(t, kind, d), m)
}

// openOverAndOver has the power go in an act of three Opens, and answers in how many it did.
func openOverAndOver(t *testing.T, what string, kind int, d *disk.Disk, act int, keep uint64) int {
	t.Helper()
	down := 0
	for i := range 3 {
		d.Arm(act, keep>>i)
		s, e := store.Open(kind, d, "t")
		if (s == nil) != (e == api.ErrDown) || e != api.OK && e != api.ErrDown || d.Down() != (e == api.ErrDown) {
			t.Fatalf("%s: Open: store %t, error %d", what, s != nil, e)
		}
		if e == api.ErrDown {
			down++
		}
		power(d, keep>>i)
	}
	return down
}

// keeps are ways to keep writes.
func keeps() []uint64 {
	return []uint64{0, 1, 2, 5, 0xaaaa, 0x5555, 0xff00, all, all - 1, all - 7}
}

// P12.2: wherever the power goes, whichever writes are kept: as behind some of the Applies, with all that were synced (of Btree all that were OK), none cut in half.
func TestPowerGoes(t *testing.T) {
	for _, kind := range laid() {
		lost := false
		for k, s := range stories() {
			models := s.models()
			for act, whole := 1, false; !whole; act++ {
				for _, keep := range keeps() {
					what := fmt.Sprintf("kind %d, story %d, act %d, keep %x", kind, k, act, keep)
					d := disk.New(500)
					d.Arm(act, keep)
					var done, safe int
					done, safe, whole = s.play(t, what, kind, d)
					power(d, keep)
					n := wantBeginning(t, what, open(t, kind, d), models, safe, min(done+1, len(s.lists)))
					lost = lost || n < done
					if act%5 == 0 || whole {
						wantGoesOn(t, kind, d, models[n])
					}
				}
			}
		}
		if lost != (kind == store.Lsm) {
			t.Errorf("kind %d: seen that Applies were lost: %t", kind, lost)
		}
	}
}

// P12.2: with nothing kept, what was synced is there, whichever Apply the Sync came behind; of Btree without a Sync, too.
func TestSynced(t *testing.T) {
	for _, kind := range laid() {
		for k, s := range stories() {
			models := s.models()
			for n := range s.lists {
				what := fmt.Sprintf("kind %d, story %d, Sync behind %d", kind, k, n)
				d := disk.New(500)
				syncs := map[int]bool{n: kind == store.Lsm}
				story{s.lists[:n+1], syncs}.play(t, what, kind, d)
				power(d, 0)
				wantModel(t, open(t, kind, d), models[n+1])
			}
		}
	}
}

// Sync of Btree asks the disk nothing, of Lsm it is layer 11's: an act, if there is a log.
func TestSyncActs(t *testing.T) {
	for kind, want := range map[int]int{store.Mem: 0, store.Btree: 0, store.Lsm: 1} {
		d := disk.New(50)
		s := open(t, kind, d)
		apply(t, s, put("a", "1"))
		acts := d.Acts()
		wantErr(t, "Sync", s.Sync(), api.OK)
		if d.Acts()-acts != want {
			t.Errorf("kind %d: %d acts of Sync, want %d", kind, d.Acts()-acts, want)
		}
	}
	d := disk.New(50)
	s := open(t, store.Lsm, d)
	apply(t, s, put("a", "1"))
	d.Arm(1, 0)
	wantErr(t, "Sync in which the power goes", s.Sync(), api.ErrDown)
	power(d, 0)
	wantModel(t, open(t, store.Lsm, d), model{})
}

// P12.2: where the power goes in the Opens behind that, too, over and over, it is a beginning still, and the same once one was OK.
func TestPowerGoesInOpen(t *testing.T) {
	for _, kind := range laid() {
		down := 0
		for k, s := range stories() {
			models := s.models()
			for act, whole := 1, false; !whole; act++ {
				for opened := 1; opened <= 4; opened++ {
					keep := uint64(act*opened) * 0x9e3779b97f4a7c15
					what := fmt.Sprintf("kind %d, story %d, acts %d, %d", kind, k, act, opened)
					d := disk.New(500)
					d.Arm(act, keep)
					var done, safe int
					done, safe, whole = s.play(t, what, kind, d)
					power(d, keep)
					down += openOverAndOver(t, what, kind, d, opened, keep>>9)
					n := wantBeginning(t, what, open(t, kind, d), models, safe, min(done+1, len(s.lists)))
					openOverAndOver(t, what, kind, d, opened, keep>>5)
					wantGoesOn(t, kind, d, models[n])
				}
			}
		}
		if down < 100 {
			t.Errorf("kind %d: the power went in %d Opens", kind, down)
		}
	}
}

// player has a store, what it was behind each Apply since it was opened, and a disk whose power goes now and then.
type player struct {
	t      *testing.T
	rnd    *rand.Rand
	kind   int
	d      *disk.Disk
	s      *store.Store
	models []model
	safe   int
}

// last answers what the store must be by now.
func (p *player) last() model { return p.models[len(p.models)-1] }

// lose opens the store behind a loss of power, in which the power may go again.
func (p *player) lose(what string) {
	p.t.Helper()
	power(p.d, p.rnd.Uint64())
	openOverAndOver(p.t, what, p.kind, p.d, 1+p.rnd.Intn(3), p.rnd.Uint64())
	p.s = open(p.t, p.kind, p.d)
	n := wantBeginning(p.t, what, p.s, p.models, p.safe, len(p.models)-1)
	// Behind a loss of power all that is left is safe.
	p.models, p.safe = []model{p.models[n]}, 0
}

// step does one call, whose power may go.
func (p *player) step(what string) {
	p.t.Helper()
	if p.rnd.Intn(6) == 0 {
		p.d.Arm(1+p.rnd.Intn(12), p.rnd.Uint64())
	}
	var e api.Errno
	if p.rnd.Intn(6) == 0 {
		if e = p.s.Sync(); e == api.OK {
			p.safe = len(p.models) - 1
		}
	} else {
		list := randomWrites(p.rnd)
		e = p.s.Apply(list...)
		if e == api.OK || e == api.ErrDown {
			p.models = append(p.models, p.last().behind(list...))
		}
		if e == api.OK && p.kind == store.Btree {
			p.safe = len(p.models) - 1
		}
	}
	switch {
	case e == api.ErrDown && p.d.Down():
		p.lose(what)
	case e != api.OK && e != api.ErrFull && e != api.ErrLong:
		p.t.Fatalf("%s: error %d", what, e)
	}
	if !same(p.s, p.last()) {
		p.t.Fatalf("%s: another thing than the writes say", what)
	}
}

// P12.1, P12.2, P12.3: calls in random orders, over disks of all sizes, with the power going now and then.
func TestRandomOrders(t *testing.T) {
	for seed := range int64(120) {
		for _, kind := range laid() {
			rnd := rand.New(rand.NewSource(seed))
			d := disk.New([]int{0, 1, 3, 8, 20, 60, 400}[rnd.Intn(7)])
			p := &player{t: t, rnd: rnd, kind: kind, d: d, s: open(t, kind, d), models: []model{{}}}
			for i := range 80 {
				what := fmt.Sprintf("kind %d, seed %d, step %d", kind, seed, i)
				p.step(what)
				switch rnd.Intn(12) {
				case 0:
					p.lose(what)
				case 1:
					// Opened anew with the power on, it has all of them, safe or not.
					d.Arm(0, 0)
					p.s = open(t, kind, d)
					wantModel(t, p.s, p.last())
				}
			}
		}
	}
}

// Behind ErrDown all calls of a store that isn't opened anew end still.
func TestGoesOnBehindDown(t *testing.T) {
	for seed := range int64(100) {
		for _, kind := range laid() {
			rnd := rand.New(rand.NewSource(seed))
			d := disk.New(100)
			s := open(t, kind, d)
			for range 40 {
				d.Arm(1+rnd.Intn(30), rnd.Uint64())
				call(s, rnd)
				s.Apply(randomWrites(rnd)...)
				d.On()
			}
		}
	}
}
