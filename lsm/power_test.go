package lsm_test

import (
	"fmt"
	"maps"
	"math/rand"
	"slices"
	"testing"

	"rootstock/api"
	"rootstock/disk"
	"rootstock/lsm"
)

// story is Applies, one behind the other, and which of them a Sync comes behind.
type story struct {
	lists [][]api.Write
	syncs map[int]bool
}

// stories are Applies that go into the log alone, lay tables down, put them together, and take out what they had; no two of them leave the same pairs.
func stories() []story {
	var few, some, big, turns [][]api.Write
	for i := range 5 {
		few = append(few, []api.Write{put(fmt.Sprint(i), fat(i*30)), put("same", fmt.Sprint(i)), gone(fmt.Sprint(i - 2))})
	}
	for i := range 14 {
		some = append(some, append(filling(fmt.Sprint(i%3, "-"), 9, 10+i), gone(fmt.Sprintf("%d-0004", i%3))))
	}
	for i := range 6 {
		big = append(big, append(filling(fmt.Sprint(i%4, "-"), 25, 40+i), gone(fmt.Sprintf("%d-0003", (i+2)%4))))
	}
	for i := range 11 {
		list := filling("k", 30, 0)
		for k := range list {
			list[k].Gone = i%2 == 1
			list[k].Val = fmt.Sprint(i)
		}
		turns = append(turns, append(list, put("turn", fmt.Sprint(i))))
	}
	return []story{
		{few, nil},
		{few, map[int]bool{0: true, 3: true}},
		{some, nil},
		{some, map[int]bool{1: true, 4: true, 9: true, 11: true}},
		{big, nil},
		{big, map[int]bool{2: true}},
		{turns, map[int]bool{5: true, 8: true}},
	}
}

// models answers what the tree is behind each count of a story's Applies.
func (s story) models() []model {
	list := []model{{}}
	for _, writes := range s.lists {
		list = append(list, list[len(list)-1].behind(writes...))
	}
	return list
}

// The tests of P11.2 tell from the pairs behind how many Applies a tree is.
func TestStoriesDiffer(t *testing.T) {
	for k, s := range stories() {
		models := s.models()
		for i := range models {
			for n := range i {
				if maps.Equal(models[i], models[n]) {
					t.Errorf("story %d: the same behind %d and %d Applies", k, n, i)
				}
			}
		}
	}
}

// play does a story till the power goes, and answers how many Applies were done, how many of them are safe, and whether it was done to its end.
func (s story) play(t *testing.T, what string, d *disk.Disk) (done, safe int, whole bool) {
	t.Helper()
	tr, e := lsm.Open(d, "t")
	wantErr(t, what+": Open", e, api.OK)
	for i, list := range s.lists {
		if e := tr.Apply(list...); e != api.OK {
			wantErr(t, what+": Apply", e, api.ErrDown)
			return i, safe, false
		}
		if !s.syncs[i] {
			continue
		}
		if e := tr.Sync(); e != api.OK {
			wantErr(t, what+": Sync", e, api.ErrDown)
			return i + 1, safe, false
		}
		safe = i + 1
	}
	return len(s.lists), safe, true
}

// wantBeginning fails if a tree isn't as it was behind some of a story's Applies, from least on and up to most; it answers how many.
func wantBeginning(t *testing.T, what string, tr *lsm.Tree, models []model, least, most int) int {
	t.Helper()
	for n := most; n >= least; n-- {
		if same(tr, models[n]) {
			return n
		}
	}
	t.Fatalf("%s: as behind none of %d to %d Applies", what, least, most)
	return 0
}

// wantGoesOn fails if a tree that was opened behind a loss of power isn't one that goes on as any other does.
func wantGoesOn(t *testing.T, what string, d *disk.Disk, m model) {
	t.Helper()
	tr := open(t, d)
	wantModel(t, tr, m)
	for _, list := range [][]api.Write{{put("new", "1"), gone("same")}, filling("n", 30, 9), {gone("n0003"), gone("0-0002"), put("new", "2")}} {
		apply(t, tr, list...)
		m = m.behind(list...)
	}
	if tr.Tables() > 4 {
		t.Fatalf("%s: %d tables", what, tr.Tables())
	}
	wantErr(t, what+": Sync", tr.Sync(), api.OK)
	power(d, 0)
	wantModel(t, open(t, d), m)
	for _, file := range d.Names() {
		if file == "t-draft" {
			t.Fatalf("%s: a table that was never finished is there", what)
		}
	}
}

// keeps are ways to keep writes.
func keeps() []uint64 {
	return []uint64{0, 1, 2, 3, 4, 5, 6, 9, 0xaaaa, 0x5555, 0xf0f0, 0xff00, 1 << 20, all, all - 1, all - 2, all - 7, all - 1023, all >> 40}
}

// P11.2: wherever the power goes, whichever writes are kept: as behind some of the Applies, with all that were synced, none cut in half.
func TestPowerGoes(t *testing.T) {
	for k, s := range stories() {
		models := s.models()
		lost, kept := false, false
		for act, whole := 1, false; !whole; act++ {
			for _, keep := range keeps() {
				what := fmt.Sprintf("story %d, act %d, keep %x", k, act, keep)
				d := disk.New(500)
				d.Arm(act, keep)
				var done, safe int
				done, safe, whole = s.play(t, what, d)
				power(d, keep)
				n := wantBeginning(t, what, open(t, d), models, safe, min(done+1, len(s.lists)))
				lost, kept = lost || n < done, kept || n > done
				if act%5 == 0 || whole {
					wantGoesOn(t, what, d, models[n])
				}
			}
		}
		// From the fifth story on each Apply is laid down: none that was OK is lost.
		if lost != (k < 4) || !kept {
			t.Errorf("story %d: seen that Applies were lost: %t, that one was kept that wasn't OK: %t", k, lost, kept)
		}
	}
}

// P11.2: with nothing kept, what was synced is there, whichever Apply the Sync came behind; what was done with the power on is there, too.
func TestSynced(t *testing.T) {
	for k, s := range stories() {
		models := s.models()
		for n := range s.lists {
			what := fmt.Sprintf("story %d, Sync behind %d", k, n)
			d := disk.New(500)
			story{s.lists[:n+1], map[int]bool{n: true}}.play(t, what, d)
			wantModel(t, open(t, d), models[n+1])
			power(d, 0)
			wantModel(t, open(t, d), models[n+1])
			wantGoesOn(t, what, d, models[n+1])
		}
	}
}

// openOverAndOver has the power go in an act of three Opens, and answers in how many it did.
func openOverAndOver(t *testing.T, what string, d *disk.Disk, act int, keep uint64) int {
	t.Helper()
	down := 0
	for i := range 3 {
		d.Arm(act, keep>>i)
		tr, e := lsm.Open(d, "t")
		if (tr == nil) != (e == api.ErrDown) || e != api.OK && e != api.ErrDown || d.Down() != (e == api.ErrDown) {
			t.Fatalf("%s: Open: tree %t, error %d", what, tr != nil, e)
		}
		if e == api.ErrDown {
			down++
		}
		power(d, keep>>i)
	}
	return down
}

// P11.2: where the power goes in the Opens behind that, too, over and over, it is a beginning still, and always the same once one was OK.
func TestPowerGoesInOpen(t *testing.T) {
	down := 0
	for k, s := range stories() {
		models := s.models()
		for act, whole := 1, false; !whole; act++ {
			for opened := 1; opened <= 5; opened++ {
				keep := uint64(act*opened) * 0x9e3779b97f4a7c15
				what := fmt.Sprintf("story %d, acts %d, %d", k, act, opened)
				d := disk.New(500)
				d.Arm(act, keep)
				var done, safe int
				done, safe, whole = s.play(t, what, d)
				power(d, keep)
				down += openOverAndOver(t, what, d, opened, keep>>9)
				n := wantBeginning(t, what, open(t, d), models, safe, min(done+1, len(s.lists)))
				openOverAndOver(t, what, d, opened, keep>>5)
				wantGoesOn(t, what, d, models[n])
			}
		}
	}
	if down < 300 {
		t.Errorf("the power went in %d Opens", down)
	}
}

// P11.2: where the power goes between a table and the log's end, the log's room is free again behind Open.
func TestLogThatATableHas(t *testing.T) {
	for act := 1; ; act++ {
		d := disk.New(500)
		tr, list := open(t, d), filling("a", 23, 160)
		apply(t, tr, list...)
		wantErr(t, "Sync", tr.Sync(), api.OK)
		d.Arm(act, all)
		if e := tr.Apply(put("b", "1")); e == api.OK {
			t.Fatal("there was always just one of both")
		}
		d.On()
		if d.Has("t") && len(tablesOf(d)) == 1 && !d.Has("t-draft") {
			tr = open(t, d)
			wantModel(t, tr, model{"b": "1"}.behind(list...))
			if d.Has("t") || tr.Tables() != 1 {
				t.Errorf("%d pages of the log, %d tables", d.Count("t"), tr.Tables())
			}
			return
		}
	}
}

// player has a tree, what it was behind each Apply since it was opened, and a disk whose power goes now and then.
type player struct {
	t      *testing.T
	rnd    *rand.Rand
	d      *disk.Disk
	tr     *lsm.Tree
	models []model
	safe   int
}

// last answers what the tree must be by now.
func (p *player) last() model { return p.models[len(p.models)-1] }

// lose opens the tree behind a loss of power, in which the power may go again.
func (p *player) lose(what string) {
	p.t.Helper()
	power(p.d, p.rnd.Uint64())
	openOverAndOver(p.t, what, p.d, 1+p.rnd.Intn(3), p.rnd.Uint64())
	p.tr = open(p.t, p.d)
	n := wantBeginning(p.t, what, p.tr, p.models, p.safe, len(p.models)-1)
	// Behind a loss of power all that is left is safe.
	p.models, p.safe = []model{p.models[n]}, 0
}

// step does one call, whose power may go.
func (p *player) step(what string) {
	p.t.Helper()
	if p.rnd.Intn(6) == 0 {
		p.d.Arm(1+p.rnd.Intn(12), p.rnd.Uint64())
	}
	var e api.Errno
	if p.rnd.Intn(6) == 0 {
		if e = p.tr.Sync(); e == api.OK {
			p.safe = len(p.models) - 1
		}
	} else {
		list := randomWrites(p.rnd)
		e = p.tr.Apply(list...)
		if e == api.OK || e == api.ErrDown {
			p.models = append(p.models, p.last().behind(list...))
		}
	}
	switch {
	case e == api.ErrDown && p.d.Down():
		p.lose(what)
	case e != api.OK && e != api.ErrFull:
		p.t.Fatalf("%s: error %d", what, e)
	}
	if !same(p.tr, p.last()) {
		p.t.Fatalf("%s: another thing than the writes say", what)
	}
}

// P11.1, P11.2: calls in random orders, over disks of all sizes, with the power going now and then.
func TestRandomOrders(t *testing.T) {
	for seed := range int64(250) {
		rnd := rand.New(rand.NewSource(seed))
		d := disk.New([]int{0, 1, 2, 5, 12, 40, 300}[rnd.Intn(7)])
		p := &player{t: t, rnd: rnd, d: d, tr: open(t, d), models: []model{{}}}
		for i := range 80 {
			what := fmt.Sprintf("seed %d, step %d", seed, i)
			p.step(what)
			switch rnd.Intn(12) {
			case 0:
				p.lose(what)
			case 1:
				// Opened anew with the power on, it has all of them, safe or not.
				d.Arm(0, 0)
				p.tr = open(t, d)
				wantModel(t, p.tr, p.last())
			}
		}
	}
}

// P11.2: no Apply is seen in part, though it takes many pages, whichever of these are kept.
func TestNoneCutInHalf(t *testing.T) {
	old, list := filling("a", 20, 160), append(filling("b", 200, 160), gone("a0003"), put("a0004", ""))
	none := model{}.behind(old...)
	full := none.behind(list...)
	for act, ok := 1, false; !ok; act += 3 {
		for seed := range int64(6) {
			keep := []uint64{0, all, all - 1, rand.New(rand.NewSource(seed)).Uint64()}[min(seed, 3)]
			d := disk.New(1000)
			tr := open(t, d)
			apply(t, tr, old...)
			d.Arm(act, keep)
			ok = tr.Apply(list...) == api.OK
			power(d, keep)
			tr = open(t, d)
			if !slices.ContainsFunc([]model{{}, none, full}, func(m model) bool { return same(tr, m) }) {
				t.Fatalf("act %d, keep %x: an Apply is cut in half", act, keep)
			}
		}
	}
}
