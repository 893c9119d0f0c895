package pager_test

import (
	"fmt"
	"maps"
	"math/rand"
	"slices"
	"testing"

	"rootstock/api"
	"rootstock/disk"
	"rootstock/pager"
)

// merged answers pages with those of a Commit.
func merged(old []string, pages map[int]string) []string {
	out := slices.Clone(old)
	for _, i := range slices.Sorted(maps.Keys(pages)) {
		if i == len(out) {
			out = append(out, "")
		}
		out[i] = pages[i]
	}
	return out
}

// same tells whether a pager's file has just these pages.
func same(p *pager.Pager, pages []string) bool {
	if p.Count() != len(pages) {
		return false
	}
	for i, s := range pages {
		if b, e := p.Read(i); e != api.OK || string(b) != full(s) {
			return false
		}
	}
	return true
}

// lost is where the power goes in a Commit, and which writes are kept.
type lost struct {
	act  int
	keep uint64
}

// broken answers a disk that lost its power in a Commit of pages to a file of old ones, or behind it, and is on again; and whether the Commit was OK.
func broken(t *testing.T, old []string, pages map[int]string, l lost) (*disk.Disk, bool) {
	t.Helper()
	d := disk.New(50)
	if len(old) > 0 {
		lay(t, d, "a", old...)
	}
	p := open(t, d, "a")
	d.Arm(l.act, l.keep)
	e := p.Commit(writes(pages))
	if e != api.OK && e != api.ErrDown || d.Down() != (e == api.ErrDown) {
		t.Fatalf("%v: Commit: error %d, Down %t", l, e, d.Down())
	}
	d.Off(l.keep)
	d.On()
	return d, e == api.OK
}

// wantAllOrNone fails if an opened file has neither just the old pages nor just the new ones; it must have the new ones if so it is said.
func wantAllOrNone(t *testing.T, what string, d *disk.Disk, old, new []string, must bool) bool {
	t.Helper()
	p := open(t, d, "a")
	all := same(p, new)
	if !all && (must || !same(p, old)) {
		t.Fatalf("%s: neither all nor none: Count %d, must %t", what, p.Count(), must)
	}
	if slices.Contains(d.Names(), "a-t") || slices.Contains(d.Names(), "a-j") {
		t.Fatalf("%s: left over: %q", what, d.Names())
	}
	return all
}

// commits are pages that are committed to a file of three, or of none.
func commits() [][2]any {
	three := []string{"0", fat("1"), "2"}
	return [][2]any{
		{[]string{}, map[int]string{0: "x"}},
		{[]string{}, map[int]string{0: fat("x"), 1: fat("y")}},
		{[]string{}, map[int]string{0: "", 1: "", 2: "x"}},
		{three, map[int]string{1: "x"}},
		{three, map[int]string{0: "", 1: "", 2: ""}},
		{three, map[int]string{0: "x", 2: fat("y"), 3: "z"}},
		{three, map[int]string{3: fat("x"), 4: "y", 5: fat("z")}},
	}
}

// acts answers how many acts a Commit takes.
func acts(pages map[int]string) int { return (len(recordOf(pages))+511)/512 + len(pages) + 4 }

// P6.2: wherever the power goes in a Commit, whichever of the writes are kept: all of its pages, or none; all, if it was OK.
func TestPowerGoesInCommit(t *testing.T) {
	for k, c := range commits() {
		old, pages := c[0].([]string), c[1].(map[int]string)
		new := merged(old, pages)
		seen := [2]bool{}
		for act := 1; act <= acts(pages)+1; act++ {
			for keep := range uint64(64) {
				what := fmt.Sprintf("commit %d, act %d, keep %x", k, act, keep)
				d, ok := broken(t, old, pages, lost{act, keep})
				if ok != (act > acts(pages)) {
					t.Fatalf("%s: OK is %t", what, ok)
				}
				if wantAllOrNone(t, what, d, old, new, ok) {
					seen[1] = true
				} else {
					seen[0] = true
				}
			}
		}
		if seen != [2]bool{true, true} {
			t.Errorf("commit %d: all and none were seen: %v", k, seen)
		}
	}
}

// P6.2: once the draft is the journal, all of the pages are there behind every loss of power; until then, none.
func TestWhenAllAreThere(t *testing.T) {
	for k, c := range commits() {
		old, pages := c[0].([]string), c[1].(map[int]string)
		renamed := (len(recordOf(pages))+511)/512 + 2
		for act := 1; act <= acts(pages); act++ {
			for _, keep := range []uint64{0, 1, 2, 5, all} {
				d, _ := broken(t, old, pages, lost{act, keep})
				want := old
				if act > renamed {
					want = merged(old, pages)
				}
				if !same(open(t, d, "a"), want) {
					t.Errorf("commit %d, act %d, keep %x: not as it must be", k, act, keep)
				}
			}
		}
	}
}

// P6.2: where the power goes in an Open behind that, too, over and over: all or none.
func TestPowerGoesInOpen(t *testing.T) {
	for k, c := range commits() {
		old, pages := c[0].([]string), c[1].(map[int]string)
		new := merged(old, pages)
		for act := 1; act <= acts(pages); act++ {
			for open := 1; open <= len(pages)+2; open++ {
				for keep := range uint64(16) {
					what := fmt.Sprintf("commit %d, acts %d, %d, keep %x", k, act, open, keep)
					d, _ := broken(t, old, pages, lost{act, keep >> 1})
					for range 3 {
						d.Arm(open, keep)
						p, e := pager.Open(d, "a")
						if (p != nil) != (e == api.OK) || e != api.OK && e != api.ErrDown {
							t.Fatalf("%s: Open: error %d", what, e)
						}
						d.Off(keep)
						d.On()
					}
					wantAllOrNone(t, what, d, old, new, act > acts(pages)-len(pages)-2)
				}
			}
		}
	}
}

// P6.1, P6.2: where the power goes in an Open, in whichever act, it answers ErrDown, and no pager.
func TestOpenDown(t *testing.T) {
	pages := map[int]string{0: "x", 1: "y"}
	for act := 1; act <= 6; act++ {
		d := disk.New(9)
		lay(t, d, "a-j", recordOf(pages))
		lay(t, d, "a-t", "draft")
		d.Arm(act, all)
		if act < 6 {
			wantNoOpen(t, fmt.Sprint("act ", act), d, "a", api.ErrDown)
			d.On()
		}
		wantPages(t, open(t, d, "a"), "x", "y")
		wantNames(t, d, "a")
	}
}

// P6.2: a draft that somebody left is none of a Commit's record.
func TestDraftLeft(t *testing.T) {
	pages := map[int]string{0: "x", 1: "y"}
	for act := 1; act <= acts(pages)+1; act++ {
		d := disk.New(20)
		lay(t, d, "a", "0")
		p := open(t, d, "a")
		lay(t, d, "a-t", "left", "over", "pages")
		d.Arm(act, all)
		wantErr(t, "Commit", p.Commit(writes(pages)), api.ErrDown)
		d.On()
		wantAllOrNone(t, fmt.Sprint("act ", act), d, []string{"0"}, []string{"x", "y"}, false)
	}
}

// randomPages answers pages of a Commit that a file of so many can have.
func randomPages(rnd *rand.Rand, count int) map[int]string {
	pages := map[int]string{}
	for range rnd.Intn(4) {
		if count > 0 {
			pages[rnd.Intn(count)] = randomPage(rnd)
		}
	}
	for i := range rnd.Intn(3) {
		pages[count+i] = randomPage(rnd)
	}
	return pages
}

func randomPage(rnd *rand.Rand) string {
	b := make([]byte, []int{0, 1, 5, 200, 511, 512}[rnd.Intn(6)])
	rnd.Read(b)
	return string(b)
}

// P6.1, P6.2: Commits of all kinds, one behind the other, with the power going now and then, in them, between them, in Open.
func TestManyCommits(t *testing.T) {
	for seed := range int64(150) {
		rnd := rand.New(rand.NewSource(seed))
		d := disk.New(20 + rnd.Intn(40))
		lay(t, d, "other", "other")
		p := open(t, d, "a")
		var now []string
		for step := range 40 {
			what := fmt.Sprintf("seed %d, step %d", seed, step)
			pages := randomPages(rnd, len(now))
			next := merged(now, pages)
			need := (len(recordOf(pages))+511)/512 + len(next) - len(now)
			room := d.Free() >= need || len(pages) == 0
			d.Arm(rnd.Intn(30), rnd.Uint64())
			switch e := p.Commit(writes(pages)); {
			case e == api.ErrFull && !room:
			case e == api.OK && room:
				now = next
			case e == api.ErrDown && d.Down() && room:
				d.On()
				for p = nil; p == nil; {
					d.Arm(rnd.Intn(8), rnd.Uint64())
					p, _ = pager.Open(d, "a")
					d.On()
				}
				if same(p, next) {
					now = next
				}
			default:
				t.Fatalf("%s: Commit: error %d, room %t", what, e, room)
			}
			if rnd.Intn(5) == 0 {
				d.Off(rnd.Uint64())
				d.On()
				d.Arm(0, 0)
				p = open(t, d, "a")
			}
			if !same(p, now) {
				t.Fatalf("%s: the pages aren't those that were committed", what)
			}
		}
		d.Arm(0, 0)
		if b, e := d.Read("other", 0); e != api.OK || string(b) != full("other") {
			t.Fatalf("seed %d: another file is %.20q, error %d", seed, b, e)
		}
	}
}
