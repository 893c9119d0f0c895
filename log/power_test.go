package log_test

import (
	"fmt"
	"math/rand"
	"slices"
	"strings"
	"testing"

	"rootstock/api"
	"rootstock/disk"
	"rootstock/log"
)

// story is records that were appended, and how many of them a Sync made safe.
type story struct {
	appended []string
	safe     int
}

// wantBeginning fails if Open doesn't answer a beginning of the records that were appended, in which are all that were synced; it answers the log and these.
func (s story) wantBeginning(t *testing.T, what string, d *disk.Disk) (*log.Log, []string) {
	t.Helper()
	l, got, e := log.Open(d, "f")
	if l == nil || e != api.OK {
		t.Fatalf("%s: Open: log %t, error %d", what, l != nil, e)
	}
	if len(got) < s.safe || len(got) > len(s.appended) || !slices.Equal(got, s.appended[:len(got)]) {
		t.Fatalf("%s: %d records, no beginning of %d that were appended, of which %d are safe", what, len(got), len(s.appended), s.safe)
	}
	wantSize(t, l, got...)
	return l, got
}

// wantGoesOn fails if a log that was opened behind a loss of power doesn't answer the same when it is opened once more, or if what is appended then doesn't stand behind.
func (s story) wantGoesOn(t *testing.T, what string, d *disk.Disk) int {
	t.Helper()
	_, got := s.wantBeginning(t, what, d)
	l := open(t, d, got...)
	want := slices.Concat(got, []string{"new", strings.Repeat("n", 700)})
	put(t, l, want[len(got):]...)
	open(t, d, want...)
	wantErr(t, what+": Sync", l.Sync(), api.OK)
	d.Off(0)
	d.On()
	open(t, d, want...)
	return len(got)
}

// keeps are ways to keep writes.
func keeps() []uint64 {
	list := []uint64{all, all - 1, all - 2, all - 7, 0xaaaa, 0x5555, 0xf0f0, 0xff00, 0x1000, 1 << 40}
	for keep := range uint64(32) {
		list = append(list, keep)
	}
	return list
}

// stories are records that are synced, records that aren't, and those in whose Append the power goes.
func stories() [][3][]string {
	return [][3][]string{
		{nil, nil, {"a"}},
		{nil, nil, {"a", "b", ""}},
		{nil, nil, {sized(510), sized(510), sized(510)}},
		{nil, nil, {sized(2000)}},
		{{"a"}, nil, {"b"}},
		{{"a"}, {"b"}, {"c", "d"}},
		{{"a"}, {"b"}, {sized(600), sized(600), "c"}},
		{{sized(510)}, nil, {sized(510)}},
		{{sized(509)}, {""}, {sized(5), sized(505)}},
		{{sized(400)}, {sized(400), sized(400)}, {sized(400), sized(400), sized(400)}},
		{{sized(700), "x"}, {sized(1300)}, {"y", sized(1300)}},
		{{sized(1020)}, {sized(1020)}, {sized(100), sized(1300)}},
	}
}

// ready answers a log in which a story's first records are synced, and its second ones aren't.
func ready(t *testing.T, d *disk.Disk, parts [3][]string) *log.Log {
	t.Helper()
	l := open(t, d)
	put(t, l, parts[0]...)
	wantErr(t, "Sync", l.Sync(), api.OK)
	for _, s := range parts[1] {
		put(t, l, s)
	}
	return l
}

// told answers the story of which the last records were appended, too.
func told(parts [3][]string) story {
	return story{slices.Concat(parts[0], parts[1], parts[2]), len(parts[0])}
}

// P9.2: wherever the power goes in an Append, or behind it, whichever writes are kept: a beginning, with all that was synced.
func TestPowerGoesInAppend(t *testing.T) {
	for k, parts := range stories() {
		s, seen := told(parts), map[int]bool{}
		for act, ok := 1, false; !ok; act++ {
			for _, keep := range keeps() {
				what := fmt.Sprintf("story %d, act %d, keep %x", k, act, keep)
				d := disk.New(50)
				l := ready(t, d, parts)
				d.Arm(act, keep)
				e := l.Append(parts[2]...)
				ok = e == api.OK
				if !ok && e != api.ErrDown || d.Down() == ok {
					t.Fatalf("%s: error %d, Down %t", what, e, d.Down())
				}
				d.Arm(0, 0)
				d.Off(keep)
				d.On()
				seen[s.wantGoesOn(t, what, d)] = true
			}
		}
		if !seen[s.safe] || !seen[len(s.appended)] {
			t.Errorf("story %d: beginnings of %v records were seen", k, seen)
		}
	}
}

// P9.2: with every write kept all that was appended is there; with none, just what was synced.
func TestAllOrNothingKept(t *testing.T) {
	for k, parts := range stories() {
		for _, keep := range []uint64{0, all} {
			d := disk.New(50)
			l := ready(t, d, parts)
			put(t, l, parts[2]...)
			d.Off(keep)
			d.On()
			s := told(parts)
			want := s.safe
			if keep == all {
				want = len(s.appended)
			}
			if _, got := s.wantBeginning(t, fmt.Sprint("story ", k), d); len(got) != want {
				t.Errorf("story %d, keep %x: %d records, want %d", k, keep, len(got), want)
			}
		}
	}
}

// P9.2: where the power goes in the Opens behind that, too, over and over: a beginning, and always the same.
func TestPowerGoesInOpen(t *testing.T) {
	down := 0
	for k, parts := range stories() {
		for act, ok := 1, false; !ok; act++ {
			for opened := 1; opened <= 4; opened++ {
				for _, keep := range keeps() {
					what := fmt.Sprintf("story %d, acts %d, %d, keep %x", k, act, opened, keep)
					d := disk.New(50)
					l := ready(t, d, parts)
					d.Arm(act, keep)
					ok = l.Append(parts[2]...) == api.OK
					d.Off(keep)
					d.On()
					down += openOverAndOver(t, what, d, opened, keep)
					told(parts).wantGoesOn(t, what, d)
				}
			}
		}
	}
	if down < 1000 {
		t.Errorf("the power went in %d Opens", down)
	}
}

// openOverAndOver has the power go in an act of three Opens, and answers in how many it did.
func openOverAndOver(t *testing.T, what string, d *disk.Disk, act int, keep uint64) int {
	t.Helper()
	down := 0
	var first []string
	for i := range 3 {
		d.Arm(act, keep>>i)
		l, records, e := log.Open(d, "f")
		if e != api.OK && (e != api.ErrDown || l != nil || len(records) != 0) || d.Down() != (e == api.ErrDown) {
			t.Fatalf("%s: Open: log %t, %d records, error %d", what, l != nil, len(records), e)
		}
		if e == api.ErrDown {
			down++
		} else if first == nil {
			first = records
		} else if !slices.Equal(records, first) {
			t.Fatalf("%s: %d records, and %d ahead of it", what, len(records), len(first))
		}
		d.Arm(0, 0)
		d.Off(keep >> i)
		d.On()
	}
	return down
}

// wantLossIn has the power go in a call behind all of a story's records, and fails if these aren't as they must be then.
func wantLossIn(t *testing.T, what string, parts [3][]string, keep uint64, call func(l *log.Log) api.Errno) {
	t.Helper()
	d := disk.New(50)
	l := ready(t, d, parts)
	put(t, l, parts[2]...)
	d.Arm(1, keep)
	wantErr(t, what, call(l), api.ErrDown)
	d.On()
	told(parts).wantGoesOn(t, what, d)
}

// P9.2: a Sync in which the power goes makes nothing safe that isn't kept, and loses nothing that was safe.
func TestPowerGoesInSync(t *testing.T) {
	for k, parts := range stories() {
		for _, keep := range keeps() {
			what := fmt.Sprintf("story %d, keep %x", k, keep)
			wantLossIn(t, what, parts, keep, (*log.Log).Sync)
			d := disk.New(50)
			l := ready(t, d, parts)
			put(t, l, parts[2]...)
			wantErr(t, what, l.Sync(), api.OK)
			d.Off(keep)
			d.On()
			s := told(parts)
			s.safe = len(s.appended)
			s.wantGoesOn(t, what, d)
		}
	}
}

// P9.2: what was cleared never comes back; where the power goes in the Clear, all that was synced is there.
func TestPowerGoesInClear(t *testing.T) {
	for k, parts := range stories() {
		for _, keep := range keeps() {
			what := fmt.Sprintf("story %d, keep %x", k, keep)
			wantLossIn(t, what, parts, keep, (*log.Log).Clear)
			d := disk.New(50)
			l := ready(t, d, parts)
			wantErr(t, what, l.Clear(), api.OK)
			put(t, l, parts[2]...)
			d.Off(keep)
			d.On()
			story{appended: parts[2]}.wantGoesOn(t, what, d)
		}
	}
}

// player has a log, what was appended to it since it was cleared, and a disk whose power goes now and then.
type player struct {
	t   *testing.T
	rnd *rand.Rand
	d   *disk.Disk
	l   *log.Log
	story
}

// lose opens the log behind a loss of power, in which the power may go again.
func (p *player) lose(what string) {
	p.t.Helper()
	p.d.Arm(0, 0)
	p.d.Off(p.rnd.Uint64())
	p.d.On()
	openOverAndOver(p.t, what, p.d, 1+p.rnd.Intn(3), p.rnd.Uint64())
	var got []string
	p.l, got = p.wantBeginning(p.t, what, p.d)
	// Behind a loss of power all that is left is safe.
	p.story = story{slices.Clone(got), len(got)}
}

// step does one call, whose power may go.
func (p *player) step(what string) {
	p.t.Helper()
	if p.rnd.Intn(5) == 0 {
		p.d.Arm(1+p.rnd.Intn(6), p.rnd.Uint64())
	}
	var e api.Errno
	switch p.rnd.Intn(8) {
	case 0:
		if e = p.l.Sync(); e == api.OK {
			p.safe = len(p.appended)
		}
	case 1:
		if p.rnd.Intn(5) > 0 {
			return
		}
		if e = p.l.Clear(); e == api.OK {
			p.story = story{}
		}
	default:
		e = p.append(what)
	}
	if e == api.ErrDown && p.d.Down() {
		p.lose(what)
	} else if e != api.OK {
		p.t.Fatalf("%s: error %d", what, e)
	}
	wantSize(p.t, p.l, p.appended...)
}

// append appends some records; it answers OK where there is no room, and the log says so.
func (p *player) append(what string) api.Errno {
	p.t.Helper()
	list := randomRecords(p.rnd)
	next := slices.Concat(p.appended, list)
	room := (len(joined(next))+509)/510-p.d.Count("f") <= p.d.Free()
	e := p.l.Append(list...)
	switch {
	case e == api.ErrFull && !room:
		return api.OK
	case e == api.ErrFull || e == api.OK && !room:
		p.t.Fatalf("%s: error %d, room %t", what, e, room)
	}
	if e == api.OK || e == api.ErrDown {
		p.appended = next
	}
	return e
}

// P9.1, P9.2: calls in random orders, over disks of all sizes, with the power going now and then.
func TestRandomOrders(t *testing.T) {
	for seed := range int64(300) {
		rnd := rand.New(rand.NewSource(seed))
		d := disk.New([]int{0, 1, 2, 5, 12, 40, 300}[rnd.Intn(7)])
		p := &player{t: t, rnd: rnd, d: d, l: open(t, d)}
		for i := range 60 {
			what := fmt.Sprintf("seed %d, step %d", seed, i)
			p.step(what)
			switch rnd.Intn(10) {
			case 0:
				p.lose(what)
			case 1:
				// Opened anew with the power on, it has all of them, safe or not.
				d.Arm(0, 0)
				p.l = open(t, d, p.appended...)
			}
		}
	}
}
