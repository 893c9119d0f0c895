package log_test

import (
	"fmt"
	"math"
	"slices"
	"strings"
	"testing"

	"rootstock/api"
	"rootstock/disk"
	"rootstock/log"
)

const all = uint64(math.MaxUint64)

// wantErr fails if a call didn't answer that error.
func wantErr(t *testing.T, what string, got, want api.Errno) {
	t.Helper()
	if got != want {
		t.Fatalf("%s: error %d, want %d", what, got, want)
	}
}

// open opens a log that can be opened, and fails if it hasn't just these records.
func open(t *testing.T, d *disk.Disk, want ...string) *log.Log {
	t.Helper()
	l, records, e := log.Open(d, "f")
	if l == nil || e != api.OK || !slices.Equal(records, want) {
		t.Fatalf("Open: log %t, %.200q, error %d, want %.200q", l != nil, records, e, want)
	}
	wantSize(t, l, want...)
	return l
}

// wantNoOpen fails if Open doesn't answer just that error.
func wantNoOpen(t *testing.T, what string, d *disk.Disk, want api.Errno) {
	t.Helper()
	if l, records, e := log.Open(d, "f"); l != nil || len(records) != 0 || e != want {
		t.Fatalf("%s: Open: log %t, %.200q, error %d, want none and %d", what, l != nil, records, e, want)
	}
}

// wantSize fails if a log's records don't take just the bytes that these do.
func wantSize(t *testing.T, l *log.Log, records ...string) {
	t.Helper()
	if got, want := l.Size(), len(joined(records)); got != want {
		t.Fatalf("Size %d, want %d", got, want)
	}
}

// put appends records that there is room for.
func put(t *testing.T, l *log.Log, list ...string) {
	t.Helper()
	wantErr(t, "Append", l.Append(list...), api.OK)
}

// wantFile fails if a file that is there hasn't just these pages.
func wantFile(t *testing.T, d *disk.Disk, pages ...string) {
	t.Helper()
	got := pagesOf(t, d)
	if !d.Has("f") || len(got) != len(pages) {
		t.Fatalf("Has %t, %d pages, want %d", d.Has("f"), len(got), len(pages))
	}
	for i := range got {
		if got[i] != pages[i] {
			t.Fatalf("page %d of %d is %.40q, want %.40q", i, len(got), got[i], pages[i])
		}
	}
}

// pagesOf answers the pages that the file has.
func pagesOf(t *testing.T, d *disk.Disk) []string {
	t.Helper()
	var pages []string
	for i := range d.Count("f") {
		b, e := d.Read("f", i)
		wantErr(t, "Read", e, api.OK)
		pages = append(pages, string(b))
	}
	return pages
}

// wantActs fails if so many acts weren't done since the disk had done others.
func wantActs(t *testing.T, what string, d *disk.Disk, since, want int) {
	t.Helper()
	if got := d.Acts() - since; got != want {
		t.Fatalf("%s: %d acts, want %d", what, got, want)
	}
}

// wantOpens fails if Open over a file of these pages doesn't do just what the model says, in so many acts.
func wantOpens(t *testing.T, what string, pages []string) {
	t.Helper()
	d := disk.New(len(pages) + 9)
	lay(t, d, pages...)
	m := opened(pages)
	acts := d.Acts()
	l, records, e := log.Open(d, "f")
	if l == nil || e != api.OK || !slices.Equal(records, m.records) || l.Size() != m.size {
		t.Fatalf("%s: Open: log %t, %.200q, Size %d, error %d, want %.200q, %d", what, l != nil, records, l.Size(), e, m.records, m.size)
	}
	wantActs(t, what, d, acts, m.acts)
	wantFile(t, d, m.pages...)
	acts = d.Acts()
	l = open(t, d, m.records...)
	wantActs(t, what+", opened once more", d, acts, 0)
	wantFile(t, d, m.pages...)
	long := strings.Repeat("n", 600)
	put(t, l, "new", long)
	open(t, d, slices.Concat(m.records, []string{"new", long})...)
}

// P9.2: the chapter's example.
func TestExample(t *testing.T) {
	d := disk.New(9)
	l := open(t, d)
	put(t, l, "a", "b")
	wantErr(t, "Sync", l.Sync(), api.OK)
	put(t, l, "c")
	d.Off(0)
	d.On()
	open(t, d, "a", "b")
}

// P9.1: over no file there are no records, and nothing is done; of none there is nothing to sync or to remove.
func TestNothingThere(t *testing.T) {
	d := disk.New(9)
	l := open(t, d)
	for range 2 {
		wantErr(t, "Sync", l.Sync(), api.OK)
		wantErr(t, "Clear", l.Clear(), api.OK)
		wantErr(t, "Append of none", l.Append(), api.OK)
		wantErr(t, "Append of none", l.Append([]string{}...), api.OK)
		wantSize(t, l)
	}
	open(t, d)
	if len(d.Names()) != 0 || d.Acts() != 0 {
		t.Errorf("files %q, %d acts", d.Names(), d.Acts())
	}
}

// P9.1: a page tells how many bytes it has, the lowest first; these stand behind.
func TestPageByHand(t *testing.T) {
	d := disk.New(9)
	l := open(t, d)
	put(t, l, "")
	wantFile(t, d, full("\x05\x00\x00\x51\x53\x7d\x52"))
	put(t, l, "a")
	wantFile(t, d, full("\x0b\x00\x00\x51\x53\x7d\x52"+record("a")))
	put(t, l, strings.Repeat("b", 300))
	s := joined([]string{"", "a", strings.Repeat("b", 300)})
	wantFile(t, d, full("\x3d\x01"+s))
	put(t, l, strings.Repeat("c", 300))
	s += record(strings.Repeat("c", 300))
	wantFile(t, d, "\xfe\x01"+s[:510], full("\x71\x00"+s[510:]))
}

// sized answers a record whose bytes are so many, from 5 on.
func sized(n int) string {
	size := n - 5
	if n >= 134 {
		size--
	}
	return strings.Repeat(string(rune('a'+n%26)), size)
}

// P9.1: records of all sizes about those that fill pages: each page but the last one has 510 bytes, and just those that hold one of them are written.
func TestSizesAboutPages(t *testing.T) {
	edges := []int{5, 6, 100, 504, 505, 506, 509, 510, 511, 515, 1015, 1019, 1020, 1021, 1025, 1530, 2041}
	for _, first := range edges {
		for _, second := range edges {
			d := disk.New(20)
			l := open(t, d)
			acts := d.Acts()
			put(t, l, sized(first))
			wantSize(t, l, sized(first))
			wantActs(t, "first", d, acts, (first+509)/510)
			acts = d.Acts()
			put(t, l, sized(second))
			wantActs(t, "second", d, acts, (first+second+509)/510-first/510)
			wantFile(t, d, laid(joined([]string{sized(first), sized(second)}))...)
			if l.Size() != first+second {
				t.Fatalf("Size %d, want %d", l.Size(), first+second)
			}
			acts = d.Acts()
			open(t, d, sized(first), sized(second))
			wantActs(t, "Open", d, acts, 0)
		}
	}
}

// P9.1: records at once have the bytes that they have one by one.
func TestManyAtOnce(t *testing.T) {
	var list []string
	one, many := disk.New(4096), disk.New(4096)
	l := open(t, one)
	for i := range 700 {
		list = append(list, strings.Repeat(string([]byte{byte(i)}), i*7%600))
		put(t, l, list[i])
		wantSize(t, l, list...)
	}
	acts := many.Acts()
	put(t, open(t, many), list...)
	wantActs(t, "Append", many, acts, (len(joined(list))+509)/510)
	wantFile(t, many, laid(joined(list))...)
	wantFile(t, one, laid(joined(list))...)
	open(t, one, list...)
	open(t, many, list...)
}

// P9.1: any bytes are a record.
func TestAnyBytes(t *testing.T) {
	list := []string{"", "\x00", "\xff\xff", "\x00\x00\x00\x00\x00", record("x"), record(""), strings.Repeat("\x00", 1100), strings.Repeat("\xff", 511), ""}
	d := disk.New(20)
	l := open(t, d)
	for i, s := range list {
		put(t, l, s)
		l = open(t, d, list[:i+1]...)
	}
	wantFile(t, d, laid(joined(list))...)
}

// P9.1: what is appended stands behind what Open found, whatever others write to the file then; the pages ahead aren't written.
func TestOthersWrite(t *testing.T) {
	junk := full(strings.Repeat("j", 512))
	for _, again := range []bool{false, true} {
		for _, sizes := range [][2]int{{9, 9}, {510, 9}, {511, 600}, {1020, 1020}, {1021, 5}, {2000, 700}} {
			d := disk.New(20)
			l := open(t, d)
			put(t, l, sized(sizes[0]))
			if again {
				l = open(t, d, sized(sizes[0]))
			}
			count := d.Count("f")
			for i := range count + 3 {
				wantErr(t, "Write", d.Write("f", i, []byte(junk)), api.OK)
			}
			acts := d.Acts()
			put(t, l, sized(sizes[1]))
			want := laid(joined([]string{sized(sizes[0]), sized(sizes[1])}))
			wantActs(t, "Append", d, acts, len(want)-sizes[0]/510)
			for i := range sizes[0] / 510 {
				want[i] = junk
			}
			for len(want) < count+3 {
				want = append(want, junk)
			}
			wantFile(t, d, want...)
			wantSize(t, l, sized(sizes[0]), sized(sizes[1]))
		}
	}
}

// P9.1: pages that others wrote behind the records' need no room when they are written anew.
func TestOthersPagesNeedNoRoom(t *testing.T) {
	d := disk.New(3)
	l := open(t, d)
	put(t, l, sized(400))
	for i := range 3 {
		wantErr(t, "Write", d.Write("f", i, []byte("junk")), api.OK)
	}
	wantErr(t, "one page too few", l.Append(sized(1131)), api.ErrFull)
	wantFile(t, d, full("junk"), full("junk"), full("junk"))
	put(t, l, sized(1130))
	wantFile(t, d, laid(joined([]string{sized(400), sized(1130)}))...)
}

// P9.1: of a file of one page that others took away what it had is written with what is appended.
func TestOthersRemove(t *testing.T) {
	d := disk.New(1)
	l := open(t, d)
	put(t, l, "a", "b")
	wantErr(t, "Remove", d.Remove("f"), api.OK)
	wantErr(t, "Sync", l.Sync(), api.OK)
	wantSize(t, l, "a", "b")
	wantErr(t, "other", d.Write("other", 0, nil), api.OK)
	wantErr(t, "no room any more", l.Append("c"), api.ErrFull)
	wantErr(t, "Remove", d.Remove("other"), api.OK)
	put(t, l, "c")
	open(t, d, "a", "b", "c")
	wantErr(t, "Remove", d.Remove("f"), api.OK)
	wantErr(t, "Clear", l.Clear(), api.OK)
	wantSize(t, l)
	put(t, l, "d")
	open(t, d, "d")
}

// P9.1: there is room for just as many pages as the disk has left; what is refused changes nothing.
func TestFull(t *testing.T) {
	for pages := 1; pages <= 3; pages++ {
		for _, had := range []int{5, 100, 509, 510} {
			d := disk.New(pages + 2)
			wantErr(t, "other", d.Write("other", 0, nil), api.OK)
			wantErr(t, "other", d.Write("other", 1, nil), api.OK)
			l := open(t, d)
			put(t, l, sized(had))
			acts := d.Acts()
			left := pages*510 - had
			refused := [][]string{{sized(left + 7)}, {sized(pages * 510)}, {sized(5000)}, {"", sized(left + 7), ""}}
			for _, list := range refused {
				wantErr(t, "too many bytes", l.Append(list...), api.ErrFull)
			}
			wantErr(t, "Append of none", l.Append(), api.OK)
			wantActs(t, "refused", d, acts, 0)
			wantSize(t, l, sized(had))
			wantFile(t, d, laid(record(sized(had)))...)
			want := []string{sized(had)}
			if left >= 5 {
				want = append(want, fitting(left))
				put(t, l, fitting(left))
			}
			wantErr(t, "one more", l.Append(""), api.ErrFull)
			wantFile(t, d, laid(joined(want))...)
			open(t, d, want...)
		}
	}
}

// fitting answers the longest record of at most so many bytes.
func fitting(n int) string {
	if n == 133 {
		n = 132 // no record has 133 bytes: the next longer one has one more for its length
	}
	return sized(n)
}

// P9.1: one byte too many is refused, one byte fewer isn't; a disk without room takes none.
func TestFullToTheByte(t *testing.T) {
	for _, c := range []struct {
		room, size int
		want       api.Errno
	}{{0, 5, api.ErrFull}, {1, 510, api.OK}, {1, 511, api.ErrFull}, {2, 1020, api.OK}, {2, 1021, api.ErrFull}, {3, 1021, api.OK}, {7, 3570, api.OK}, {7, 3571, api.ErrFull}} {
		d := disk.New(c.room)
		l := open(t, d)
		wantErr(t, fmt.Sprint(c), l.Append(sized(c.size)), c.want)
		wantErr(t, fmt.Sprint(c, " at five a record"), open(t, disk.New(c.room)).Append(make([]string, (c.size+4)/5)...), c.want)
		if c.want == api.ErrFull {
			wantErr(t, "Append of none", l.Append(), api.OK)
			if len(d.Names()) != 0 || d.Acts() != 0 || l.Size() != 0 {
				t.Errorf("%v: files %q, %d acts, Size %d", c, d.Names(), d.Acts(), l.Size())
			}
		}
	}
}

// P9.1: a log may have all pages of the greatest disk.
func TestGreatest(t *testing.T) {
	d := disk.New(math.MaxInt)
	l := open(t, d)
	long := strings.Repeat("x", api.MaxPages*510-6)
	wantErr(t, "one byte too many", l.Append(long), api.ErrFull)
	put(t, l, long[1:])
	wantErr(t, "one more", l.Append(""), api.ErrFull)
	if l.Size() != api.MaxPages*510 || d.Free() != 0 {
		t.Fatalf("Size %d, Free %d", l.Size(), d.Free())
	}
	open(t, d, long[1:])
}

// P9.1: Clear removes the file; what is appended then begins at the first page.
func TestClear(t *testing.T) {
	d := disk.New(4)
	l := open(t, d)
	for _, size := range []int{9, 510, 600, 2040} {
		put(t, l, sized(size))
		acts := d.Acts()
		wantErr(t, "Clear", l.Clear(), api.OK)
		wantActs(t, "Clear", d, acts, 1)
		wantErr(t, "Clear again", l.Clear(), api.OK)
		wantErr(t, "Sync", l.Sync(), api.OK)
		wantActs(t, "of no file", d, acts, 1)
		if d.Has("f") || l.Size() != 0 {
			t.Fatalf("Has %t, Size %d", d.Has("f"), l.Size())
		}
		open(t, d)
		put(t, l, "a", "b")
		wantFile(t, d, laid(joined([]string{"a", "b"}))...)
		wantSize(t, l, "a", "b")
		wantErr(t, "Clear", l.Clear(), api.OK)
	}
}

// P9.1: Clear removes a file without records, too.
func TestClearOfAnEmptyFile(t *testing.T) {
	d := disk.New(4)
	lay(t, d)
	l := open(t, d)
	wantFile(t, d)
	wantErr(t, "Sync", l.Sync(), api.OK)
	wantErr(t, "Clear", l.Clear(), api.OK)
	if d.Has("f") {
		t.Error("the file is there")
	}
}

// P9.1: a Sync is one act, and makes just this file safe.
func TestSync(t *testing.T) {
	d := disk.New(9)
	l := open(t, d)
	other, _, e := log.Open(d, "g")
	wantErr(t, "Open", e, api.OK)
	put(t, l, "a")
	put(t, other, "x")
	put(t, l, "b", sized(700))
	acts := d.Acts()
	wantErr(t, "Sync", l.Sync(), api.OK)
	wantActs(t, "Sync", d, acts, 1)
	d.Off(0)
	d.On()
	open(t, d, "a", "b", sized(700))
	if _, records, e := log.Open(d, "g"); len(records) != 0 || e != api.OK {
		t.Errorf("the other file: %q, error %d", records, e)
	}
}

// P9.1: logs of other names know nothing of one another; any bytes are a name.
func TestFilesAreTheirOwn(t *testing.T) {
	d := disk.New(90)
	names := []string{"", "\x00", "a", "a-j", "aa", "\xff"}
	var logs []*log.Log
	for _, name := range names {
		l, _, e := log.Open(d, name)
		wantErr(t, "Open", e, api.OK)
		put(t, l, "0"+name)
		logs = append(logs, l)
	}
	for i, name := range names {
		put(t, logs[i], "1"+name, sized(500))
	}
	wantErr(t, "Clear", logs[2].Clear(), api.OK)
	for i, name := range names {
		want := []string{"0" + name, "1" + name, sized(500)}
		if i == 2 {
			want = nil
		}
		if _, records, e := log.Open(d, name); !slices.Equal(records, want) || e != api.OK {
			t.Errorf("%q: %.100q, error %d", name, records, e)
		}
	}
}

// P9.1: what a nil log answers.
func TestNilLog(t *testing.T) {
	var l *log.Log
	wantErr(t, "Append", l.Append("a"), api.ErrNil)
	wantErr(t, "Append of none", l.Append(), api.ErrNil)
	wantErr(t, "Sync", l.Sync(), api.ErrNil)
	wantErr(t, "Clear", l.Clear(), api.ErrNil)
	if l.Size() != 0 {
		t.Errorf("Size %d", l.Size())
	}
}

// P9.1: with the power off every call but Size answers ErrDown, the disk full or the list empty, and changes nothing.
func TestPowerOff(t *testing.T) {
	wantNoOpen(t, "no disk", nil, api.ErrNil)
	d := disk.New(1)
	l := open(t, d)
	put(t, l, "a")
	wantErr(t, "Sync", l.Sync(), api.OK)
	acts := d.Acts()
	d.Off(0)
	wantNoOpen(t, "power off", d, api.ErrDown)
	wantErr(t, "Append", l.Append("b"), api.ErrDown)
	wantErr(t, "Append of none", l.Append(), api.ErrDown)
	wantErr(t, "Append beyond the room", l.Append(sized(600)), api.ErrDown)
	wantErr(t, "Sync", l.Sync(), api.ErrDown)
	wantErr(t, "Clear", l.Clear(), api.ErrDown)
	wantSize(t, l, "a")
	wantActs(t, "refused", d, acts, 0)
	d.On()
	open(t, d, "a")
	empty := disk.New(1)
	l = open(t, empty)
	empty.Off(0)
	wantNoOpen(t, "power off, no file", empty, api.ErrDown)
	wantErr(t, "Sync of no file", l.Sync(), api.ErrDown)
	wantErr(t, "Clear of no file", l.Clear(), api.ErrDown)
	wantErr(t, "Append of none", l.Append(), api.ErrDown)
}

// P9.1: where the power goes in a call, it answers ErrDown.
func TestPowerGoes(t *testing.T) {
	calls := []func(l *log.Log) api.Errno{
		func(l *log.Log) api.Errno { return l.Append(sized(1400)) },
		func(l *log.Log) api.Errno { return l.Append("") },
		func(l *log.Log) api.Errno { return l.Sync() },
		func(l *log.Log) api.Errno { return l.Clear() },
	}
	for i, acts := range []int{3, 1, 1, 1} {
		for act := 1; act <= acts+1; act++ {
			d := disk.New(9)
			l := open(t, d)
			put(t, l, "a")
			d.Arm(act, 0)
			want := api.OK
			if act <= acts {
				want = api.ErrDown
			}
			wantErr(t, fmt.Sprintf("call %d, act %d", i, act), calls[i](l), want)
			if d.Down() != (want == api.ErrDown) {
				t.Fatalf("call %d, act %d: Down %t", i, act, d.Down())
			}
		}
	}
}

// P9.1: pages are written by rising numbers: where the power goes in one, those ahead of it are there, and none behind.
func TestRisingNumbers(t *testing.T) {
	whole := laid(joined([]string{sized(700), sized(2000)}))
	for act := 1; act <= 5; act++ {
		d := disk.New(20)
		l := open(t, d)
		put(t, l, sized(700))
		d.Arm(act, all)
		wantErr(t, "Append", l.Append(sized(2000)), api.ErrDown)
		d.On()
		wantFile(t, d, whole[:act+1]...)
	}
}

// P9.3: the list that is handed in stays as it is, and isn't kept; records that were answered are new.
func TestNothingIsKept(t *testing.T) {
	d := disk.New(9)
	l := open(t, d)
	room := []string{"a", "b", "spare", "room"}
	put(t, l, room[:2]...)
	if !slices.Equal(room, []string{"a", "b", "spare", "room"}) {
		t.Fatalf("changed: %q", room)
	}
	room[0], room[1] = "changed", "too"
	put(t, l, "c")
	want := []string{"a", "b", "c"}
	l, first, e := log.Open(d, "f")
	wantErr(t, "Open", e, api.OK)
	_, second, e := log.Open(d, "f")
	wantErr(t, "Open", e, api.OK)
	first[0] = "changed"
	first = append(first[:1], "changed")
	if !slices.Equal(second, want) {
		t.Errorf("two answers share memory: %q", second)
	}
	open(t, d, want...)
	wantSize(t, l, want...)
}
