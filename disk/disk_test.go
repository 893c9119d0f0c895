package disk_test

import (
	"bytes"
	"math"
	"slices"
	"strings"
	"testing"

	"rootstock/api"
	"rootstock/disk"
)

const all = uint64(math.MaxUint64)

// full answers what a page has of which these bytes were written.
func full(s string) string { return s + strings.Repeat("\x00", api.PageSize-len(s)) }

// wantErr fails if a call didn't answer that error.
func wantErr(t *testing.T, what string, got, want api.Errno) {
	t.Helper()
	if got != want {
		t.Errorf("%s: error %d, want %d", what, got, want)
	}
}

// write writes pages of a file, one behind the other, from the i-th one on.
func write(t *testing.T, d *disk.Disk, name string, i int, pages ...string) {
	t.Helper()
	for k, s := range pages {
		wantErr(t, "Write", d.Write(name, i+k, []byte(s)), api.OK)
	}
}

// wantFile fails if a file that is there hasn't just these pages.
func wantFile(t *testing.T, d *disk.Disk, name string, pages ...string) {
	t.Helper()
	if !d.Has(name) || d.Count(name) != len(pages) {
		t.Errorf("%q: Has %t, Count %d, want %d", name, d.Has(name), d.Count(name), len(pages))
	}
	for i, s := range pages {
		b, e := d.Read(name, i)
		if e != api.OK || string(b) != full(s) {
			t.Errorf("%q: page %d is %.20q, error %d, want %q", name, i, b, e, s)
		}
	}
	for _, i := range []int{len(pages), len(pages) + 1, -1, math.MinInt, math.MaxInt} {
		wantNoPage(t, d, name, i, api.ErrNone)
	}
}

// wantNoPage fails if Read doesn't answer just that error.
func wantNoPage(t *testing.T, d *disk.Disk, name string, i int, want api.Errno) {
	t.Helper()
	if b, e := d.Read(name, i); len(b) != 0 || e != want {
		t.Errorf("Read(%q, %d) = %.20q, %d, want nothing and %d", name, i, b, e, want)
	}
}

// wantGone fails if a file is there.
func wantGone(t *testing.T, d *disk.Disk, name string) {
	t.Helper()
	if d.Has(name) || d.Count(name) != 0 {
		t.Errorf("%q: Has %t, Count %d", name, d.Has(name), d.Count(name))
	}
	wantNoPage(t, d, name, 0, api.ErrNone)
}

// wantNames fails if the disk has other files.
func wantNames(t *testing.T, d *disk.Disk, names ...string) {
	t.Helper()
	if got := d.Names(); !slices.Equal(got, names) {
		t.Errorf("Names = %q, want %q", got, names)
	}
}

// wantState fails if the numbers of a disk are others.
func wantState(t *testing.T, d *disk.Disk, free, acts int, down bool) {
	t.Helper()
	if d.Free() != free || d.Acts() != acts || d.Down() != down {
		t.Errorf("Free %d, Acts %d, Down %t, want %d, %d, %t", d.Free(), d.Acts(), d.Down(), free, acts, down)
	}
}

// blink has the power go and come back.
func blink(d *disk.Disk, keep uint64) {
	d.Off(keep)
	d.On()
}

// P5.1: the room is from 0 to MaxPages.
func TestRoom(t *testing.T) {
	cases := []struct{ room, want int }{
		{math.MinInt, 0}, {-1, 0}, {0, 0}, {1, 1}, {2, 2}, {100, 100},
		{api.MaxPages - 1, api.MaxPages - 1}, {api.MaxPages, api.MaxPages}, {api.MaxPages + 1, api.MaxPages}, {math.MaxInt, api.MaxPages},
	}
	for _, c := range cases {
		d := disk.New(c.room)
		wantState(t, d, c.want, 0, false)
		wantNames(t, d)
	}
}

// P5.1: a page is what was written, and noughts behind it; written anew it has nothing of what it was.
func TestWriteAndRead(t *testing.T) {
	d := disk.New(9)
	long := strings.Repeat("\xff", api.PageSize)
	write(t, d, "a", 0, "x", "", long, long[:511], "\x00\x01")
	wantFile(t, d, "a", "x", "", long, long[:511], "\x00\x01")
	write(t, d, "a", 2, "short")
	write(t, d, "a", 0, long)
	wantFile(t, d, "a", long, "", "short", long[:511], "\x00\x01")
	wantErr(t, "nil bytes", d.Write("a", 0, nil), api.OK)
	wantErr(t, "empty bytes", d.Write("a", 2, []byte{}), api.OK)
	wantFile(t, d, "a", "", "", "", long[:511], "\x00\x01")
	wantState(t, d, 4, 9, false)
}

// P5.1: files know nothing of one another's pages; any bytes are a name.
func TestFilesAreTheirOwn(t *testing.T) {
	d := disk.New(99)
	names := []string{"", "\x00", "A", "a", "a-j", "a-t", "aa", "b", "\xff"}
	for i := len(names) - 1; i >= 0; i-- {
		write(t, d, names[i], 0, "0"+names[i], "1"+names[i])
	}
	wantNames(t, d, names...)
	for _, name := range names {
		wantFile(t, d, name, "0"+name, "1"+name)
	}
	wantGone(t, d, "c")
	wantState(t, d, 99-2*len(names), 2*len(names), false)
}

// P5.1: a Write beyond the limits is refused with the error that is named first, and changes nothing.
func TestWriteRefused(t *testing.T) {
	long := bytes.Repeat([]byte{1}, api.PageSize+1)
	d := disk.New(2)
	cases := []struct {
		name string
		i    int
		b    []byte
		want api.Errno
	}{
		{"a", 0, long, api.ErrLong},
		{"a", -1, long, api.ErrLong},
		{"a", 5, long, api.ErrLong},
		{"a", -1, nil, api.ErrArg},
		{"a", math.MinInt, nil, api.ErrArg},
		{"a", 1, nil, api.ErrArg},
		{"a", math.MaxInt, nil, api.ErrArg},
		{"f", 0, long, api.ErrLong},
		{"f", 2, long, api.ErrLong},
		{"f", -1, nil, api.ErrArg},
		{"f", 3, nil, api.ErrArg},
		{"b", 1, nil, api.ErrArg},
		{"f", 2, nil, api.ErrFull},
		{"b", 0, nil, api.ErrFull},
		{"b", 0, long, api.ErrLong},
	}
	for i, c := range cases {
		if i == 7 {
			wantNames(t, d)
			write(t, d, "f", 0, "x", "y")
		}
		wantErr(t, c.name, d.Write(c.name, c.i, c.b), c.want)
	}
	wantNames(t, d, "f")
	wantFile(t, d, "f", "x", "y")
	wantState(t, d, 0, 2, false)
	write(t, d, "f", 0, "X")
	write(t, d, "f", 1, "Y")
	wantFile(t, d, "f", "X", "Y")
	wantErr(t, "room of none", disk.New(0).Write("a", 0, nil), api.ErrFull)
}

// P5.1: a disk has just so many pages as there is room, and has them again when they are given back.
func TestFullDisk(t *testing.T) {
	d := disk.New(math.MaxInt)
	for i := range api.MaxPages {
		name := []string{"a", "b", "c"}[i%3]
		wantErr(t, "Write", d.Write(name, d.Count(name), []byte(name)), api.OK)
	}
	wantState(t, d, 0, api.MaxPages, false)
	for _, name := range []string{"a", "b", "c", "d"} {
		wantErr(t, "full", d.Write(name, d.Count(name), nil), api.ErrFull)
	}
	wantErr(t, "Cut", d.Cut("b", 1000), api.OK)
	wantState(t, d, 365, api.MaxPages+1, false)
	wantErr(t, "Rename", d.Rename("b", "c"), api.OK)
	wantState(t, d, 365+1365, api.MaxPages+2, false)
	wantErr(t, "Remove", d.Remove("a"), api.OK)
	wantState(t, d, api.MaxPages-1000, api.MaxPages+3, false)
	wantErr(t, "Write", d.Write("d", 0, nil), api.OK)
	wantNames(t, d, "c", "d")
	blink(d, 0)
	wantState(t, d, api.MaxPages, api.MaxPages+4, false)
}

// P5.1: what isn't there can be neither read, nor synced, cut, renamed, removed; it is no act.
func TestNone(t *testing.T) {
	d := disk.New(9)
	write(t, d, "a", 0, "x")
	wantGone(t, d, "b")
	wantErr(t, "Sync", d.Sync("b"), api.ErrNone)
	wantErr(t, "Cut", d.Cut("b", 0), api.ErrNone)
	wantErr(t, "Cut below 0", d.Cut("b", -1), api.ErrNone)
	wantErr(t, "Rename", d.Rename("b", "a"), api.ErrNone)
	wantErr(t, "Rename", d.Rename("b", "b"), api.ErrNone)
	wantErr(t, "Remove", d.Remove("b"), api.ErrNone)
	wantErr(t, "Cut below 0", d.Cut("a", -1), api.ErrArg)
	wantErr(t, "Cut below 0", d.Cut("a", math.MinInt), api.ErrArg)
	wantNames(t, d, "a")
	wantFile(t, d, "a", "x")
	wantState(t, d, 8, 1, false)
}

// P5.1: a file that is cut has so many pages at most; with none it is there still.
func TestCut(t *testing.T) {
	d := disk.New(9)
	write(t, d, "a", 0, "0", "1", "2", "3")
	write(t, d, "b", 0, "b")
	for _, c := range []struct{ n, want int }{{math.MaxInt, 4}, {5, 4}, {4, 4}, {3, 3}, {3, 3}, {1, 1}, {2, 1}, {0, 0}, {0, 0}, {1, 0}} {
		wantErr(t, "Cut", d.Cut("a", c.n), api.OK)
		wantFile(t, d, "a", []string{"0", "1", "2", "3"}[:c.want]...)
		wantState(t, d, 8-c.want, d.Acts(), false)
	}
	wantNames(t, d, "a", "b")
	wantFile(t, d, "b", "b")
	wantErr(t, "behind the end", d.Write("a", 1, nil), api.ErrArg)
	write(t, d, "a", 0, "new")
	wantFile(t, d, "a", "new")
	wantState(t, d, 7, 5+10+1, false)
}

// P5.1: a file that is renamed has its pages under the other name alone; the one that had it is gone.
func TestRename(t *testing.T) {
	d := disk.New(9)
	write(t, d, "a", 0, "a0", "a1")
	write(t, d, "b", 0, "b0", "b1", "b2")
	wantErr(t, "Rename", d.Rename("a", "c"), api.OK)
	wantNames(t, d, "b", "c")
	wantGone(t, d, "a")
	wantFile(t, d, "c", "a0", "a1")
	wantErr(t, "Rename to itself", d.Rename("c", "c"), api.OK)
	wantFile(t, d, "c", "a0", "a1")
	wantState(t, d, 4, 7, false)
	wantErr(t, "Rename over another one", d.Rename("c", "b"), api.OK)
	wantNames(t, d, "b")
	wantFile(t, d, "b", "a0", "a1")
	wantState(t, d, 7, 8, false)
	write(t, d, "a", 0, "new")
	wantFile(t, d, "a", "new")
	wantFile(t, d, "b", "a0", "a1")
	wantErr(t, "Rename back", d.Rename("b", "a"), api.OK)
	wantFile(t, d, "a", "a0", "a1")
}

// P5.1: a file that is removed is gone, with all its pages; one of its name that is made then has none of them.
func TestRemove(t *testing.T) {
	d := disk.New(9)
	write(t, d, "a", 0, "a0", "a1")
	write(t, d, "b", 0, "b0")
	wantErr(t, "Sync", d.Sync("a"), api.OK)
	wantErr(t, "Remove", d.Remove("a"), api.OK)
	wantErr(t, "Remove again", d.Remove("a"), api.ErrNone)
	wantGone(t, d, "a")
	wantNames(t, d, "b")
	wantState(t, d, 8, 5, false)
	write(t, d, "a", 0, "new")
	wantFile(t, d, "a", "new")
	wantFile(t, d, "b", "b0")
}

// P5.1: the chapter's example: a page that was never kept ahead of one that is is of noughts.
func TestExample(t *testing.T) {
	d := disk.New(9)
	write(t, d, "a", 0, "x", "y")
	d.Off(2)
	d.On()
	wantFile(t, d, "a", "", "y")
	wantState(t, d, 7, 2, false)
}

// P5.1: all ways to keep of three pages: a file has as many as up to the last one that was kept.
func TestKeepOfThree(t *testing.T) {
	want := [][]string{{}, {"0"}, {"", "1"}, {"0", "1"}, {"", "", "2"}, {"0", "", "2"}, {"", "1", "2"}, {"0", "1", "2"}}
	for keep := range want {
		d := disk.New(3)
		write(t, d, "a", 0, "0", "1", "2")
		blink(d, uint64(keep))
		wantFile(t, d, "a", want[keep]...)
		wantState(t, d, 3-len(want[keep]), 3, false)
		blink(d, 0)
		wantFile(t, d, "a", want[keep]...)
	}
}

// P5.1: of writes of one page the last one that is kept holds; else what was safe.
func TestKeepOfOnePage(t *testing.T) {
	want := []string{"safe", "0", "1", "1", "2", "2", "2", "2"}
	for keep := range want {
		d := disk.New(3)
		write(t, d, "a", 0, "safe", "behind")
		wantErr(t, "Sync", d.Sync("a"), api.OK)
		for _, s := range []string{"0", "1", "2"} {
			write(t, d, "a", 0, s)
		}
		blink(d, uint64(keep))
		wantFile(t, d, "a", want[keep], "behind")
	}
}

// P5.1: a page that is kept is whole: nothing of what was safe shines through.
func TestKeptPageIsWhole(t *testing.T) {
	d := disk.New(3)
	write(t, d, "a", 0, strings.Repeat("s", api.PageSize))
	wantErr(t, "Sync", d.Sync("a"), api.OK)
	write(t, d, "a", 0, "short")
	blink(d, 1)
	wantFile(t, d, "a", "short")
}

// P5.1: writes of all files are counted together, and the 64th is kept as the first one.
func TestKeepOfManyWrites(t *testing.T) {
	keep := uint64(0x8000_0000_1234_5679)
	d := disk.New(999)
	for i := range 300 {
		write(t, d, []string{"a", "b"}[i%2], i/2, "x")
	}
	blink(d, keep)
	last := map[string]int{}
	for i := range 300 {
		name := []string{"a", "b"}[i%2]
		want := full("")
		if keep>>(i%64)&1 == 1 {
			want = full("x")
			last[name] = i/2 + 1
		}
		if b, e := d.Read(name, i/2); e == api.OK && string(b) != want {
			t.Errorf("%s: page %d is %.5q", name, i/2, b)
		}
	}
	for _, name := range []string{"a", "b"} {
		if d.Count(name) != last[name] {
			t.Errorf("%s: Count %d, want %d", name, d.Count(name), last[name])
		}
	}
}

// P5.1: a Sync makes that file's writes safe, and no other's; the others are counted without them.
func TestSyncOfOneFile(t *testing.T) {
	d := disk.New(99)
	write(t, d, "a", 0, "a0")
	write(t, d, "b", 0, "b0")
	write(t, d, "a", 1, "a1")
	write(t, d, "b", 1, "b1", "b2")
	wantErr(t, "Sync", d.Sync("a"), api.OK)
	wantErr(t, "Sync again", d.Sync("a"), api.OK)
	write(t, d, "a", 0, "A0")
	blink(d, 1<<1|1<<3) // b1 and A0
	wantFile(t, d, "a", "A0", "a1")
	wantFile(t, d, "b", "", "b1")
}

// P5.1: that a file is there, and its name, is safe at once; its pages aren't.
func TestFileIsSafeAtOnce(t *testing.T) {
	d := disk.New(9)
	write(t, d, "a", 0, "x")
	blink(d, 0)
	wantNames(t, d, "a")
	wantFile(t, d, "a")
	wantState(t, d, 9, 1, false)
	write(t, d, "a", 0, "x")
	wantErr(t, "Rename", d.Rename("a", "b"), api.OK)
	blink(d, 0)
	wantNames(t, d, "b")
	wantFile(t, d, "b")
	wantErr(t, "Remove", d.Remove("b"), api.OK)
	blink(d, all)
	wantNames(t, d)
}

// P5.1: a file that gets another name has its pages as safe as they were.
func TestRenameKeepsWhatIsSafe(t *testing.T) {
	for keep, want := range []string{"safe", "late"} {
		d := disk.New(9)
		write(t, d, "a", 0, "safe")
		write(t, d, "b", 0, "other")
		wantErr(t, "Sync", d.Sync("a"), api.OK)
		wantErr(t, "Sync", d.Sync("b"), api.OK)
		write(t, d, "b", 0, "lost")
		write(t, d, "b", 1, "lost")
		write(t, d, "a", 0, "late")
		wantErr(t, "Rename", d.Rename("a", "b"), api.OK)
		wantFile(t, d, "b", "late")
		// What was written to the one that is gone isn't counted any more.
		blink(d, uint64(keep)|all&^1)
		wantFile(t, d, "b", want)
		wantNames(t, d, "b")
		wantState(t, d, 8, 8, false)
	}
}

// P5.1: a file that gets its own name loses nothing.
func TestRenameToItself(t *testing.T) {
	for keep, want := range [][]string{{"0"}, {"0", "1"}} {
		d := disk.New(9)
		write(t, d, "a", 0, "0")
		wantErr(t, "Sync", d.Sync("a"), api.OK)
		write(t, d, "a", 1, "1")
		wantErr(t, "Rename", d.Rename("a", "a"), api.OK)
		wantFile(t, d, "a", "0", "1")
		blink(d, uint64(keep))
		wantFile(t, d, "a", want...)
	}
}

// P5.1: what was cut off is gone at once, safe or not, and isn't counted any more.
func TestCutIsSafeAtOnce(t *testing.T) {
	for keep, want := range [][]string{{"0", "1"}, {"A", "1"}, {"0", "C"}, {"A", "C"}} {
		d := disk.New(9)
		write(t, d, "a", 0, "0", "1", "2")
		wantErr(t, "Sync", d.Sync("a"), api.OK)
		write(t, d, "a", 2, "B")
		write(t, d, "a", 0, "A")
		write(t, d, "a", 3, "D", "E")
		write(t, d, "a", 1, "C")
		wantErr(t, "Cut", d.Cut("a", 2), api.OK)
		wantFile(t, d, "a", "A", "C")
		blink(d, uint64(keep)|all&^3)
		wantFile(t, d, "a", want...)
		wantState(t, d, 7, 10, false)
	}
}

// P5.1: pages that are written where some were cut off aren't safe, and nothing of those cut off comes back.
func TestWriteBehindCut(t *testing.T) {
	for keep, want := range [][]string{{"0"}, {"0", "b"}, {"0", "", "c"}, {"0", "b", "c"}} {
		d := disk.New(9)
		write(t, d, "a", 0, "0", "1", "2")
		wantErr(t, "Sync", d.Sync("a"), api.OK)
		wantErr(t, "Cut", d.Cut("a", 1), api.OK)
		write(t, d, "a", 1, "b", "c")
		blink(d, uint64(keep))
		wantFile(t, d, "a", want...)
	}
}

// P5.1: a file that is made anew has nothing that is safe, and what was written to the one that is gone isn't counted any more.
func TestMadeAnew(t *testing.T) {
	for keep, want := range [][]string{{}, {"new"}, {"", "new"}, {"new", "new"}} {
		d := disk.New(9)
		write(t, d, "a", 0, "0", "1", "2")
		wantErr(t, "Sync", d.Sync("a"), api.OK)
		write(t, d, "a", 0, "late")
		wantErr(t, "Remove", d.Remove("a"), api.OK)
		write(t, d, "a", 0, "new", "new")
		blink(d, uint64(keep))
		wantFile(t, d, "a", want...)
		wantState(t, d, 9-len(want), 8, false)
	}
}

// P5.1: behind a loss of power all that is left is safe: the writes are counted anew.
func TestCountedAnew(t *testing.T) {
	d := disk.New(9)
	write(t, d, "a", 0, "0", "1", "2")
	blink(d, 1<<1)
	write(t, d, "a", 0, "A")
	write(t, d, "a", 2, "C")
	blink(d, 1<<1)
	wantFile(t, d, "a", "", "1", "C")
	write(t, d, "a", 0, "A")
	blink(d, 1)
	blink(d, 0)
	wantFile(t, d, "a", "A", "1", "C")
}

// P5.1: with the power off everything is refused, and nothing is seen but Free, Acts and Down.
func TestPowerOff(t *testing.T) {
	d := disk.New(9)
	write(t, d, "a", 0, "0", "1")
	d.Off(1)
	wantState(t, d, 8, 2, true)
	long := make([]byte, api.PageSize+1)
	wantErr(t, "Write", d.Write("a", 0, nil), api.ErrDown)
	wantErr(t, "Write", d.Write("a", -1, long), api.ErrDown)
	wantErr(t, "Sync", d.Sync("a"), api.ErrDown)
	wantErr(t, "Cut", d.Cut("a", 0), api.ErrDown)
	wantErr(t, "Cut", d.Cut("b", -1), api.ErrDown)
	wantErr(t, "Rename", d.Rename("a", "b"), api.ErrDown)
	wantErr(t, "Rename", d.Rename("b", "a"), api.ErrDown)
	wantErr(t, "Remove", d.Remove("a"), api.ErrDown)
	wantErr(t, "Remove", d.Remove("b"), api.ErrDown)
	wantNoPage(t, d, "a", 0, api.ErrDown)
	wantNoPage(t, d, "b", -1, api.ErrDown)
	if d.Count("a") != 0 || d.Has("a") || len(d.Names()) != 0 {
		t.Error("files are seen")
	}
	wantState(t, d, 8, 2, true)
	d.Off(0)
	wantState(t, d, 8, 2, true)
	d.On()
	d.On()
	wantState(t, d, 8, 2, false)
	wantFile(t, d, "a", "0")
}

// P5.1: to switch on what is on does nothing, to what isn't safe either.
func TestOnWhenOn(t *testing.T) {
	d := disk.New(9)
	write(t, d, "a", 0, "0")
	d.On()
	wantFile(t, d, "a", "0")
	blink(d, 0)
	wantFile(t, d, "a")
}

// acts are all kinds of acts, on a disk of which the file a has the pages 0 and 1, not safe, and b one page.
func acts() map[string]func(*disk.Disk) api.Errno {
	return map[string]func(*disk.Disk) api.Errno{
		"Sync":             func(d *disk.Disk) api.Errno { return d.Sync("a") },
		"Cut":              func(d *disk.Disk) api.Errno { return d.Cut("a", 1) },
		"Cut to none":      func(d *disk.Disk) api.Errno { return d.Cut("b", 0) },
		"Rename":           func(d *disk.Disk) api.Errno { return d.Rename("a", "c") },
		"Rename over":      func(d *disk.Disk) api.Errno { return d.Rename("b", "a") },
		"Rename to itself": func(d *disk.Disk) api.Errno { return d.Rename("a", "a") },
		"Remove":           func(d *disk.Disk) api.Errno { return d.Remove("a") },
	}
}

// P5.1: the power goes in the n-th act from Arm on; a Sync, Cut, Rename or Remove in which it goes does nothing.
func TestFuseInOtherActs(t *testing.T) {
	for name, act := range acts() {
		d := disk.New(9)
		write(t, d, "a", 0, "0", "1")
		write(t, d, "b", 0, "b")
		d.Arm(1, 1<<1)
		wantErr(t, name, act(d), api.ErrDown)
		wantState(t, d, 7, 4, true)
		d.On()
		wantNames(t, d, "a", "b")
		wantFile(t, d, "a", "", "1")
		wantFile(t, d, "b")
		wantErr(t, name+" behind it", act(d), api.OK)
		wantState(t, d, d.Free(), 5, false)
	}
}

// P5.1: a Write in which the power goes is written, and kept or not, as the last one.
func TestFuseInWrite(t *testing.T) {
	for keep, want := range [][]string{{}, {"0"}, {"", "1"}, {"0", "1"}} {
		d := disk.New(9)
		d.Arm(2, uint64(keep))
		write(t, d, "a", 0, "0")
		wantErr(t, "Write", d.Write("a", 1, []byte("1")), api.ErrDown)
		wantState(t, d, 9-len(want), 2, true)
		d.On()
		wantFile(t, d, "a", want...)
		write(t, d, "a", 0, "new")
		wantState(t, d, d.Free(), 3, false)
	}
	d := disk.New(9)
	d.Arm(1, 0)
	wantErr(t, "the first Write", d.Write("a", 0, []byte("0")), api.ErrDown)
	d.On()
	wantFile(t, d, "a")
}

// P5.1: just so many acts are done as the fuse is long, whatever is asked or refused between them.
func TestFuseIsSoLong(t *testing.T) {
	for n := 1; n <= 12; n++ {
		d := disk.New(3)
		write(t, d, "f", 0, "f")
		d.Arm(n, all)
		for k := 1; k <= n; k++ {
			wantErr(t, "ErrLong", d.Write("f", 0, make([]byte, 513)), api.ErrLong)
			wantErr(t, "ErrArg", d.Write("f", -1, nil), api.ErrArg)
			wantErr(t, "ErrArg", d.Cut("f", -1), api.ErrArg)
			wantErr(t, "ErrNone", d.Sync("g"), api.ErrNone)
			wantErr(t, "ErrNone", d.Cut("g", 1), api.ErrNone)
			wantErr(t, "ErrNone", d.Rename("g", "f"), api.ErrNone)
			wantErr(t, "ErrNone", d.Remove("g"), api.ErrNone)
			wantNoPage(t, d, "g", 0, api.ErrNone)
			wantFile(t, d, "f", "f")
			wantState(t, d, 2, k, false)
			want := api.OK
			if k == n {
				want = api.ErrDown
			}
			wantErr(t, "the act", []func() api.Errno{
				func() api.Errno { return d.Write("f", 0, []byte("f")) },
				func() api.Errno { return d.Sync("f") },
				func() api.Errno { return d.Cut("f", 1) },
				func() api.Errno { return d.Rename("f", "f") },
			}[k%4](), want)
		}
		wantState(t, d, 2, n+1, true)
	}
}

// P5.1: a Write that finds no room is no act.
func TestFuseAndFullDisk(t *testing.T) {
	d := disk.New(1)
	write(t, d, "a", 0, "0")
	d.Arm(1, all)
	wantErr(t, "full", d.Write("a", 1, nil), api.ErrFull)
	wantErr(t, "full", d.Write("b", 0, nil), api.ErrFull)
	wantState(t, d, 0, 1, false)
	wantErr(t, "the act", d.Write("a", 0, []byte("A")), api.ErrDown)
	d.On()
	wantFile(t, d, "a", "A")
}

// P5.1: an Arm ends an elder fuse; of n below 1 there is none then.
func TestArmAnew(t *testing.T) {
	d := disk.New(9)
	d.Arm(2, 0)
	write(t, d, "a", 0, "0")
	d.Arm(3, 1<<2)
	write(t, d, "a", 1, "1", "2")
	wantErr(t, "the third one", d.Sync("a"), api.ErrDown)
	d.On()
	wantFile(t, d, "a", "", "", "2")
	for _, n := range []int{0, -1, math.MinInt} {
		d.Arm(1, 0)
		d.Arm(n, 0)
		for range 5 {
			wantErr(t, "no fuse", d.Sync("a"), api.OK)
		}
	}
	d.Arm(math.MaxInt, 0)
	wantErr(t, "a long fuse", d.Sync("a"), api.OK)
	wantState(t, d, 6, 4+15+1, false)
}

// P5.1: a loss of power ends the fuse; an Off of what is off is none.
func TestLossEndsFuse(t *testing.T) {
	d := disk.New(9)
	write(t, d, "a", 0, "0")
	d.Arm(1, 0)
	blink(d, 1)
	wantErr(t, "behind Off", d.Sync("a"), api.OK)
	d.Arm(2, 0)
	wantErr(t, "ahead", d.Sync("a"), api.OK)
	wantErr(t, "the act", d.Sync("a"), api.ErrDown)
	d.On()
	for range 5 {
		wantErr(t, "behind the act", d.Sync("a"), api.OK)
	}
	d.Off(0)
	d.Arm(2, 0)
	wantErr(t, "refused", d.Sync("a"), api.ErrDown)
	wantErr(t, "refused", d.Sync("a"), api.ErrDown)
	d.Off(0)
	d.On()
	wantErr(t, "the first one", d.Sync("a"), api.OK)
	wantErr(t, "the second one", d.Sync("a"), api.ErrDown)
	wantState(t, d, 8, 11, true)
	d.On()
	wantFile(t, d, "a", "0")
}

// P5.1: a nil disk refuses all, and holds nothing.
func TestNilDisk(t *testing.T) {
	var d *disk.Disk
	d.On()
	d.Arm(1, all)
	d.Off(all)
	wantErr(t, "Write", d.Write("a", 0, nil), api.ErrNil)
	wantErr(t, "Write", d.Write("a", -1, make([]byte, 513)), api.ErrNil)
	wantErr(t, "Sync", d.Sync("a"), api.ErrNil)
	wantErr(t, "Cut", d.Cut("a", -1), api.ErrNil)
	wantErr(t, "Rename", d.Rename("a", "a"), api.ErrNil)
	wantErr(t, "Remove", d.Remove("a"), api.ErrNil)
	wantNoPage(t, d, "a", 0, api.ErrNil)
	if d.Count("a") != 0 || d.Has("a") || len(d.Names()) != 0 {
		t.Error("files are seen")
	}
	wantState(t, d, 0, 0, false)
}

// P5.2: a page that was synced is there behind every loss of power, as it was, or as a later write made it.
func TestSyncedPageStays(t *testing.T) {
	for keep := range uint64(64) {
		d := disk.New(9)
		write(t, d, "a", 0, "0", "1")
		write(t, d, "b", 0, "b")
		wantErr(t, "Sync", d.Sync("a"), api.OK)
		blink(d, keep)
		blink(d, ^keep)
		wantFile(t, d, "a", "0", "1")
		write(t, d, "a", 1, "first", "2")
		write(t, d, "a", 1, "second")
		blink(d, keep)
		b, e := d.Read("a", 0)
		if e != api.OK || string(b) != full("0") {
			t.Errorf("keep %b: page 0 is %.9q, error %d", keep, b, e)
		}
		b, e = d.Read("a", 1)
		if s := string(b); e != api.OK || s != full("1") && s != full("first") && s != full("second") {
			t.Errorf("keep %b: page 1 is %.9q, error %d", keep, b, e)
		}
	}
}

// P5.2: a Sync that was OK holds, wherever the power goes behind it.
func TestSyncedPageStaysBehindFuse(t *testing.T) {
	for n := 1; n <= 6; n++ {
		for keep := range uint64(8) {
			d := disk.New(9)
			write(t, d, "a", 0, "safe")
			wantErr(t, "Sync", d.Sync("a"), api.OK)
			d.Arm(n, keep)
			d.Write("a", 0, []byte("later"))
			d.Write("b", 0, []byte("b"))
			d.Rename("a", "c")
			d.Write("c", 1, []byte("1"))
			d.Sync("c")
			d.Off(keep)
			d.On()
			name := "a"
			if d.Has("c") {
				name = "c"
			}
			b, e := d.Read(name, 0)
			if s := string(b); e != api.OK || s != full("safe") && s != full("later") {
				t.Errorf("n %d, keep %b: %.9q, error %d", n, keep, b, e)
			}
		}
	}
}

// P5.3: what is handed in isn't changed, spare room included, and what is written into it then isn't seen.
func TestWrittenBytesAreTheCallers(t *testing.T) {
	d := disk.New(9)
	whole := bytes.Repeat([]byte{0xee}, 2*api.PageSize)
	before := bytes.Clone(whole)
	for i, size := range []int{0, 3, api.PageSize} {
		wantErr(t, "Write", d.Write("a", i, whole[:size]), api.OK)
	}
	wantErr(t, "Sync", d.Sync("a"), api.OK)
	wantErr(t, "Write", d.Write("a", 0, whole[:5]), api.OK)
	wantErr(t, "too long", d.Write("a", 0, whole), api.ErrLong)
	if !bytes.Equal(whole, before) {
		t.Error("what was handed in is changed")
	}
	clear(whole)
	page := string(before[:api.PageSize])
	wantFile(t, d, "a", page[:5], page[:3], page)
	blink(d, 0)
	wantFile(t, d, "a", "", page[:3], page)
}

// P5.3: what Read answers shares nothing with the disk, or another answer.
func TestReadIsNewMemory(t *testing.T) {
	d := disk.New(9)
	write(t, d, "a", 0, "x")
	for _, synced := range []bool{false, true} {
		if synced {
			wantErr(t, "Sync", d.Sync("a"), api.OK)
		}
		one, _ := d.Read("a", 0)
		two, _ := d.Read("a", 0)
		for i := range one[:cap(one)] {
			one[:cap(one)][i] = 'Q'
		}
		if string(two) != full("x") {
			t.Error("two answers share memory")
		}
		wantFile(t, d, "a", "x")
		write(t, d, "a", 0, "y")
		if string(two) != full("x") {
			t.Error("an answer is the disk's memory")
		}
		write(t, d, "a", 0, "x")
	}
	blink(d, 0)
	b, _ := d.Read("a", 0)
	clear(b)
	wantFile(t, d, "a", "x")
	blink(d, 0)
	wantFile(t, d, "a", "x")
}

// P5.3: what Names answers shares nothing with the disk, or another answer.
func TestNamesAreNewMemory(t *testing.T) {
	d := disk.New(9)
	write(t, d, "b", 0, "")
	write(t, d, "a", 0, "")
	one, two := d.Names(), d.Names()
	one[0], one[1] = "y", "z"
	_ = append(one[:1], "q")
	if !slices.Equal(two, []string{"a", "b"}) {
		t.Error("two answers share memory")
	}
	wantNames(t, d, "a", "b")
}

// P5.1: two disks know nothing of one another.
func TestTwoDisks(t *testing.T) {
	one, two := disk.New(3), disk.New(5)
	write(t, one, "a", 0, "one")
	two.Arm(1, 0)
	wantErr(t, "Sync", one.Sync("a"), api.OK)
	wantState(t, two, 5, 0, false)
	wantNames(t, two)
	two.Off(0)
	wantState(t, one, 2, 2, false)
	wantFile(t, one, "a", "one")
}
