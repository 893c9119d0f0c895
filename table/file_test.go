package table_test

import (
	"fmt"
	"math"
	"math/rand"
	"slices"
	"strings"
	"testing"

	"rootstock/api"
	"rootstock/disk"
	"rootstock/table"
)

const all = uint64(math.MaxUint64)

// saved saves a table that there is room for.
func saved(t *testing.T, d *disk.Disk, name string, list ...api.Write) {
	t.Helper()
	wantErr(t, "Save", table.Of(list...).Save(d, name), api.OK)
}

// wantLoad fails if Load doesn't answer the table of just these writes.
func wantLoad(t *testing.T, what string, d *disk.Disk, name string, want ...api.Write) {
	t.Helper()
	got, e := table.Load(d, name)
	wantErr(t, what+": Load", e, api.OK)
	wantTable(t, what, got, want)
}

// wantNoLoad fails if Load doesn't answer just that error.
func wantNoLoad(t *testing.T, what string, d *disk.Disk, name string, want api.Errno) {
	t.Helper()
	if got, e := table.Load(d, name); got != nil || e != want {
		t.Fatalf("%s: Load: table %t, error %d, want none and %d", what, got != nil, e, want)
	}
}

// wantFile fails if a file that is there hasn't just these bytes, and noughts up to the end of the last page.
func wantFile(t *testing.T, d *disk.Disk, name, bytes string) {
	t.Helper()
	pages := (len(bytes) + 511) / 512
	if !d.Has(name) || d.Count(name) != pages {
		t.Fatalf("Has %t, %d pages, want %d", d.Has(name), d.Count(name), pages)
	}
	bytes += strings.Repeat("\x00", 512*pages-len(bytes))
	for i := range pages {
		if b, e := d.Read(name, i); e != api.OK || string(b) != bytes[512*i:512*i+512] {
			t.Fatalf("page %d: %.40q, error %d, want %.40q", i, b, e, bytes[512*i:512*i+512])
		}
	}
}

// sized answers writes whose table has so many bytes, from 300 on.
func sized(n int) []api.Write {
	var list []api.Write
	filled := func(first, second int) []api.Write {
		return slices.Concat(list, []api.Write{set("y", strings.Repeat("y", first)), set("z", strings.Repeat("z", second))})
	}
	missing := n - len(laid(filled(0, 0)...))
	for i := byte('b'); missing > 240; i++ {
		list = append(list, set(string(i), strings.Repeat(string(i), 150)))
		missing = n - len(laid(filled(0, 0)...))
	}
	// Values of fewer than 128 bytes: a byte more of them is a byte more of the table.
	list = filled(missing/2, missing-missing/2)
	if len(laid(list...)) != n {
		panic(fmt.Sprint("no table of ", n, " bytes"))
	}
	return list
}

// power has the power go, and come back.
func power(d *disk.Disk, keep uint64) {
	d.Arm(0, 0)
	d.Off(keep)
	d.On()
}

// P10.1: a table's bytes are written page by page, and the file is synced.
func TestSave(t *testing.T) {
	for _, n := range []int{510, 511, 512, 513, 514, 1023, 1024, 1025, 1535, 1536, 1537} {
		d := disk.New(9)
		list := sized(n)
		saved(t, d, "f", list...)
		if want := (n+511)/512 + 1; d.Acts() != want {
			t.Errorf("%d bytes: %d acts, want %d", n, d.Acts(), want)
		}
		wantFile(t, d, "f", laid(list...))
		wantLoad(t, "with the power on", d, "f", list...)
		power(d, 0)
		wantFile(t, d, "f", laid(list...))
		wantLoad(t, "behind a loss of power", d, "f", list...)
	}
}

// P10.1: a table without writes is one page, and is another thing than none.
func TestSaveOfNone(t *testing.T) {
	d := disk.New(2)
	saved(t, d, "f")
	wantErr(t, "of a Merge", table.Merge(true, table.Of(gone("a"))).Save(d, "g"), api.OK)
	for _, name := range []string{"f", "g"} {
		wantFile(t, d, name, laid())
		wantLoad(t, "of no writes", d, name)
	}
}

// P10.1: Save's errors, in the chapter's order; what is refused is no act, and changes nothing.
func TestSaveRefused(t *testing.T) {
	var none *table.Table
	one := table.Of(set("a", "1"))
	off := disk.New(0)
	off.Off(0)
	wantErr(t, "no table, no disk", none.Save(nil, "f"), api.ErrNil)
	wantErr(t, "no disk", one.Save(nil, "f"), api.ErrNil)
	wantErr(t, "no table", none.Save(disk.New(9), "f"), api.ErrNil)
	wantErr(t, "no table, power off", none.Save(off, "f"), api.ErrNil)
	wantErr(t, "power off, no room", one.Save(off, "f"), api.ErrDown)
	wantErr(t, "no room", one.Save(disk.New(0), "f"), api.ErrFull)

	d := disk.New(1)
	saved(t, d, "f", set("b", "2"))
	acts := d.Acts()
	wantErr(t, "no table, a file", none.Save(d, "f"), api.ErrNil)
	wantErr(t, "a file, no room", one.Save(d, "f"), api.ErrTwice)
	wantErr(t, "no room left", one.Save(d, "g"), api.ErrFull)
	d.Off(0)
	wantErr(t, "power off, a file", one.Save(d, "f"), api.ErrDown)
	wantErr(t, "power off, no file", one.Save(d, "g"), api.ErrDown)
	d.On()
	if d.Acts() != acts || !slices.Equal(d.Names(), []string{"f"}) {
		t.Errorf("%d acts, files %q", d.Acts()-acts, d.Names())
	}
	wantLoad(t, "refused", d, "f", set("b", "2"))
	wantTable(t, "refused", one, []api.Write{set("a", "1")})
}

// P10.1: a file that is there is refused, whatever it has, one without pages, too.
func TestSaveTwice(t *testing.T) {
	d := disk.New(9)
	one := table.Of(set("a", "1"))
	wantErr(t, "Write", d.Write("junk", 0, []byte("junk")), api.OK)
	wantErr(t, "Write", d.Write("cut", 0, nil), api.OK)
	wantErr(t, "Cut", d.Cut("cut", 0), api.OK)
	wantErr(t, "Save", one.Save(d, "same"), api.OK)
	acts := d.Acts()
	for _, name := range []string{"junk", "cut", "same"} {
		wantErr(t, name, one.Save(d, name), api.ErrTwice)
		wantErr(t, name, table.Of(sized(1500)...).Save(d, name), api.ErrTwice)
	}
	if d.Acts() != acts {
		t.Errorf("%d acts", d.Acts()-acts)
	}
	wantFile(t, d, "junk", "junk")
	wantFile(t, d, "cut", "")
	wantFile(t, d, "same", laid(set("a", "1")))
	wantErr(t, "Remove", d.Remove("cut"), api.OK)
	saved(t, d, "cut", gone("b"))
	wantLoad(t, "behind a Remove", d, "cut", gone("b"))
}

// P10.1: there is room for just as many pages as the disk has left.
func TestRoom(t *testing.T) {
	for _, n := range []int{511, 512, 513, 1024, 1025, 1536, 1537} {
		pages := (n + 511) / 512
		for other := range 3 {
			for room := range pages + 2 {
				d := disk.New(room + other)
				for i := range other {
					wantErr(t, "Write", d.Write("other", i, nil), api.OK)
				}
				acts := d.Acts()
				e := table.Of(sized(n)...).Save(d, "f")
				if room >= pages {
					wantErr(t, "room", e, api.OK)
					wantLoad(t, "room", d, "f", sized(n)...)
					continue
				}
				wantErr(t, "no room", e, api.ErrFull)
				if d.Has("f") || d.Acts() != acts || d.Free() != room {
					t.Fatalf("%d bytes, %d pages left: Has %t, %d acts", n, room, d.Has("f"), d.Acts()-acts)
				}
			}
		}
	}
}

// P10.1: a table may take all pages of the greatest disk.
func TestGreatest(t *testing.T) {
	var list []api.Write
	val := strings.Repeat("v", 160)
	size := 0
	for i := 0; size < api.MaxPages*512-1000; i++ {
		list = append(list, set(fmt.Sprintf("%08d", i), val))
		size += len(write(list[i]))
	}
	d := disk.New(math.MaxInt)
	most := table.Of(list...)
	wantErr(t, "Save", most.Save(d, "f"), api.OK)
	power(d, 0)
	got, e := table.Load(d, "f")
	wantErr(t, "Load", e, api.OK)
	if !slices.Equal(got.All(), list) || d.Free() > 2 {
		t.Errorf("%d writes of %d, %d pages left", len(got.All()), len(list), d.Free())
	}
	list = append(list, sized(1500)...)
	wantErr(t, "more", table.Of(list...).Save(disk.New(math.MaxInt), "f"), api.ErrFull)
}

// P10.1: keys and values that are too long are laid down, but not loaded.
func TestTooLongIsSaved(t *testing.T) {
	for _, w := range []api.Write{set(strings.Repeat("k", 49), ""), set("", strings.Repeat("v", 161)), gone(strings.Repeat("k", 600))} {
		d := disk.New(9)
		saved(t, d, "f", set("a", "1"), w)
		wantFile(t, d, "f", laid(last([]api.Write{set("a", "1"), w})...))
		wantNoLoad(t, "too long", d, "f", api.ErrForm)
	}
}

// P10.1: Load's errors: layer 5's, and those of bytes that are no table's.
func TestLoadRefused(t *testing.T) {
	wantNoLoad(t, "no disk", nil, "f", api.ErrNil)
	d := disk.New(9)
	saved(t, d, "f", set("a", "1"))
	wantErr(t, "Write", d.Write("cut", 0, []byte(laid())), api.OK)
	wantErr(t, "Cut", d.Cut("cut", 0), api.OK)
	for i, s := range []string{"", "junk", laid() + "x", laid()[1:]} {
		name := fmt.Sprint("other", i)
		wantErr(t, "Write", d.Write(name, 0, []byte(s)), api.OK)
		wantNoLoad(t, s, d, name, api.ErrForm)
	}
	acts := d.Acts()
	wantNoLoad(t, "no file", d, "g", api.ErrNone)
	wantNoLoad(t, "no file of no name", d, "", api.ErrNone)
	wantNoLoad(t, "a file without pages", d, "cut", api.ErrNone)
	wantLoad(t, "as it was", d, "f", set("a", "1"))
	if d.Acts() != acts {
		t.Errorf("%d acts", d.Acts()-acts)
	}
	d.Off(0)
	for _, name := range []string{"f", "g", "cut", "other1"} {
		wantNoLoad(t, "power off", d, name, api.ErrDown)
	}
}

// P10.1: Load reads all pages: pages of noughts may stand behind the table's, others may not.
func TestLoadOfAllPages(t *testing.T) {
	for _, n := range []int{300, 512, 700, 1024} {
		list := sized(n)
		d := disk.New(20)
		saved(t, d, "f", list...)
		pages := d.Count("f")
		for i := pages; i < pages+3; i++ {
			wantErr(t, "Write", d.Write("f", i, nil), api.OK)
			wantLoad(t, "pages of noughts behind", d, "f", list...)
		}
		for _, s := range []string{"x", strings.Repeat("\x00", 511) + "x", laid(set("a", "1"))} {
			for i := pages; i < pages+3; i++ {
				wantErr(t, "Write", d.Write("f", i, []byte(s)), api.OK)
				wantNoLoad(t, "a page of something behind", d, "f", api.ErrForm)
				wantErr(t, "Write", d.Write("f", i, nil), api.OK)
			}
		}
		wantLoad(t, "noughts again", d, "f", list...)
		wantErr(t, "Cut", d.Cut("f", pages-1), api.OK)
		want := api.ErrForm
		if pages == 1 {
			want = api.ErrNone
		}
		wantNoLoad(t, "the last page is missing", d, "f", want)
	}
}

// P10.1: Load takes the pages that are there, safe or not, whoever wrote them.
func TestLoadOfPagesByHand(t *testing.T) {
	d := disk.New(9)
	list := sized(1500)
	bytes := laid(list...)
	for i := range 3 {
		wantErr(t, "Write", d.Write("f", i, []byte(bytes[512*i:min(512*i+512, len(bytes))])), api.OK)
	}
	wantLoad(t, "not safe", d, "f", list...)
	power(d, 0b101)
	wantNoLoad(t, "a page is lost", d, "f", api.ErrForm)
	wantErr(t, "Write", d.Write("f", 1, []byte(bytes[512:1024])), api.OK)
	wantLoad(t, "written again", d, "f", list...)
}

// P10.1: files of other names know nothing of one another; any bytes are a name.
func TestNames(t *testing.T) {
	d := disk.New(99)
	names := []string{"", "\x00", "a", "a-1", "aa", "\xff", strings.Repeat("n", 1000)}
	for _, name := range names {
		saved(t, d, name, set("name", name[:min(len(name), 160)]), gone("x"))
	}
	power(d, 0)
	for _, name := range names {
		wantLoad(t, "names", d, name, set("name", name[:min(len(name), 160)]), gone("x"))
	}
}

// P10.2: random tables are loaded behind Save, whatever happens to the power then.
func TestSavedStays(t *testing.T) {
	rnd := rand.New(rand.NewSource(5))
	for range 500 {
		d := disk.New(200)
		want := map[string][]api.Write{}
		for i := range 1 + rnd.Intn(3) {
			name := fmt.Sprint(i)
			list := randomWrites(rnd)
			saved(t, d, name, list...)
			want[name] = last(list)
			wantErr(t, "Write", d.Write("other", 0, []byte(name)), api.OK)
		}
		for range rnd.Intn(4) {
			if rnd.Intn(2) == 0 {
				d.Arm(1, rnd.Uint64())
				wantErr(t, "the power goes", d.Write("other", 0, nil), api.ErrDown)
				d.On()
			} else {
				power(d, rnd.Uint64())
			}
			for name, list := range want {
				wantLoad(t, "behind a loss of power", d, name, list...)
			}
		}
	}
}

// P10.1, P10.2: where the power goes in any act of Save, it answers ErrDown; what is there then is loaded as the table, or not at all.
func TestPowerGoesInSave(t *testing.T) {
	keeps := []uint64{all, all - 1, all - 2, 0xaaaa, 0x5555}
	for keep := range uint64(16) {
		keeps = append(keeps, keep)
	}
	for _, n := range []int{300, 512, 513, 1024, 1500} {
		pages := (n + 511) / 512
		for act := 1; act <= pages+2; act++ {
			for _, keep := range keeps {
				what := fmt.Sprintf("%d bytes, act %d, keep %x", n, act, keep)
				d := disk.New(9)
				saved(t, d, "elder", set("a", "1"))
				d.Arm(act, keep)
				one := table.Of(sized(n)...)
				e := one.Save(d, "f")
				wantTable(t, what, one, sized(n))
				if act == pages+2 {
					wantErr(t, what, e, api.OK)
					power(d, keep)
					wantLoad(t, what, d, "f", sized(n)...)
					continue
				}
				wantErr(t, what, e, api.ErrDown)
				if !d.Down() {
					t.Fatalf("%s: the power is on", what)
				}
				wantNoLoad(t, what+", power off", d, "f", api.ErrDown)
				d.On()
				wantLoad(t, what, d, "elder", set("a", "1"))
				wantWholeOrNone(t, what, d, act, pages, keep, sized(n))
			}
		}
	}
}

// wantWholeOrNone fails if a file in whose Save the power went in that act isn't loaded just where all pages were kept.
func wantWholeOrNone(t *testing.T, what string, d *disk.Disk, act, pages int, keep uint64, list []api.Write) {
	t.Helper()
	wrote := min(act, pages)
	kept := keep & (1<<wrote - 1)
	switch {
	case wrote == pages && kept == 1<<pages-1:
		wantLoad(t, what, d, "f", list...)
	case kept == 0:
		wantNoLoad(t, what, d, "f", api.ErrNone)
	default:
		wantNoLoad(t, what, d, "f", api.ErrForm)
	}
	wantErr(t, what+": Save again", table.Of(list...).Save(d, "f"), api.ErrTwice)
	wantErr(t, what+": Remove", d.Remove("f"), api.OK)
	saved(t, d, "f", list...)
	power(d, 0)
	wantLoad(t, what+", saved again", d, "f", list...)
}

// P10.4: a disk is used as it is when it is asked, and a table that was saved or loaded isn't tied to the file.
func TestTablesAreNotTheirFiles(t *testing.T) {
	d := disk.New(9)
	one := table.Of(set("a", "1"))
	wantErr(t, "Save", one.Save(d, "f"), api.OK)
	got, e := table.Load(d, "f")
	wantErr(t, "Load", e, api.OK)
	wantErr(t, "Write", d.Write("f", 0, []byte(laid(set("b", "2")))), api.OK)
	wantTable(t, "saved", one, []api.Write{set("a", "1")})
	wantTable(t, "loaded", got, []api.Write{set("a", "1")})
	wantLoad(t, "loaded anew", d, "f", set("b", "2"))
	d.Off(0)
	wantTable(t, "power off", got, []api.Write{set("a", "1")})
}
