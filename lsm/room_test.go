package lsm_test

import (
	"fmt"
	"math/rand"
	"slices"
	"testing"

	"rootstock/api"
	"rootstock/disk"
	"rootstock/lsm"
)

// leave has another file take pages, or give them back, so that so many are left.
func leave(t *testing.T, d *disk.Disk, free int) {
	t.Helper()
	count := d.Count("other")
	for ; d.Free() > free; count++ {
		wantErr(t, "Write", d.Write("other", count, nil), api.OK)
	}
	if more := free - d.Free(); more > 0 {
		wantErr(t, "Cut", d.Cut("other", count-more), api.OK)
	}
	if d.Has("other") {
		wantErr(t, "Sync", d.Sync("other"), api.OK)
	}
}

// files answers what all files have, page by page.
func files(t *testing.T, d *disk.Disk) map[string]string {
	t.Helper()
	all := map[string]string{}
	for _, name := range d.Names() {
		var pages []byte
		for i := range d.Count(name) {
			b, e := d.Read(name, i)
			wantErr(t, "Read", e, api.OK)
			pages = append(pages, b...)
		}
		all[name] = string(pages)
	}
	return all
}

// sameFiles tells whether a disk has just these files.
func sameFiles(t *testing.T, d *disk.Disk, want map[string]string) bool {
	t.Helper()
	got := files(t, d)
	for name, s := range want {
		if b, ok := got[name]; !ok || b != s {
			return false
		}
	}
	return len(got) == len(want)
}

// P11.1: fewer than 24 writes stay in memory, 24 or more are laid down as a table, in one Apply or in many, of one key or of many.
func TestLaidDown(t *testing.T) {
	for _, size := range []int{1, 2, 3, 23, 24, 25, 1024} {
		for _, keys := range []int{1, 24, 1024} {
			tr, m := open(t, disk.New(1000)), model{}
			done := 0
			for done < 24 && tr.Tables() == 0 {
				list := filling("k", size, 5)
				for i := range list {
					list[i].Key = fmt.Sprint((done + i) % keys)
				}
				apply(t, tr, list...)
				m.apply(list...)
				wantModel(t, tr, m)
				// Of one Apply each key's last write counts.
				done += min(size, keys)
				if (tr.Tables() == 1) != (done >= 24) {
					t.Errorf("%d writes, %d at once, of %d keys: %d tables", done, size, keys, tr.Tables())
				}
			}
		}
	}
}

// P11.1: there are at most four tables, behind each Apply that has room.
func TestFewTables(t *testing.T) {
	for _, size := range []int{1, 7, 24, 30, 100} {
		d := disk.New(api.MaxPages)
		tr, m := open(t, d), model{}
		seen := 0
		for i := range 40 {
			list := filling(fmt.Sprint(i%5, "-"), size, i)
			apply(t, tr, list...)
			m.apply(list...)
			if tr.Tables() > 4 {
				t.Fatalf("%d at once: %d tables", size, tr.Tables())
			}
			seen = max(seen, tr.Tables())
			if i%10 == 0 {
				tr = open(t, d)
			}
		}
		if size >= 7 && seen < 2 {
			t.Errorf("%d at once: %d tables at most", size, seen)
		}
		wantModel(t, tr, m)
	}
}

// P11.1: put together, tables have nothing of what is gone, or was written anew: the files don't grow with it.
func TestPutTogether(t *testing.T) {
	d := disk.New(400)
	tr := open(t, d)
	apply(t, tr, put("stays", "1"))
	for i := range 2000 {
		apply(t, tr, put(fmt.Sprint("a", i), fat(160)), put("same", fmt.Sprint(i)), gone(fmt.Sprint("a", i-2)))
		if used := 400 - d.Free(); used > 60 {
			t.Fatalf("%d pages of a few pairs, behind %d Applies", used, i+1)
		}
	}
	want := model{"stays": "1", "same": "1999", "a1999": fat(160), "a1998": fat(160)}
	wantModel(t, tr, want)
	wantModel(t, open(t, d), want)
	for i := range 400 {
		apply(t, tr, gone("stays"), gone("same"), gone("a1999"), gone("a1998"), gone(fmt.Sprint(i)))
	}
	wantModel(t, tr, model{})
	if used := 400 - d.Free(); used > 15 {
		t.Errorf("%d pages of no pairs", used)
	}
	wantModel(t, open(t, d), model{})
}

// P11.1: what is gone stays gone, whichever table had it, and whichever ones are put together.
func TestGoneStaysGone(t *testing.T) {
	for put1 := range 12 {
		for gone1 := put1; gone1 < 12; gone1++ {
			d := disk.New(1000)
			tr, m := open(t, d), model{}
			for i := range 14 {
				list := filling(fmt.Sprint("f", i, "-"), 23, 1)
				if i == put1 {
					list = append(list, put("a", "1"))
				}
				if i == gone1 {
					list = append(list, gone("a"))
				}
				apply(t, tr, list...)
				m.apply(list...)
				if _, ok := tr.Get("a"); ok != (i >= put1 && i < gone1) {
					t.Fatalf("put in the Apply %d, gone in %d, behind %d: %t", put1, gone1, i, ok)
				}
				if i%5 == 0 {
					tr = open(t, d)
				}
			}
			wantModel(t, tr, m)
		}
	}
}

// wantFull fails if an Apply isn't refused for want of room, or changes anything.
func wantFull(t *testing.T, d *disk.Disk, tr *lsm.Tree, m model, list ...api.Write) {
	t.Helper()
	ahead, acts, tables := files(t, d), d.Acts(), tr.Tables()
	wantErr(t, "Apply without room", tr.Apply(list...), api.ErrFull)
	if !sameFiles(t, d, ahead) || d.Acts() != acts || tr.Tables() != tables {
		t.Fatalf("what was refused: %d acts, Tables %d, ahead of it %d", d.Acts()-acts, tr.Tables(), tables)
	}
	wantModel(t, tr, m)
}

// P11.1: an Apply for whose record the disk has no room is refused whole; a page more, and it is done.
func TestFull(t *testing.T) {
	batches := [][]api.Write{{put("a", "1")}, {gone("k0001")}, filling("b", 3, 160), filling("c", 23, 100), filling("d", 24, 160), filling("e", 150, 160)}
	for i, ahead := range [][]api.Write{nil, filling("k", 3, 10), filling("k", 3, 150), filling("k", 40, 160)} {
		for k, list := range batches {
			d := disk.New(1500)
			tr, m := open(t, d), model{}.behind(ahead...)
			apply(t, tr, ahead...)
			free := -1
			for done := false; !done; {
				free++
				leave(t, d, free)
				e := tr.Apply(list...)
				if done = e == api.OK; !done {
					wantErr(t, "Apply", e, api.ErrFull)
				}
				if !done && free%40 < 3 {
					wantFull(t, d, tr, m, list...)
				}
			}
			m.apply(list...)
			wantModel(t, tr, m)
			if least := sizeOf(list) / 512; free < least || free > 2+2*least {
				t.Errorf("case %d, %d: done with %d pages free, for %d bytes", i, k, free, sizeOf(list))
			}
			wantErr(t, "Sync", tr.Sync(), api.OK)
			power(d, 0)
			wantModel(t, open(t, d), m)
		}
	}
}

// sizeOf answers how many bytes writes' keys and values have.
func sizeOf(list []api.Write) int {
	n := 0
	for _, w := range list {
		n += len(w.Key) + len(w.Val)
	}
	return n
}

// P11.1: where several errors apply, it is ErrLong, then ErrFull, then ErrDown; a disk's room is told with the power off, too.
func TestErrorsInOrder(t *testing.T) {
	d := disk.New(40)
	tr := open(t, d)
	apply(t, tr, filling("a", 5, 100)...)
	wantErr(t, "Sync", tr.Sync(), api.OK)
	leave(t, d, 3)
	long := append(filling("b", 30, 160), put(fat(49), ""))
	check := func(what string, little api.Errno) {
		t.Helper()
		wantErr(t, what+", no writes", tr.Apply(), api.OK)
		wantErr(t, what+", too long and no room", tr.Apply(long...), api.ErrLong)
		wantErr(t, what+", no room", tr.Apply(filling("b", 30, 160)...), api.ErrFull)
		wantErr(t, what+", room", tr.Apply(put("c", "1")), little)
	}
	check("power on", api.OK)
	wantErr(t, "Sync", tr.Sync(), api.OK)
	d.Off(0)
	check("power off", api.ErrDown)
	d.On()
	wantModel(t, open(t, d), model{"c": "1"}.behind(filling("a", 5, 100)...))

	d = disk.New(0)
	tr = open(t, d)
	wantErr(t, "no room at all", tr.Apply(put("a", "1")), api.ErrFull)
	d.Off(0)
	wantErr(t, "no room at all, power off", tr.Apply(put("a", "1")), api.ErrFull)
	wantErr(t, "no room at all, no writes", tr.Apply(), api.OK)
}

// P11.1: with room for the record, but none for a table, an Apply is OK; the writes are laid down when there is room.
func TestNoRoomForTable(t *testing.T) {
	d := disk.New(1000)
	tr, m := open(t, d), model{}
	for i := range 6 {
		list := filling(fmt.Sprint(i, "-"), 24, 150)
		leave(t, d, 9)
		apply(t, tr, list...)
		m.apply(list...)
		wantModel(t, tr, m)
		if tr.Tables() != 0 {
			t.Fatalf("%d tables, laid down without room", tr.Tables())
		}
		if slices.Contains(d.Names(), "t-draft") {
			t.Fatal("what has no room is laid down in part")
		}
		tr = open(t, d)
		wantModel(t, tr, m)
	}
	leave(t, d, 500)
	apply(t, tr, put("b", "2"))
	m.apply(put("b", "2"))
	if tr.Tables() != 1 {
		t.Errorf("%d tables, with room", tr.Tables())
	}
	wantModel(t, tr, m)
	power(d, 0)
	wantModel(t, open(t, d), m)
}

// P11.1: without room to put them together tables grow more; there are at most four again behind an Apply that has room.
func TestNoRoomForTogether(t *testing.T) {
	d := disk.New(1000)
	tr, m := open(t, d), model{}
	for i := range 9 {
		list := filling(fmt.Sprint(i, "-"), 24, 150)
		list = append(list, gone(fmt.Sprintf("%d-0003", i-1)), gone(fmt.Sprintf("%d-0004", i-3)))
		leave(t, d, 20)
		apply(t, tr, list...)
		m.apply(list...)
		wantModel(t, tr, m)
		if tr.Tables() != i+1 {
			t.Fatalf("%d tables behind %d Applies", tr.Tables(), i+1)
		}
		tr = open(t, d)
		wantModel(t, tr, m)
	}
	leave(t, d, 500)
	apply(t, tr, put("b", "2"))
	m.apply(put("b", "2"))
	if tr.Tables() > 4 {
		t.Errorf("%d tables, with room", tr.Tables())
	}
	wantModel(t, tr, m)
	power(d, 0)
	tr = open(t, d)
	wantModel(t, tr, model(m).behind(gone("b")))
}

// P11.1: room that comes page by page is found, when there is enough of it.
func TestRoomPageByPage(t *testing.T) {
	d := disk.New(1000)
	tr, m := open(t, d), model{}
	for i := range 8 {
		list := filling(fmt.Sprint(i, "-"), 24, 150)
		leave(t, d, 23)
		apply(t, tr, list...)
		m.apply(list...)
	}
	many := tr.Tables()
	for free := 1; tr.Tables() > 4; free++ {
		// Eight tables of eight pages, and a few writes that take one each at most.
		if free > 8*8+24 {
			t.Fatalf("%d tables with %d pages free", tr.Tables(), free)
		}
		leave(t, d, free)
		w := put("b", fmt.Sprint(free))
		apply(t, tr, w)
		m.apply(w)
	}
	if many != 8 {
		t.Errorf("%d tables without room", many)
	}
	wantModel(t, tr, m)
	wantModel(t, open(t, d), m)
}

// P11.1: random writes over disks of all sizes, which fill up: what is refused changes nothing, what is OK is done.
func TestRandomWritesTillFull(t *testing.T) {
	full := 0
	for seed := range int64(60) {
		rnd := rand.New(rand.NewSource(seed))
		d := disk.New([]int{1, 2, 5, 20, 60, 200}[rnd.Intn(6)])
		tr, m := open(t, d), model{}
		for range 300 {
			list := randomWrites(rnd)
			switch e := tr.Apply(list...); e {
			case api.OK:
				m.apply(list...)
			case api.ErrFull:
				full++
			default:
				t.Fatalf("seed %d: error %d", seed, e)
			}
			if !same(tr, m) {
				t.Fatalf("seed %d: another thing than the writes say", seed)
			}
			if rnd.Intn(20) == 0 {
				tr = open(t, d)
				wantModel(t, tr, m)
			}
		}
	}
	if full < 300 {
		t.Errorf("%d Applies were refused", full)
	}
}

// randomWrites answers some writes of few keys.
func randomWrites(rnd *rand.Rand) []api.Write {
	most := []int{1, 3, 12, 60}[rnd.Intn(4)]
	var list []api.Write
	for range 1 + rnd.Intn(most) {
		list = append(list, api.Write{Key: fmt.Sprint("key", rnd.Intn(150)), Val: fat(rnd.Intn(161)), Gone: rnd.Intn(3) == 0})
	}
	return list
}
