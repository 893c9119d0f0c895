package lsm_test

import (
	"fmt"
	"math"
	"math/rand"
	"testing"

	"rootstock/api"
	"rootstock/disk"
	"rootstock/lsm"
)

// grown answers a disk with a tree of some tables, of which the eldest are put together, and some writes in the log; and its model.
func grown(t *testing.T) (*disk.Disk, model) {
	t.Helper()
	d := disk.New(1000)
	tr, m := open(t, d), model{}
	for i := range 6 {
		list := filling(fmt.Sprint(i, "-"), 24, 60)
		apply(t, tr, list...)
		m.apply(list...)
	}
	list := append(filling("f", 9, 60), gone("1-0003"))
	apply(t, tr, list...)
	m.apply(list...)
	wantErr(t, "Sync", tr.Sync(), api.OK)
	if tr.Tables() < 2 || tr.Tables() > 4 {
		t.Fatalf("%d tables", tr.Tables())
	}
	return d, m
}

// tablesOf answers the tree's files but its log.
func tablesOf(d *disk.Disk) []string {
	var list []string
	for _, file := range d.Names() {
		if file != "t" {
			list = append(list, file)
		}
	}
	return list
}

// P11.1: a table of which a byte is turned, a page is lost, or all pages are, is ErrForm.
func TestTableTurned(t *testing.T) {
	d, m := grown(t)
	wantModel(t, open(t, d), m)
	for i := range tablesOf(d) {
		for _, turn := range []func(d *disk.Disk, file string){
			func(d *disk.Disk, file string) { turnByte(t, d, file, 0, 7) },
			func(d *disk.Disk, file string) { turnByte(t, d, file, d.Count(file)-1, 0) },
			func(d *disk.Disk, file string) { wantErr(t, "Cut", d.Cut(file, d.Count(file)-1), api.OK) },
			func(d *disk.Disk, file string) { wantErr(t, "Cut", d.Cut(file, 0), api.OK) },
		} {
			d, _ := grown(t)
			turn(d, tablesOf(d)[i])
			wantNoOpen(t, "turned", d, api.ErrForm)
		}
	}
}

// turnByte turns a byte of a file's page.
func turnByte(t *testing.T, d *disk.Disk, file string, page, at int) {
	t.Helper()
	b, e := d.Read(file, page)
	wantErr(t, "Read", e, api.OK)
	b[at] ^= 4
	wantErr(t, "Write", d.Write(file, page, b), api.OK)
}

// P11.1: a tree one of whose tables isn't there is ErrForm: what is left doesn't tell what it was. (Without a log nothing tells of the youngest one.)
func TestTableLost(t *testing.T) {
	d, _ := grown(t)
	count := len(tablesOf(d))
	for i := range count {
		d, _ := grown(t)
		wantErr(t, "Remove", d.Remove(tablesOf(d)[i]), api.OK)
		wantNoOpen(t, "lost", d, api.ErrForm)
	}
	for i := range count {
		d, _ := grown(t)
		// The parts' names stand ahead of the whole table's.
		if i == count-2 {
			continue
		}
		wantErr(t, "Remove", d.Remove(tablesOf(d)[i]), api.OK)
		wantErr(t, "Remove", d.Remove("t"), api.OK)
		wantNoOpen(t, "lost, no log", d, api.ErrForm)
	}
}

// askAll has every call of a tree end, over files that may be no tree's.
func askAll(rnd *rand.Rand, d *disk.Disk) {
	tr, e := lsm.Open(d, "t")
	if e != api.OK {
		return
	}
	for range 4 {
		tr.Get(fmt.Sprint("key", rnd.Intn(150)))
		tr.Scan(fmt.Sprint("key", rnd.Intn(150)), 9)
		tr.Scan("", math.MaxInt)
		tr.Apply(randomWrites(rnd)...)
		tr.Sync()
		tr.Tables()
		if again, e := lsm.Open(d, "t"); e == api.OK {
			tr = again
		}
	}
}

// P11.1: of files that no tree wrote every call ends.
func TestFilesOfNoTree(t *testing.T) {
	ends := []string{"", "-", "-part1", "-part2", "-part3", "-whole1", "-whole2", "-part", "-part0", "-part01", "-part+1", "-part-1", "-whole-1", "-draft",
		"-part9223372036854775807", "-whole9223372036854775807", "-whole9223372036854775808", "-part-9223372036854775808", "-partx", "-x"}
	for seed := range int64(600) {
		rnd := rand.New(rand.NewSource(seed))
		d, _ := grown(t)
		laid := tablesOf(d)
		for range 1 + rnd.Intn(4) {
			end := ends[rnd.Intn(len(ends))]
			from := laid[rnd.Intn(len(laid))]
			d.Remove("t" + end)
			for i := range rnd.Intn(6) {
				b := make([]byte, rnd.Intn(api.PageSize+1))
				rnd.Read(b)
				if page, e := d.Read(from, i); e == api.OK && rnd.Intn(3) > 0 {
					b = page
				}
				d.Write("t"+end, i, b)
			}
			if rnd.Intn(5) == 0 {
				d.Rename(from, "t"+ends[rnd.Intn(len(ends))])
			}
		}
		askAll(rnd, d)
	}
}

// P11.1: files beside the tree's that are named nearly as its tables are aren't its own: they are neither read nor removed.
func TestNearlyItsNames(t *testing.T) {
	d, m := grown(t)
	near := []string{"t-part", "t-part0", "t-part01", "t-part+9", "t-part-1", "t-whole", "t-whole00", "t-partx", "t-draft2", "t-x", "tt-part1"}
	for _, file := range near {
		wantErr(t, "Write", d.Write(file, 0, []byte("x")), api.OK)
	}
	tr := open(t, d)
	wantModel(t, tr, m)
	for i := range 100 {
		w := put(fmt.Sprint(i), "1")
		apply(t, tr, w)
		m.apply(w)
	}
	wantModel(t, open(t, d), m)
	for _, file := range near {
		if d.Count(file) != 1 {
			t.Errorf("the file %q has %d pages", file, d.Count(file))
		}
	}
}

// P11.1: behind ErrDown all calls of the tree that isn't opened anew end still.
func TestGoesOnBehindDown(t *testing.T) {
	for seed := range int64(150) {
		rnd := rand.New(rand.NewSource(seed))
		d := disk.New(100)
		tr := open(t, d)
		for range 40 {
			d.Arm(1+rnd.Intn(30), rnd.Uint64())
			tr.Apply(randomWrites(rnd)...)
			tr.Get("key1")
			tr.Scan("", math.MaxInt)
			tr.Sync()
			tr.Tables()
			d.On()
		}
	}
}
