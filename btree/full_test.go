package btree_test

import (
	"fmt"
	"slices"
	"testing"

	"rootstock/api"
	"rootstock/disk"
)

// wantRefused fails if an Apply isn't ErrFull, or changes anything.
func wantRefused(t *testing.T, d *disk.Disk, m model, list ...api.Write) {
	t.Helper()
	tr := open(t, d)
	depth, pages, free, acts := tr.Depth(), tr.Pages(), d.Free(), d.Acts()
	wantErr(t, "Apply", tr.Apply(list...), api.ErrFull)
	wantModel(t, tr, m)
	if tr.Depth() != depth || tr.Pages() != pages || d.Free() != free || d.Acts() != acts {
		t.Fatalf("refused: Depth %d, Pages %d, Free %d, Acts %d, want %d, %d, %d, %d", tr.Depth(), tr.Pages(), d.Free(), d.Acts(), depth, pages, free, acts)
	}
	wantModel(t, open(t, d), m)
}

// P8.1: a disk without room for a root takes nothing.
func TestNoRoom(t *testing.T) {
	for room := range 3 {
		d := disk.New(room)
		wantRefused(t, d, model{}, put("a", "1"))
		if len(d.Names()) != 0 || open(t, d).Depth() != 0 {
			t.Errorf("room %d: files %q", room, d.Names())
		}
	}
	d := disk.New(3)
	apply(t, open(t, d), put("a", "1"))
	wantModel(t, open(t, d), model{"a": "1"})
}

// P8.1: whenever a disk gets full, all or none: what is refused changes nothing, and what needs less room is done still.
func TestFull(t *testing.T) {
	for room := 3; room < 60; room++ {
		d := disk.New(room)
		tr, m := open(t, d), model{}
		refused := 0
		for i := 0; refused < 5; i++ {
			var list []api.Write
			for k := range 1 + i%7 {
				list = append(list, put(fmt.Sprintf("%03d", (i*37+k*11)%1000), fat((i*13+k)%161)))
			}
			if e := tr.Apply(list...); e == api.ErrFull {
				wantRefused(t, d, m, list...)
				refused++
				continue
			} else {
				wantErr(t, "Apply", e, api.OK)
			}
			m.apply(list...)
		}
		wantModel(t, tr, m)
		if d.Free() > 0 {
			key := m.scan("", 1)[0].Key
			apply(t, tr, put(key, ""))
			m.apply(put(key, ""))
			wantModel(t, tr, m)
		}
		if !slices.Equal(d.Names(), []string{"t"}) {
			t.Errorf("room %d: files %q", room, d.Names())
		}
	}
}

// P8.1: what others have on the disk is no room; when it is gone, it is.
func TestRoomOfOthers(t *testing.T) {
	d := disk.New(40)
	tr, m := open(t, d), model{}
	for i := range 38 {
		wantErr(t, "Write", d.Write("other", i, nil), api.OK)
	}
	wantRefused(t, d, m, put("a", "1"))
	wantErr(t, "Cut", d.Cut("other", 37), api.OK)
	apply(t, tr, put("a", "1"))
	m.apply(put("a", "1"))
	wantModel(t, tr, m)
	apply(t, tr, put("a", "2"))
	m.apply(put("a", "2"))
	wantRefused(t, d, m, put("b", fat(160)), put("c", fat(160)), put("d", fat(160)), put("e", fat(160)))
	wantErr(t, "Remove", d.Remove("other"), api.OK)
	apply(t, tr, put("b", fat(160)), put("c", fat(160)), put("d", fat(160)), put("e", fat(160)))
	m.apply(put("b", fat(160)), put("c", fat(160)), put("d", fat(160)), put("e", fat(160)))
	wantModel(t, tr, m)
}

// P8.1: pages of which the pairs are gone hold others then, behind an Open, too.
func TestPagesAreUsedAgain(t *testing.T) {
	d := disk.New(api.MaxPages)
	tr := open(t, d)
	most := 0
	for round := range 12 {
		var list []api.Write
		for i := range 200 {
			list = append(list, put(fmt.Sprintf("%02d-%03d", round, i), fat(160)))
		}
		for part := range slices.Chunk(list, 50) {
			apply(t, tr, part...)
		}
		if round == 0 {
			most = tr.Pages()
		}
		if tr.Pages() > most {
			t.Fatalf("round %d: %d pages behind %d", round, tr.Pages(), most)
		}
		for i := range list {
			list[i].Gone = true
		}
		for part := range slices.Chunk(list, 10+round) {
			apply(t, tr, part...)
		}
		wantModel(t, tr, model{})
		if round%2 == 1 {
			tr = open(t, d)
		}
	}
}

// P8.1: an Apply that takes pairs out and puts others in their place needs no new pages.
func TestRoomOfWhatIsGone(t *testing.T) {
	d := disk.New(400)
	tr, m := open(t, d), model{}
	for i := range 60 {
		m.apply(put(fmt.Sprintf("b%02d", i), fat(160)))
	}
	apply(t, tr, writesOf(m)...)
	pages := tr.Pages()
	var list []api.Write
	for i := range 60 {
		list = append(list, put(fmt.Sprintf("a%02d", i), fat(160)), gone(fmt.Sprintf("b%02d", i)))
	}
	apply(t, tr, list...)
	m.apply(list...)
	wantModel(t, tr, m)
	if tr.Pages() != pages {
		t.Errorf("%d pages behind %d", tr.Pages(), pages)
	}
}
