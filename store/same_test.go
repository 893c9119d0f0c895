package store_test

import (
	"fmt"
	"maps"
	"math"
	"math/rand"
	"slices"
	"testing"

	"rootstock/api"
	"rootstock/btree"
	"rootstock/disk"
	"rootstock/lsm"
	"rootstock/store"
)

// randomWrites answers some writes of few keys, now and then none, or with one that is too long.
func randomWrites(rnd *rand.Rand) []api.Write {
	most := []int{1, 3, 12, 60}[rnd.Intn(4)]
	var list []api.Write
	for range rnd.Intn(most + 1) {
		list = append(list, api.Write{Key: randomKey(rnd), Val: fat(rnd.Intn(161)), Gone: rnd.Intn(3) == 0})
	}
	if len(list) > 0 && rnd.Intn(20) == 0 {
		list[rnd.Intn(len(list))].Val = fat(161)
	}
	return list
}

func randomKey(rnd *rand.Rand) string {
	if rnd.Intn(10) == 0 {
		return oddKeys()[rnd.Intn(len(oddKeys()))]
	}
	return fmt.Sprint("key", rnd.Intn(150))
}

// call does a call of that kind, with what rnd says, and answers in words what it answered.
func call(s *store.Store, rnd *rand.Rand) string {
	switch rnd.Intn(4) {
	case 0:
		return fmt.Sprint(s.Get(randomKey(rnd)))
	case 1:
		from := randomKey(rnd)
		pairs, e := s.Scan(from, []int{-1, 0, 1, 7, 40, math.MaxInt}[rnd.Intn(6)])
		return fmt.Sprintf("%q %d", pairs, e)
	case 2:
		return fmt.Sprint(s.Sync())
	}
	return fmt.Sprint(s.Apply(randomWrites(rnd)...))
}

// P12.1: the same calls in random orders, wrong ones among them, have the same answers of all kinds, opened anew or not.
func TestAllTheSame(t *testing.T) {
	for seed := range int64(60) {
		var stores []*store.Store
		var disks []*disk.Disk
		for _, kind := range kinds() {
			d := disk.New(2000)
			stores, disks = append(stores, open(t, kind, d)), append(disks, d)
		}
		rnd := rand.New(rand.NewSource(seed))
		for i := range 200 {
			step := rnd.Int63()
			want := call(stores[0], rand.New(rand.NewSource(step)))
			for k := 1; k < len(stores); k++ {
				if step%9 == 0 {
					stores[k] = open(t, kinds()[k], disks[k])
				}
				if got := call(stores[k], rand.New(rand.NewSource(step))); got != want {
					t.Fatalf("seed %d, step %d: kind %d answers %.300s, Mem %.300s", seed, i, kinds()[k], got, want)
				}
			}
		}
		want, _ := stores[0].Scan("", math.MaxInt)
		for k, s := range stores {
			wantScan(t, s, "", math.MaxInt, want)
			if disks[k].Free() < 1000 {
				t.Fatalf("kind %d: the test's disks get full", kinds()[k])
			}
		}
	}
}

// same tells whether a store has just a model's pairs.
func same(s *store.Store, m model) bool {
	pairs, e := s.Scan("", math.MaxInt)
	return slices.Equal(pairs, m.scan("", math.MaxInt)) && e == api.OK
}

// P12.1: of Btree the files are layer 8's of that name, and back.
func TestLayer8(t *testing.T) {
	d := disk.New(300)
	apply(t, open(t, store.Btree, d), filling("a", 30, 50)...)
	tr, e := btree.Open(d, "t")
	wantErr(t, "Open", e, api.OK)
	pairs, e := tr.Scan("", math.MaxInt)
	m := model{}.behind(filling("a", 30, 50)...)
	if !slices.Equal(pairs, m.scan("", math.MaxInt)) || e != api.OK {
		t.Fatalf("layer 8 has %.300q, error %d", pairs, e)
	}
	wantErr(t, "Apply", tr.Apply(put("b", "1")), api.OK)
	wantModel(t, open(t, store.Btree, d), m.behind(put("b", "1")))
}

// P12.1: of Lsm the files are layer 11's of that name, and back.
func TestLayer11(t *testing.T) {
	d := disk.New(300)
	apply(t, open(t, store.Lsm, d), filling("a", 30, 50)...)
	tr, e := lsm.Open(d, "t")
	wantErr(t, "Open", e, api.OK)
	m := model{}.behind(filling("a", 30, 50)...)
	if pairs := tr.Scan("", math.MaxInt); !slices.Equal(pairs, m.scan("", math.MaxInt)) || tr.Tables() != 1 {
		t.Fatalf("layer 11 has %.300q, %d tables", pairs, tr.Tables())
	}
	wantErr(t, "Apply", tr.Apply(put("b", "1")), api.OK)
	wantModel(t, open(t, store.Lsm, d), m.behind(put("b", "1")))
}

// files answers what all files have, page by page.
func files(t *testing.T, d *disk.Disk) map[string]string {
	t.Helper()
	all := map[string]string{}
	for _, name := range d.Names() {
		var pages []byte
		for i := range d.Count(name) {
			b, e := d.Read(name, i)
			wantErr(t, "Read", e, api.OK)
			pages = append(pages, b...)
		}
		all[name] = string(pages)
	}
	return all
}

// leave has another file take pages, or give them back, so that so many are left.
func leave(t *testing.T, d *disk.Disk, free int) {
	t.Helper()
	count := d.Count("other")
	for ; d.Free() > free; count++ {
		wantErr(t, "Write", d.Write("other", count, nil), api.OK)
	}
	if more := free - d.Free(); more > 0 {
		wantErr(t, "Cut", d.Cut("other", count-more), api.OK)
	}
}

// P12.3: without room an Apply is ErrFull, and changes nothing; with more room it is done.
func TestFull(t *testing.T) {
	for _, kind := range laid() {
		for _, ahead := range [][]api.Write{nil, filling("k", 3, 10), filling("k", 40, 160)} {
			for _, list := range [][]api.Write{{put("a", fat(160))}, append(filling("b", 20, 160), gone("k0001"), put("k0000", "1")), filling("c", 150, 100)} {
				d := disk.New(1500)
				s, m := open(t, kind, d), model{}.behind(ahead...)
				apply(t, s, ahead...)
				for free := 0; ; free++ {
					leave(t, d, free)
					was, acts := files(t, d), d.Acts()
					e := s.Apply(list...)
					if e == api.OK {
						break
					}
					wantErr(t, fmt.Sprintf("kind %d, %d pages free", kind, free), e, api.ErrFull)
					if !maps.Equal(files(t, d), was) || d.Acts() != acts || free > 400 {
						t.Fatalf("kind %d, %d pages free: the files are changed by what was refused, %d acts", kind, free, d.Acts()-acts)
					}
					wantModel(t, s, m)
				}
				m.apply(list...)
				wantAnew(t, s, d, m)
			}
		}
	}
}

// P12.3: disks that fill up, with random writes: what is refused changes nothing, what is OK is done; in memory there is always room.
func TestFillsUp(t *testing.T) {
	full := map[int]int{}
	for seed := range int64(40) {
		for _, kind := range kinds() {
			rnd := rand.New(rand.NewSource(seed))
			d := disk.New([]int{0, 1, 3, 10, 40, 90}[rnd.Intn(6)])
			s, m := open(t, kind, d), model{}
			for range 150 {
				list := randomWrites(rnd)
				switch e := s.Apply(list...); e {
				case api.OK:
					m.apply(list...)
				case api.ErrFull:
					full[kind]++
				default:
					wantErr(t, "Apply", e, api.ErrLong)
				}
				if !same(s, m) {
					t.Fatalf("seed %d, kind %d: another thing than the writes say", seed, kind)
				}
			}
			wantAnew(t, s, d, m)
		}
	}
	if full[store.Btree] < 200 || full[store.Lsm] < 200 || full[store.Mem] > 0 {
		t.Errorf("refused: %v", full)
	}
}
