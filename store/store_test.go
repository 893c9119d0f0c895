package store_test

import (
	"fmt"
	"maps"
	"math"
	"slices"
	"strings"
	"testing"

	"rootstock/api"
	"rootstock/disk"
	"rootstock/store"
)

const all = uint64(math.MaxUint64)

// kinds are all kinds of stores, laid those that have files.
func kinds() []int { return []int{store.Mem, store.Btree, store.Lsm} }
func laid() []int  { return []int{store.Btree, store.Lsm} }

// put answers a write that gives a key a value.
func put(key, val string) api.Write { return api.Write{Key: key, Val: val} }

// gone answers a write that takes a key's value.
func gone(key string) api.Write { return api.Write{Key: key, Gone: true} }

// fat answers a text of so many bytes.
func fat(n int) string { return strings.Repeat("z", n) }

// filling answers so many writes of keys that no other list has, and values of so many bytes.
func filling(start string, count, size int) []api.Write {
	var list []api.Write
	for i := range count {
		list = append(list, put(fmt.Sprintf("%s%04d", start, i), fat(size)))
	}
	return list
}

// open opens a store that can be opened.
func open(t *testing.T, kind int, d *disk.Disk) *store.Store {
	t.Helper()
	s, e := store.Open(kind, d, "t")
	if s == nil || e != api.OK {
		t.Fatalf("kind %d: Open: store %t, error %d", kind, s != nil, e)
	}
	return s
}

// apply does writes that can be done.
func apply(t *testing.T, s *store.Store, list ...api.Write) {
	t.Helper()
	wantErr(t, fmt.Sprintf("kind %d: Apply", s.Kind()), s.Apply(list...), api.OK)
}

// wantErr fails if a call didn't answer that error.
func wantErr(t *testing.T, what string, got, want api.Errno) {
	t.Helper()
	if got != want {
		t.Fatalf("%s: error %d, want %d", what, got, want)
	}
}

// wantScan fails if a Scan doesn't answer just these pairs.
func wantScan(t *testing.T, s *store.Store, from string, n int, want []api.Pair) {
	t.Helper()
	if got, e := s.Scan(from, n); !slices.Equal(got, want) || e != api.OK {
		t.Fatalf("kind %d: Scan(%q, %d) = %.300q, error %d, want %.300q", s.Kind(), from, n, got, e, want)
	}
}

// wantVal fails if a key doesn't have just that value.
func wantVal(t *testing.T, s *store.Store, key, want string) {
	t.Helper()
	if val, ok, e := s.Get(key); val != want || !ok || e != api.OK {
		t.Fatalf("kind %d: Get(%q) = %q, %t, error %d, want %q", s.Kind(), key, val, ok, e, want)
	}
}

// wantNoVal fails if a key has a value.
func wantNoVal(t *testing.T, s *store.Store, key string) {
	t.Helper()
	if val, ok, e := s.Get(key); val != "" || ok || e != api.OK {
		t.Fatalf("kind %d: Get(%q) = %q, %t, error %d, want nothing", s.Kind(), key, val, ok, e)
	}
}

// model is a store's pairs by the chapter's words.
type model map[string]string

func (m model) apply(list ...api.Write) {
	for _, w := range list {
		if w.Gone {
			delete(m, w.Key)
		} else {
			m[w.Key] = w.Val
		}
	}
}

// behind answers what the model is behind writes; it stays.
func (m model) behind(list ...api.Write) model {
	next := maps.Clone(m)
	next.apply(list...)
	return next
}

// scan answers the first n pairs whose keys aren't below from.
func (m model) scan(from string, n int) []api.Pair {
	var pairs []api.Pair
	for _, key := range slices.Sorted(maps.Keys(m)) {
		if key >= from && len(pairs) < n {
			pairs = append(pairs, api.Pair{Key: key, Val: m[key]})
		}
	}
	return pairs
}

// wantModel fails if a store answers anything else than the model.
func wantModel(t *testing.T, s *store.Store, m model) {
	t.Helper()
	wantScan(t, s, "", math.MaxInt, m.scan("", math.MaxInt))
	for key, val := range m {
		wantVal(t, s, key, val)
		if _, ok := m[key+"\x00"]; !ok {
			wantNoVal(t, s, key+"\x00")
		}
	}
}

// wantAnew fails if a store isn't the model, or, if it has files, isn't when it is opened anew; it answers the store to go on with.
func wantAnew(t *testing.T, s *store.Store, d *disk.Disk, m model) *store.Store {
	t.Helper()
	wantModel(t, s, m)
	if s.Kind() != store.Mem {
		s = open(t, s.Kind(), d)
		wantModel(t, s, m)
	}
	return s
}

// wantNoOpen fails if Open doesn't answer just that error.
func wantNoOpen(t *testing.T, what string, kind int, d *disk.Disk, want api.Errno) {
	t.Helper()
	if s, e := store.Open(kind, d, "t"); s != nil || e != want {
		t.Errorf("%s, kind %d: Open: store %t, error %d, want none, %d", what, kind, s != nil, e, want)
	}
}

// The chapter's example, and all other kinds that there aren't: ErrArg, ahead of all that is wrong with the disk.
func TestNoSuchKind(t *testing.T) {
	d, off := disk.New(50), disk.New(50)
	off.Off(0)
	for _, kind := range []int{4, 0, -1, 5, 256 + 1, math.MaxInt, math.MinInt} {
		wantNoOpen(t, "a good disk", kind, d, api.ErrArg)
		wantNoOpen(t, "no disk", kind, nil, api.ErrArg)
		wantNoOpen(t, "the power off", kind, off, api.ErrArg)
	}
	if d.Acts() != 0 || len(d.Names()) != 0 {
		t.Errorf("%d acts, files %q", d.Acts(), d.Names())
	}
}

// The kinds have these numbers, and a store tells its own, with the power off, too.
func TestKind(t *testing.T) {
	if store.Mem != 1 || store.Btree != 2 || store.Lsm != 3 {
		t.Errorf("Mem %d, Btree %d, Lsm %d", store.Mem, store.Btree, store.Lsm)
	}
	for i, kind := range kinds() {
		d := disk.New(50)
		s := open(t, kind, d)
		d.Off(0)
		if kind != i+1 || s.Kind() != kind {
			t.Errorf("Kind %d, want %d, %d", s.Kind(), kind, i+1)
		}
	}
}

// P12.3: Open answers its layer's errors, and leaves the files as they are; of Mem it is OK, whatever the disk.
func TestOpenRefused(t *testing.T) {
	for _, kind := range laid() {
		d := disk.New(200)
		s, m := open(t, kind, d), model{}
		m.apply(filling("a", 30, 50)...)
		apply(t, s, filling("a", 30, 50)...)
		wantErr(t, "Sync", s.Sync(), api.OK)
		wantNoOpen(t, "no disk", kind, nil, api.ErrNil)
		d.Off(0)
		wantNoOpen(t, "the power off", kind, d, api.ErrDown)
		d.On()
		wantModel(t, open(t, kind, d), m)
	}
	off := disk.New(50)
	off.Off(0)
	for _, d := range []*disk.Disk{nil, off, disk.New(0)} {
		s := open(t, store.Mem, d)
		apply(t, s, put("a", "1"))
		wantModel(t, s, model{"a": "1"})
		wantErr(t, "Sync", s.Sync(), api.OK)
	}
}

// Files that aren't such are ErrForm: a search tree's journal that is none, and its first page; a table of which a byte is turned.
func TestOpenForm(t *testing.T) {
	for _, bad := range []struct {
		kind int
		file string
	}{{store.Btree, "t-j"}, {store.Btree, "t"}, {store.Lsm, "t-part1"}} {
		d := disk.New(200)
		apply(t, open(t, bad.kind, d), filling("a", 30, 50)...)
		wantErr(t, "Write", d.Write(bad.file, 0, []byte("\xff\xff\xff")), api.OK)
		wantNoOpen(t, bad.file, bad.kind, d, api.ErrForm)
		apply(t, open(t, store.Mem, d), put("a", "1"))
	}
}

// What a nil store answers.
func TestNilStore(t *testing.T) {
	var s *store.Store
	if val, ok, e := s.Get("a"); val != "" || ok || e != api.ErrNil {
		t.Errorf("Get %q, %t, error %d", val, ok, e)
	}
	if pairs, e := s.Scan("", 9); len(pairs) != 0 || e != api.ErrNil {
		t.Errorf("Scan %q, error %d", pairs, e)
	}
	if pairs, e := s.Scan("", 0); len(pairs) != 0 || e != api.ErrNil {
		t.Errorf("Scan of none %q, error %d", pairs, e)
	}
	wantErr(t, "Apply", s.Apply(put("a", "1")), api.ErrNil)
	wantErr(t, "Apply of none", s.Apply(), api.ErrNil)
	wantErr(t, "Apply of a long one", s.Apply(put(fat(49), "1")), api.ErrNil)
	wantErr(t, "Sync", s.Sync(), api.ErrNil)
	if s.Kind() != 0 {
		t.Errorf("Kind %d", s.Kind())
	}
}

// P12.1: a store without files has no pairs; to open and to ask it writes nothing.
func TestNothingWritten(t *testing.T) {
	for _, kind := range kinds() {
		d := disk.New(50)
		s := open(t, kind, d)
		for range 2 {
			wantNoVal(t, s, "")
			wantNoVal(t, s, "a")
			wantScan(t, s, "", math.MaxInt, nil)
			wantScan(t, s, "a", 1, nil)
			apply(t, s)
			apply(t, s, []api.Write{}...)
			wantErr(t, "Sync", s.Sync(), api.OK)
			s = open(t, kind, d)
		}
		if d.Acts() != 0 || len(d.Names()) != 0 {
			t.Errorf("kind %d: %d acts, files %q", kind, d.Acts(), d.Names())
		}
	}
}

// oddKeys are keys of all kinds, rising.
func oddKeys() []string {
	return []string{"", "\x00", "\x00\x00", "\x01", "A", "a", "a\x00", "aa", "ab", "\x7f", "\x80", "\xc3\xa4", "\xff", "\xff\xff", strings.Repeat("\xff", 47), strings.Repeat("\xff", 48)}
}

// P12.1: any bytes are a key, and a value.
func TestAnyBytes(t *testing.T) {
	vals := []string{"", "\x00", fat(160), "\xff", "1"}
	keys := oddKeys()
	if !slices.IsSorted(keys) {
		t.Fatal("the test's keys don't rise")
	}
	for _, kind := range kinds() {
		d := disk.New(500)
		s, m := open(t, kind, d), model{}
		for i := range 5 * len(keys) {
			w := put(keys[(i*7)%len(keys)], vals[i%len(vals)])
			m.apply(w)
			apply(t, s, w)
			s = wantAnew(t, s, d, m)
		}
		for _, key := range keys {
			m.apply(gone(key))
			apply(t, s, gone(key))
			s = wantAnew(t, s, d, m)
			wantNoVal(t, s, key)
		}
	}
}

// P12.1: a Scan begins at any place, whether a key is there or not, and has any length.
func TestScan(t *testing.T) {
	for _, kind := range kinds() {
		s, m := open(t, kind, disk.New(3000)), model{}
		for i := range 1500 {
			w := put(fmt.Sprintf("k%04d", i*389%1500*2), fmt.Sprint(i))
			m.apply(w)
			apply(t, s, w)
		}
		want := m.scan("", math.MaxInt)
		var places []string
		for i := 0; i < 3010; i += 97 {
			places = append(places, fmt.Sprintf("k%04d", i), fmt.Sprintf("k%04d\x00", i))
		}
		for _, from := range append(places, "", "j", "k", "k1", "k2998", "k2999", "l", "\xff", fat(500)) {
			at, _ := slices.BinarySearchFunc(want, from, func(p api.Pair, key string) int { return strings.Compare(p.Key, key) })
			for _, n := range []int{1, 2, 9, 511, 512, 513, 1499, 1500, 1501, math.MaxInt} {
				wantScan(t, s, from, n, want[at:][:min(n, len(want)-at)])
			}
			for _, n := range []int{0, -1, -200, math.MinInt} {
				wantScan(t, s, from, n, nil)
			}
		}
	}
}

// P12.1: writes are done in order, each behind the one ahead of it.
func TestWritesInOrder(t *testing.T) {
	cases := [][]api.Write{
		{put("a", "1"), put("a", "2"), put("a", "3")},
		{put("a", "1"), gone("a"), put("a", "2")},
		{gone("a"), put("a", "1")},
		{put("a", "1"), gone("a")},
		{gone("a"), gone("a")},
		{gone("b"), put("b", "2"), gone("b"), put("c", "3"), put("b", "")},
		{{Key: "a", Val: "9", Gone: true}},
		{put("b", "1"), {Key: "b", Val: fat(160), Gone: true}},
	}
	old := []api.Write{put("a", "old"), put("b", "old")}
	for _, kind := range kinds() {
		for _, list := range cases {
			for _, ahead := range [][]api.Write{nil, old, slices.Concat(old, filling("f", 40, 1))} {
				d := disk.New(50)
				s := open(t, kind, d)
				apply(t, s, ahead...)
				apply(t, s, list...)
				m := model{}.behind(slices.Concat(ahead, list)...)
				s = wantAnew(t, s, d, m)
				for _, key := range []string{"a", "b", "c"} {
					if _, ok := m[key]; !ok {
						wantNoVal(t, s, key)
					}
				}
			}
		}
	}
}

// tooLong are lists of writes that are too many, or of which one is too long.
func tooLong() [][]api.Write {
	many := make([]api.Write, 1025)
	for i := range many {
		many[i] = put("same", "")
	}
	return [][]api.Write{
		{put(fat(49), "")},
		{put("b", fat(161))},
		{put(fat(49), fat(161))},
		{gone(fat(49))},
		{{Key: "b", Val: fat(161), Gone: true}},
		{{Key: "a", Val: fat(161), Gone: true}},
		{put("b", "1"), put("a", "2"), gone("a"), put(fat(1000), "3")},
		{put("b", fat(161)), put("b", "1")},
		many,
	}
}

// P12.1, P12.3: at the limits writes are done; beyond them they are ErrLong, and nothing is changed.
func TestLong(t *testing.T) {
	good := []api.Write{put(fat(48), fat(160)), put("", ""), put("a", fat(160)), put(fat(48), ""), {Key: fat(48), Val: fat(160), Gone: true}, put(fat(47), fat(159))}
	for _, kind := range kinds() {
		d := disk.New(1000)
		s, m := open(t, kind, d), model{}
		m.apply(good...)
		apply(t, s, good...)
		acts := d.Acts()
		for i, list := range tooLong() {
			wantErr(t, fmt.Sprintf("kind %d, case %d", kind, i), s.Apply(list...), api.ErrLong)
			wantModel(t, s, m)
		}
		if d.Acts() != acts {
			t.Errorf("kind %d: %d acts of what was refused", kind, d.Acts()-acts)
		}
		s = wantAnew(t, s, d, m)
		for _, key := range []string{fat(49), fat(5000)} {
			wantNoVal(t, s, key)
			wantScan(t, s, key, 9, nil)
		}
	}
}

// P12.1: as many writes at once as may be, of the longest keys and values; put, put anew, and taken out.
func TestMostWrites(t *testing.T) {
	for _, kind := range kinds() {
		d := disk.New(api.MaxPages)
		s, m := open(t, kind, d), model{}
		list := make([]api.Write, 1024)
		for i := range list {
			list[i] = put(fmt.Sprintf("%04d%s", i*389%1024, fat(44)), fat(160))
		}
		step := func() {
			t.Helper()
			m.apply(list...)
			apply(t, s, list...)
			s = wantAnew(t, s, d, m)
		}
		step()
		for i := range list {
			list[i].Val = ""
		}
		step()
		for i := range list {
			list[i].Gone = i%3 > 0
		}
		step()
		for i := range list {
			list[i].Gone = true
		}
		step()
	}
}

// P12.1: a store's files have its name, or begin with it and "-"; one of another name doesn't see them.
func TestNames(t *testing.T) {
	for _, kind := range laid() {
		for _, name := range []string{"t", "", "t+t", "x\x00y"} {
			d := disk.New(500)
			wantErr(t, "Write", d.Write("other", 0, []byte("x")), api.OK)
			s, e := store.Open(kind, d, name)
			wantErr(t, "Open", e, api.OK)
			apply(t, s, filling("a", 30, 50)...)
			apply(t, s, put("b", "1"))
			for _, file := range d.Names() {
				if file != name && !strings.HasPrefix(file, name+"-") && file != "other" {
					t.Errorf("kind %d: a file %q of the store %q", kind, file, name)
				}
			}
			other, e := store.Open(kind, d, name+"2")
			wantErr(t, "Open", e, api.OK)
			wantModel(t, other, model{})
			s, e = store.Open(kind, d, name)
			wantErr(t, "Open", e, api.OK)
			wantModel(t, s, model{"b": "1"}.behind(filling("a", 30, 50)...))
		}
	}
}

// P12.1: stores on one disk know nothing of one another.
func TestManyStores(t *testing.T) {
	d := disk.New(2000)
	var stores []*store.Store
	var models []model
	for i := range 9 {
		s, e := store.Open(kinds()[i%3], d, fmt.Sprint("t", i/3, i%3))
		wantErr(t, "Open", e, api.OK)
		stores, models = append(stores, s), append(models, model{})
	}
	for i := range 600 {
		k := i * i % 11 % 9
		w := api.Write{Key: fmt.Sprint(i % 50), Val: fmt.Sprint(i), Gone: i%7 == 0}
		models[k].apply(w)
		apply(t, stores[k], w)
	}
	for k, s := range stores {
		wantModel(t, s, models[k])
	}
}

// P12.1: what is in memory isn't on the disk, nor in another store of the same name, and has room beyond any disk's.
func TestInMemory(t *testing.T) {
	d := disk.New(1)
	s, m := open(t, store.Mem, d), model{}
	for i := range 16 {
		list := filling(fmt.Sprint(i*5%16, "-"), 1024, 160)
		m.apply(list...)
		apply(t, s, list...)
	}
	wantModel(t, s, m)
	wantModel(t, open(t, store.Mem, d), model{})
	if d.Acts() != 0 || d.Free() != 1 {
		t.Errorf("%d acts, %d pages free", d.Acts(), d.Free())
	}
}

// P12.1: pairs that come, and go, by rising and falling order, and spread.
func TestOrders(t *testing.T) {
	const count = 1400
	orders := []func(i int) int{
		func(i int) int { return i },
		func(i int) int { return count - 1 - i },
		func(i int) int { return i * 389 % count },
	}
	for _, kind := range kinds() {
		for _, comes := range orders {
			for _, goes := range orders {
				s, m := open(t, kind, disk.New(api.MaxPages)), model{}
				for i := range count {
					w := put(fmt.Sprintf("%04d", comes(i)), fmt.Sprint(i))
					m.apply(w)
					apply(t, s, w)
				}
				for i := range count {
					if i%200 == 0 {
						wantModel(t, s, m)
					}
					w := gone(fmt.Sprintf("%04d", goes(i)))
					m.apply(w)
					apply(t, s, w)
				}
				wantModel(t, s, model{})
				apply(t, s, put("a", "1"))
				wantModel(t, s, model{"a": "1"})
			}
		}
	}
}

// P12.4: what is handed in stays, with its spare room, and isn't kept.
func TestHandedIn(t *testing.T) {
	for _, kind := range kinds() {
		d := disk.New(500)
		s, m := open(t, kind, d), model{}
		for i := range 60 {
			list := make([]api.Write, 6)
			for k := range list {
				list[k] = api.Write{Key: fmt.Sprint((i*7 + k*5) % 20), Val: fmt.Sprint(i, k), Gone: (i+k)%4 == 0}
			}
			ahead := slices.Clone(list)
			apply(t, s, list[:4]...)
			if !slices.Equal(list, ahead) {
				t.Fatalf("kind %d: the list is %v, it was %v", kind, list, ahead)
			}
			m.apply(list[:4]...)
			for k := range list {
				list[k] = put("changed", "later")
			}
			wantModel(t, s, m)
		}
		wantAnew(t, s, d, m)
	}
}

// P12.4: what is answered is new memory: what is written into it isn't seen, nor into another answer.
func TestNewMemory(t *testing.T) {
	for _, kind := range kinds() {
		d := disk.New(2000)
		s, m := open(t, kind, d), model{}
		apply(t, s, filling("k", 700, 20)...)
		m.apply(filling("k", 700, 20)...)
		for round := range 3 {
			for _, n := range []int{5, 511, math.MaxInt} {
				first, other := m.scan("", n), m.scan("k0003", n)
				a, _ := s.Scan("", n)
				b, _ := s.Scan("", n)
				c, _ := s.Scan("k0003", n)
				for i := range a {
					a[i] = api.Pair{Key: "changed", Val: "changed"}
				}
				_ = append(a[:1], a...)
				_ = append(b, a...)
				if !slices.Equal(b, first) || !slices.Equal(c, other) {
					t.Fatalf("kind %d: one answer is changed by another", kind)
				}
				wantModel(t, s, m)
			}
			w := []api.Write{put(fmt.Sprint("k000", round), "new"), gone(fmt.Sprint("k001", round)), put(fmt.Sprint("k000", round, "x"), "")}
			before, _ := s.Scan("", math.MaxInt)
			held := slices.Clone(before)
			apply(t, s, w...)
			m.apply(w...)
			if !slices.Equal(before, held) {
				t.Fatalf("kind %d: an answer is changed by what came behind it", kind)
			}
		}
		wantAnew(t, s, d, m)
	}
}
