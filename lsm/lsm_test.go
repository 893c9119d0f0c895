package lsm_test

import (
	"fmt"
	"maps"
	"math"
	"slices"
	"strings"
	"testing"

	"rootstock/api"
	"rootstock/disk"
	"rootstock/lsm"
)

const all = uint64(math.MaxUint64)

// put answers a write that gives a key a value.
func put(key, val string) api.Write { return api.Write{Key: key, Val: val} }

// gone answers a write that takes a key's value.
func gone(key string) api.Write { return api.Write{Key: key, Gone: true} }

// pairsOf answers pairs of keys and values by turns.
func pairsOf(list ...string) []api.Pair {
	var pairs []api.Pair
	for i := 0; i < len(list); i += 2 {
		pairs = append(pairs, api.Pair{Key: list[i], Val: list[i+1]})
	}
	return pairs
}

// fat answers a text of so many bytes.
func fat(n int) string { return strings.Repeat("z", n) }

// open opens a tree that can be opened.
func open(t *testing.T, d *disk.Disk) *lsm.Tree {
	t.Helper()
	tr, e := lsm.Open(d, "t")
	if tr == nil || e != api.OK {
		t.Fatalf("Open: tree %t, error %d", tr != nil, e)
	}
	return tr
}

// apply does writes that can be done.
func apply(t *testing.T, tr *lsm.Tree, list ...api.Write) {
	t.Helper()
	wantErr(t, "Apply", tr.Apply(list...), api.OK)
}

// wantErr fails if a call didn't answer that error.
func wantErr(t *testing.T, what string, got, want api.Errno) {
	t.Helper()
	if got != want {
		t.Fatalf("%s: error %d, want %d", what, got, want)
	}
}

// wantScan fails if a Scan doesn't answer just these pairs.
func wantScan(t *testing.T, tr *lsm.Tree, from string, n int, want []api.Pair) {
	t.Helper()
	if got := tr.Scan(from, n); !slices.Equal(got, want) {
		t.Fatalf("Scan(%q, %d) = %.300q, want %.300q", from, n, got, want)
	}
}

// wantVal fails if a key doesn't have just that value.
func wantVal(t *testing.T, tr *lsm.Tree, key, want string) {
	t.Helper()
	if val, ok := tr.Get(key); val != want || !ok {
		t.Fatalf("Get(%q) = %q, %t, want %q", key, val, ok, want)
	}
}

// wantNoVal fails if a key has a value.
func wantNoVal(t *testing.T, tr *lsm.Tree, key string) {
	t.Helper()
	if val, ok := tr.Get(key); val != "" || ok {
		t.Fatalf("Get(%q) = %q, %t, want nothing", key, val, ok)
	}
}

// power has the power go, and come back.
func power(d *disk.Disk, keep uint64) {
	d.Arm(0, 0)
	d.Off(keep)
	d.On()
}

// model is a tree's pairs by the chapter's words.
type model map[string]string

func (m model) apply(list ...api.Write) {
	for _, w := range list {
		if w.Gone {
			delete(m, w.Key)
		} else {
			m[w.Key] = w.Val
		}
	}
}

// behind answers what the model is behind writes; it stays.
func (m model) behind(list ...api.Write) model {
	next := maps.Clone(m)
	next.apply(list...)
	return next
}

// scan answers the first n pairs whose keys aren't below from.
func (m model) scan(from string, n int) []api.Pair {
	var pairs []api.Pair
	for _, key := range slices.Sorted(maps.Keys(m)) {
		if key >= from && len(pairs) < n {
			pairs = append(pairs, api.Pair{Key: key, Val: m[key]})
		}
	}
	return pairs
}

// writesOf answers the writes of a model's pairs, by rising keys.
func writesOf(m model) []api.Write {
	var list []api.Write
	for _, p := range m.scan("", math.MaxInt) {
		list = append(list, put(p.Key, p.Val))
	}
	return list
}

// same tells whether a tree has just a model's pairs.
func same(tr *lsm.Tree, m model) bool {
	return slices.Equal(tr.Scan("", math.MaxInt), m.scan("", math.MaxInt))
}

// wantModel fails if a tree answers anything else than the model.
func wantModel(t *testing.T, tr *lsm.Tree, m model) {
	t.Helper()
	wantScan(t, tr, "", math.MaxInt, m.scan("", math.MaxInt))
	for key, val := range m {
		wantVal(t, tr, key, val)
		if _, ok := m[key+"\x00"]; !ok {
			wantNoVal(t, tr, key+"\x00")
		}
	}
}

// P11.1: the chapter's example.
func TestExample(t *testing.T) {
	d := disk.New(50)
	tr := open(t, d)
	apply(t, tr, put("a", "1"))
	wantErr(t, "Sync", tr.Sync(), api.OK)
	apply(t, tr, gone("a"), put("b", "2"))
	wantNoVal(t, tr, "a")
	wantVal(t, tr, "b", "2")
	power(d, 0)
	tr = open(t, d)
	wantVal(t, tr, "a", "1")
	wantNoVal(t, tr, "b")
	wantScan(t, tr, "", 9, pairsOf("a", "1"))
}

// P11.1: a tree of which there is no file has no pairs; to open and to ask it writes nothing.
func TestNothingWritten(t *testing.T) {
	d := disk.New(50)
	tr := open(t, d)
	for range 2 {
		wantNoVal(t, tr, "")
		wantNoVal(t, tr, "a")
		wantScan(t, tr, "", math.MaxInt, nil)
		wantErr(t, "no writes", tr.Apply(), api.OK)
		wantErr(t, "no writes", tr.Apply([]api.Write{}...), api.OK)
		wantErr(t, "Sync", tr.Sync(), api.OK)
		if tr.Tables() != 0 || d.Acts() != 0 || len(d.Names()) != 0 {
			t.Errorf("Tables %d, Acts %d, files %q", tr.Tables(), d.Acts(), d.Names())
		}
		tr = open(t, d)
	}
}

// oddKeys are keys of all kinds, rising.
func oddKeys() []string {
	return []string{"", "\x00", "\x00\x00", "\x01", "A", "a", "a\x00", "aa", "ab", fat(47), fat(48), "\x7f", "\x80", "\xc3\xa4", "\xff", "\xff\xff", strings.Repeat("\xff", 48)}
}

// P11.1: any bytes are a key, and a value; nothing else has one, and what was opened anew answers the same.
func TestAnyBytes(t *testing.T) {
	d := disk.New(500)
	tr, m := open(t, d), model{}
	vals := []string{"", "\x00", fat(160), "\xff", "1"}
	keys := oddKeys()
	for i := range 5 * len(keys) {
		w := put(keys[(i*7)%len(keys)], vals[i%len(vals)])
		m.apply(w)
		apply(t, tr, w)
		wantModel(t, tr, m)
		wantModel(t, open(t, d), m)
	}
	if !slices.IsSorted(keys) || len(m) != len(keys) {
		t.Error("the test's keys don't rise")
	}
	for _, key := range keys {
		m.apply(gone(key))
		apply(t, tr, gone(key))
		wantModel(t, tr, m)
		wantNoVal(t, tr, key)
		tr = open(t, d)
		wantModel(t, tr, m)
	}
}

// spread answers a tree of 200 pairs whose keys are even, in tables, of which the eldest have other values, and in memory; and their model.
func spread(t *testing.T, d *disk.Disk) (*lsm.Tree, model) {
	t.Helper()
	tr, m := open(t, d), model{}
	for i := range 200 {
		key := func(i int) string { return fmt.Sprintf("k%03d", 2*i) }
		list := []api.Write{put(key(i), fat(i%160)), put(key(200+i), "gone soon"), put(key(i*7%(i+1)), fmt.Sprint(i))}
		if i >= 10 {
			list = append(list, gone(key(200+i-10)))
		}
		m.apply(list...)
		apply(t, tr, list...)
	}
	for i := 390; i < 400; i++ {
		m.apply(gone(fmt.Sprintf("k%03d", 2*i)))
		apply(t, tr, gone(fmt.Sprintf("k%03d", 2*i)))
	}
	return tr, m
}

// P11.1: a Scan begins at any place, whether a key is there or not, and has any length.
func TestScan(t *testing.T) {
	tr, m := spread(t, disk.New(1000))
	if len(m) != 200 || tr.Tables() == 0 {
		t.Fatalf("%d pairs, %d tables", len(m), tr.Tables())
	}
	var places []string
	for i := 0; i < 402; i += 3 {
		places = append(places, fmt.Sprintf("k%03d", i), fmt.Sprintf("k%03d\x00", i))
	}
	for _, from := range append(places, "", "j", "k", "k1", "k39", "k397", "k398", "k399", "k400", "k790", "l", "\xff", fat(500)) {
		for _, n := range []int{1, 2, 9, 50, 199, 200, 201, math.MaxInt} {
			wantScan(t, tr, from, n, m.scan(from, n))
		}
		for _, n := range []int{0, -1, -200, math.MinInt} {
			wantScan(t, tr, from, n, nil)
		}
	}
}

// P11.1: writes are done in order, each behind the one ahead of it, whether the old ones are in memory or in a table.
func TestWritesInOrder(t *testing.T) {
	cases := [][]api.Write{
		{put("a", "1"), put("a", "2"), put("a", "3")},
		{put("a", "1"), gone("a"), put("a", "2")},
		{gone("a"), put("a", "1")},
		{put("a", "1"), gone("a")},
		{gone("a"), gone("a")},
		{gone("b"), put("b", "2"), gone("b"), put("c", "3"), put("b", "")},
		{{Key: "a", Val: "9", Gone: true}},
		{put("b", "1"), {Key: "b", Val: fat(160), Gone: true}},
	}
	old := []api.Write{put("a", "old"), put("b", "old")}
	for i, list := range cases {
		for k, ahead := range [][]api.Write{nil, old, slices.Concat(old, filling("f", 40, 1))} {
			d := disk.New(50)
			tr, m := open(t, d), model{}
			apply(t, tr, ahead...)
			apply(t, tr, list...)
			m.apply(ahead...)
			m.apply(list...)
			wantModel(t, tr, m)
			wantModel(t, open(t, d), m)
			for _, key := range []string{"a", "b", "c"} {
				if _, ok := m[key]; !ok {
					wantNoVal(t, tr, key)
				}
			}
			if t.Failed() {
				t.Fatalf("case %d, %d", i, k)
			}
		}
	}
}

// filling answers so many writes of keys that no other list has, and values of so many bytes.
func filling(start string, count, size int) []api.Write {
	var list []api.Write
	for i := range count {
		list = append(list, put(fmt.Sprintf("%s%04d", start, i), fat(size)))
	}
	return list
}

// P11.1: at the limits it is done; beyond them it is ErrLong, whatever the write is, and nothing is changed.
func TestLong(t *testing.T) {
	d := disk.New(1000)
	tr, m := open(t, d), model{}
	good := []api.Write{put(fat(48), fat(160)), put("", ""), put("a", fat(160)), put(fat(48), ""), {Key: fat(48), Val: fat(160), Gone: true}, put(fat(47), fat(159))}
	m.apply(good...)
	apply(t, tr, good...)
	wantModel(t, tr, m)
	same := make([]api.Write, 1025)
	for i := range same {
		same[i] = put("same", "")
	}
	bad := [][]api.Write{
		{put(fat(49), "")},
		{put("b", fat(161))},
		{put(fat(49), fat(161))},
		{gone(fat(49))},
		{{Key: "b", Val: fat(161), Gone: true}},
		{{Key: "a", Val: fat(161), Gone: true}},
		{put("b", "1"), put("c", "2"), put(fat(1000), "3")},
		{put("b", fat(161)), put("b", "1")},
		same,
	}
	acts := d.Acts()
	for i, list := range bad {
		wantErr(t, fmt.Sprint("case ", i), tr.Apply(list...), api.ErrLong)
	}
	wantModel(t, tr, m)
	if d.Acts() != acts {
		t.Errorf("%d acts of what was refused", d.Acts()-acts)
	}
	apply(t, tr, same[1:]...)
	m.apply(same[1:]...)
	wantModel(t, tr, m)
	wantModel(t, open(t, d), m)
	for _, key := range []string{fat(49), fat(5000)} {
		wantNoVal(t, tr, key)
		wantScan(t, tr, key, 9, nil)
	}
}

// P11.1: as many writes at once as may be, of the longest keys and values; put, put anew, and taken out.
func TestMostWrites(t *testing.T) {
	d := disk.New(api.MaxPages)
	tr, m := open(t, d), model{}
	var list []api.Write
	for i := range 1024 {
		list = append(list, put(fmt.Sprintf("%04d%s", i*389%1024, fat(44)), fat(160)))
	}
	step := func() {
		t.Helper()
		m.apply(list...)
		apply(t, tr, list...)
		wantModel(t, tr, m)
		wantModel(t, open(t, d), m)
	}
	step()
	for i := range list {
		list[i].Val = ""
	}
	step()
	for i := range list {
		list[i].Gone = i%3 > 0
	}
	step()
	for i := range list {
		list[i].Gone = true
	}
	step()
}

// P11.1: what a nil tree answers.
func TestNilTree(t *testing.T) {
	var tr *lsm.Tree
	wantNoVal(t, tr, "a")
	wantScan(t, tr, "", 9, nil)
	wantErr(t, "Apply", tr.Apply(put("a", "1")), api.ErrNil)
	wantErr(t, "Apply of none", tr.Apply(), api.ErrNil)
	wantErr(t, "Apply of a long one", tr.Apply(put(fat(49), "1")), api.ErrNil)
	wantErr(t, "Sync", tr.Sync(), api.ErrNil)
	if tr.Tables() != 0 {
		t.Errorf("Tables %d", tr.Tables())
	}
}

// wantNoOpen fails if Open doesn't answer just that error.
func wantNoOpen(t *testing.T, what string, d *disk.Disk, want api.Errno) {
	t.Helper()
	if tr, e := lsm.Open(d, "t"); tr != nil || e != want {
		t.Errorf("%s: Open: tree %t, error %d, want none, %d", what, tr != nil, e, want)
	}
}

// P11.1: Open of no disk, and of one whose power is off.
func TestOpenRefused(t *testing.T) {
	wantNoOpen(t, "no disk", nil, api.ErrNil)
	d := disk.New(50)
	tr := open(t, d)
	apply(t, tr, filling("a", 30, 5)...)
	apply(t, tr, put("b", "1"))
	wantErr(t, "Sync", tr.Sync(), api.OK)
	d.Off(0)
	wantNoOpen(t, "no power", d, api.ErrDown)
	d.On()
	wantModel(t, open(t, d), model{"b": "1"}.behind(filling("a", 30, 5)...))
}

// P11.1: with the power off a write is ErrDown, behind ErrLong and ErrFull, and what is asked is answered all the same.
func TestPowerOff(t *testing.T) {
	d := disk.New(200)
	tr, m := open(t, d), model{}
	for _, list := range [][]api.Write{filling("a", 30, 5), filling("b", 30, 5), {put("c", "1"), gone("b0003")}} {
		m.apply(list...)
		apply(t, tr, list...)
	}
	wantErr(t, "Sync", tr.Sync(), api.OK)
	tables, acts := tr.Tables(), d.Acts()
	d.Off(0)
	wantErr(t, "Apply", tr.Apply(put("a", "1")), api.ErrDown)
	wantErr(t, "Apply that takes out", tr.Apply(gone("x")), api.ErrDown)
	wantErr(t, "Apply of none", tr.Apply(), api.OK)
	wantErr(t, "Apply of a long one", tr.Apply(put(fat(49), "1")), api.ErrLong)
	wantErr(t, "Sync", tr.Sync(), api.ErrDown)
	wantModel(t, tr, m)
	if tr.Tables() != tables || tables == 0 || d.Acts() != acts {
		t.Errorf("Tables %d, %d with the power on; %d acts", tr.Tables(), tables, d.Acts()-acts)
	}
	d.On()
	wantModel(t, open(t, d), m)
}

// P11.1: Get, Scan and Tables ask the disk nothing, whatever others do to it.
func TestAsksNothing(t *testing.T) {
	d := disk.New(1000)
	tr, m := spread(t, d)
	tables := tr.Tables()
	for _, file := range d.Names() {
		wantErr(t, "Remove", d.Remove(file), api.OK)
	}
	wantModel(t, tr, m)
	if tr.Tables() != tables {
		t.Errorf("Tables %d, want %d", tr.Tables(), tables)
	}
}

// P11.1: a tree's files have its name, or begin with it and "-"; other files, and other trees, stay as they are.
func TestFilesNames(t *testing.T) {
	for _, name := range []string{"t", "", "t-t", "x\x00y"} {
		d := disk.New(1000)
		others := []string{"tt", "t+1", "T-part1", "s", "z"}
		for _, other := range others {
			wantErr(t, "Write", d.Write(other, 0, []byte(other)), api.OK)
		}
		tr, e := lsm.Open(d, name)
		wantErr(t, "Open", e, api.OK)
		for i := range 200 {
			apply(t, tr, put(fmt.Sprint(i), fat(100)))
		}
		_, e = lsm.Open(d, name)
		wantErr(t, "Open", e, api.OK)
		for _, file := range d.Names() {
			if file != name && !strings.HasPrefix(file, name+"-") && !slices.Contains(others, file) {
				t.Errorf("a file %q of the tree %q", file, name)
			}
		}
		for _, other := range others {
			if b, e := d.Read(other, 0); e != api.OK || strings.TrimRight(string(b), "\x00") != other || d.Count(other) != 1 {
				t.Errorf("the file %q has %.20q, error %d", other, b, e)
			}
		}
	}
}

// P11.1: two trees on one disk know nothing of one another, though one's name begins with the other's and "-".
func TestTwoTrees(t *testing.T) {
	d := disk.New(2000)
	names := []string{"t", "t-t", "u"}
	var trees []*lsm.Tree
	var models []model
	for _, name := range names {
		tr, e := lsm.Open(d, name)
		wantErr(t, "Open", e, api.OK)
		trees, models = append(trees, tr), append(models, model{})
	}
	for i := range 300 {
		k := i * i % 3
		w := api.Write{Key: fmt.Sprint(i % 50), Val: fmt.Sprint(i), Gone: i%7 == 0}
		models[k].apply(w)
		apply(t, trees[k], w)
		if i%20 == 0 {
			wantErr(t, "Sync", trees[k].Sync(), api.OK)
			tr, e := lsm.Open(d, names[k])
			wantErr(t, "Open", e, api.OK)
			trees[k] = tr
		}
	}
	for k, tr := range trees {
		wantModel(t, tr, models[k])
	}
}

// P11.3: what is handed in stays, with its spare room, and isn't kept.
func TestHandedIn(t *testing.T) {
	d := disk.New(500)
	tr, m := open(t, d), model{}
	for i := range 60 {
		list := make([]api.Write, 6)
		for k := range list {
			list[k] = api.Write{Key: fmt.Sprint((i*7 + k*5) % 20), Val: fmt.Sprint(i, k), Gone: (i+k)%4 == 0}
		}
		ahead := slices.Clone(list)
		apply(t, tr, list[:4]...)
		if !slices.Equal(list, ahead) {
			t.Fatalf("the list is %v, it was %v", list, ahead)
		}
		m.apply(list[:4]...)
		for k := range list {
			list[k] = put("changed", "later")
		}
		wantModel(t, tr, m)
	}
	wantModel(t, open(t, d), m)
}

// P11.3: what is answered is new memory: what is written into it isn't seen, nor into another answer.
func TestNewMemory(t *testing.T) {
	d := disk.New(1000)
	tr, m := spread(t, d)
	want := m.scan("", math.MaxInt)
	for range 3 {
		first, second := tr.Scan("", math.MaxInt), tr.Scan("", math.MaxInt)
		for i := range first {
			first[i] = api.Pair{Key: "changed", Val: "changed"}
		}
		_ = append(first[:1], first...)
		if !slices.Equal(second, want) {
			t.Fatal("one answer is changed by another")
		}
		wantModel(t, tr, m)
		apply(t, tr, filling("k000", 20, 3)...)
		m.apply(filling("k000", 20, 3)...)
		want = m.scan("", math.MaxInt)
	}
	wantModel(t, open(t, d), m)
}
