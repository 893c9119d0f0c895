package btree_test

import (
	"fmt"
	"maps"
	"math"
	"slices"
	"strings"
	"testing"

	"rootstock/api"
	"rootstock/btree"
	"rootstock/disk"
)

const all = uint64(math.MaxUint64)

// put answers a write that gives a key a value.
func put(key, val string) api.Write { return api.Write{Key: key, Val: val} }

// gone answers a write that takes a key's value.
func gone(key string) api.Write { return api.Write{Key: key, Gone: true} }

// pairsOf answers pairs of keys and values by turns.
func pairsOf(list ...string) []api.Pair {
	var pairs []api.Pair
	for i := 0; i < len(list); i += 2 {
		pairs = append(pairs, api.Pair{Key: list[i], Val: list[i+1]})
	}
	return pairs
}

// fat answers a text of so many bytes.
func fat(n int) string { return strings.Repeat("z", n) }

// open opens a tree that can be opened.
func open(t *testing.T, d *disk.Disk) *btree.Tree {
	t.Helper()
	tr, e := btree.Open(d, "t")
	if tr == nil || e != api.OK {
		t.Fatalf("Open: %v, error %d", tr, e)
	}
	return tr
}

// apply does writes that can be done.
func apply(t *testing.T, tr *btree.Tree, list ...api.Write) {
	t.Helper()
	wantErr(t, "Apply", tr.Apply(list...), api.OK)
}

// wantErr fails if a call didn't answer that error.
func wantErr(t *testing.T, what string, got, want api.Errno) {
	t.Helper()
	if got != want {
		t.Fatalf("%s: error %d, want %d", what, got, want)
	}
}

// wantScan fails if a Scan doesn't answer just these pairs.
func wantScan(t *testing.T, tr *btree.Tree, from string, n int, want []api.Pair) {
	t.Helper()
	if got, e := tr.Scan(from, n); e != api.OK || !slices.Equal(got, want) {
		t.Fatalf("Scan(%q, %d) = %.300q, %d, want %.300q", from, n, got, e, want)
	}
}

// wantVal fails if a key doesn't have just that value.
func wantVal(t *testing.T, tr *btree.Tree, key, want string) {
	t.Helper()
	if val, ok, e := tr.Get(key); val != want || !ok || e != api.OK {
		t.Fatalf("Get(%q) = %q, %t, %d, want %q", key, val, ok, e, want)
	}
}

// wantNoVal fails if a key has a value.
func wantNoVal(t *testing.T, tr *btree.Tree, key string) {
	t.Helper()
	if val, ok, e := tr.Get(key); val != "" || ok || e != api.OK {
		t.Fatalf("Get(%q) = %q, %t, %d, want nothing", key, val, ok, e)
	}
}

// model is a tree's pairs by the chapter's words.
type model map[string]string

func (m model) apply(list ...api.Write) {
	for _, w := range list {
		if w.Gone {
			delete(m, w.Key)
		} else {
			m[w.Key] = w.Val
		}
	}
}

// behind answers what the model is behind writes; it stays.
func (m model) behind(list ...api.Write) model {
	next := maps.Clone(m)
	next.apply(list...)
	return next
}

// scan answers the first n pairs whose keys aren't below from.
func (m model) scan(from string, n int) []api.Pair {
	var pairs []api.Pair
	for _, key := range slices.Sorted(maps.Keys(m)) {
		if key >= from && len(pairs) < n {
			pairs = append(pairs, api.Pair{Key: key, Val: m[key]})
		}
	}
	return pairs
}

// mostDepth answers what the depth of so many pairs is at most.
func mostDepth(n int) int {
	if n == 0 {
		return 1
	}
	up := 0
	for 1<<up < n {
		up++
	}
	return 2 + up
}

// wantModel fails if a tree answers anything else than the model.
func wantModel(t *testing.T, tr *btree.Tree, m model) {
	t.Helper()
	wantScan(t, tr, "", math.MaxInt, m.scan("", math.MaxInt))
	for key, val := range m {
		wantVal(t, tr, key, val)
		if _, ok := m[key+"\x00"]; !ok {
			wantNoVal(t, tr, key+"\x00")
		}
	}
	if tr.Depth() > mostDepth(len(m)) {
		t.Fatalf("Depth %d of %d pairs, want at most %d", tr.Depth(), len(m), mostDepth(len(m)))
	}
}

// P8.1: the chapter's example.
func TestExample(t *testing.T) {
	tr := open(t, disk.New(50))
	apply(t, tr, put("a", "1"), put("b", "2"), gone("a"))
	wantScan(t, tr, "", 9, pairsOf("b", "2"))
	wantNoVal(t, tr, "a")
	wantVal(t, tr, "b", "2")
}

// P8.1: a tree of which there is no file has no pairs, no depth and no pages; to ask writes nothing, and no page must be read.
func TestNothingWritten(t *testing.T) {
	d := disk.New(50)
	tr := open(t, d)
	for range 2 {
		wantNoVal(t, tr, "")
		wantNoVal(t, tr, "a")
		wantScan(t, tr, "", math.MaxInt, nil)
		wantErr(t, "no writes", tr.Apply(), api.OK)
		wantErr(t, "no writes", tr.Apply([]api.Write{}...), api.OK)
		if tr.Depth() != 0 || tr.Pages() != 0 || d.Acts() != 0 {
			t.Errorf("Depth %d, Pages %d, Acts %d", tr.Depth(), tr.Pages(), d.Acts())
		}
		d.Off(all)
	}
	d.On()
	if len(d.Names()) != 0 {
		t.Errorf("files: %q", d.Names())
	}
}

// P8.1: the first write makes a root, which is a leaf; the tree that has no pairs any more has one page on the way, too.
func TestDepthAndPages(t *testing.T) {
	d := disk.New(400)
	tr := open(t, d)
	apply(t, tr, put("a", "1"))
	if tr.Depth() != 1 || tr.Pages() != d.Count("t") || tr.Pages() < 1 {
		t.Errorf("one pair: Depth %d, Pages %d of %d", tr.Depth(), tr.Pages(), d.Count("t"))
	}
	apply(t, tr, gone("a"))
	if tr.Depth() != 1 {
		t.Errorf("none any more: Depth %d", tr.Depth())
	}
	wantModel(t, tr, model{})
	depth := 1
	for i := range 300 {
		apply(t, tr, put(fmt.Sprintf("%03d%s", i, fat(45)), fat(160)))
		if tr.Depth() < depth || tr.Depth() > depth+1 || tr.Pages() != d.Count("t") {
			t.Errorf("%d pairs: Depth %d behind %d, Pages %d of %d", i+1, tr.Depth(), depth, tr.Pages(), d.Count("t"))
		}
		depth = tr.Depth()
	}
	if depth < 3 {
		t.Errorf("300 pairs of two a page: Depth %d", depth)
	}
	if again := open(t, d); again.Depth() != depth || again.Pages() != tr.Pages() {
		t.Errorf("opened anew: Depth %d, Pages %d, want %d, %d", again.Depth(), again.Pages(), depth, tr.Pages())
	}
}

// oddKeys are keys of all kinds, rising.
func oddKeys() []string {
	return []string{"", "\x00", "\x00\x00", "\x01", "A", "a", "a\x00", "aa", "ab", fat(47), fat(48), "\x7f", "\x80", "\xc3\xa4", "\xff", "\xff\xff", strings.Repeat("\xff", 48)}
}

// P8.1: any bytes are a key, and a value; nothing else has one.
func TestAnyBytes(t *testing.T) {
	tr, m := open(t, disk.New(200)), model{}
	vals := []string{"", "\x00", fat(160), "\xff", "1"}
	keys := oddKeys()
	for i := range keys {
		w := put(keys[(i*7)%len(keys)], vals[i%len(vals)])
		m.apply(w)
		apply(t, tr, w)
		wantModel(t, tr, m)
	}
	if !slices.IsSorted(keys) || len(m) != len(keys) {
		t.Error("the test's keys don't rise")
	}
	for _, key := range keys {
		m.apply(gone(key))
		apply(t, tr, gone(key))
		wantModel(t, tr, m)
	}
}

// P8.1: a Scan begins at any place, whether a key is there or not, and has any length.
func TestScan(t *testing.T) {
	tr, m := open(t, disk.New(400)), model{}
	for i := range 200 {
		m.apply(put(fmt.Sprintf("k%03d", 2*i), fat(i%160)))
	}
	apply(t, tr, writesOf(m)...)
	var places []string
	for i := range 402 {
		places = append(places, fmt.Sprintf("k%03d", i), fmt.Sprintf("k%03d\x00", i))
	}
	for _, from := range append(places, "", "j", "k", "k1", "k39", "k399", "l", "\xff", fat(500)) {
		for _, n := range []int{1, 2, 9, 50, 199, 200, 201, math.MaxInt} {
			wantScan(t, tr, from, n, m.scan(from, n))
		}
		for _, n := range []int{0, -1, -200, math.MinInt} {
			wantScan(t, tr, from, n, nil)
		}
	}
}

// writesOf answers the writes of a model's pairs, by rising keys.
func writesOf(m model) []api.Write {
	var list []api.Write
	for _, p := range m.scan("", math.MaxInt) {
		list = append(list, put(p.Key, p.Val))
	}
	return list
}

// P8.1: writes are done in order, each behind the one ahead of it.
func TestWritesInOrder(t *testing.T) {
	cases := [][]api.Write{
		{put("a", "1"), put("a", "2"), put("a", "3")},
		{put("a", "1"), gone("a"), put("a", "2")},
		{gone("a"), put("a", "1")},
		{put("a", "1"), gone("a")},
		{gone("a"), gone("a")},
		{gone("b"), put("b", "2"), gone("b"), put("c", "3"), put("b", "")},
		{{Key: "a", Val: "9", Gone: true}},
		{put("b", "1"), {Key: "b", Val: fat(160), Gone: true}},
	}
	for i, list := range cases {
		for _, old := range [][]api.Write{nil, {put("a", "old"), put("b", "old")}} {
			tr, m := open(t, disk.New(50)), model{}
			apply(t, tr, old...)
			apply(t, tr, list...)
			m.apply(old...)
			m.apply(list...)
			wantModel(t, tr, m)
			if t.Failed() {
				t.Fatalf("case %d", i)
			}
		}
	}
}

// P8.1: a value in another one's place may have any other length, over and over.
func TestValuesChange(t *testing.T) {
	d := disk.New(400)
	tr, m := open(t, d), model{}
	for i, size := range []int{1, 160, 0, 80, 160, 3, 160, 0} {
		var list []api.Write
		for k := range 60 {
			list = append(list, put(fmt.Sprintf("key%02d", k), strings.Repeat(string(rune('a'+i)), (size+k)%161)))
		}
		m.apply(list...)
		apply(t, tr, list[:30]...)
		apply(t, tr, list[30:]...)
		wantModel(t, tr, m)
		wantModel(t, open(t, d), m)
	}
}

// P8.1: at the limits it is done; beyond them it is ErrLong, whatever the write is, and nothing is changed.
func TestLong(t *testing.T) {
	d := disk.New(1000)
	tr, m := open(t, d), model{}
	good := []api.Write{put(fat(48), fat(160)), put("", ""), put("a", fat(160)), put(fat(48), ""), {Key: fat(48), Val: fat(160), Gone: true}, put(fat(47), fat(159))}
	m.apply(good...)
	apply(t, tr, good...)
	wantModel(t, tr, m)
	many := make([]api.Write, 1025)
	for i := range many {
		many[i] = put("same", "")
	}
	bad := [][]api.Write{
		{put(fat(49), "")},
		{put("b", fat(161))},
		{put(fat(49), fat(161))},
		{gone(fat(49))},
		{{Key: "b", Val: fat(161), Gone: true}},
		{{Key: "a", Val: fat(161), Gone: true}},
		{put("b", "1"), put("c", "2"), put(fat(1000), "3")},
		{put("b", fat(161)), put("b", "1")},
		many,
	}
	acts := d.Acts()
	for i, list := range bad {
		wantErr(t, fmt.Sprint("case ", i), tr.Apply(list...), api.ErrLong)
	}
	wantModel(t, tr, m)
	if d.Acts() != acts {
		t.Errorf("%d acts of what was refused", d.Acts()-acts)
	}
	apply(t, tr, many[1:]...)
	m.apply(many[1:]...)
	wantModel(t, tr, m)
	for _, key := range []string{fat(49), fat(5000)} {
		wantNoVal(t, tr, key)
		wantScan(t, tr, key, 9, nil)
	}
}

// P8.1: as many writes at once as may be, of the longest keys and values; put, put anew, and taken out.
func TestMostWrites(t *testing.T) {
	d := disk.New(api.MaxPages)
	tr, m := open(t, d), model{}
	var list []api.Write
	for i := range 1024 {
		list = append(list, put(fmt.Sprintf("%04d%s", i*389%1024, fat(44)), fat(160)))
	}
	m.apply(list...)
	apply(t, tr, list...)
	wantModel(t, tr, m)
	wantModel(t, open(t, d), m)
	for i := range list {
		list[i].Val = ""
	}
	m.apply(list...)
	apply(t, tr, list...)
	wantModel(t, tr, m)
	for i := range list {
		list[i].Gone = i%3 > 0
	}
	m.apply(list...)
	apply(t, tr, list...)
	wantModel(t, tr, m)
	wantModel(t, open(t, d), m)
}

// P8.1: what a nil tree answers.
func TestNilTree(t *testing.T) {
	var tr *btree.Tree
	if val, ok, e := tr.Get("a"); val != "" || ok || e != api.ErrNil {
		t.Errorf("Get: %q, %t, %d", val, ok, e)
	}
	if pairs, e := tr.Scan("", 9); len(pairs) != 0 || e != api.ErrNil {
		t.Errorf("Scan: %q, %d", pairs, e)
	}
	if pairs, e := tr.Scan("", 0); len(pairs) != 0 || e != api.ErrNil {
		t.Errorf("Scan of none: %q, %d", pairs, e)
	}
	wantErr(t, "Apply", tr.Apply(put("a", "1")), api.ErrNil)
	wantErr(t, "Apply of none", tr.Apply(), api.ErrNil)
	wantErr(t, "Apply of a long one", tr.Apply(put(fat(49), "1")), api.ErrNil)
	if tr.Depth() != 0 || tr.Pages() != 0 {
		t.Errorf("Depth %d, Pages %d", tr.Depth(), tr.Pages())
	}
}

// wantNoOpen fails if Open doesn't answer just that error.
func wantNoOpen(t *testing.T, what string, d *disk.Disk, want api.Errno) {
	t.Helper()
	if tr, e := btree.Open(d, "t"); tr != nil || e != want {
		t.Errorf("%s: Open: %v, %d, want nil, %d", what, tr, e, want)
	}
}

// P8.1: Open has layer 6's errors.
func TestOpenErrors(t *testing.T) {
	wantNoOpen(t, "no disk", nil, api.ErrNil)
	d := disk.New(50)
	d.Off(0)
	wantNoOpen(t, "no power", d, api.ErrDown)
	d.On()
	wantErr(t, "Write", d.Write("t-t", 0, []byte("draft")), api.OK)
	d.Arm(1, 0)
	wantNoOpen(t, "the power goes", d, api.ErrDown)
	d.On()
	open(t, d)
	if d.Has("t-t") {
		t.Error("a draft is left")
	}
	wantErr(t, "Write", d.Write("t-j", 0, []byte("no record")), api.OK)
	wantNoOpen(t, "no journal", d, api.ErrForm)
}

// P8.1: with the power off a page can't be read; to take writes that are too long, none, and to ask for nothing needs none.
func TestDown(t *testing.T) {
	d := disk.New(400)
	tr, m := open(t, d), model{}
	for i := range 100 {
		m.apply(put(fmt.Sprint("key", i), fat(i)))
	}
	apply(t, tr, writesOf(m)...)
	d.Off(0)
	for _, key := range []string{"key1", "", "none"} {
		if val, ok, e := tr.Get(key); val != "" || ok || e != api.ErrDown {
			t.Errorf("Get(%q): %q, %t, %d", key, val, ok, e)
		}
		if pairs, e := tr.Scan(key, 1); len(pairs) != 0 || e != api.ErrDown {
			t.Errorf("Scan(%q): %q, %d", key, pairs, e)
		}
		wantScan(t, tr, key, 0, nil)
		wantScan(t, tr, key, -1, nil)
		wantErr(t, "put", tr.Apply(put(key, "1")), api.ErrDown)
		wantErr(t, "gone", tr.Apply(gone(key)), api.ErrDown)
	}
	wantErr(t, "a long one", tr.Apply(put("a", "1"), put(fat(49), "")), api.ErrLong)
	wantErr(t, "none", tr.Apply(), api.OK)
	d.On()
	wantModel(t, open(t, d), m)
	fresh := open(t, disk.New(50))
	wantErr(t, "Apply", fresh.Apply(put("a", "1")), api.OK)
	d = disk.New(50)
	fresh = open(t, d)
	d.Off(0)
	wantErr(t, "a first put", fresh.Apply(put("a", "1")), api.ErrDown)
	wantErr(t, "a first gone", fresh.Apply(gone("a")), api.ErrDown)
}

// P8.1: trees of other files know nothing of one another.
func TestFilesAreTheirOwn(t *testing.T) {
	d := disk.New(400)
	names := []string{"", "a", "b", "aa"}
	trees := map[string]*btree.Tree{}
	models := map[string]model{}
	for _, name := range names {
		tr, e := btree.Open(d, name)
		wantErr(t, "Open", e, api.OK)
		trees[name], models[name] = tr, model{}
	}
	for i := range 80 {
		name := names[i*i%len(names)]
		w := put(fmt.Sprint(i%30), name+fat(i))
		w.Gone = i%5 == 0
		models[name].apply(w)
		apply(t, trees[name], w)
		for _, name := range names {
			wantModel(t, trees[name], models[name])
		}
	}
	if !slices.Equal(d.Names(), []string{"", "a"}) {
		t.Errorf("files: %q", d.Names())
	}
}

// P8.1: an Apply is one Commit of layer 6, and one that changes nothing is none.
func TestOneCommit(t *testing.T) {
	d := disk.New(50)
	tr := open(t, d)
	// A page of the draft, Sync, Rename, the root and its head, Sync, Remove.
	apply(t, tr, put("a", "1"), put("b", "2"))
	if d.Acts() != 7 {
		t.Errorf("%d acts of a first Apply", d.Acts())
	}
	// The root alone.
	apply(t, tr, put("a", "3"), put("c", "2"), gone("b"))
	if d.Acts() != 13 {
		t.Errorf("%d acts of both", d.Acts())
	}
	apply(t, tr, put("a", "3"), gone("b"), gone("x"), put("c", "9"), put("c", "2"))
	if d.Acts() != 13 {
		t.Errorf("%d acts with one that changes nothing", d.Acts())
	}
}
