package refs_test

import (
	"crypto/sha256"
	libfnv "hash/fnv"
	"math"
	"regexp"
	"slices"
	"strings"
	"testing"

	"rootstock/api"
	"rootstock/cache"
	"rootstock/disk"
	"rootstock/refs"
	"rootstock/store"
)

// kinds are all kinds of stores, laid those that have files; hashes are those that names are made by.
func kinds() []int   { return []int{store.Mem, store.Btree, store.Lsm} }
func laid() []int    { return []int{store.Btree, store.Lsm} }
func hashes() []byte { return []byte{api.Fnv, api.Sha} }

// sizes are caches' sizes.
func sizes() []int { return []int{0, 1, 3, 1024} }

// fat answers a text of so many small letters.
func fat(n int) string { return strings.Repeat("z", n) }

// name answers the name of a text by Go's own hashes.
func name(kind byte, s string) api.Id {
	id := api.Id{Kind: kind}
	if kind == api.Fnv {
		h := libfnv.New64a()
		h.Write([]byte(s))
		copy(id.Sum[:], h.Sum(nil))
	} else {
		id.Sum = sha256.Sum256([]byte(s))
	}
	return id
}

// sumSize answers how many bytes the sums of a kind have, by layer 14's words; of all others, 0.
func sumSize(kind byte) int { return map[byte]int{1: 8, 2: 32}[kind] }

// can tells by layer 14's words whether a name can be.
func can(id api.Id) bool {
	size := sumSize(id.Kind)
	return size > 0 && strings.Trim(string(id.Sum[size:]), "\x00") == ""
}

// text tells by layer 14's words what a name's text is.
func text(id api.Id) string {
	if !can(id) {
		return ""
	}
	return string([]byte{id.Kind}) + string(id.Sum[:sumSize(id.Kind)])
}

// parse tells by layer 14's words whose text it is.
func parse(s string) (api.Id, bool) {
	if s == "" || sumSize(s[0]) == 0 || len(s) != 1+sumSize(s[0]) {
		return api.Id{}, false
	}
	id := api.Id{Kind: s[0]}
	copy(id.Sum[:], s[1:])
	return id, true
}

// goodName is what the chapter says of a branch's name.
var goodName = regexp.MustCompile(`\A[a-z0-9-]{1,16}\z`)

// model is what a store has.
type model map[string]string

// apply does writes.
func (m model) apply(list ...api.Write) {
	for _, w := range list {
		if w.Gone {
			delete(m, w.Key)
		} else {
			m[w.Key] = w.Val
		}
	}
}

// writes answers those that make a store be as the model is, by no order that matters.
func (m model) writes() []api.Write {
	var list []api.Write
	for key, val := range m {
		list = append(list, api.Write{Key: key, Val: val})
	}
	return list
}

// get answers by the chapter's words what Get answers with the power on.
func (m model) get(branch string) (api.Id, api.Errno) {
	if !goodName.MatchString(branch) {
		return api.Id{}, api.ErrArg
	}
	val, ok := m["r"+branch]
	if !ok {
		return api.Id{}, api.ErrNone
	}
	id, ok := parse(val)
	if !ok {
		return api.Id{}, api.ErrForm
	}
	return id, api.OK
}

// list answers by the chapter's words what List answers with the power on.
func (m model) list() ([]api.Ref, api.Errno) {
	var list []api.Ref
	for key, val := range m {
		if key == "" || key[0] != 'r' {
			continue
		}
		id, ok := parse(val)
		if !ok || !goodName.MatchString(key[1:]) {
			return nil, api.ErrForm
		}
		list = append(list, api.Ref{Name: key[1:], Id: id})
	}
	if len(list) > 32 {
		return nil, api.ErrForm
	}
	slices.SortFunc(list, func(a, b api.Ref) int { return strings.Compare(a.Name, b.Name) })
	return list, api.OK
}

// object answers by the chapter's words what Object answers with the power on.
func (m model) object(id api.Id) (string, api.Errno) {
	val, ok := m["o"+text(id)]
	if !ok || !can(id) {
		return "", api.ErrNone
	}
	return val, api.OK
}

// open answers a cache of that size ahead of a store of that kind.
func open(t *testing.T, kind int, d *disk.Disk, most int) *cache.Cache {
	t.Helper()
	s, e := store.Open(kind, d, "s")
	if s == nil || e != api.OK {
		t.Fatalf("kind %d: Open: store %t, error %d", kind, s != nil, e)
	}
	return cache.New(s, most)
}

// everywhere runs a check in every kind of store, behind caches of every size, with all the pairs of a model there.
func everywhere(t *testing.T, m model, check func(c *cache.Cache)) {
	t.Helper()
	for _, kind := range kinds() {
		for _, most := range sizes() {
			c := open(t, kind, disk.New(api.MaxPages), most)
			apply(t, c, m.writes()...)
			check(c)
		}
	}
}

// apply does writes that can be done, as many at once as may be.
func apply(t *testing.T, c *cache.Cache, list ...api.Write) {
	t.Helper()
	for some := range slices.Chunk(list, api.MaxBatch) {
		if e := c.Apply(some...); e != api.OK {
			t.Fatalf("Apply: error %d", e)
		}
	}
}

// wantGet fails if a branch's Get doesn't answer just that.
func wantGet(t *testing.T, c *cache.Cache, branch string, want api.Id, wantErr api.Errno) {
	t.Helper()
	if id, e := refs.Get(c, branch); id != want || e != wantErr {
		t.Fatalf("Get(%.60q) = %x, %d, want %x, %d", branch, id, e, want, wantErr)
	}
}

// wantList fails if List doesn't answer just that.
func wantList(t *testing.T, c *cache.Cache, want []api.Ref, wantErr api.Errno) {
	t.Helper()
	list, e := refs.List(c)
	if !slices.Equal(list, want) || e != wantErr || e != api.OK && list != nil {
		t.Fatalf("List = %v, %d, want %v, %d", list, e, want, wantErr)
	}
}

// wantObject fails if an object of a cache isn't just that.
func wantObject(t *testing.T, c *cache.Cache, id api.Id, want string, wantErr api.Errno) {
	t.Helper()
	if data, e := refs.Of(c).Object(id); data != want || e != wantErr {
		t.Fatalf("Object(%x) = %q, %d, want %q, %d", id, data, e, want, wantErr)
	}
}

// wantAs fails if a cache doesn't answer what the model does, of these branches and names.
func wantAs(t *testing.T, c *cache.Cache, m model, branches []string, ids []api.Id) {
	t.Helper()
	for _, branch := range branches {
		want, e := m.get(branch)
		wantGet(t, c, branch, want, e)
	}
	want, e := m.list()
	wantList(t, c, want, e)
	for _, id := range ids {
		want, e := m.object(id)
		wantObject(t, c, id, want, e)
	}
	whole, e := c.Scan("", math.MaxInt)
	if e != api.OK || len(whole) != len(m) {
		t.Fatalf("%d pairs, error %d, want %d", len(whole), e, len(m))
	}
	for _, p := range whole {
		if val, ok := m[p.Key]; !ok || val != p.Val {
			t.Fatalf("the store has %q = %q", p.Key, p.Val)
		}
	}
}
