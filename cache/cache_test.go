package cache_test

import (
	"fmt"
	"math"
	"slices"
	"strings"
	"testing"

	"rootstock/api"
	"rootstock/cache"
	"rootstock/disk"
	"rootstock/store"
)

// kinds are all kinds of stores, laid those that have files.
func kinds() []int { return []int{store.Mem, store.Btree, store.Lsm} }
func laid() []int  { return []int{store.Btree, store.Lsm} }

// put answers a write that gives a key a value.
func put(key, val string) api.Write { return api.Write{Key: key, Val: val} }

// gone answers a write that takes a key's value.
func gone(key string) api.Write { return api.Write{Key: key, Gone: true} }

// fat answers a text of so many bytes.
func fat(n int) string { return strings.Repeat("z", n) }

// nth answers the key that filling gives the i-th write.
func nth(i int) string { return fmt.Sprintf("k%04d", i) }

// filling answers so many writes of other keys each.
func filling(count int) []api.Write {
	var list []api.Write
	for i := range count {
		list = append(list, put(nth(i), fmt.Sprint(i)))
	}
	return list
}

// open opens a store that can be opened.
func open(t *testing.T, kind int, d *disk.Disk) *store.Store {
	t.Helper()
	s, e := store.Open(kind, d, "s")
	if s == nil || e != api.OK {
		t.Fatalf("kind %d: Open: store %t, error %d", kind, s != nil, e)
	}
	return s
}

// holding answers a store in memory that has the pairs a = 1, b = 2, and so on up to f = 6.
func holding(t *testing.T) *store.Store {
	t.Helper()
	s := open(t, store.Mem, nil)
	for i, key := range strings.Split("abcdef", "") {
		wantErr(t, "Apply", s.Apply(put(key, fmt.Sprint(i+1))), api.OK)
	}
	return s
}

// wantErr fails if a call didn't answer that error.
func wantErr(t *testing.T, what string, got, want api.Errno) {
	t.Helper()
	if got != want {
		t.Fatalf("%s: error %d, want %d", what, got, want)
	}
}

// wantGet fails if a Get doesn't answer just that; a val of "-" is none.
func wantGet(t *testing.T, c *cache.Cache, key, want string) {
	t.Helper()
	has := want != "-"
	if !has {
		want = ""
	}
	if val, ok, e := c.Get(key); val != want || ok != has || e != api.OK {
		t.Fatalf("Get(%.60q) = %q, %t, error %d, want %q, %t", key, val, ok, e, want, has)
	}
}

// wantHit fails if a Get isn't a hit, or doesn't answer that.
func wantHit(t *testing.T, c *cache.Cache, key, want string) {
	t.Helper()
	hits, size := c.Hits(), c.Size()
	wantGet(t, c, key, want)
	wantCounts(t, c, size, hits+1)
}

// wantMiss fails if a Get is a hit, or doesn't answer that.
func wantMiss(t *testing.T, c *cache.Cache, key, want string) {
	t.Helper()
	hits := c.Hits()
	wantGet(t, c, key, want)
	if c.Hits() != hits {
		t.Fatalf("Get(%.60q) is a hit", key)
	}
}

// wantCounts fails if there aren't so many entries, or weren't so many hits.
func wantCounts(t *testing.T, c *cache.Cache, size, hits int) {
	t.Helper()
	if c.Size() != size || c.Hits() != hits {
		t.Fatalf("%d entries, %d hits, want %d, %d", c.Size(), c.Hits(), size, hits)
	}
}

// wantOrder fails if the cache hasn't just entries of these keys, from the eldest to the newest: each Drop of one forgets the next. None is left.
func wantOrder(t *testing.T, c *cache.Cache, d *disk.Disk, keys string) {
	t.Helper()
	d.Off(0)
	for i, key := range strings.Split(keys, "") {
		if c.Size() != len(keys)-i {
			t.Fatalf("%d entries, want those of %s", c.Size(), keys[i:])
		}
		c.Drop(1)
		hits := c.Hits()
		if _, _, e := c.Get(key); e != api.ErrDown || c.Hits() != hits || c.Size() != len(keys)-i-1 {
			t.Fatalf("of %s, %q isn't the eldest: error %d", keys[i:], key, e)
		}
	}
	wantErr(t, "Sync", c.Sync(), api.ErrDown)
	d.On()
}

// The chapter's example: of one entry, one hit.
func TestExample(t *testing.T) {
	for _, kind := range kinds() {
		c := cache.New(open(t, kind, disk.New(50)), 1)
		wantErr(t, "Apply", c.Apply(put("a", "1"), put("b", "2")), api.OK)
		wantGet(t, c, "a", "1")
		wantGet(t, c, "a", "1")
		wantGet(t, c, "b", "2")
		wantGet(t, c, "a", "1")
		wantCounts(t, c, 1, 1)
	}
	c := cache.New(open(t, store.Mem, nil), 1)
	for i, hits := range []int{0, 1, 1, 1} {
		wantGet(t, c, "aaba"[i:i+1], "-")
		wantCounts(t, c, 1, hits)
	}
}

// P13.3: a cache has as many entries as it may, whatever most is, and of the keys that were asked last each is a hit.
func TestMost(t *testing.T) {
	for most, want := range map[int]int{
		math.MinInt: 0, -1: 0, 0: 0, 1: 1, 2: 2, 7: 7, 1023: 1023, 1024: 1024, 1025: 1024, 5000: 1024, 1 << 32: 1024, 1<<32 + 5: 1024, math.MaxInt: 1024,
	} {
		c := cache.New(open(t, store.Mem, nil), most)
		wantCounts(t, c, 0, 0)
		for i := range 1100 {
			wantMiss(t, c, nth(i), "-")
			wantCounts(t, c, min(i+1, want), 0)
		}
		for i := 1100 - want; i < 1100; i++ {
			wantHit(t, c, nth(i), "-")
		}
		wantMiss(t, c, nth(1099-want), "-")
		wantCounts(t, c, want, want)
	}
}

// P13.3: the same of keys that were written last, one by one, or in one Apply.
func TestMostWritten(t *testing.T) {
	for most, want := range map[int]int{-9: 0, 0: 0, 1: 1, 3: 3, 999: 999, 1000: 1000, 1001: 1000, 1024: 1000, 1025: 1000} {
		for _, atOnce := range []bool{true, false} {
			s := open(t, store.Mem, nil)
			c := cache.New(s, most)
			list := filling(1000)
			if atOnce {
				wantErr(t, "Apply", c.Apply(list...), api.OK)
			} else {
				for i, w := range list {
					wantErr(t, "Apply", c.Apply(w), api.OK)
					wantCounts(t, c, min(i+1, want), 0)
				}
			}
			wantCounts(t, c, want, 0)
			for i := 1000 - want; i < 1000; i++ {
				wantHit(t, c, nth(i), fmt.Sprint(i))
			}
			if want < 1000 {
				wantMiss(t, c, nth(999-want), fmt.Sprint(999-want))
			}
		}
	}
}

// An Apply of as many writes as may be has each of them kept in the greatest cache.
func TestGreatestBatch(t *testing.T) {
	c := cache.New(open(t, store.Mem, nil), api.MaxCache)
	wantErr(t, "Apply", c.Apply(filling(1024)...), api.OK)
	wantCounts(t, c, 1024, 0)
	wantErr(t, "Apply of one more", c.Apply(filling(1025)...), api.ErrLong)
	for i := range 1024 {
		wantHit(t, c, nth(i), fmt.Sprint(i))
	}
}

// What a nil cache answers.
func TestNilCache(t *testing.T) {
	var c *cache.Cache
	if val, ok, e := c.Get("a"); val != "" || ok || e != api.ErrNil {
		t.Errorf("Get %q, %t, error %d", val, ok, e)
	}
	for _, n := range []int{-1, 0, 9} {
		if pairs, e := c.Scan("", n); len(pairs) != 0 || e != api.ErrNil {
			t.Errorf("Scan of %d: %q, error %d", n, pairs, e)
		}
		c.Drop(n)
	}
	wantErr(t, "Apply", c.Apply(put("a", "1")), api.ErrNil)
	wantErr(t, "Apply of none", c.Apply(), api.ErrNil)
	wantErr(t, "Apply of a long one", c.Apply(put(fat(49), "1")), api.ErrNil)
	wantErr(t, "Sync", c.Sync(), api.ErrNil)
	wantCounts(t, c, 0, 0)
}

// A cache of a nil store answers what that does, and keeps nothing of it.
func TestNilStore(t *testing.T) {
	c := cache.New(nil, 9)
	if c == nil {
		t.Fatal("no cache")
	}
	for range 2 {
		if val, ok, e := c.Get("a"); val != "" || ok || e != api.ErrNil {
			t.Errorf("Get %q, %t, error %d", val, ok, e)
		}
		if pairs, e := c.Scan("", 9); len(pairs) != 0 || e != api.ErrNil {
			t.Errorf("Scan %q, error %d", pairs, e)
		}
		wantErr(t, "Apply", c.Apply(put("a", "1")), api.ErrNil)
		wantErr(t, "Apply of none", c.Apply(), api.ErrNil)
		wantErr(t, "Sync", c.Sync(), api.ErrNil)
		c.Drop(1)
		wantCounts(t, c, 0, 0)
	}
}

// P13.1: a Get of a key that has an entry makes it the newest; one of another key makes the eldest go.
func TestGetOrder(t *testing.T) {
	for _, k := range []struct {
		most        int
		asked, left string
	}{
		{3, "abc", "abc"}, {3, "abca", "bca"}, {3, "abcb", "acb"}, {3, "abcc", "abc"},
		{3, "abcd", "bcd"}, {3, "abcad", "cad"}, {3, "abcacbd", "cbd"}, {3, "abcde", "cde"}, {3, "abcdea", "dea"},
		{2, "aab", "ab"}, {2, "abab", "ab"}, {2, "aba", "ba"}, {2, "abac", "ac"}, {2, "ababcab", "ab"},
		{1, "aab", "b"}, {1, "aa", "a"}, {5, "aaa", "a"}, {5, "abcde", "abcde"}, {5, "edcbaec", "dbaec"}, {5, "abcdefa", "cdefa"},
	} {
		for _, kind := range laid() {
			d := disk.New(50)
			c := cache.New(open(t, kind, d), k.most)
			for _, key := range strings.Split(k.asked, "") {
				wantGet(t, c, key, "-")
			}
			wantOrder(t, c, d, k.left)
		}
	}
}

// P13.1: each write of an Apply, in order, is kept of its key, whether it gives a value or takes it.
func TestApplyOrder(t *testing.T) {
	for _, k := range []struct {
		most                 int
		asked, written, left string
	}{
		{3, "", "abc", "abc"}, {3, "", "abca", "bca"}, {3, "", "abab", "ab"}, {3, "", "aaa", "a"}, {3, "", "abcd", "bcd"},
		{3, "abc", "a", "bca"}, {3, "abc", "ba", "cba"}, {3, "abc", "d", "bcd"}, {3, "abc", "ad", "cad"}, {3, "abc", "da", "cda"},
		{3, "abc", "aaaaa", "bca"}, {3, "ab", "", "ab"}, {1, "a", "bcd", "d"}, {1, "a", "abcda", "a"}, {2, "ab", "cab", "ab"},
		{5, "abcde", "edc", "abedc"}, {5, "abc", "cdefa", "cdefa"},
	} {
		for _, taken := range []bool{true, false} {
			for _, kind := range laid() {
				d := disk.New(50)
				c := cache.New(open(t, kind, d), k.most)
				for _, key := range []byte(k.asked) {
					wantGet(t, c, string(key), "-")
				}
				var list []api.Write
				for _, key := range []byte(k.written) {
					list = append(list, api.Write{Key: string(key), Val: "1", Gone: taken})
				}
				hits := c.Hits()
				wantErr(t, "Apply", c.Apply(list...), api.OK)
				if c.Hits() != hits {
					t.Fatal("an Apply is a hit")
				}
				wantOrder(t, c, d, k.left)
			}
		}
	}
}

// What is kept of a key that is written more than once is what the last write says; of one that is Gone it is none, whatever its Val is.
func TestApplyLast(t *testing.T) {
	for _, kind := range kinds() {
		s := open(t, kind, disk.New(50))
		c := cache.New(s, 9)
		wantErr(t, "Apply", c.Apply(
			put("a", "1"), put("a", "2"),
			put("b", "1"), gone("b"),
			gone("c"), put("c", "3"),
			put("d", "1"), gone("d"), put("d", ""),
			gone("e"),
			put("f", "1"), api.Write{Key: "f", Val: "2", Gone: true},
			put("", "empty"),
		), api.OK)
		wantCounts(t, c, 7, 0)
		for key, want := range map[string]string{"a": "2", "b": "-", "c": "3", "d": "", "e": "-", "f": "-", "": "empty"} {
			wantHit(t, c, key, want)
			wantGet(t, cache.New(s, 0), key, want)
		}
		wantErr(t, "Apply", c.Apply(gone("a"), gone(""), put("b", fat(160)), put("f", "6")), api.OK)
		wantCounts(t, c, 7, 7)
		for key, want := range map[string]string{"a": "-", "b": fat(160), "c": "3", "d": "", "e": "-", "f": "6", "": "-"} {
			wantHit(t, c, key, want)
			wantGet(t, cache.New(s, 0), key, want)
		}
	}
}

// P13.1: a hit asks the store nothing: it is what the entry says, whatever somebody else wrote, and till it is forgotten.
func TestHitAsksNoStore(t *testing.T) {
	s := holding(t)
	c := cache.New(s, 2)
	wantMiss(t, c, "a", "1")
	wantMiss(t, c, "none", "-")
	wantErr(t, "Apply", s.Apply(put("a", "other"), put("none", "other")), api.OK)
	wantHit(t, c, "none", "-")
	wantHit(t, c, "a", "1")
	wantHit(t, c, "a", "1")
	wantMiss(t, c, "b", "2")
	wantMiss(t, c, "none", "other")
	wantMiss(t, c, "a", "other")
	wantErr(t, "Apply", c.Apply(put("a", "mine")), api.OK)
	wantErr(t, "Apply", s.Apply(gone("a")), api.OK)
	wantHit(t, c, "a", "mine")
	c.Drop(2)
	wantMiss(t, c, "a", "-")
}

// Two caches of one store know nothing of one another.
func TestTwoCaches(t *testing.T) {
	s := holding(t)
	a, b := cache.New(s, 3), cache.New(s, 3)
	wantMiss(t, a, "a", "1")
	wantMiss(t, b, "a", "1")
	wantHit(t, a, "a", "1")
	wantErr(t, "Apply", a.Apply(put("a", "new")), api.OK)
	a.Drop(0)
	wantHit(t, b, "a", "1")
	wantHit(t, a, "a", "new")
	b.Drop(9)
	wantCounts(t, a, 1, 2)
	wantCounts(t, b, 0, 1)
	wantMiss(t, b, "a", "new")
}

// A key that is too long to be written is kept, as any other one without a value: the store's answer is OK.
func TestLongKeyAsked(t *testing.T) {
	for _, kind := range kinds() {
		c := cache.New(open(t, kind, disk.New(50)), 3)
		for _, key := range []string{fat(48), fat(49), fat(5000)} {
			wantMiss(t, c, key, "-")
			wantHit(t, c, key, "-")
		}
		wantCounts(t, c, 3, 3)
	}
}

// Any bytes are a key of an entry, and keys that are alike have each their own.
func TestAnyBytes(t *testing.T) {
	keys := []string{"", "\x00", "\x00\x00", "a", "A", "a\x00", "aa", "\x80", "\xc3\xa4", "\xff", "\xff\xff", fat(47), fat(48)}
	for _, kind := range kinds() {
		c := cache.New(open(t, kind, disk.New(50)), len(keys))
		for i, key := range keys {
			wantErr(t, "Apply", c.Apply(put(key, fmt.Sprint(i))), api.OK)
		}
		for i, key := range keys {
			wantHit(t, c, key, fmt.Sprint(i))
		}
		wantCounts(t, c, len(keys), len(keys))
	}
}

// P13.1: Drop forgets the eldest, so many, and all if there aren't so many; the hits stay.
func TestDrop(t *testing.T) {
	for n, left := range map[int]string{
		math.MinInt: "bcade", -1: "bcade", 0: "bcade", 1: "cade", 2: "ade", 4: "e", 5: "", 6: "", 1024: "", 1 << 32: "", math.MaxInt: "",
	} {
		c := cache.New(holding(t), 6)
		for _, key := range strings.Split("abcade", "") {
			wantGet(t, c, key, fmt.Sprint(key[0]-'a'+1))
		}
		c.Drop(n)
		wantCounts(t, c, len(left), 1)
		for _, key := range []byte("abcdef") {
			if strings.Contains(left, string(key)) {
				wantHit(t, c, string(key), fmt.Sprint(key-'a'+1))
			}
		}
		wantCounts(t, c, len(left), 1+len(left))
		// What was forgotten is asked of the store, and kept anew.
		for i, key := range []byte("abcdef") {
			wantGet(t, c, string(key), fmt.Sprint(i+1))
		}
		wantCounts(t, c, 6, 1+2*len(left))
	}
}

// A cache that was emptied, or that never had an entry, can be dropped from, and filled again.
func TestDropOfNone(t *testing.T) {
	for _, most := range []int{0, 1, 3} {
		c := cache.New(holding(t), most)
		for range 3 {
			c.Drop(1)
			c.Drop(9)
			wantCounts(t, c, 0, c.Hits())
			for _, key := range strings.Split("abcd", "") {
				wantMiss(t, c, key, fmt.Sprint(key[0]-'a'+1))
			}
			wantCounts(t, c, most, c.Hits())
			if most > 0 {
				wantHit(t, c, "d", "4")
			}
		}
	}
}

// P13.1: Scan and Sync are the store's, and keep, forget and hit nothing.
func TestScanAndSync(t *testing.T) {
	for _, kind := range kinds() {
		d := disk.New(50)
		s := open(t, kind, d)
		c := cache.New(s, 2)
		wantErr(t, "Apply", c.Apply(put("b", "2"), put("a", "1"), put("c", "3")), api.OK)
		wantErr(t, "Apply", s.Apply(put("bb", "other"), gone("c")), api.OK)
		for _, n := range []int{-1, 0, 1, 2, 3, 9, math.MaxInt} {
			for _, from := range []string{"", "a", "aa", "b", "bb", "c", "\xff", fat(99)} {
				got, e := c.Scan(from, n)
				if want, we := s.Scan(from, n); !slices.Equal(got, want) || e != we || e != api.OK {
					t.Fatalf("kind %d: Scan(%q, %d) = %q, error %d, the store's %q, %d", kind, from, n, got, e, want, we)
				}
			}
		}
		wantErr(t, "Sync", c.Sync(), api.OK)
		wantCounts(t, c, 2, 0)
		wantHit(t, c, "a", "1")
		wantHit(t, c, "c", "3")
		d.Off(0)
		d.On()
		want := map[int]string{store.Mem: "-", store.Btree: "1", store.Lsm: "1"}[kind]
		wantGet(t, cache.New(open(t, kind, d), 9), "a", want)
	}
}

// A Sync does as many acts of the disk as the store's own.
func TestSyncActs(t *testing.T) {
	for kind, want := range map[int]int{store.Mem: 0, store.Btree: 0, store.Lsm: 1} {
		d := disk.New(50)
		c := cache.New(open(t, kind, d), 9)
		wantErr(t, "Apply", c.Apply(put("a", "1")), api.OK)
		acts := d.Acts()
		wantErr(t, "Sync", c.Sync(), api.OK)
		if d.Acts()-acts != want {
			t.Errorf("kind %d: %d acts of Sync, want %d", kind, d.Acts()-acts, want)
		}
	}
}

// wantRefused fails if an Apply isn't that error, or changes an entry, of which there are those of b = 2, none and a = 1.
func wantRefused(t *testing.T, c *cache.Cache, want api.Errno, list ...api.Write) {
	t.Helper()
	hits := c.Hits()
	wantErr(t, "Apply", c.Apply(list...), want)
	wantCounts(t, c, 3, hits)
	wantHit(t, c, "b", "2")
	wantHit(t, c, "none", "-")
	wantHit(t, c, "a", "1")
}

// refusable answers a cache of three entries that may have most, ahead of a store of that kind.
func refusable(t *testing.T, kind int, d *disk.Disk, most int) *cache.Cache {
	t.Helper()
	c := cache.New(open(t, kind, d), most)
	wantErr(t, "Apply", c.Apply(put("a", "1"), put("b", "2")), api.OK)
	wantGet(t, c, "none", "-")
	wantHit(t, c, "a", "1")
	return c
}

// P13.1: an Apply that is refused keeps nothing, of no write, and changes no entry, nor what is the eldest one.
func TestApplyRefused(t *testing.T) {
	for _, most := range []int{3, 4, 1024} {
		for _, kind := range kinds() {
			d := disk.New(12)
			c := refusable(t, kind, d, most)
			wantRefused(t, c, api.ErrLong, put("a", "new"), put(fat(49), "1"))
			wantRefused(t, c, api.ErrLong, gone("b"), put("none", "new"), put("c", fat(161)))
			wantRefused(t, c, api.ErrLong, api.Write{Key: "a", Val: fat(161), Gone: true})
			wantRefused(t, c, api.ErrLong, append(filling(1024), put("a", "new"))...)
			if kind == store.Mem {
				continue
			}
			var list []api.Write
			for i := range 50 {
				list = append(list, put(nth(i), fat(160)))
			}
			wantRefused(t, c, api.ErrFull, append(list, put("a", "new"), gone("b"))...)
			d.Off(0)
			wantRefused(t, c, api.ErrDown, put("a", "new"))
			wantRefused(t, c, api.ErrDown, gone("b"), put("none", "new"))
			wantRefused(t, c, api.ErrDown)
		}
	}
}

// An Apply in which the power goes keeps nothing.
func TestApplyDown(t *testing.T) {
	for _, kind := range laid() {
		d := disk.New(50)
		c := refusable(t, kind, d, 5)
		d.Arm(1, 0)
		wantRefused(t, c, api.ErrDown, put("a", "new"), put("c", "3"))
		if !d.Down() {
			t.Fatal("the power is on")
		}
	}
}

// P13.1: with the power off a hit answers what its entry says; what isn't kept is ErrDown, and isn't kept behind it, nor is it a hit.
func TestPowerOff(t *testing.T) {
	for _, kind := range laid() {
		d := disk.New(50)
		c := cache.New(open(t, kind, d), 3)
		wantErr(t, "Apply", c.Apply(put("a", "1"), put("b", "2"), put("c", "3")), api.OK)
		wantErr(t, "Sync", c.Sync(), api.OK)
		wantMiss(t, c, "none", "-")
		d.Off(0)
		for range 2 {
			for _, key := range []string{"a", "d", "", fat(49)} {
				if val, ok, e := c.Get(key); val != "" || ok || e != api.ErrDown {
					t.Fatalf("kind %d: Get(%q) = %q, %t, error %d", kind, key, val, ok, e)
				}
			}
			for _, n := range []int{-1, 0, 9} {
				if pairs, e := c.Scan("b", n); len(pairs) != 0 || e != api.ErrDown {
					t.Fatalf("kind %d: Scan %q, error %d", kind, pairs, e)
				}
			}
			wantErr(t, "Sync", c.Sync(), api.ErrDown)
			wantHit(t, c, "b", "2")
			wantHit(t, c, "none", "-")
			wantHit(t, c, "c", "3")
		}
		wantCounts(t, c, 3, 6)
		// With the power back on, what the store answers is kept again.
		d.On()
		c = cache.New(open(t, kind, d), 3)
		wantMiss(t, c, "a", "1")
		wantHit(t, c, "a", "1")
	}
}

// In memory the power is never asked for.
func TestMemoryWithoutPower(t *testing.T) {
	d := disk.New(0)
	c := cache.New(open(t, store.Mem, d), 2)
	d.Off(0)
	wantErr(t, "Apply", c.Apply(put("a", "1"), put("b", "2"), put("c", "3")), api.OK)
	wantMiss(t, c, "a", "1")
	wantHit(t, c, "c", "3")
	wantErr(t, "Sync", c.Sync(), api.OK)
	wantCounts(t, c, 2, 1)
}

// What is handed in isn't changed, spare room included, and isn't kept: what is written into it behind the call isn't seen.
func TestHandedIn(t *testing.T) {
	for _, kind := range kinds() {
		c := cache.New(open(t, kind, disk.New(50)), 9)
		whole := []api.Write{put("b", "2"), {Key: "a", Val: "spare", Gone: true}, put("b", "3"), put("a", "1"), put("x", "9"), gone("y")}
		held := slices.Clone(whole)
		wantErr(t, "Apply", c.Apply(whole[:4]...), api.OK)
		if !slices.Equal(whole, held) {
			t.Fatalf("kind %d: changed to %v", kind, whole)
		}
		for i := range whole {
			whole[i] = gone("changed")
		}
		wantHit(t, c, "b", "3")
		wantHit(t, c, "a", "1")
		wantMiss(t, c, "x", "-")
		wantMiss(t, c, "changed", "-")
	}
}

// What is answered is new memory: what is written into it isn't seen, nor into another answer.
func TestNewMemory(t *testing.T) {
	for _, kind := range kinds() {
		c := cache.New(open(t, kind, disk.New(50)), 2)
		wantErr(t, "Apply", c.Apply(put("a", "1"), put("b", "2"), put("c", "3")), api.OK)
		want := []api.Pair{{Key: "a", Val: "1"}, {Key: "b", Val: "2"}, {Key: "c", Val: "3"}}
		first, _ := c.Scan("", 9)
		other, _ := c.Scan("", 2)
		for i := range first {
			first[i] = api.Pair{Key: "changed", Val: "changed"}
		}
		_ = append(first[:1], first...)
		again, _ := c.Scan("", 9)
		if !slices.Equal(other, want[:2]) || !slices.Equal(again, want) {
			t.Fatalf("kind %d: %q, %q", kind, other, again)
		}
		wantErr(t, "Apply", c.Apply(put("b", "new")), api.OK)
		if !slices.Equal(again, want) {
			t.Fatalf("kind %d: an answer is changed by what came behind it", kind)
		}
		wantHit(t, c, "c", "3")
	}
}
