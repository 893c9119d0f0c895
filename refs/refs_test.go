package refs_test

import (
	"fmt"
	"slices"
	"strings"
	"testing"

	"rootstock/api"
	"rootstock/cache"
	"rootstock/disk"
	"rootstock/refs"
	"rootstock/store"
)

// goodNames are some that branches can have.
func goodNames() []string {
	return []string{"main", "a", "z", "0", "9", "-", "--", "-a", "a-", "a0", "0a", "feature-12", "o", "r", "rr", "mkind", fat(15), fat(16), strings.Repeat("-", 16), "0123456789abcdef"}
}

// badNames are some that no branch can have: of other signs, of other letters and digits, of bytes that are no text, and of a letter's lowest byte.
func badNames() []string {
	list := []string{
		"", "Main", "mAin", "maiN", "A", "Z", "main ", " main", "a b", "a/b", "a_b", "a.b", "a+b", "`", "{", "/", ":", ",", ".",
		"\x00", "a\x00", "\x00a", "a\n", "\na", "ä", "aä", "é", "ß", "٣", "a٣", "ａ", "０", "–", "−", "\u00ad", "š", "aš", "\u0130", "\u012d", "\U00010061",
		"\xff", "\x80", "a\xff", "\xffa", "a\xc3", "\xe4", "\xef\xbf\xbd", "\xed\xa0\x80",
		fat(17), fat(18), fat(32), fat(47), fat(48), fat(1000), fat(16) + "A", fat(15) + "A", "A" + fat(15), fat(16) + "\x00", strings.Repeat("ä", 8), "main" + fat(13),
	}
	return list
}

// badIds are names that can't be: of no hash, and with something behind their sums.
func badIds() []api.Id {
	list := []api.Id{{}, {Kind: 3}, {Kind: 255}, {Kind: 3, Sum: name(api.Sha, "a").Sum}, {Sum: name(api.Sha, "a").Sum}, {Kind: api.Fnv, Sum: name(api.Sha, "a").Sum}}
	for _, at := range []int{8, 9, 20, 31} {
		id := name(api.Fnv, "a")
		id.Sum[at] = 1
		list = append(list, id)
	}
	return list
}

// badTexts are values that are no name's text.
func badTexts() []string {
	return []string{
		"", "\x00", "\x01", "\x02", "\x03", "x", "main", text(name(api.Fnv, "a"))[:8], text(name(api.Fnv, "a")) + "\x00", text(name(api.Sha, "a"))[:32], text(name(api.Sha, "a")) + "\x00",
		"\x00" + fat(8), "\x03" + fat(8), "\x03" + fat(32), "\x02" + fat(8), "\x01" + fat(32), "\xff" + fat(32), fat(8), fat(32), fat(160), "\x01" + fat(7), "\x02" + fat(31),
	}
}

// P18.1: the chapter's example.
func TestExample(t *testing.T) {
	if !refs.Good("main") || refs.Good("Main") {
		t.Error("main can be, Main can't")
	}
}

// P18.1: a branch can have just the names that the chapter says.
func TestGood(t *testing.T) {
	for _, n := range goodNames() {
		if !refs.Good(n) || !goodName.MatchString(n) {
			t.Errorf("%q can't be", n)
		}
	}
	for _, n := range badNames() {
		if refs.Good(n) || goodName.MatchString(n) {
			t.Errorf("%q can be", n)
		}
	}
}

// P18.1: each byte alone, and in each place of a name, and each rune.
func TestGoodSigns(t *testing.T) {
	check := func(n string) {
		t.Helper()
		if got, want := refs.Good(n), goodName.MatchString(n); got != want {
			t.Fatalf("Good(%q) = %t", n, got)
		}
	}
	for b := range 256 {
		check(string([]byte{byte(b)}))
		for at := range 16 {
			n := []byte(fat(16))
			n[at] = byte(b)
			check(string(n))
			check(string(n[:at+1]))
			check(string(n[at:]))
		}
	}
	for r := range rune(0x11000) {
		check(string(r))
		check("a" + string(r))
	}
	for n := range 300 {
		check(fat(n))
		check(strings.Repeat("0", n))
		check(strings.Repeat("ä", n))
	}
}

// P18.1: the keys of branches and objects, whatever names they have.
func TestKeys(t *testing.T) {
	for _, n := range append(goodNames(), badNames()...) {
		if got := refs.Key(n); got != "r"+n {
			t.Errorf("Key(%q) = %q", n, got)
		}
	}
	for _, kind := range hashes() {
		for _, s := range []string{"", "a", "b", fat(160)} {
			id := name(kind, s)
			if got := refs.ObjectKey(id); got != "o"+text(id) {
				t.Errorf("ObjectKey(%x) = %q", id, got)
			}
		}
	}
	for _, id := range badIds() {
		if got := refs.ObjectKey(id); got != "o" {
			t.Errorf("ObjectKey(%x) = %q", id, got)
		}
	}
	if got := refs.ObjectKey(name(api.Fnv, "a")); got != "o\x01\xaf\x63\xdc\x4c\x86\x01\xec\x8c" {
		t.Errorf("ObjectKey of a = %q", got)
	}
}

// P18.1: the writes are just those that the chapter says, of all names, branches' and objects'.
func TestWrites(t *testing.T) {
	ids := append(badIds(), name(api.Fnv, "a"), name(api.Sha, "a"), api.Id{Kind: api.Fnv}, api.Id{Kind: api.Sha})
	for _, n := range append(goodNames(), badNames()...) {
		if got, want := refs.Drop(n), (api.Write{Key: "r" + n, Gone: true}); got != want {
			t.Errorf("Drop(%q) = %v, want %v", n, got, want)
		}
		for _, id := range ids {
			if got, want := refs.Set(n, id), (api.Write{Key: "r" + n, Val: text(id)}); got != want {
				t.Errorf("Set(%q, %x) = %v, want %v", n, id, got, want)
			}
		}
	}
	for _, id := range ids {
		for _, data := range []string{"", "\x00", "a", "\x01\x00", fat(160), fat(161), "\xff\xfe"} {
			if got, want := refs.Put(api.Object{Id: id, Data: data}), (api.Write{Key: "o" + text(id), Val: data}); got != want {
				t.Errorf("Put(%x, %q) = %v, want %v", id, data, got, want)
			}
		}
	}
}

// P18.1: a branch's value is a name's text, of either hash, or it is ErrForm, for Get and List.
func TestValues(t *testing.T) {
	for _, kind := range hashes() {
		for _, id := range []api.Id{name(kind, ""), name(kind, "a"), {Kind: kind}} {
			everywhere(t, model{"rmain": text(id)}, func(c *cache.Cache) {
				wantGet(t, c, "main", id, api.OK)
				wantGet(t, c, "main", id, api.OK)
				wantList(t, c, []api.Ref{{Name: "main", Id: id}}, api.OK)
			})
		}
	}
	for _, val := range badTexts() {
		if _, ok := parse(val); ok {
			t.Fatalf("%q is a name's text", val)
		}
		everywhere(t, model{"rmain": val, "ra": text(name(api.Sha, "a"))}, func(c *cache.Cache) {
			wantGet(t, c, "main", api.Id{}, api.ErrForm)
			wantGet(t, c, "main", api.Id{}, api.ErrForm)
			wantGet(t, c, "a", name(api.Sha, "a"), api.OK)
			wantGet(t, c, "b", api.Id{}, api.ErrNone)
			wantList(t, c, nil, api.ErrForm)
		})
	}
}

// P18.1: no branch can have some names, even if such a key is there: Get asks the cache nothing then, and List is ErrForm.
func TestNamesThatCant(t *testing.T) {
	id := name(api.Sha, "a")
	for _, n := range badNames() {
		m := model{"rmain": text(id), "rz": text(id)}
		if len(n) < api.MaxKey {
			m["r"+n] = text(id)
		}
		everywhere(t, m, func(c *cache.Cache) {
			c.Drop(api.MaxCache)
			wantGet(t, c, n, api.Id{}, api.ErrArg)
			if c.Size() != 0 || c.Hits() != 0 {
				t.Fatalf("Get(%q) asks the cache", n)
			}
			wantGet(t, c, "main", id, api.OK)
			want, e := m.list()
			if len(m) == 3 && e != api.ErrForm {
				t.Fatal("the model lists it")
			}
			wantList(t, c, want, e)
		})
	}
}

// P18.1: branches are all keys that begin with r, by rising names, whatever stands about them.
func TestListOrder(t *testing.T) {
	m, others := model{}, model{"": "x", "q": "x", "q\xff\xff": "x", "Rmain": "x", "s": "x", "smain": "x", "\xff": "x", "o": "x", "omain": "x", "mkind": "x", "mnum": "x", "\x00": "x", "\x00rmain": "x"}
	var want []api.Ref
	for i, n := range []string{"-", "--", "-0", "-a", "0", "0-", "00", "0a", "9", "9zz", "a", "a-", "a-z", "a0", "aa", "aaa", "ab", "b", "o", "q", "r", "r-", "rr", "s", "z", "z-", "zz", fat(16)} {
		id := name(hashes()[i%2], n)
		m["r"+n] = text(id)
		want = append(want, api.Ref{Name: n, Id: id})
	}
	for _, all := range []bool{false, true} {
		everywhere(t, m, func(c *cache.Cache) {
			if all {
				apply(t, c, others.writes()...)
			}
			wantList(t, c, want, api.OK)
		})
	}
	everywhere(t, others, func(c *cache.Cache) { wantList(t, c, nil, api.OK) })
	everywhere(t, model{}, func(c *cache.Cache) { wantList(t, c, nil, api.OK) })
}

// P18.1: one key that is no branch's, or one value that is no name's, in any place of the list, is ErrForm for all.
func TestListForm(t *testing.T) {
	ok := text(name(api.Fnv, "a"))
	for _, odd := range []string{"r", "r ", "r!", "rA", "r~", "r\xff", "r\x00", "rm\x00", "rm ", "rmM", "rma" + fat(15), "rä", "r" + fat(17), "r" + fat(47)} {
		m := model{"ra": ok, "rm": ok, "rz": ok, "s": "x", "q": "x", odd: ok}
		everywhere(t, m, func(c *cache.Cache) {
			wantList(t, c, nil, api.ErrForm)
			wantGet(t, c, "m", name(api.Fnv, "a"), api.OK)
			apply(t, c, api.Write{Key: odd, Gone: true})
			m := model{"ra": ok, "rm": ok, "rz": ok}
			want, _ := m.list()
			wantList(t, c, want, api.OK)
		})
	}
	for _, branch := range []string{"a", "m", "z"} {
		m := model{"ra": ok, "rm": ok, "rz": ok}
		m["r"+branch] = "x"
		everywhere(t, m, func(c *cache.Cache) { wantList(t, c, nil, api.ErrForm) })
	}
}

// numbered answers a model of so many branches.
func numbered(count int) model {
	m := model{}
	for i := range count {
		m[fmt.Sprintf("rb%d", i)] = text(name(hashes()[i%2], fmt.Sprint(i)))
	}
	return m
}

// P18.1: 32 branches are listed, 33 and more are ErrForm, whatever stands about them; Get answers each one all the same.
func TestListMost(t *testing.T) {
	for _, count := range []int{1, 31, 32, 33, 34, 64, 65, 500} {
		m := numbered(count)
		for _, key := range []string{"", "a", "q", "q\xff", "s", "s1", "z", "\xff"} {
			m[key] = "x"
		}
		everywhere(t, m, func(c *cache.Cache) {
			want, e := m.list()
			if (e == api.OK) != (count <= 32) {
				t.Fatalf("%d branches: the model's error is %d", count, e)
			}
			wantList(t, c, want, e)
			for i := range count {
				wantGet(t, c, fmt.Sprintf("b%d", i), name(hashes()[i%2], fmt.Sprint(i)), api.OK)
			}
			wantGet(t, c, fmt.Sprintf("b%d", count), api.Id{}, api.ErrNone)
		})
	}
}

// P18.1: a 33rd branch is told, in whichever place it is, and when it is dropped all others are listed.
func TestListOneMore(t *testing.T) {
	for _, more := range []string{"a", "b15x", "z"} {
		m := numbered(32)
		everywhere(t, m, func(c *cache.Cache) {
			want, _ := m.list()
			wantList(t, c, want, api.OK)
			apply(t, c, refs.Set(more, name(api.Sha, more)))
			wantList(t, c, nil, api.ErrForm)
			apply(t, c, refs.Drop(more))
			wantList(t, c, want, api.OK)
			apply(t, c, api.Write{Key: "s", Val: "x"}, api.Write{Key: "q", Val: "x"})
			wantList(t, c, want, api.OK)
		})
	}
}

// P18.1: what is asked of the cache: Get asks for the branch's key, once, and List for no key.
func TestAsked(t *testing.T) {
	everyone := numbered(5)
	for _, kind := range kinds() {
		c := open(t, kind, disk.New(100), 9)
		apply(t, c, everyone.writes()...)
		c.Drop(9)
		counts := func(size, hits int) {
			t.Helper()
			if c.Size() != size || c.Hits() != hits {
				t.Fatalf("kind %d: %d entries, %d hits, want %d, %d", kind, c.Size(), c.Hits(), size, hits)
			}
		}
		want, e := everyone.list()
		wantList(t, c, want, e)
		counts(0, 0)
		wantGet(t, c, "b1", name(api.Sha, "1"), api.OK)
		counts(1, 0)
		wantGet(t, c, "b1", name(api.Sha, "1"), api.OK)
		counts(1, 1)
		wantGet(t, c, "none", api.Id{}, api.ErrNone)
		counts(2, 1)
		wantGet(t, c, "none", api.Id{}, api.ErrNone)
		counts(2, 2)
		wantList(t, c, want, e)
		counts(2, 2)
	}
}

// P18.1: a nil cache, or one of a nil store, is ErrNil; that no branch can have a name is told ahead of it.
func TestNil(t *testing.T) {
	for i, c := range []*cache.Cache{nil, cache.New(nil, 9), cache.New(nil, 0)} {
		for range 2 {
			for _, n := range goodNames() {
				wantGet(t, c, n, api.Id{}, api.ErrNil)
			}
			for _, n := range badNames() {
				wantGet(t, c, n, api.Id{}, api.ErrArg)
			}
			wantList(t, c, nil, api.ErrNil)
		}
		if c.Size() != 0 {
			t.Errorf("cache %d has entries", i)
		}
	}
}

// P18.1: with the power off what isn't kept is ErrDown, behind ErrArg; what is kept is answered, and List never.
func TestPowerOff(t *testing.T) {
	id := name(api.Sha, "a")
	for _, kind := range laid() {
		d := disk.New(100)
		c := open(t, kind, d, 3)
		apply(t, c, refs.Set("a", id), refs.Set("b", id), api.Write{Key: "rc", Val: "x"})
		wantGet(t, c, "none", api.Id{}, api.ErrNone)
		if e := c.Sync(); e != api.OK {
			t.Fatalf("Sync: error %d", e)
		}
		d.Off(0)
		for range 2 {
			wantGet(t, c, "a", api.Id{}, api.ErrDown)
			wantGet(t, c, "other", api.Id{}, api.ErrDown)
			wantGet(t, c, "b", id, api.OK)
			wantGet(t, c, "c", api.Id{}, api.ErrForm)
			wantGet(t, c, "none", api.Id{}, api.ErrNone)
			wantGet(t, c, "None", api.Id{}, api.ErrArg)
			wantList(t, c, nil, api.ErrDown)
		}
		d.On()
		c = open(t, kind, d, 3)
		wantGet(t, c, "a", id, api.OK)
		wantList(t, c, nil, api.ErrForm)
		apply(t, c, refs.Drop("c"))
		wantList(t, c, []api.Ref{{Name: "a", Id: id}, {Name: "b", Id: id}}, api.OK)
	}
	d := disk.New(0)
	c := open(t, store.Mem, d, 0)
	d.Off(0)
	apply(t, c, refs.Set("a", id))
	wantGet(t, c, "a", id, api.OK)
	wantList(t, c, []api.Ref{{Name: "a", Id: id}}, api.OK)
}

// P18.2: a branch that is set is got, and listed, until it is set anew, or dropped.
func TestThereAndBack(t *testing.T) {
	one, other := name(api.Fnv, "one"), name(api.Sha, "other")
	for _, n := range goodNames() {
		everywhere(t, model{}, func(c *cache.Cache) {
			wantGet(t, c, n, api.Id{}, api.ErrNone)
			apply(t, c, refs.Set(n, one))
			wantGet(t, c, n, one, api.OK)
			wantList(t, c, []api.Ref{{Name: n, Id: one}}, api.OK)
			apply(t, c, refs.Set(n, other))
			wantGet(t, c, n, other, api.OK)
			wantList(t, c, []api.Ref{{Name: n, Id: other}}, api.OK)
			apply(t, c, refs.Drop(n))
			wantGet(t, c, n, api.Id{}, api.ErrNone)
			wantList(t, c, nil, api.OK)
			apply(t, c, refs.Drop(n))
			wantGet(t, c, n, api.Id{}, api.ErrNone)
			apply(t, c, refs.Set(n, one), refs.Drop(n), refs.Set(n, other), refs.Set(n, one))
			wantGet(t, c, n, one, api.OK)
			wantList(t, c, []api.Ref{{Name: n, Id: one}}, api.OK)
		})
	}
}

// P18.1: what is set of names that can't be is told by Get and List.
func TestSetThatCant(t *testing.T) {
	for _, id := range badIds() {
		everywhere(t, model{}, func(c *cache.Cache) {
			apply(t, c, refs.Set("main", id))
			wantGet(t, c, "main", api.Id{}, api.ErrForm)
			wantList(t, c, nil, api.ErrForm)
			apply(t, c, refs.Set("main", name(api.Fnv, "a")))
			wantGet(t, c, "main", name(api.Fnv, "a"), api.OK)
		})
	}
	for _, n := range badNames() {
		c := open(t, store.Mem, nil, 9)
		want := api.OK
		if len(n) >= api.MaxKey {
			want = api.ErrLong
		}
		if e := c.Apply(refs.Set(n, name(api.Fnv, "a"))); e != want {
			t.Fatalf("Apply of %q: error %d, want %d", n, e, want)
		}
		if want == api.OK {
			wantList(t, c, nil, api.ErrForm)
			apply(t, c, refs.Drop(n))
		}
		wantList(t, c, nil, api.OK)
	}
}

// What is answered is new memory: what is written into it isn't seen, nor into another answer.
func TestNewMemory(t *testing.T) {
	m := numbered(20)
	everywhere(t, m, func(c *cache.Cache) {
		want, _ := m.list()
		first, _ := refs.List(c)
		other, _ := refs.List(c)
		for i := range first {
			first[i] = api.Ref{Name: "changed"}
		}
		_ = append(first[:1], first...)
		if !slices.Equal(other, want) {
			t.Fatal("two answers share memory")
		}
		wantList(t, c, want, api.OK)
		apply(t, c, refs.Drop("b3"), refs.Set("b4", name(api.Sha, "new")))
		if !slices.Equal(other, want) {
			t.Fatal("an answer is changed by what came behind it")
		}
	})
}
