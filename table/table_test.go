package table_test

import (
	"fmt"
	"math/rand"
	"slices"
	"strings"
	"testing"

	"rootstock/api"
	"rootstock/table"
)

// P10.1: the chapter's examples.
func TestExamples(t *testing.T) {
	one := table.Of(set("a", "1"), gone("a"))
	wantTable(t, "Of", one, []api.Write{gone("a")})
	wantTable(t, "Merge", table.Merge(true, one), nil)
	wantTable(t, "Merge that isn't whole", table.Merge(false, one), []api.Write{gone("a")})
}

// P10.1: of each key the last write, by rising keys, in whatever order they are handed in.
func TestOf(t *testing.T) {
	long := strings.Repeat("k", 700)
	cases := []struct {
		what string
		list []api.Write
		want []api.Write
	}{
		{"none", nil, nil},
		{"an empty list", []api.Write{}, nil},
		{"the zero write", []api.Write{{}}, []api.Write{{}}},
		{"one", []api.Write{set("a", "1")}, []api.Write{set("a", "1")}},
		{"one that is gone", []api.Write{gone("a")}, []api.Write{gone("a")}},
		{"a value of one that is gone", []api.Write{{Key: "a", Val: "1", Gone: true}}, []api.Write{gone("a")}},
		{"falling keys", []api.Write{set("c", "3"), set("b", "2"), set("a", "1")}, []api.Write{set("a", "1"), set("b", "2"), set("c", "3")}},
		{"a key twice", []api.Write{set("a", "1"), set("b", "2"), set("a", "3")}, []api.Write{set("a", "3"), set("b", "2")}},
		{"an empty value last", []api.Write{set("a", "1"), set("a", "")}, []api.Write{set("a", "")}},
		{"gone, and back", []api.Write{gone("a"), set("a", "1")}, []api.Write{set("a", "1")}},
		{"gone twice", []api.Write{gone("a"), set("a", "1"), gone("a")}, []api.Write{gone("a")}},
		{"the empty key", []api.Write{set("a", "1"), set("", "2"), gone("")}, []api.Write{gone(""), set("a", "1")}},
		{"keys by their bytes", []api.Write{set("b", ""), set("\xff", ""), set("a\x00", ""), set("ab", ""), set("a", ""), set("\x00", ""), set("é", ""), set("B", ""), set("10", ""), set("9", "")},
			[]api.Write{set("\x00", ""), set("10", ""), set("9", ""), set("B", ""), set("a", ""), set("a\x00", ""), set("ab", ""), set("b", ""), set("é", ""), set("\xff", "")}},
		{"any length", []api.Write{set(long+"x", long), set(long, long+long)}, []api.Write{set(long, long+long), set(long+"x", long)}},
	}
	for _, c := range cases {
		wantTable(t, c.what, table.Of(c.list...), c.want)
	}
}

// P10.1: many writes, some of them of the same keys.
func TestOfMany(t *testing.T) {
	var list []api.Write
	for i := range 5000 {
		list = append(list, api.Write{Key: fmt.Sprint(i * 7919 % 3001), Val: fmt.Sprint(i), Gone: i%5 == 0})
	}
	got := table.Of(list...)
	all := got.All()
	if len(all) != 3001 || !slices.IsSortedFunc(all, func(a, b api.Write) int { return strings.Compare(a.Key, b.Key) }) {
		t.Fatalf("All %s", show(all))
	}
	for _, w := range all {
		i := slices.IndexFunc(list[2000:], func(v api.Write) bool { return v.Key == w.Key }) + 2000
		if i < 2000 {
			i = slices.IndexFunc(list, func(v api.Write) bool { return v.Key == w.Key })
		}
		want := list[i]
		if want.Gone {
			want.Val = ""
		}
		if v, ok := got.Get(w.Key); w != want || v != want || !ok {
			t.Fatalf("%q: All %#v, Get %#v, %t, want %#v", w.Key, w, v, ok, want)
		}
	}
	wantRead(t, "Bytes", string(got.Bytes()), all...)
}

// P10.1: random writes are as the model has them, and every call answers the same again.
func TestOfRandom(t *testing.T) {
	rnd := rand.New(rand.NewSource(1))
	for range 2000 {
		list := randomWrites(rnd)
		got := table.Of(list...)
		for range 3 {
			wantTable(t, show(list), got, last(list))
		}
	}
}

// P10.1: a nil table has no writes.
func TestNilTable(t *testing.T) {
	var none *table.Table
	if list := none.All(); len(list) != 0 {
		t.Errorf("All %s", show(list))
	}
	for _, key := range []string{"", "a"} {
		if w, ok := none.Get(key); w != (api.Write{}) || ok {
			t.Errorf("Get of %q: %#v, %t", key, w, ok)
		}
	}
	if got := string(none.Bytes()); got != laid() || got != string(table.Of().Bytes()) {
		t.Errorf("Bytes %q", got)
	}
	one := table.Of(set("a", "1"))
	for _, whole := range []bool{false, true} {
		wantTable(t, "Merge of nil", table.Merge(whole, nil, none), nil)
		wantTable(t, "Merge of no tables", table.Merge(whole), nil)
		wantTable(t, "Merge of an empty list", table.Merge(whole, []*table.Table{}...), nil)
		wantTable(t, "Merge with nil", table.Merge(whole, nil, one, none), []api.Write{set("a", "1")})
	}
}

// P10.3: of each key the write of the last table that has it; whole: none of one that is Gone there.
func TestMerge(t *testing.T) {
	elder := table.Of(set("a", "1"), set("b", "1"), gone("c"), gone("d"), set("e", ""))
	younger := table.Of(gone("a"), set("b", "2"), set("c", "2"), gone("f"))
	both := []api.Write{gone("a"), set("b", "2"), set("c", "2"), gone("d"), set("e", ""), gone("f")}
	wantTable(t, "not whole", table.Merge(false, elder, younger), both)
	wantTable(t, "whole", table.Merge(true, elder, younger), []api.Write{set("b", "2"), set("c", "2"), set("e", "")})
	turned := []api.Write{set("a", "1"), set("b", "1"), gone("c"), gone("d"), set("e", ""), gone("f")}
	wantTable(t, "the other way, not whole", table.Merge(false, younger, elder), turned)
	wantTable(t, "the other way, whole", table.Merge(true, younger, elder), []api.Write{set("a", "1"), set("b", "1"), set("e", "")})
	wantTable(t, "a table twice", table.Merge(false, elder, younger, elder), turned)
	wantTable(t, "of one", table.Merge(false, younger), younger.All())
	wantTable(t, "step by step", table.Merge(false, table.Merge(false, elder), table.Merge(false, younger)), both)
	wantTable(t, "whole too early", table.Merge(true, elder, table.Merge(true, younger)), []api.Write{set("a", "1"), set("b", "2"), set("c", "2"), set("e", "")})
}

// P10.3: Get of a Merge is Get of the last table that has the key, of random tables.
func TestMergeRandom(t *testing.T) {
	rnd := rand.New(rand.NewSource(2))
	kinds := map[string]int{}
	for range 2000 {
		tables := make([]*table.Table, rnd.Intn(6))
		keys := []string{"", "a", "\xff", "none"}
		var list []api.Write
		for i := range tables {
			if rnd.Intn(8) == 0 {
				continue
			}
			some := randomWrites(rnd)
			tables[i] = table.Of(some...)
			list = append(list, some...)
			for _, w := range some {
				keys = append(keys, w.Key)
			}
		}
		want := last(list)
		wantTable(t, "not whole", table.Merge(false, tables...), want)
		left := slices.DeleteFunc(slices.Clone(want), func(w api.Write) bool { return w.Gone })
		wantTable(t, "whole", table.Merge(true, tables...), left)
		for _, key := range keys {
			kinds[wantMerged(t, key, tables)]++
		}
	}
	for _, kind := range []string{"none", "gone", "value"} {
		if kinds[kind] < 100 {
			t.Errorf("%d keys of kind %s", kinds[kind], kind)
		}
	}
}

// wantMerged fails if a key isn't in a Merge of tables as it is in the last one that has it; it tells of which kind it is there.
func wantMerged(t *testing.T, key string, tables []*table.Table) string {
	t.Helper()
	var want api.Write
	ok := false
	for _, one := range tables {
		if w, has := one.Get(key); has {
			want, ok = w, true
		}
	}
	if w, has := table.Merge(false, tables...).Get(key); w != want || has != ok {
		t.Fatalf("not whole: Get of %q: %#v, %t, want %#v, %t", key, w, has, want, ok)
	}
	kind := "value"
	if !ok {
		kind = "none"
	} else if want.Gone {
		want, ok, kind = api.Write{}, false, "gone"
	}
	if w, has := table.Merge(true, tables...).Get(key); w != want || has != ok {
		t.Fatalf("whole: Get of %q: %#v, %t, want %#v, %t", key, w, has, want, ok)
	}
	return kind
}

// P10.4: what the caller writes into lists behind a call isn't seen, and no call changes what is handed in.
func TestHandedIn(t *testing.T) {
	list := []api.Write{set("b", "2"), {Key: "a", Val: "1", Gone: true}, set("b", "3"), set("spare", "room")}
	was := slices.Clone(list)
	got := table.Of(list[:3]...)
	if !slices.Equal(list, was) {
		t.Fatalf("Of made %s of its list", show(list))
	}
	for i := range list {
		list[i] = set("other", "x")
	}
	want := []api.Write{gone("a"), set("b", "3")}
	wantTable(t, "Of", got, want)

	other := table.Of(set("a", "5"), gone("b"))
	tables := []*table.Table{got, other, nil}
	merged := table.Merge(false, tables[:2]...)
	if tables[0] != got || tables[1] != other || tables[2] != nil {
		t.Fatal("Merge changed its list")
	}
	tables[0], tables[1] = nil, nil
	table.Merge(true, merged, got)
	wantTable(t, "the first one", got, want)
	wantTable(t, "the second one", other, []api.Write{set("a", "5"), gone("b")})
	wantTable(t, "Merge", merged, []api.Write{set("a", "5"), gone("b")})
	for _, whole := range []bool{false, true} {
		if table.Merge(whole, got) == got {
			t.Error("Merge of one table answers that table")
		}
	}
}

// P10.4: Read neither changes nor keeps its bytes.
func TestBytesHandedIn(t *testing.T) {
	bytes := laid(set("a", "12345"), gone("b")) + "\x00\x00"
	room := bytes + strings.Repeat("s", 600)
	b := []byte(room)
	got, e := table.Read(b[:len(bytes)])
	wantErr(t, "Read", e, api.OK)
	if string(b) != room {
		t.Fatalf("Read made %q of its bytes", b)
	}
	for i := range b {
		b[i] = 0xee
	}
	wantTable(t, "Read", got, []api.Write{set("a", "12345"), gone("b")})
}

// P10.4: what is written into an answer isn't seen, neither by the table nor in another answer.
func TestAnswersAreNew(t *testing.T) {
	want := []api.Write{set("a", "1"), gone("b"), set("c", "3")}
	of := table.Of(want...)
	read, e := table.Read(of.Bytes())
	wantErr(t, "Read", e, api.OK)
	for _, got := range []*table.Table{of, read, table.Merge(false, of)} {
		list, again := got.All(), got.All()
		bytes, twice := got.Bytes(), got.Bytes()
		for i := range list {
			list[i] = set("x", "x")
		}
		_ = append(list[:0], set("y", "y"), set("y", "y"), set("y", "y"))
		for i := range bytes {
			bytes[i] = 0xee
		}
		if !slices.Equal(again, want) || string(twice) != laid(want...) {
			t.Fatalf("another answer: %s, %q", show(again), twice)
		}
		wantTable(t, "behind that", got, want)
	}
}
