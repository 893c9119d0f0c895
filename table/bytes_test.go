package table_test

import (
	"math"
	"math/rand"
	"slices"
	"strings"
	"testing"

	"rootstock/api"
	"rootstock/table"
)

// P10.1: a table's bytes, by hand.
func TestBytesByHand(t *testing.T) {
	cases := []struct {
		bytes string
		list  []api.Write
	}{
		{record("\x00"), nil},
		{record("\x01\x00\x00\x00"), []api.Write{{}}},
		{record("\x01\x01\x01a\x00"), []api.Write{gone("a")}},
		{record("\x02\x00\x01a\x021\x00\x01\x02bc\x00"), []api.Write{set("a", "1\x00"), gone("bc")}},
	}
	for _, c := range cases {
		wantTable(t, "Of", table.Of(c.list...), c.list)
		if got := string(table.Of(c.list...).Bytes()); got != c.bytes {
			t.Errorf("Bytes of %s: %q, want %q", show(c.list), got, c.bytes)
		}
		wantRead(t, "Read", c.bytes, c.list...)
	}
	// Both checks are worked out apart from the program.
	if got := string(table.Of().Bytes()); got != "\x01\x00\xa5\xef\xc3\xe2" {
		t.Errorf("Bytes of no writes: %q", got)
	}
	if got := string(table.Of(gone("a")).Bytes()); got != "\x05\x01\x01\x01a\x00\xff\xca\xc4\xd9" {
		t.Errorf("Bytes of one that is gone: %q", got)
	}
}

// P10.1: noughts, as many as there are, or nothing may stand behind; anything else may not.
func TestBehind(t *testing.T) {
	for _, list := range [][]api.Write{nil, {{}}, {set("a", "1"), gone("b")}} {
		bytes := laid(list...)
		for n := range 1200 {
			noughts := strings.Repeat("\x00", n)
			wantRead(t, "noughts", bytes+noughts, list...)
			wantForm(t, "a byte behind noughts", bytes+noughts+"\x01")
			wantForm(t, "a byte ahead of noughts", bytes+"\x80"+noughts)
		}
		wantForm(t, "noughts ahead", "\x00"+bytes)
		wantForm(t, "twice", bytes+bytes)
		wantForm(t, "an empty record behind", bytes+record(""))
		wantForm(t, "an empty record ahead", record("")+bytes)
		wantForm(t, "a table behind noughts", bytes+"\x00"+bytes)
		wantForm(t, "noughts, and a table in them", bytes+strings.Repeat("\x00", 600)+bytes+strings.Repeat("\x00", 600))
	}
	for n := range 1200 {
		wantForm(t, "nothing but noughts", strings.Repeat("\x00", n))
	}
	if got, e := table.Read(nil); got != nil || e != api.ErrForm {
		t.Errorf("Read of nil: table %t, error %d", got != nil, e)
	}
}

// P10.1: keys of 48 bytes and values of 160 are read, longer ones aren't, though a table has them.
func TestLongest(t *testing.T) {
	for _, n := range []int{0, 1, 47, 48, 49, 127, 128, 159, 160, 161, 500, 70000} {
		s := strings.Repeat("s", n)
		for _, w := range []api.Write{set(s, ""), gone(s), set("a", s), set(s[:min(n, 48)], s)} {
			for _, list := range [][]api.Write{{w}, {set("", "x"), w}, {w, set("z", "x")}} {
				list = last(list)
				wantTable(t, "Of", table.Of(list...), list)
				if len(w.Key) <= 48 && len(w.Val) <= 160 {
					wantRead(t, "Read", laid(list...), list...)
				} else {
					wantForm(t, "too long", laid(list...))
				}
			}
		}
	}
}

// P10.1: records whose check is right, but that are no table's.
func TestOtherForms(t *testing.T) {
	a, b := write(set("a", "1")), write(gone("b"))
	cases := []struct{ what, inner string }{
		{"nothing", ""},
		{"fewer writes than it tells", "\x02" + a},
		{"no write, but it tells of one", "\x01"},
		{"more writes than it tells", "\x01" + a + b},
		{"a write, but it tells of none", "\x00" + a},
		{"bytes behind", "\x02" + a + b + "\x00"},
		{"bytes behind none", "\x00\x00"},
		{"another number for Gone", "\x01\x02\x01a\x00"},
		{"another number for one that isn't Gone", "\x01\x02\x01a\x011"},
		{"a great number for Gone", "\x01\x81\x01\x01a\x00"},
		{"a number for Gone of the most bytes", "\x01" + number(math.MaxUint64) + "\x01a\x00"},
		{"a value of one that is Gone", "\x01\x01\x01a\x011"},
		{"an empty byte as value of one that is Gone", "\x01\x01\x01a\x01\x00"},
		{"falling keys", "\x02" + b + a},
		{"a key twice", "\x02" + a + a},
		{"a key twice, with other values", "\x02" + a + write(set("a", "2"))},
		{"a key twice, gone the second time", "\x02" + a + write(gone("a"))},
		{"the empty key behind one", "\x02" + a + write(set("", ""))},
		{"the empty key twice", "\x02" + write(api.Write{}) + write(api.Write{})},
		{"a number of writes that could be shorter", "\x81\x00" + a},
		{"none in two bytes", "\x80\x00"},
		{"Gone in two bytes", "\x01\x81\x00\x01a\x00"},
		{"not Gone in two bytes", "\x01\x80\x00\x01a\x011"},
		{"a key's length in two bytes", "\x01\x00\x81\x00a\x011"},
		{"a value's length in two bytes", "\x01\x00\x01a\x81\x001"},
		{"a key that is cut", "\x01\x00\x03ab"},
		{"a value that is cut", "\x01\x00\x01a\x03ab"},
		{"a number of writes that is cut", "\x80"},
		{"the greatest number of writes", number(math.MaxUint64) + a},
		{"the greatest number of writes, of none", number(math.MaxUint64)},
		{"a great number of writes", number(1<<40) + a + b},
		{"a number of writes above the greatest", "\xff\xff\xff\xff\xff\xff\xff\xff\xff\x02" + a},
		{"the greatest length of a key", "\x01\x00" + number(math.MaxUint64) + "a\x00"},
		{"the greatest length of a value", "\x01\x00\x01a" + number(math.MaxUint64) + "1"},
		{"a record in the record", laid(set("a", "1"))},
	}
	for _, c := range cases {
		t.Run(c.what, func(t *testing.T) {
			wantForm(t, "alone", record(c.inner))
			wantForm(t, "with noughts", record(c.inner)+strings.Repeat("\x00", 100))
			if _, ok := modelRead(record(c.inner)); ok {
				t.Error("the model reads it")
			}
		})
	}
	wantRead(t, "both writes", record("\x02"+a+b), set("a", "1"), gone("b"))
}

// P10.1: what is cut off, or of which a bit is turned, is no table.
func TestCutAndTurned(t *testing.T) {
	for _, list := range [][]api.Write{nil, {set("a", "1")}, {set("a", "1"), gone("b"), set("cc", strings.Repeat("v", 160))}} {
		bytes := laid(list...)
		for cut := range bytes {
			wantAsModel(t, "cut", bytes[:cut])
			wantForm(t, "cut", bytes[:cut])
			wantForm(t, "without its beginning", bytes[cut+1:])
			if bytes[cut] != 0 {
				wantForm(t, "noughts from there on", bytes[:cut]+strings.Repeat("\x00", 512-cut))
			}
			for bit := range 8 {
				b := []byte(bytes)
				b[cut] ^= 1 << bit
				wantForm(t, "turned", string(b))
			}
		}
	}
}

// P10.2: random tables are read from their bytes.
func TestThereAndBack(t *testing.T) {
	rnd := rand.New(rand.NewSource(3))
	for range 2000 {
		list := randomWrites(rnd)
		want := last(list)
		got, e := table.Read(table.Of(list...).Bytes())
		wantErr(t, "Read", e, api.OK)
		wantTable(t, "Read", got, want)
		wantRead(t, "noughts behind", string(got.Bytes())+strings.Repeat("\x00", rnd.Intn(600)), want...)
		wantRead(t, "of a Merge", string(table.Merge(false, got, nil).Bytes()), want...)
	}
}

// forged answers what a record might have that is nearly a table's.
func forged(rnd *rand.Rand) string {
	list := last(randomWrites(rnd))
	if len(list) > 6 {
		list = list[:6]
	}
	if len(list) > 0 {
		i, k := rnd.Intn(len(list)), rnd.Intn(len(list))
		switch rnd.Intn(8) {
		case 0:
			list[i], list[k] = list[k], list[i]
		case 1:
			list = slices.Insert(list, i, list[k])
		case 2:
			list[i].Gone = !list[i].Gone
		case 3:
			list[i].Key += strings.Repeat("k", rnd.Intn(60))
		case 4:
			list[i].Val += strings.Repeat("v", rnd.Intn(200))
		}
	}
	b := []byte(inner(list))
	switch rnd.Intn(10) {
	case 0:
		b[rnd.Intn(len(b))] = byte(rnd.Intn(4))
	case 1:
		b = b[:rnd.Intn(len(b)+1)]
	case 2:
		b = append(b, byte(rnd.Intn(2)))
	case 3:
		b[0] += byte(rnd.Intn(3)) - 1
	case 4:
		at := rnd.Intn(len(b))
		b = slices.Insert(b, at, byte(rnd.Intn(256)))
	}
	return string(b)
}

// P10.1: Read of random records, and of random bytes, answers as the model does.
func TestReadOfAnyBytes(t *testing.T) {
	rnd := rand.New(rand.NewSource(4))
	good := 0
	const rounds = 20000
	for range rounds {
		bytes := record(forged(rnd))
		switch rnd.Intn(6) {
		case 0:
			bytes += strings.Repeat("\x00", rnd.Intn(5))
		case 1:
			bytes += string(byte(rnd.Intn(3)))
		}
		if wantAsModel(t, "forged", bytes) {
			good++
		}
	}
	if good < rounds/10 || good > rounds*9/10 {
		t.Errorf("%d of %d were tables", good, rounds)
	}
	for range rounds {
		b := make([]byte, rnd.Intn(12))
		for i := range b {
			b[i] = byte(rnd.Intn([]int{2, 4, 256}[rnd.Intn(3)]))
		}
		wantAsModel(t, "any bytes", string(b))
		wantAsModel(t, "any bytes in a record", record(string(b)))
	}
}

// P10.1: all short records.
func TestAllShortRecords(t *testing.T) {
	good := 0
	for n := range 6 {
		b := make([]byte, n)
		for {
			if wantAsModel(t, "short", record(string(b))) {
				good++
			}
			i := 0
			for ; i < n && b[i] == 4; i++ {
				b[i] = 0
			}
			if i == n {
				break
			}
			b[i]++
		}
	}
	if good < 10 {
		t.Errorf("%d were tables", good)
	}
}
