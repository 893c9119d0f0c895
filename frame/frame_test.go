package frame_test

import (
	"bytes"
	"encoding/binary"
	"fmt"
	"hash/crc32"
	"math/rand"
	"slices"
	"strings"
	"testing"

	"rootstock/code"
	"rootstock/frame"
)

var castagnoli = crc32.MakeTable(crc32.Castagnoli)

// random answers so many bytes, the same ones for the same seed.
func random(seed int64, size int) []byte {
	b := make([]byte, size)
	rand.New(rand.NewSource(seed)).Read(b)
	return b
}

// texts are records of many kinds: none, each byte alone, noughts, and all lengths at which the length's bytes get more.
func texts() []string {
	list := []string{"", "\x00\x00\x00\x00\x00", "\xff\xff\xff\xff", "\x80\x00", "123456789", strings.Repeat("\x00", 200), strings.Repeat("\xff", 200)}
	for c := range 256 {
		list = append(list, string([]byte{byte(c)}))
	}
	for i, size := range []int{2, 3, 4, 5, 8, 31, 100, 126, 127, 128, 129, 255, 256, 300, 507, 508, 512, 16382, 16383, 16384, 16385} {
		list = append(list, string(random(int64(i), size)))
	}
	return list
}

// checked answers bytes with the library's check behind them, the lowest first.
func checked(b string) string {
	return string(binary.LittleEndian.AppendUint32([]byte(b), crc32.Checksum([]byte(b), castagnoli)))
}

// model is a record's bytes by the chapter's words and the library's check.
func model(s string) string {
	return checked(string(binary.AppendUvarint(nil, uint64(len(s)))) + s)
}

// joined are the records' bytes, one behind the other.
func joined(list []string) string {
	all := ""
	for _, s := range list {
		all += model(s)
	}
	return all
}

// wantSplit fails if bytes aren't split into just these records.
func wantSplit(t *testing.T, what string, b string, want []string) {
	t.Helper()
	got, n := frame.Split([]byte(b))
	if !slices.Equal(got, want) || n != len(joined(want)) {
		t.Fatalf("%s: Split(%.40x) = %.40q, %d, want %.40q, %d", what, b, got, n, want, len(joined(want)))
	}
}

// wantNone fails if bytes are one record.
func wantNone(t *testing.T, what string, b string) {
	t.Helper()
	if s, ok := frame.One([]byte(b)); s != "" || ok {
		t.Fatalf("%s: One(%.40x) = %.40q, %t", what, b, s, ok)
	}
}

// P4.1: checks that are known.
func TestChecksThatAreKnown(t *testing.T) {
	rising, falling := make([]byte, 32), make([]byte, 32)
	for i := range 32 {
		rising[i], falling[31-i] = byte(i), byte(i)
	}
	cases := []struct {
		b    []byte
		want uint32
	}{
		{nil, 0},
		{[]byte{}, 0},
		{[]byte("a"), 0xc1d04330},
		{[]byte("123456789"), 0xe3069283},
		{make([]byte, 32), 0x8a9136aa},
		{bytes.Repeat([]byte{0xff}, 32), 0x62a8ab43},
		{rising, 0x46dd794e},
		{falling, 0x113fdb5c},
	}
	for _, c := range cases {
		if got := frame.Sum(c.b); got != c.want {
			t.Errorf("Sum(%x) = %x, want %x", c.b, got, c.want)
		}
	}
}

// P4.1: the check is the library's, of all kinds of bytes.
func TestSumIsTheLibrarys(t *testing.T) {
	for _, s := range texts() {
		if got, want := frame.Sum([]byte(s)), crc32.Checksum([]byte(s), castagnoli); got != want {
			t.Errorf("Sum of %d bytes, %.8x = %x, want %x", len(s), s, got, want)
		}
	}
	for n := range 1 << 16 {
		b := []byte{byte(n >> 8), byte(n)}
		if got, want := frame.Sum(b), crc32.Checksum(b, castagnoli); got != want {
			t.Fatalf("Sum(%x) = %x, want %x", b, got, want)
		}
	}
}

// P4.1: the records' bytes that the chapter's words give by hand.
func TestPutBytes(t *testing.T) {
	cases := []struct{ s, want string }{
		{"", "\x00\x51\x53\x7d\x52"},
		{"a", checked("\x01a")},
		{"\x00", checked("\x01\x00")},
		{"123456789", checked("\x09123456789")},
		{strings.Repeat("x", 127), checked("\x7f" + strings.Repeat("x", 127))},
		{strings.Repeat("x", 128), checked("\x80\x01" + strings.Repeat("x", 128))},
		{strings.Repeat("x", 300), checked("\xac\x02" + strings.Repeat("x", 300))},
	}
	for _, c := range cases {
		for _, ahead := range []string{"", "ab", "\x00\xff", c.want} {
			if got := string(frame.Put([]byte(ahead), c.s)); got != ahead+c.want {
				t.Errorf("Put(%x, %.20q) = %.60x, want %.60x", ahead, c.s, got, ahead+c.want)
			}
		}
		if got := string(frame.Put(nil, c.s)); got != c.want {
			t.Errorf("Put(nil, %.20q) = %.60x, want %.60x", c.s, got, c.want)
		}
	}
}

// P4.1: a record is put as the model says, and it is one, and the only one of its bytes.
func TestOneRecord(t *testing.T) {
	for _, s := range texts() {
		b := frame.Put(nil, s)
		if string(b) != model(s) {
			t.Fatalf("Put of %d bytes: %.60x, want %.60x", len(s), b, model(s))
		}
		if got, ok := frame.One(b); got != s || !ok {
			t.Fatalf("One of %d bytes: %.40q, %t", len(s), got, ok)
		}
		wantSplit(t, "one record", string(b), []string{s})
	}
}

// P4.1: One answers nothing of bytes that are more than a record, or less, or two.
func TestOneIsJustOne(t *testing.T) {
	wantNone(t, "no bytes", "")
	for _, s := range texts() {
		if len(s) > 600 {
			continue
		}
		b := model(s)
		for i := range len(b) {
			wantNone(t, "cut off", b[:i])
		}
		wantNone(t, "nought behind", b+"\x00")
		wantNone(t, "byte behind", b+"x")
		wantNone(t, "two", b+b)
		wantNone(t, "another one behind", b+model(""))
		wantNone(t, "another one ahead", model("")+b)
		wantNone(t, "byte ahead", "x"+b)
		wantNone(t, "without the first one", b[1:])
	}
}

// P4.1: bytes that aren't as layer 1 writes a text are no record, even with their check.
func TestFormsThatAreNone(t *testing.T) {
	for _, form := range []string{
		"", "\x80", "\x80\x00", "\x81\x00a", "\x80\x80\x00", "\x83\x80\x00abc",
		"\x01", "\x05abcd", "\x04abc", "\x02abc", "\x00a",
		"\xff\xff\xff\xff\xff\xff\xff\xff\x7f",
		"\x80\x80\x80\x80\x80\x80\x80\x80\x80\x01",
		"\xff\xff\xff\xff\xff\xff\xff\xff\xff\x01",
		"\xff\xff\xff\xff\xff\xff\xff\xff\xff\x01abcd",
		"\x83\x80\x80\x80\x80\x80\x80\x80\x80\x02abc",
		"\x83\x80\x80\x80\x80\x80\x80\x80\x80\x80\x01abc",
		strings.Repeat("\x80", 100),
	} {
		b := checked(form)
		wantNone(t, "form", b)
		wantSplit(t, "form", b, nil)
		wantSplit(t, "form behind a record", model("abc")+b, []string{"abc"})
		wantSplit(t, "form between records", model("")+b+model("abc"), []string{""})
	}
}

// P4.1: another check than the record's is none's: of the record alone, the highest first, not turned, of noughts.
func TestChecksThatAreOthers(t *testing.T) {
	for _, s := range []string{"", "a", "abc", strings.Repeat("x", 300)} {
		text := string(code.Text(nil, s))
		sum := frame.Sum([]byte(text))
		for _, other := range []uint32{0, ^uint32(0), ^sum, sum + 1, sum - 1, sum << 8, sum >> 8, frame.Sum([]byte(s)) + 1} {
			b := string(binary.LittleEndian.AppendUint32([]byte(text), other))
			wantNone(t, "other check", b)
			wantSplit(t, "other check", b+model("x"), nil)
		}
		if alone := frame.Sum([]byte(s)); alone != sum {
			wantNone(t, "check of the record alone", string(binary.LittleEndian.AppendUint32([]byte(text), alone)))
		}
		wantNone(t, "highest first", string(binary.BigEndian.AppendUint32([]byte(text), sum)))
	}
}

// P4.1: of no bytes, and of those that begin with no record, there are none, which take no bytes.
func TestSplitOfNone(t *testing.T) {
	for _, b := range []string{"", "\x00", "x", "\x00\x00\x00\x00\x00", strings.Repeat("\x00", 512), strings.Repeat("\xff", 512), "x" + model("abc"), "\x00" + model("abc")} {
		wantSplit(t, "none", b, nil)
		wantNone(t, "none", b)
	}
	if got, n := frame.Split(nil); len(got) != 0 || n != 0 {
		t.Errorf("Split(nil) = %q, %d", got, n)
	}
	if got, ok := frame.One(nil); got != "" || ok {
		t.Errorf("One(nil) = %q, %t", got, ok)
	}
}

// P4.1: what bytes are split into is what the model tells, of bytes of all kinds.
func TestSplitOfAnyBytes(t *testing.T) {
	rnd := rand.New(rand.NewSource(4))
	for range 20000 {
		b := []byte{}
		want := []string{}
		for range rnd.Intn(4) {
			s := string(random(rnd.Int63(), rnd.Intn(6)))
			b = append(b, model(s)...)
			want = append(want, s)
		}
		good := len(b)
		rest := random(rnd.Int63(), rnd.Intn(12))
		for i := range rest {
			rest[i] &= 0x83 // short lengths, and such as go on
		}
		b = append(b, rest...)
		got, n := frame.Split(b)
		if !slices.Equal(got, want) || n != good {
			t.Fatalf("Split(%x) = %q, %d, want %q, %d", b, got, n, want, good)
		}
	}
}

// P4.2: records that are put one behind the other are split into these, with what is no record behind them or not.
func TestSplitOfMany(t *testing.T) {
	list := texts()
	var b []byte
	for i, s := range list {
		b = frame.Put(b, s)
		if i%20 == 0 || i == len(list)-1 {
			wantSplit(t, "many", string(b), list[:i+1])
			wantSplit(t, "many and noughts", string(b)+strings.Repeat("\x00", 600), list[:i+1])
			wantSplit(t, "many and a byte", string(b)+"\x05", list[:i+1])
		}
	}
	slices.Reverse(list)
	wantSplit(t, "backwards", joined(list), list)
	same := slices.Repeat([]string{""}, 1000)
	wantSplit(t, "a thousand empty ones", joined(same), same)
}

// P4.2: wherever bytes are cut off, the records that stand ahead of the cut are there, and no others.
func TestCutOff(t *testing.T) {
	list := []string{"", "a", "", "\x00\x00", string(random(5, 130)), "last", ""}
	b := joined(list)
	for i := range len(b) + 1 {
		whole := 0
		for whole < len(list) && len(joined(list[:whole+1])) <= i {
			whole++
		}
		wantSplit(t, fmt.Sprint("cut at ", i), b[:i], list[:whole])
	}
}

// P4.2: a record that is damaged ends those ahead of it, though whole ones stand behind it.
func TestDamagedInTheMiddle(t *testing.T) {
	list := []string{"one", "", "three", "four"}
	b := joined(list)
	for i := range len(b) {
		turned := []byte(b)
		turned[i] ^= 0x10
		whole := 0
		for len(joined(list[:whole+1])) <= i {
			whole++
		}
		wantSplit(t, fmt.Sprint("turned at ", i), string(turned), list[:whole])
	}
}

// lengthSize is how many bytes a record's length has.
func lengthSize(s string) int { return len(binary.AppendUvarint(nil, uint64(len(s)))) }

// P4.3: one byte of a record that is turned into any other one, behind its length, makes it none.
func TestOneByteTurned(t *testing.T) {
	for _, s := range []string{"", "a", "123456789", strings.Repeat("\x00", 40), string(random(6, 127)), string(random(7, 128)), string(random(8, 300))} {
		b := []byte(model(s))
		for i := lengthSize(s); i < len(b); i++ {
			was := b[i]
			for c := range 256 {
				if b[i] = byte(c); b[i] != was {
					wantNone(t, fmt.Sprint("turned at ", i), string(b))
					if got, n := frame.Split(b); len(got) != 0 || n != 0 {
						t.Fatalf("turned at %d: Split = %q, %d", i, got, n)
					}
				}
			}
			b[i] = was
		}
	}
}

// P4.3: two bits of a record that are turned, behind its length, make it none.
func TestTwoBitsTurned(t *testing.T) {
	for _, s := range []string{"", "a", "123456789", strings.Repeat("\x00", 40), string(random(9, 130))} {
		b := []byte(model(s))
		first := lengthSize(s) * 8
		for i := first; i < len(b)*8; i++ {
			b[i/8] ^= 1 << (i % 8)
			for j := first; j < i; j++ {
				b[j/8] ^= 1 << (j % 8)
				if got, ok := frame.One(b); got != "" || ok {
					t.Fatalf("turned bits %d and %d: One = %q, %t", j, i, got, ok)
				}
				b[j/8] ^= 1 << (j % 8)
			}
			b[i/8] ^= 1 << (i % 8)
		}
	}
	long := []byte(model(string(random(10, 70000))))
	rnd := rand.New(rand.NewSource(11))
	for range 100 {
		i, j := 3*8+rnd.Intn(len(long)*8-3*8), 3*8+rnd.Intn(len(long)*8-3*8)
		if i == j {
			continue
		}
		long[i/8] ^= 1 << (i % 8)
		long[j/8] ^= 1 << (j % 8)
		wantNone(t, "two bits of a long one", string(long))
		long[i/8] ^= 1 << (i % 8)
		long[j/8] ^= 1 << (j % 8)
	}
	if _, ok := frame.One(long); !ok {
		t.Error("what was turned back is none")
	}
}

// P4.4: neither bytes nor their spare room are changed.
func TestNothingIsChanged(t *testing.T) {
	for _, s := range []string{"", "abc", strings.Repeat("x", 130)} {
		whole := append([]byte(model(s)+model("y")), bytes.Repeat([]byte{0xee}, 400)...)
		before := bytes.Clone(whole)
		for _, size := range []int{0, 1, len(model(s)), len(model(s) + model("y"))} {
			b := whole[:size]
			frame.Put(b, s)
			frame.Sum(b)
			frame.Split(b)
			frame.One(b)
			if !bytes.Equal(whole, before) {
				t.Fatalf("of %d bytes some are changed", size)
			}
		}
	}
}

// P4.4: what is put is new memory: two records that are put behind the same bytes know nothing of one another.
func TestPutIsNewMemory(t *testing.T) {
	room := make([]byte, 2, 600)
	copy(room, "ab")
	one := frame.Put(room, "one")
	two := frame.Put(room, "two")
	if string(one) != "ab"+model("one") || string(two) != "ab"+model("two") {
		t.Errorf("%x, %x", one, two)
	}
	clear(one)
	if string(room) != "ab" || string(two) != "ab"+model("two") {
		t.Error("an answer shares memory")
	}
	base := frame.Put(nil, "base")
	three, four := frame.Put(base, "3"), frame.Put(base, "4")
	if string(three) != model("base")+model("3") || string(four) != model("base")+model("4") || string(base) != model("base") {
		t.Error("two records behind an answer share memory")
	}
}

// P4.4: what is written into bytes behind a call is seen by the next call, and by no earlier answer.
func TestNothingIsKept(t *testing.T) {
	b := []byte(model("abc") + model("def"))
	list, n := frame.Split(b)
	other, _ := frame.Split(b)
	one, ok := frame.One(b[:len(model("abc"))])
	sum := frame.Sum(b)
	put := frame.Put(b, "x")
	clear(b)
	if !slices.Equal(list, []string{"abc", "def"}) || n != len(b) || one != "abc" || !ok || string(put) != model("abc")+model("def")+model("x") {
		t.Errorf("%q, %d, %q, %x", list, n, one, put)
	}
	if frame.Sum(b) == sum {
		t.Error("a check is kept")
	}
	wantSplit(t, "written anew", string(b), nil)
	list[0] = "changed"
	if other[0] != "abc" {
		t.Error("two answers share a list")
	}
	copy(b, model("abc"))
	wantSplit(t, "written again", string(b), []string{"abc"})
}
