package code_test

import (
	"bytes"
	"math"
	"math/rand"
	"strings"
	"testing"

	"rootstock/code"
)

// numbers are the edges of every size, and what lies beside them.
func numbers() []uint64 {
	list := []uint64{0, 1, 2, 63, 64, 126, 127, 128, 129, 255, 256, 300, math.MaxInt64, math.MaxUint64 - 1, math.MaxUint64}
	for shift := 1; shift < 64; shift++ {
		p := uint64(1) << shift
		list = append(list, p-1, p, p+1)
	}
	return list
}

// ints are the same edges, above 0 and below.
func ints() []int {
	list := []int{math.MinInt, math.MinInt + 1, math.MaxInt - 1, math.MaxInt}
	for _, n := range numbers() {
		list = append(list, int(n), -int(n), ^int(n))
	}
	return list
}

// P1.1: the bytes of numbers that the chapter's words give by hand.
func TestUintBytes(t *testing.T) {
	cases := []struct {
		n    uint64
		want string
	}{
		{0, "\x00"},
		{1, "\x01"},
		{127, "\x7f"},
		{128, "\x80\x01"},
		{255, "\xff\x01"},
		{256, "\x80\x02"},
		{300, "\xac\x02"},
		{16383, "\xff\x7f"},
		{16384, "\x80\x80\x01"},
		{1<<63 - 1, "\xff\xff\xff\xff\xff\xff\xff\xff\x7f"},
		{1 << 63, "\x80\x80\x80\x80\x80\x80\x80\x80\x80\x01"},
		{math.MaxUint64, "\xff\xff\xff\xff\xff\xff\xff\xff\xff\x01"},
	}
	for _, c := range cases {
		if got := string(code.Uint(nil, c.n)); got != c.want {
			t.Errorf("Uint(%d) = %x, want %x", c.n, got, c.want)
		}
		if got := string(code.Uint([]byte("ab"), c.n)); got != "ab"+c.want {
			t.Errorf("Uint(ab, %d) = %x", c.n, got)
		}
		if got := code.Size(c.n); got != len(c.want) {
			t.Errorf("Size(%d) = %d, want %d", c.n, got, len(c.want))
		}
	}
}

// P1.1: Size is how many bytes Uint writes, at every edge.
func TestSizeIsWhatUintWrites(t *testing.T) {
	for _, n := range numbers() {
		if got, want := code.Size(n), len(code.Uint(nil, n)); got != want {
			t.Errorf("Size(%d) = %d, Uint writes %d", n, got, want)
		}
	}
}

// P1.1: n is written as 2 n, or, below 0, as -2 n - 1.
func TestIntBytes(t *testing.T) {
	cases := []struct {
		n    int
		want uint64
	}{
		{0, 0}, {-1, 1}, {1, 2}, {-2, 3}, {63, 126}, {-64, 127}, {64, 128}, {-65, 129}, {150, 300},
		{math.MaxInt, math.MaxUint64 - 1}, {math.MinInt, math.MaxUint64}, {math.MinInt + 1, math.MaxUint64 - 2},
	}
	for _, c := range cases {
		want := append([]byte("x"), code.Uint(nil, c.want)...)
		if got := code.Int([]byte("x"), c.n); !bytes.Equal(got, want) {
			t.Errorf("Int(%d) = %x, want %x", c.n, got, want)
		}
	}
}

// P1.1: a text is how many bytes it has, and these.
func TestTextBytes(t *testing.T) {
	long := strings.Repeat("ab\x00\xff", 75)
	cases := []struct{ s, want string }{
		{"", "\x00"},
		{"a", "\x01a"},
		{"\x00\x80\xff", "\x03\x00\x80\xff"},
		{long[:127], "\x7f" + long[:127]},
		{long[:128], "\x80\x01" + long[:128]},
		{long, "\xac\x02" + long},
	}
	for _, c := range cases {
		if got := string(code.Text([]byte("x"), c.s)); got != "x"+c.want {
			t.Errorf("Text(%q) = %x", c.s, got)
		}
		if got := string(code.Text(nil, c.s)); got != c.want {
			t.Errorf("Text(nil, %q) = %x", c.s, got)
		}
	}
}

// P1.1: nil and empty bytes mean the same.
func TestNilAndEmpty(t *testing.T) {
	for _, b := range [][]byte{nil, {}} {
		if got := string(code.Uint(b, 5)) + string(code.Int(b, 5)) + string(code.Text(b, "5")); got != "\x05\x0a\x015" {
			t.Errorf("%x", got)
		}
		if r := code.Read(b); !r.Good() || !r.End() {
			t.Error("a reader of nothing has a fault")
		}
	}
}

// wantFault asks a reader that has a fault everything, in two orders.
func wantFault(t *testing.T, r *code.Reader, what string) {
	t.Helper()
	for range 2 {
		if r.Good() || r.End() {
			t.Errorf("%s: no fault", what)
		}
		if r.Uint() != 0 || r.Int() != 0 || r.In(-9, 9) != 0 || r.In(3, 9) != 0 || r.Take(0) != "" || r.Take(1) != "" || r.Text(9) != "" || r.Text(-1) != "" {
			t.Errorf("%s: more than zero values behind a fault", what)
		}
	}
}

// P1.1: what is no number is a fault, for every call that takes one; what stands behind it is gone.
func TestNumbersThatAreFaults(t *testing.T) {
	for _, s := range []string{
		"\x80", "\xff", "\xac", "\x80\x80\x80",
		"\x80\x00", "\xac\x82\x00", "\xff\x00", "\x81\x80\x80\x00",
		"\x80\x80\x80\x80\x80\x80\x80\x80\x80\x00",
		"\xff\xff\xff\xff\xff\xff\xff\xff\xff\x02",
		"\xff\xff\xff\xff\xff\xff\xff\xff\xff\x03",
		"\x80\x80\x80\x80\x80\x80\x80\x80\x80\x02",
		"\x80\x80\x80\x80\x80\x80\x80\x80\x80\x40",
		"\x80\x80\x80\x80\x80\x80\x80\x80\x80\x7f",
		"\x80\x80\x80\x80\x80\x80\x80\x80\x80\x80",
		"\xff\xff\xff\xff\xff\xff\xff\xff\xff\x81\x00",
		"\x80\x80\x80\x80\x80\x80\x80\x80\x80\x80\x01",
		"\xff\xff\xff\xff\xff\xff\xff\xff\xff\xff\x01",
		strings.Repeat("\x80", 64) + "\x01",
		strings.Repeat("\x80", 65) + "\x01",
		strings.Repeat("\x80", 1000),
	} {
		for _, behind := range []string{"", "\x01", "\x02abc"} {
			b := []byte(s + behind)
			if number, _, ok := modelNumber(s + behind); ok {
				t.Logf("%x is the number %d", b, number)
				continue // what ended too early goes on in what stands behind it
			}
			for name, take := range map[string]func(*code.Reader) bool{
				"Uint": func(r *code.Reader) bool { return r.Uint() == 0 },
				"Int":  func(r *code.Reader) bool { return r.Int() == 0 },
				"In":   func(r *code.Reader) bool { return r.In(math.MinInt, math.MaxInt) == 0 },
				"Text": func(r *code.Reader) bool { return r.Text(math.MaxInt) == "" },
			} {
				r := code.Read(b)
				if !take(r) {
					t.Errorf("%s of %x isn't zero", name, b)
				}
				wantFault(t, r, name)
			}
		}
	}
}

// P1.1: 0 as a first byte is the number 0, and is none of the next one's.
func TestNoughtAsFirstByte(t *testing.T) {
	r := code.Read([]byte("\x00\x00\x80\x80\x01\x00"))
	if r.Uint() != 0 || r.Uint() != 0 || r.Uint() != 1<<14 || r.End() || r.Int() != 0 || !r.End() {
		t.Error("noughts")
	}
}

// P1.1: nothing is left of empty bytes, so every number and text is a fault there.
func TestBytesThatEnd(t *testing.T) {
	r := code.Read(nil)
	if r.Uint() != 0 {
		t.Error("Uint")
	}
	wantFault(t, r, "Uint of nothing")
	r = code.Read(nil)
	if r.In(-1, 1) != 0 {
		t.Error("In")
	}
	wantFault(t, r, "In of nothing")
	r = code.Read(nil)
	if r.Text(5) != "" {
		t.Error("Text")
	}
	wantFault(t, r, "Text of nothing")
	r = code.Read([]byte{1})
	if r.Int() != -1 || !r.End() || r.Int() != 0 {
		t.Error("Int")
	}
	wantFault(t, r, "Int behind the end")
}

// P1.1: In takes what lies between its bounds, both of them included.
func TestIn(t *testing.T) {
	cases := []struct {
		n, lo, hi int
		ok        bool
	}{
		{5, 5, 5, true}, {5, 4, 6, true}, {5, 5, 6, true}, {5, 4, 5, true},
		{5, 6, 9, false}, {5, 1, 4, false}, {5, 6, 4, false}, {5, 9, 1, false},
		{-5, -5, 0, true}, {-5, -9, -5, true}, {-5, -4, 0, false}, {-5, -9, -6, false},
		{0, 0, 0, true}, {0, 1, 9, false}, {0, -9, -1, false}, {0, 1, -1, false},
		{math.MinInt, math.MinInt, math.MaxInt, true}, {math.MaxInt, math.MinInt, math.MaxInt, true},
		{math.MinInt, math.MinInt + 1, math.MaxInt, false}, {math.MaxInt, math.MinInt, math.MaxInt - 1, false},
	}
	for _, c := range cases {
		r := code.Read(append(code.Int(nil, c.n), 2))
		got := r.In(c.lo, c.hi)
		if !c.ok {
			if got != 0 {
				t.Errorf("In(%d, %d) of %d = %d", c.lo, c.hi, c.n, got)
			}
			wantFault(t, r, "In")
			continue
		}
		if got != c.n || !r.Good() || r.End() || r.Int() != 1 || !r.End() {
			t.Errorf("In(%d, %d) of %d = %d", c.lo, c.hi, c.n, got)
		}
	}
}

// P1.1: Take takes bytes as they are, or it is a fault.
func TestTake(t *testing.T) {
	r := code.Read([]byte("\x80\x00\xffabc"))
	if r.Take(0) != "" || r.Take(3) != "\x80\x00\xff" || r.Take(0) != "" || r.End() || r.Take(3) != "abc" || !r.End() || r.Take(0) != "" || !r.End() {
		t.Error("Take")
	}
	if r.Take(1) != "" {
		t.Error("Take behind the end")
	}
	wantFault(t, r, "Take behind the end")
	for _, n := range []int{-1, -3, math.MinInt, 4, 5, math.MaxInt} {
		r := code.Read([]byte("abc"))
		if got := r.Take(n); got != "" {
			t.Errorf("Take(%d) = %q", n, got)
		}
		wantFault(t, r, "Take")
	}
}

// P1.1: Text takes a text of most bytes at most.
func TestTextOfMost(t *testing.T) {
	long := strings.Repeat("z", 300)
	cases := []struct {
		s    string
		most int
		ok   bool
	}{
		{"", 0, true}, {"", 9, true}, {"", -1, false}, {"", math.MinInt, false},
		{"abc", 3, true}, {"abc", 4, true}, {"abc", math.MaxInt, true},
		{"abc", 2, false}, {"abc", 0, false}, {"abc", -1, false}, {"abc", -3, false}, {"abc", math.MinInt, false},
		{long, 300, true}, {long, 299, false}, {long, 44, false},
	}
	for _, c := range cases {
		r := code.Read(append(code.Text(nil, c.s), "\x02x"...))
		got := r.Text(c.most)
		if !c.ok {
			if got != "" {
				t.Errorf("Text(%d) of %q = %q", c.most, c.s, got)
			}
			wantFault(t, r, "Text")
			continue
		}
		if got != c.s || !r.Good() || r.End() || r.Int() != 1 || r.Take(1) != "x" || !r.End() {
			t.Errorf("Text(%d) of %q = %q", c.most, c.s, got)
		}
	}
}

// P1.1: a text of which not all bytes are there is a fault, however many it says it has.
func TestTextThatIsCut(t *testing.T) {
	for _, n := range append(numbers(), 1<<32+3, 1<<63+3) {
		if n <= 3 {
			continue
		}
		r := code.Read(append(code.Uint(nil, n), "abc"...))
		if got := r.Text(math.MaxInt); got != "" {
			t.Errorf("a text of %d bytes: %q", n, got)
		}
		wantFault(t, r, "a text that is cut")
	}
}

// P1.1: a nil reader answers zero values, and false.
func TestNilReader(t *testing.T) {
	var r *code.Reader
	for range 2 {
		if r.Uint() != 0 || r.Int() != 0 || r.In(1, 2) != 0 || r.In(-1, 1) != 0 || r.Take(0) != "" || r.Take(1) != "" || r.Take(-1) != "" || r.Text(1) != "" || r.Text(-1) != "" || r.Good() || r.End() {
			t.Error("a nil reader answers something")
		}
	}
}

// modelNumber reads a number by the chapter's words, on digits to the base 128.
func modelNumber(s string) (uint64, int, bool) {
	size := 0
	for size < len(s) && s[size] >= 0x80 {
		size++
	}
	if size == len(s) {
		return 0, 0, false
	}
	size++
	if size > 1 && s[size-1] == 0 || size > 10 {
		return 0, 0, false
	}
	n := uint64(0)
	for i := size - 1; i >= 0; i-- {
		if n > math.MaxUint64/128 {
			return 0, 0, false
		}
		n = n*128 + uint64(s[i]%128)
	}
	return n, size, true
}

// model is a reader by the chapter's words: where it is in its bytes, or at -1 behind a fault.
type model struct {
	s  string
	at int
}

func (m *model) number() (uint64, bool) {
	if m.at < 0 {
		return 0, false
	}
	n, size, ok := modelNumber(m.s[m.at:])
	m.at += size
	if !ok {
		m.at = -1
	}
	return n, ok
}

func (m *model) integer() (int, bool) {
	n, ok := m.number()
	if n%2 == 1 {
		return -int(n/2) - 1, ok
	}
	return int(n / 2), ok
}

func (m *model) in(lo, hi int) int {
	n, ok := m.integer()
	if !ok || n < lo || n > hi {
		m.at = -1
		return 0
	}
	return n
}

func (m *model) take(n int) string {
	if m.at < 0 || n < 0 || n > len(m.s)-m.at {
		m.at = -1
		return ""
	}
	m.at += n
	return m.s[m.at-n : m.at]
}

func (m *model) text(most int) string {
	n, ok := m.number()
	if !ok || most < 0 || n > uint64(most) || n > uint64(len(m.s)) {
		m.at = -1
		return ""
	}
	return m.take(int(n))
}

// act is one call of a reader, and its arguments.
type act struct {
	call   int
	lo, hi int
}

// same does an act on both, and tells whether their answers are the same.
func (m *model) same(r *code.Reader, a act) bool {
	same := true
	switch a.call {
	case 0:
		n, _ := m.number()
		same = r.Uint() == n
	case 1:
		n, _ := m.integer()
		same = r.Int() == n
	case 2:
		same = r.In(a.lo, a.hi) == m.in(a.lo, a.hi)
	case 3:
		same = r.Take(a.lo) == m.take(a.lo)
	case 4:
		same = r.Text(a.lo) == m.text(a.lo)
	}
	return same && r.Good() == (m.at >= 0) && r.End() == (m.at == len(m.s))
}

// P1.1: two calls, one behind the other, at all bytes of some short kinds.
func TestAllShortBytes(t *testing.T) {
	acts := []act{{0, 0, 0}, {1, 0, 0}, {2, -1, 1}, {2, 1, 0}, {3, 0, 0}, {3, 1, 0}, {3, 2, 0}, {3, -1, 0}, {4, 0, 0}, {4, 1, 0}, {4, 2, 0}, {4, -1, 0}}
	digits := []byte{0x00, 0x01, 0x02, 0x03, 0x7f, 0x80, 0x81, 0xff}
	var list []string
	list = append(list, "")
	for i := 0; i < len(list) && len(list[i]) < 4; i++ {
		for _, d := range digits {
			list = append(list, list[i]+string([]byte{d}))
		}
	}
	for _, s := range list {
		for _, first := range acts {
			for _, second := range acts {
				r, m := code.Read([]byte(s)), &model{s: s}
				if !m.same(r, first) || !m.same(r, second) {
					t.Fatalf("%x: %v, then %v", s, first, second)
				}
			}
		}
	}
}

// P1.1: long rows of calls, at bytes that are mostly well formed.
func TestManyCalls(t *testing.T) {
	rnd := rand.New(rand.NewSource(1))
	edges := numbers()
	for round := range 20000 {
		var b []byte
		for range rnd.Intn(6) {
			switch rnd.Intn(4) {
			case 0:
				b = code.Uint(b, edges[rnd.Intn(len(edges))])
			case 1:
				b = code.Int(b, rnd.Intn(9)-4)
			case 2:
				b = code.Text(b, "abcd"[:rnd.Intn(5)])
			case 3:
				b = append(b, byte(rnd.Intn(256)))
			}
		}
		r, m := code.Read(b), &model{s: string(b)}
		for range rnd.Intn(9) {
			a := act{rnd.Intn(5), rnd.Intn(8) - 2, rnd.Intn(8)}
			if !m.same(r, a) {
				t.Fatalf("round %d: %x: %v", round, b, a)
			}
		}
	}
}

// P1.2: numbers are there and back, and nothing is left.
func TestNumbersThereAndBack(t *testing.T) {
	for _, n := range numbers() {
		r := code.Read(code.Uint(nil, n))
		if got := r.Uint(); got != n || !r.Good() || !r.End() {
			t.Errorf("Uint: %d is %d", n, got)
		}
	}
	for _, n := range ints() {
		r := code.Read(code.Int(nil, n))
		if got := r.Int(); got != n || !r.Good() || !r.End() {
			t.Errorf("Int: %d is %d", n, got)
		}
		r = code.Read(code.Int(nil, n))
		if got := r.In(n, n); got != n || !r.Good() || !r.End() {
			t.Errorf("In: %d is %d", n, got)
		}
	}
}

// P1.2: rows of numbers and texts are there and back, and nothing is left.
func TestRowsThereAndBack(t *testing.T) {
	rnd := rand.New(rand.NewSource(2))
	for range 3000 {
		var b []byte
		var checks []func(*code.Reader) bool
		for range rnd.Intn(12) {
			u := rnd.Uint64() >> rnd.Intn(64)
			n := int(rnd.Uint64()) >> rnd.Intn(64)
			s := strings.Repeat(string(rune(rnd.Intn(300))), rnd.Intn(100))
			switch rnd.Intn(4) {
			case 0:
				b = code.Uint(b, u)
				checks = append(checks, func(r *code.Reader) bool { return r.Uint() == u })
			case 1:
				b = code.Int(b, n)
				checks = append(checks, func(r *code.Reader) bool { return r.Int() == n })
			case 2:
				b = code.Text(b, s)
				checks = append(checks, func(r *code.Reader) bool { return r.Text(len(s)) == s })
			case 3:
				b = append(b, s...)
				checks = append(checks, func(r *code.Reader) bool { return r.Take(len(s)) == s })
			}
		}
		r := code.Read(b)
		for i, check := range checks {
			if !check(r) || !r.Good() {
				t.Fatalf("%x: the thing %d", b, i)
			}
		}
		if !r.End() {
			t.Fatalf("%x: something is left", b)
		}
	}
}

// oneWay tells whether bytes that one call reads to their end are those that its answer is written as.
func oneWay(b []byte) bool {
	r := code.Read(b)
	u := r.Uint()
	if r.End() && !bytes.Equal(code.Uint(nil, u), b) {
		return false
	}
	r = code.Read(b)
	n := r.Int()
	if r.End() && !bytes.Equal(code.Int(nil, n), b) {
		return false
	}
	r = code.Read(b)
	s := r.Text(len(b))
	return !r.End() || bytes.Equal(code.Text(nil, s), b)
}

// P1.3: of all bytes of up to two, and of many longer ones, there is one way only.
func TestOneWay(t *testing.T) {
	for n := range 1 << 16 {
		hi, lo := byte(n>>8), byte(n)
		for _, b := range [][]byte{{lo}, {hi, lo}, {0x80, hi, lo}, {hi, lo, 0}, {0xff, 0xff, 0xff, 0xff, 0xff, 0xff, 0xff, 0xff, hi, lo}, {0x80, 0x80, 0x80, 0x80, 0x80, 0x80, 0x80, 0x80, 0x80, hi, lo}} {
			if !oneWay(b) {
				t.Fatalf("%x: another way", b)
			}
		}
	}
	rnd := rand.New(rand.NewSource(3))
	for range 100000 {
		b := make([]byte, rnd.Intn(14))
		for i := range b {
			b[i] = byte(rnd.Intn(4)) | byte(rnd.Intn(4)&2<<6)
		}
		if !oneWay(b) {
			t.Fatalf("%x: another way", b)
		}
	}
}

// P1.3: texts whose number of bytes is written longer than need be are faults.
func TestTextsOtherWays(t *testing.T) {
	for _, s := range []string{"\x80\x00", "\x83\x00abc", "\x83\x80\x00abc", "\x83\x80\x80\x80\x80\x80\x80\x80\x80\x00abc"} {
		r := code.Read([]byte(s))
		if got := r.Text(9); got != "" {
			t.Errorf("%x: %q", s, got)
		}
		wantFault(t, r, "a text's number that could be shorter")
	}
}

// writers are the three calls that put something behind bytes.
func writers() map[string]func([]byte) []byte {
	return map[string]func([]byte) []byte{
		"Uint":       func(b []byte) []byte { return code.Uint(b, 300) },
		"Uint of 0":  func(b []byte) []byte { return code.Uint(b, 0) },
		"Int":        func(b []byte) []byte { return code.Int(b, -300) },
		"Int of 0":   func(b []byte) []byte { return code.Int(b, 0) },
		"Text":       func(b []byte) []byte { return code.Text(b, "wxyz") },
		"Text of ''": func(b []byte) []byte { return code.Text(b, "") },
	}
}

// P1.4: what is handed in isn't changed, spare room included, and the answer shares nothing with it.
func TestWritersLeaveWhatIsHandedIn(t *testing.T) {
	for name, write := range writers() {
		for _, room := range []int{3, 4, 5, 6, 7, 8, 64} {
			whole := bytes.Repeat([]byte{0xee}, room)
			copy(whole, "abc")
			before := bytes.Clone(whole)
			got := write(whole[:3])
			if !bytes.Equal(whole, before) {
				t.Errorf("%s, room %d: what was handed in is changed: %x", name, room, whole)
			}
			want := bytes.Clone(got)
			for i := range whole {
				whole[i] = 'Q'
			}
			if !bytes.Equal(got, want) {
				t.Errorf("%s, room %d: the answer is the caller's memory", name, room)
			}
			for i := range got[:cap(got)] {
				got[:cap(got)][i] = 'R'
			}
			if !bytes.Equal(whole, bytes.Repeat([]byte{'Q'}, room)) {
				t.Errorf("%s, room %d: what is handed in is the answer's memory", name, room)
			}
		}
	}
}

// P1.4: two answers share no memory, even those behind the same bytes.
func TestAnswersShareNothing(t *testing.T) {
	start := append(make([]byte, 0, 64), "abc"...)
	for name, write := range writers() {
		one := write(start)
		two := write(one[:3])
		want := bytes.Clone(one)
		for i := range two[:cap(two)] {
			two[:cap(two)][i] = 'Q'
		}
		if !bytes.Equal(one, want) {
			t.Errorf("%s: two answers share memory", name)
		}
	}
}

// P1.4: a reader neither keeps nor changes the bytes handed to it, and two readers of them know nothing of one another.
func TestReaderKeepsNothing(t *testing.T) {
	whole := append(make([]byte, 0, 64), "\x03abc\x02xy"...)
	before := bytes.Clone(whole[:cap(whole)])
	one, two := code.Read(whole), code.Read(whole)
	first := one.Text(3)
	if !bytes.Equal(whole[:cap(whole)], before) {
		t.Error("a reader changes what is handed in")
	}
	for i := range whole {
		whole[i] = 0xff
	}
	if first != "abc" || one.Take(3) != "\x02xy" || !one.End() {
		t.Error("a reader keeps what is handed in")
	}
	if two.Text(3) != "abc" || two.Text(2) != "xy" || !two.End() {
		t.Error("a reader moves another one on")
	}
}
