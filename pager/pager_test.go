package pager_test

import (
	"bytes"
	"encoding/binary"
	"fmt"
	"hash/crc32"
	"maps"
	"math"
	"slices"
	"strings"
	"testing"

	"rootstock/api"
	"rootstock/disk"
	"rootstock/pager"
)

const all = uint64(math.MaxUint64)

// full answers what a page has of which these bytes were written.
func full(s string) string { return s + strings.Repeat("\x00", api.PageSize-len(s)) }

// fat answers the bytes of a page without spare room, each that byte.
func fat(c string) string { return strings.Repeat(c, api.PageSize) }

// wantErr fails if a call didn't answer that error.
func wantErr(t *testing.T, what string, got, want api.Errno) {
	t.Helper()
	if got != want {
		t.Errorf("%s: error %d, want %d", what, got, want)
	}
}

// open answers the pager of a file that can be opened.
func open(t *testing.T, d *disk.Disk, name string) *pager.Pager {
	t.Helper()
	p, e := pager.Open(d, name)
	if p == nil || e != api.OK {
		t.Fatalf("Open(%q): %v, error %d", name, p, e)
	}
	return p
}

// wantNoOpen fails if Open doesn't answer just that error.
func wantNoOpen(t *testing.T, what string, d *disk.Disk, name string, want api.Errno) {
	t.Helper()
	if p, e := pager.Open(d, name); p != nil || e != want {
		t.Errorf("%s: Open(%q): %v, error %d, want none and %d", what, name, p, e, want)
	}
}

// writes answers what is handed to Commit, by a page's number.
func writes(pages map[int]string) map[int][]byte {
	out := map[int][]byte{}
	for i, s := range pages {
		out[i] = []byte(s)
	}
	return out
}

// commit commits pages that can be.
func commit(t *testing.T, p *pager.Pager, pages map[int]string) {
	t.Helper()
	wantErr(t, "Commit", p.Commit(writes(pages)), api.OK)
}

// lay writes pages of a file past the pager, and syncs them; of no pages it makes an empty file.
func lay(t *testing.T, d *disk.Disk, name string, pages ...string) {
	t.Helper()
	for i, s := range pages {
		wantErr(t, "Write", d.Write(name, i, []byte(s)), api.OK)
	}
	if len(pages) == 0 {
		wantErr(t, "Write", d.Write(name, 0, nil), api.OK)
		wantErr(t, "Cut", d.Cut(name, 0), api.OK)
	}
	wantErr(t, "Sync", d.Sync(name), api.OK)
}

// pagesOf answers bytes cut into pages.
func pagesOf(s string) []string {
	var pages []string
	for len(s) > api.PageSize {
		pages = append(pages, s[:api.PageSize])
		s = s[api.PageSize:]
	}
	return append(pages, s)
}

// checked answers the bytes of a record by the chapters' words.
func checked(text string) string {
	b := append(binary.AppendUvarint(nil, uint64(len(text))), text...)
	return string(binary.LittleEndian.AppendUint32(b, crc32.Checksum(b, crc32.MakeTable(crc32.Castagnoli))))
}

// told is a page of a record.
type told struct {
	i int
	s string
}

// text answers a record of pages by the chapters' words, in the order in which they are handed in.
func text(count int, pages ...told) string {
	b := binary.AppendVarint(nil, int64(count))
	for _, w := range pages {
		b = binary.AppendUvarint(binary.AppendVarint(b, int64(w.i)), uint64(len(w.s)))
		b = append(b, w.s...)
	}
	return string(b)
}

// recordOf answers the bytes of the record of pages.
func recordOf(pages map[int]string) string {
	var list []told
	for _, i := range slices.Sorted(maps.Keys(pages)) {
		list = append(list, told{i, pages[i]})
	}
	return checked(text(len(list), list...))
}

// wantPages fails if a pager's file hasn't just these pages.
func wantPages(t *testing.T, p *pager.Pager, pages ...string) {
	t.Helper()
	if p.Count() != len(pages) {
		t.Errorf("Count %d, want %d", p.Count(), len(pages))
	}
	for i, s := range pages {
		if b, e := p.Read(i); e != api.OK || string(b) != full(s) {
			t.Errorf("page %d is %.20q, error %d, want %.20q", i, b, e, s)
		}
	}
	for _, i := range []int{len(pages), len(pages) + 1, -1, math.MinInt, math.MaxInt} {
		if b, e := p.Read(i); len(b) != 0 || e != api.ErrNone {
			t.Errorf("page %d is %.20q, error %d, want none", i, b, e)
		}
	}
}

// wantNames fails if the disk has other files.
func wantNames(t *testing.T, d *disk.Disk, names ...string) {
	t.Helper()
	if got := d.Names(); !slices.Equal(got, names) {
		t.Errorf("Names = %q, want %q", got, names)
	}
}

// wantActs fails if there were more acts, or fewer, since there were that many.
func wantActs(t *testing.T, what string, d *disk.Disk, since, want int) {
	t.Helper()
	if got := d.Acts() - since; got != want {
		t.Errorf("%s: %d acts, want %d", what, got, want)
	}
}

// image answers all that a disk has, in order.
func image(d *disk.Disk) string {
	var out strings.Builder
	for _, name := range d.Names() {
		fmt.Fprintf(&out, "%q:", name)
		for i := range d.Count(name) {
			b, _ := d.Read(name, i)
			out.Write(b)
		}
	}
	return out.String()
}

// P6.1: a file that isn't there has no pages, and isn't made by opening it.
func TestOpenOfNone(t *testing.T) {
	d := disk.New(9)
	p := open(t, d, "a")
	wantPages(t, p)
	wantNames(t, d)
	wantActs(t, "Open", d, 0, 0)
}

// P6.1: a file that is there has its pages; other files are let alone, whatever they hold.
func TestOpenOfFile(t *testing.T) {
	d := disk.New(99)
	lay(t, d, "a", "0", fat("1"), "")
	for _, name := range []string{"-j", "-t", "a-", "a-jj", "a-tt", "aj", "at", "b", "b-j", "b-t", "A-j", "A-t"} {
		lay(t, d, name, "other")
	}
	lay(t, d, "empty")
	before, acts := image(d), d.Acts()
	wantPages(t, open(t, d, "a"), "0", fat("1"), "")
	wantPages(t, open(t, d, "empty"))
	if image(d) != before {
		t.Error("the disk is changed")
	}
	wantActs(t, "Open", d, acts, 0)
}

// P6.1: any bytes are a name.
func TestNames(t *testing.T) {
	for _, name := range []string{"", "\x00", "-j", "-t", "a-j", "a-t", "\xff", strings.Repeat("n", 1000)} {
		d := disk.New(9)
		lay(t, d, name+"-t", "draft")
		lay(t, d, name+"-j", recordOf(map[int]string{0: "0", 1: "1"}))
		p := open(t, d, name)
		wantPages(t, p, "0", "1")
		commit(t, p, map[int]string{1: "one", 2: "two"})
		wantPages(t, p, "0", "one", "two")
		wantPages(t, open(t, d, name), "0", "one", "two")
		wantNames(t, d, name)
	}
}

// P6.1: a nil disk, and one whose power is off, can't be opened; the first is told first.
func TestOpenRefused(t *testing.T) {
	wantNoOpen(t, "nil", nil, "a", api.ErrNil)
	d := disk.New(9)
	lay(t, d, "a-t", "draft")
	lay(t, d, "a-j", "no record")
	acts := d.Acts()
	d.Off(all)
	wantNoOpen(t, "off", d, "a", api.ErrDown)
	wantNoOpen(t, "off", d, "b", api.ErrDown)
	d.On()
	wantActs(t, "Open", d, acts, 0)
	wantNames(t, d, "a-j", "a-t")
}

// P6.1: what a nil pager answers.
func TestNilPager(t *testing.T) {
	var p *pager.Pager
	if p.Count() != 0 {
		t.Errorf("Count %d", p.Count())
	}
	for _, i := range []int{-1, 0, 1} {
		if b, e := p.Read(i); len(b) != 0 || e != api.ErrNil {
			t.Errorf("Read(%d) = %.20q, %d", i, b, e)
		}
	}
	for _, w := range []map[int][]byte{nil, {}, {0: nil}, {-1: make([]byte, 600)}} {
		wantErr(t, "Commit", p.Commit(w), api.ErrNil)
	}
}

// P6.1: a draft is removed, in one act, whatever it holds; nothing of it is written.
func TestOpenWithDraft(t *testing.T) {
	good := recordOf(map[int]string{0: "new", 1: "new"})
	for _, draft := range [][]string{{}, {"x"}, {good}, {fat("x"), fat("y"), ""}} {
		d := disk.New(9)
		lay(t, d, "a", "0")
		lay(t, d, "a-t", draft...)
		acts := d.Acts()
		wantPages(t, open(t, d, "a"), "0")
		wantNames(t, d, "a")
		wantActs(t, "Open", d, acts, 1)
		lay(t, d, "b-t", draft...)
		wantPages(t, open(t, d, "b"))
		wantNames(t, d, "a")
	}
}

// P6.1: a journal's pages are written, the file is synced, and the journal removed.
func TestOpenWithJournal(t *testing.T) {
	cases := []struct {
		pages map[int]string
		want  []string
	}{
		{map[int]string{0: "new"}, []string{"new", "1", "2"}},
		{map[int]string{2: fat("n")}, []string{"0", "1", fat("n")}},
		{map[int]string{1: ""}, []string{"0", "", "2"}},
		{map[int]string{3: "3"}, []string{"0", "1", "2", "3"}},
		{map[int]string{3: "3", 4: "", 5: fat("5")}, []string{"0", "1", "2", "3", "", fat("5")}},
		{map[int]string{0: "a", 2: "c", 3: "d"}, []string{"a", "1", "c", "d"}},
		{map[int]string{}, []string{"0", "1", "2"}},
	}
	for k, c := range cases {
		for _, drafts := range []int{0, 1} {
			d := disk.New(20)
			lay(t, d, "a", "0", "1", "2")
			lay(t, d, "a-j", pagesOf(recordOf(c.pages))...)
			if drafts == 1 {
				lay(t, d, "a-t", "draft")
			}
			acts := d.Acts()
			p := open(t, d, "a")
			wantPages(t, p, c.want...)
			wantNames(t, d, "a")
			wantActs(t, fmt.Sprint("journal ", k), d, acts, drafts+len(c.pages)+2)
			d.Off(0)
			d.On()
			wantPages(t, open(t, d, "a"), c.want...)
		}
	}
}

// P6.1: a journal makes the file if it isn't there; one of no pages doesn't.
func TestJournalWithoutFile(t *testing.T) {
	d := disk.New(9)
	lay(t, d, "a-j", recordOf(map[int]string{0: "0", 1: "1"}))
	wantPages(t, open(t, d, "a"), "0", "1")
	wantNames(t, d, "a")
	lay(t, d, "b-j", recordOf(nil))
	wantPages(t, open(t, d, "b"))
	wantNames(t, d, "a")
}

// P6.1: noughts behind a journal's record belong to its page.
func TestJournalWithNoughts(t *testing.T) {
	for size := 480; size < 512; size++ {
		d := disk.New(9)
		pages := map[int]string{0: strings.Repeat("x", size)}
		lay(t, d, "a-j", pagesOf(recordOf(pages))...)
		wantPages(t, open(t, d, "a"), pages[0])
	}
}

// P6.1: a journal that is no record, or none of pages that the file can have, is told; it and the file stay.
func TestOpenForm(t *testing.T) {
	one := told{0, "new"}
	good := checked(text(2, one, told{3, "3"}))
	long := checked(text(2, told{0, fat("x")}, told{1, fat("y")}))
	cases := map[string][]string{
		"no pages":               {},
		"an empty page":          {""},
		"pages of noughts":       {"", "", ""},
		"no record":              {"xyz"},
		"cut off":                {good[:len(good)-1]},
		"a page is missing":      pagesOf(long)[:2],
		"the first page is":      pagesOf(long)[1:],
		"other order":            {pagesOf(long)[1], pagesOf(long)[0], pagesOf(long)[2]},
		"a page is lost":         {pagesOf(long)[0], "", pagesOf(long)[2]},
		"a byte ahead":           {"\x00" + good},
		"a byte behind":          {good + "x"},
		"bytes pages behind":     {good, "", "\x01"},
		"two":                    {good + good},
		"another one behind":     {good + checked("")},
		"the next page too":      {good, good},
		"an empty one":           {checked("")},
		"no number":              {checked("\x80")},
		"a number in two ways":   {checked("\x82\x00" + text(1, one)[1:])},
		"too few pages":          {checked(text(2, one))},
		"too many pages":         {checked(text(0, one))},
		"more behind":            {checked(text(1, one) + "\x00")},
		"below no pages":         {checked(text(-1))},
		"so many pages":          {checked(text(math.MaxInt, one))},
		"a number below 0":       {checked(text(1, told{-1, "x"}))},
		"the least number":       {checked(text(1, told{math.MinInt, "x"}))},
		"no page of a disk":      {checked(text(1, told{api.MaxPages, "x"}))},
		"the greatest number":    {checked(text(2, one, told{math.MaxInt, "x"}))},
		"not rising":             {checked(text(2, told{1, "x"}, told{0, "y"}))},
		"the same":               {checked(text(2, told{1, "x"}, told{1, "x"}))},
		"a page too long":        {checked(text(1, told{0, fat("x") + "x"}))[:512], checked(text(1, told{0, fat("x") + "x"}))[512:]},
		"bytes too few":          {checked(text(1, one)[:4])},
		"beyond the file":        {checked(text(1, told{4, "x"}))},
		"beyond the file, later": {checked(text(3, one, told{3, "x"}, told{5, "x"}))},
	}
	for what, pages := range cases {
		d := disk.New(20)
		lay(t, d, "a", "0", "1", "2")
		lay(t, d, "a-j", pages...)
		before, acts := image(d), d.Acts()
		wantNoOpen(t, what, d, "a", api.ErrForm)
		wantNoOpen(t, what+", again", d, "a", api.ErrForm)
		if image(d) != before {
			t.Errorf("%s: the disk is changed", what)
		}
		wantActs(t, what, d, acts, 0)
		lay(t, d, "a-t", "draft")
		wantNoOpen(t, what+", with a draft", d, "a", api.ErrForm)
		if image(d) != before {
			t.Errorf("%s: the draft isn't all that was removed", what)
		}
	}
}

// P6.1: a journal of which one bit is turned is none.
func TestTurnedJournal(t *testing.T) {
	good := recordOf(map[int]string{0: "new", 1: "other"})
	for i := range len(good) * 8 {
		b := []byte(good)
		b[i/8] ^= 1 << (i % 8)
		d := disk.New(9)
		lay(t, d, "a", "0")
		lay(t, d, "a-j", string(b))
		wantNoOpen(t, fmt.Sprint("bit ", i), d, "a", api.ErrForm)
	}
}

// P6.1: a journal whose new pages have no room any more is kept until they have; none is written until then.
func TestJournalWithoutRoom(t *testing.T) {
	d := disk.New(5)
	lay(t, d, "a", "0")
	lay(t, d, "a-j", recordOf(map[int]string{0: "new", 1: "1", 2: "2"}))
	lay(t, d, "b", "x", "y")
	before := image(d)
	wantNoOpen(t, "no room", d, "a", api.ErrFull)
	if image(d) != before {
		t.Error("the disk is changed")
	}
	lay(t, d, "b-t", "z")
	wantErr(t, "Rename", d.Rename("b-t", "a-t"), api.OK)
	wantErr(t, "Cut", d.Cut("b", 1), api.OK)
	wantPages(t, open(t, d, "a"), "new", "1", "2")
	wantNames(t, d, "a", "b")
}

// P6.1: the chapter's example: three pages of the draft, Sync, Rename, two pages, Sync, Remove.
func TestExample(t *testing.T) {
	d := disk.New(9)
	p := open(t, d, "a")
	commit(t, p, map[int]string{0: fat("x"), 1: fat("y")})
	wantActs(t, "Commit", d, 0, 9)
	wantPages(t, p, fat("x"), fat("y"))
	wantNames(t, d, "a")
}

// P6.1: a draft's pages hold the record, in which pages have as many bytes as were handed in.
func TestActsOfCommit(t *testing.T) {
	cases := []map[int]string{
		{0: ""},
		{0: "x", 1: "y", 2: "z"},
		{1: fat("x")},
		{0: fat("x"), 1: fat("x"), 2: fat("x")},
		{2: "two", 3: "three", 4: fat("4")},
		// Records of 511, 512, 513 bytes: with 504 of the page they have 512.
		{0: strings.Repeat("x", 500)}, {0: strings.Repeat("x", 501)}, {0: strings.Repeat("x", 502)}, {0: strings.Repeat("x", 503)},
	}
	for _, pages := range cases {
		d := disk.New(99)
		lay(t, d, "a", "0", "1", "2")
		p := open(t, d, "a")
		acts := d.Acts()
		commit(t, p, pages)
		size := len(recordOf(pages))
		wantActs(t, fmt.Sprint("record of ", size), d, acts, (size+511)/512+2+len(pages)+2)
	}
}

// P6.1: each act of a Commit: where the power goes in it, the disk is as the chapter's order says.
func TestOrderOfCommit(t *testing.T) {
	pages := map[int]string{1: fat("x"), 3: fat("y"), 4: "z"}
	draft := pagesOf(recordOf(pages))
	old := []string{"0", "1", "2"}
	want := []map[string][]string{
		{"a": old, "a-t": draft[:1]},
		{"a": old, "a-t": draft[:2]},
		{"a": old, "a-t": draft[:3]},
		{"a": old, "a-t": draft},
		{"a": old, "a-t": draft},
		{"a": {"0", fat("x"), "2"}, "a-j": draft},
		{"a": {"0", fat("x"), "2", fat("y")}, "a-j": draft},
		{"a": {"0", fat("x"), "2", fat("y"), "z"}, "a-j": draft},
		{"a": {"0", fat("x"), "2", fat("y"), "z"}, "a-j": draft},
		{"a": {"0", fat("x"), "2", fat("y"), "z"}, "a-j": draft},
		{"a": {"0", fat("x"), "2", fat("y"), "z"}},
	}
	for n := range want {
		d := disk.New(99)
		lay(t, d, "a", old...)
		p := open(t, d, "a")
		e := api.ErrDown
		if n < len(want)-1 {
			d.Arm(n+1, all)
		} else {
			e = api.OK
		}
		wantErr(t, fmt.Sprint("act ", n+1), p.Commit(writes(pages)), e)
		d.On()
		model := disk.New(99)
		for name, list := range want[n] {
			lay(t, model, name, list...)
		}
		if image(d) != image(model) {
			t.Errorf("act %d: the disk is %.300q, want %.300q", n+1, image(d), image(model))
		}
	}
}

// P6.1: what is synced when: with nothing kept that wasn't, the draft is whole from the Rename on, and the file from the Remove on.
func TestWhatIsSyncedWhen(t *testing.T) {
	pages := map[int]string{0: "x", 1: "y"}
	record := recordOf(pages)
	want := []map[string]string{
		{"a": "0", "a-t": ""},
		{"a": "0", "a-t": ""},
		{"a": "0", "a-t": full(record)},
		{"a": "0", "a-j": full(record)},
		{"a": "0", "a-j": full(record)},
		{"a": "0", "a-j": full(record)},
		{"a": full("x") + full("y"), "a-j": full(record)},
	}
	for n := range want {
		d := disk.New(99)
		lay(t, d, "a", "0")
		p := open(t, d, "a")
		d.Arm(n+1, 0)
		wantErr(t, fmt.Sprint("act ", n+1), p.Commit(writes(pages)), api.ErrDown)
		d.On()
		for _, name := range []string{"a", "a-t", "a-j"} {
			var got strings.Builder
			for i := range d.Count(name) {
				b, _ := d.Read(name, i)
				got.Write(b)
			}
			w, has := want[n][name]
			if d.Has(name) != has || strings.TrimRight(got.String(), "\x00") != strings.TrimRight(w, "\x00") {
				t.Errorf("act %d: %s: %t, %.30q", n+1, name, d.Has(name), got.String())
			}
		}
	}
}

// P6.1: pages are written over, behind the last one, both at once; a page has noughts behind what was handed in.
func TestCommit(t *testing.T) {
	d := disk.New(99)
	p := open(t, d, "a")
	commit(t, p, map[int]string{0: fat("0")})
	wantPages(t, p, fat("0"))
	commit(t, p, map[int]string{0: "zero", 1: "", 2: fat("2")})
	wantPages(t, p, "zero", "", fat("2"))
	wantErr(t, "nil page", p.Commit(map[int][]byte{2: nil, 3: {}}), api.OK)
	wantPages(t, p, "zero", "", "", "")
	commit(t, p, map[int]string{1: "\x00\x01"})
	wantPages(t, p, "zero", "\x00\x01", "", "")
	lay(t, d, "b", "other")
	q := open(t, d, "b")
	commit(t, q, map[int]string{0: "b0", 1: "b1"})
	wantPages(t, q, "b0", "b1")
	wantPages(t, p, "zero", "\x00\x01", "", "")
	wantNames(t, d, "a", "b")
}

// P6.1: a Commit of no pages does nothing, but with the power off.
func TestCommitOfNone(t *testing.T) {
	d := disk.New(0)
	p := open(t, d, "a")
	wantErr(t, "nil", p.Commit(nil), api.OK)
	wantErr(t, "empty", p.Commit(map[int][]byte{}), api.OK)
	wantActs(t, "Commit", d, 0, 0)
	wantNames(t, d)
	d.Arm(1, 0)
	wantErr(t, "armed", p.Commit(nil), api.OK)
	d.Off(0)
	wantErr(t, "off", p.Commit(nil), api.ErrDown)
}

// P6.1: a Commit that can't be is refused with the error that is named first, and changes nothing.
func TestCommitRefused(t *testing.T) {
	long := fat("x") + "x"
	cases := []struct {
		pages map[int]string
		want  api.Errno
	}{
		{map[int]string{0: long}, api.ErrLong},
		{map[int]string{0: "x", 1: "y", 2: long}, api.ErrLong},
		{map[int]string{-1: "", 0: long}, api.ErrLong},
		{map[int]string{-1: long}, api.ErrLong},
		{map[int]string{9: long, 2: fat("f"), 3: fat("f")}, api.ErrLong},
		{map[int]string{-1: ""}, api.ErrArg},
		{map[int]string{math.MinInt: "", 0: ""}, api.ErrArg},
		{map[int]string{3: ""}, api.ErrArg},
		{map[int]string{math.MaxInt: ""}, api.ErrArg},
		{map[int]string{2: "", 4: ""}, api.ErrArg},
		{map[int]string{0: "", 1: "", 3: ""}, api.ErrArg},
		{map[int]string{2: "", math.MaxInt: ""}, api.ErrArg},
		{map[int]string{2: fat("f"), 3: fat("f"), 4: fat("f"), 6: fat("f")}, api.ErrArg},
		{map[int]string{2: fat("f"), 3: fat("f"), 4: fat("f"), 5: fat("f")}, api.ErrFull},
	}
	d := disk.New(8)
	lay(t, d, "a", "0", "1")
	p := open(t, d, "a")
	before, acts := image(d), d.Acts()
	for _, c := range cases {
		wantErr(t, fmt.Sprint(slices.Sorted(maps.Keys(c.pages))), p.Commit(writes(c.pages)), c.want)
	}
	if image(d) != before {
		t.Error("the disk is changed")
	}
	wantActs(t, "Commit", d, acts, 0)
	d.Off(0)
	for _, c := range cases {
		wantErr(t, "off", p.Commit(writes(c.pages)), api.ErrDown)
	}
	d.On()
	wantPages(t, open(t, d, "a"), "0", "1")
}

// P6.1: there must be room for the record and the new pages, and for no more; pages that are there take none.
func TestFull(t *testing.T) {
	cases := []struct {
		pages map[int]string
		need  int
	}{
		{map[int]string{0: "x"}, 1},
		{map[int]string{0: fat("x")}, 2},
		{map[int]string{0: fat("x"), 1: fat("x"), 2: fat("x")}, 4},
		{map[int]string{3: "x"}, 2},
		{map[int]string{3: "x", 4: "y", 5: "z"}, 4},
		{map[int]string{0: fat("x"), 3: fat("y")}, 4},
		{map[int]string{0: strings.Repeat("x", 502)}, 1},
		{map[int]string{0: strings.Repeat("x", 503)}, 2},
	}
	for _, c := range cases {
		for less := range c.need + 1 {
			d := disk.New(3 + c.need - less + 1)
			lay(t, d, "a", "0", "1", "2")
			lay(t, d, "b", "other")
			p := open(t, d, "a")
			before, acts := image(d), d.Acts()
			if less == 0 {
				commit(t, p, c.pages)
				wantPages(t, p, merged([]string{"0", "1", "2"}, c.pages)...)
				continue
			}
			wantErr(t, fmt.Sprint("need ", c.need, " less ", less), p.Commit(writes(c.pages)), api.ErrFull)
			wantActs(t, "Commit", d, acts, 0)
			if image(d) != before {
				t.Error("the disk is changed")
			}
		}
	}
}

// P6.1: the greatest Commits that a disk takes: of 2040 full pages the record has 2056, which is all that there is.
func TestGreatest(t *testing.T) {
	d := disk.New(api.MaxPages)
	p := open(t, d, "a")
	pages := map[int]string{}
	for i := range 4000 {
		pages[i] = fmt.Sprint(i)
	}
	commit(t, p, pages)
	if !same(p, merged(nil, pages)) {
		t.Error("short pages: not those that were committed")
	}
	d = disk.New(api.MaxPages)
	p = open(t, d, "a")
	pages = map[int]string{}
	for i := range 2041 {
		pages[i] = fat(string(rune('a' + i%26)))
	}
	wantErr(t, "2041 pages", p.Commit(writes(pages)), api.ErrFull)
	delete(pages, 2040)
	commit(t, p, pages)
	if !same(p, merged(nil, pages)) {
		t.Error("full pages: not those that were committed")
	}
	wantErr(t, "2040 pages again", p.Commit(writes(pages)), api.OK)
	wantErr(t, "one more", p.Commit(map[int][]byte{2040: nil}), api.OK)
	pages[2040] = fat("x")
	wantErr(t, "2041 pages again", p.Commit(writes(pages)), api.ErrFull)
}

// P6.1: Count and Read are those of the file, whoever wrote it; with the power off there is nothing.
func TestCountAndRead(t *testing.T) {
	d := disk.New(9)
	p := open(t, d, "a")
	lay(t, d, "a", "0", "1")
	wantPages(t, p, "0", "1")
	commit(t, p, map[int]string{2: "2"})
	d.Off(0)
	if p.Count() != 0 {
		t.Errorf("off: Count %d", p.Count())
	}
	for _, i := range []int{-1, 0, 9} {
		if b, e := p.Read(i); len(b) != 0 || e != api.ErrDown {
			t.Errorf("off: Read(%d) = %.20q, %d", i, b, e)
		}
	}
	d.On()
	wantPages(t, open(t, d, "a"), "0", "1", "2")
}

// P6.3: neither the map that is handed in, nor its pages, nor their spare room is changed.
func TestNothingIsChanged(t *testing.T) {
	d := disk.New(99)
	p := open(t, d, "a")
	whole := bytes.Repeat([]byte{0xee}, 900)
	for k, w := range []map[int][]byte{
		{0: whole[:3], 1: whole[3:3], 2: nil},
		{3: whole[:512], 0: whole[100:200]},
		{9: whole[:3]},
		{0: whole[:513]},
		{-1: whole[:3]},
	} {
		before := maps.Clone(w)
		p.Commit(w)
		if !maps.EqualFunc(w, before, func(a, b []byte) bool { return bytes.Equal(a, b) && cap(a) == cap(b) }) {
			t.Errorf("%d: the map is changed", k)
		}
		if !bytes.Equal(whole, bytes.Repeat([]byte{0xee}, 900)) {
			t.Fatalf("%d: bytes are changed", k)
		}
	}
	wantPages(t, p, string(whole[:100]), "", "", string(whole[:512]))
}

// P6.3: what is written into the map and its pages behind the call isn't seen.
func TestNothingIsKept(t *testing.T) {
	d := disk.New(99)
	p := open(t, d, "a")
	w := writes(map[int]string{0: "zero", 1: fat("1")})
	wantErr(t, "Commit", p.Commit(w), api.OK)
	clear(w[0])
	clear(w[1])
	w[2] = []byte("two")
	delete(w, 0)
	wantPages(t, p, "zero", fat("1"))
	wantPages(t, open(t, d, "a"), "zero", fat("1"))
}

// P6.3: a page that was answered is new memory.
func TestReadIsNewMemory(t *testing.T) {
	d := disk.New(99)
	p := open(t, d, "a")
	commit(t, p, map[int]string{0: "zero", 1: "one"})
	b, _ := p.Read(0)
	c, _ := p.Read(0)
	clear(b)
	if string(c) != full("zero") {
		t.Error("two answers share memory")
	}
	wantPages(t, p, "zero", "one")
	commit(t, p, map[int]string{0: "new"})
	if string(c) != full("zero") {
		t.Error("an answer is changed by a Commit")
	}
	c = append(c, "behind"...)
	wantPages(t, p, "new", "one")
}
