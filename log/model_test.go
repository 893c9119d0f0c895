package log_test

import (
	"encoding/binary"
	"hash/crc32"
	"math/rand"
	"strings"
	"testing"

	"rootstock/api"
	"rootstock/disk"
)

// record answers a record's bytes by layer 4's words and the library's check.
func record(s string) string {
	b := append(binary.AppendUvarint(nil, uint64(len(s))), s...)
	return string(binary.LittleEndian.AppendUint32(b, crc32.Checksum(b, crc32.MakeTable(crc32.Castagnoli))))
}

// joined are the records' bytes, one behind the other.
func joined(list []string) string {
	var b strings.Builder
	for _, s := range list {
		b.WriteString(record(s))
	}
	return b.String()
}

// full answers what a page has of which these bytes were written.
func full(s string) string { return s + strings.Repeat("\x00", api.PageSize-len(s)) }

// page answers a page that tells of so many bytes, and has these behind.
func page(told int, s string) string {
	return full(string(binary.LittleEndian.AppendUint16(nil, uint16(told))) + s)
}

// laid answers the pages that the log's bytes have, each but the last one with 510.
func laid(s string) []string {
	var pages []string
	for ; len(s) > 510; s = s[510:] {
		pages = append(pages, page(510, s[:510]))
	}
	if s != "" {
		pages = append(pages, page(len(s), s))
	}
	return pages
}

// lay writes pages of the file past the log, and syncs them; of no pages it makes a file that has none.
func lay(t *testing.T, d *disk.Disk, pages ...string) {
	t.Helper()
	for i, s := range pages {
		wantErr(t, "Write", d.Write("f", i, []byte(s)), api.OK)
	}
	if len(pages) == 0 {
		wantErr(t, "Write", d.Write("f", 0, nil), api.OK)
		wantErr(t, "Cut", d.Cut("f", 0), api.OK)
	}
	wantErr(t, "Sync", d.Sync("f"), api.OK)
}

// split answers the records of bytes by layer 4's words, and how many bytes they take.
func split(s string) ([]string, int) {
	var list []string
	at := 0
	for {
		n, size := binary.Uvarint([]byte(s[at:]))
		if size <= 0 || n > uint64(len(s)) || at+size+int(n)+4 > len(s) {
			return list, at
		}
		text := s[at+size : at+size+int(n)]
		if s[at:at+size+int(n)+4] != record(text) {
			return list, at
		}
		list = append(list, text)
		at += len(record(text))
	}
}

// model is what Open makes of a file, by the chapter's words.
type model struct {
	records []string
	size    int
	pages   []string // as the file has them then
	acts    int
}

// part answers the log's bytes that a page has.
func part(s string) string {
	return s[2:][:min(int(binary.LittleEndian.Uint16([]byte(s))), 510)]
}

// opened answers what Open makes of a file of these pages.
func opened(pages []string) model {
	var m model
	found := ""
	for _, p := range pages {
		found += part(p)
		if len(part(p)) < 510 {
			break
		}
	}
	m.records, m.size = split(found)
	for i, p := range pages {
		if i*510 < m.size {
			m.pages = append(m.pages, p)
		}
	}
	if len(m.pages) < len(pages) {
		m.acts++
	}
	if len(m.pages) == 0 {
		return m
	}
	last := len(m.pages) - 1
	kept := found[last*510 : m.size]
	if len(part(m.pages[last])) > len(kept) {
		m.pages[last] = page(len(kept), kept)
		m.acts += 2
	}
	return m
}

// P9.1: Open over files of pages by hand: what is theirs by the chapter's words, and what the file has then.
func TestOpenByHand(t *testing.T) {
	a, ab := record("a"), joined([]string{"a", "b"})
	long := joined([]string{sized(505), sized(505)})
	cases := []struct {
		what    string
		pages   []string
		records []string
		then    []string
		acts    int
	}{
		{"no pages", nil, nil, nil, 0},
		{"noughts", []string{full("")}, nil, nil, 1},
		{"many noughts", []string{full(""), full(""), full("")}, nil, nil, 1},
		{"one record", []string{page(6, a)}, []string{"a"}, []string{page(6, a)}, 0},
		{"two records", []string{page(12, ab)}, []string{"a", "b"}, []string{page(12, ab)}, 0},
		{"a page of nothing behind", []string{page(6, a), page(0, "")}, []string{"a"}, []string{page(6, a)}, 1},
		{"a record behind a page that isn't full", []string{page(6, a), page(6, a)}, []string{"a"}, []string{page(6, a)}, 1},
		{"a record behind a page of noughts", []string{full(""), page(6, a)}, nil, nil, 1},
		{"bytes that aren't told", []string{page(6, ab)}, []string{"a"}, []string{page(6, ab)}, 0},
		{"a record that is cut", []string{page(11, ab)}, []string{"a"}, []string{page(6, a)}, 2},
		{"only a cut one", []string{page(5, a)}, nil, nil, 1},
		{"noughts are told", []string{page(7, a)}, []string{"a"}, []string{page(6, a)}, 2},
		{"more than a page is told", []string{page(511, a)}, []string{"a"}, []string{page(6, a)}, 2},
		{"the most is told", []string{page(65535, a), page(6, a)}, []string{"a"}, []string{page(6, a)}, 3},
		{"the higher byte counts", []string{page(256, a), page(6, a)}, []string{"a"}, []string{page(6, a)}, 3},
		{"a record over two pages", []string{page(510, long[:510]), page(500, long[510:])}, []string{sized(505), sized(505)}, []string{page(510, long[:510]), page(500, long[510:])}, 0},
		{"a full page tells more", []string{page(1000, long[:510]), page(500, long[510:])}, []string{sized(505), sized(505)}, []string{page(1000, long[:510]), page(500, long[510:])}, 0},
		{"the second page is lost", []string{page(510, long[:510]), full(""), page(9, "x")}, []string{sized(505)}, []string{page(505, long[:505])}, 3},
		{"the first page is lost", []string{full(""), page(500, long[510:])}, nil, nil, 1},
		{"the second page is an elder one", []string{page(510, long[:510]), page(400, long[510:910]), page(9, "x")}, []string{sized(505)}, []string{page(505, long[:505])}, 3},
		{"the second page is cut, and the record ends with the first one", []string{page(510, record(sized(510))), page(5, a)}, []string{sized(510)}, []string{page(510, record(sized(510)))}, 1},
		{"a full page that tells more, and nothing behind", []string{page(513, record(sized(510)))}, []string{sized(510)}, []string{page(513, record(sized(510)))}, 0},
		{"the check is turned", []string{page(12, a+"\x01b\x00\x00\x00\x00")}, []string{"a"}, []string{page(6, a)}, 2},
		{"a turned record ahead", []string{page(12, "\x01b\x00\x00\x00\x00"+a)}, nil, nil, 1},
	}
	for _, c := range cases {
		t.Run(c.what, func(t *testing.T) {
			d := disk.New(9)
			lay(t, d, c.pages...)
			acts := d.Acts()
			open(t, d, c.records...)
			wantActs(t, "Open", d, acts, c.acts)
			wantFile(t, d, c.then...)
			wantOpens(t, "by the model", c.pages)
		})
	}
}

// randomRecords answers some records, of a few bytes or of many.
func randomRecords(rnd *rand.Rand) []string {
	var list []string
	for range rnd.Intn(7) {
		b := make([]byte, rnd.Intn([]int{3, 40, 300, 1300}[rnd.Intn(4)]))
		rnd.Read(b)
		list = append(list, string(b))
	}
	return list
}

// randomFile answers pages that are mostly those of a log, and here and there something else.
func randomFile(rnd *rand.Rand) []string {
	pages := laid(joined(randomRecords(rnd)))
	for range rnd.Intn(3) {
		pages = append(pages, laid(joined(randomRecords(rnd)))...)
	}
	for i, p := range pages {
		b := []byte(p)
		switch rnd.Intn(12) {
		case 0:
			b = make([]byte, 512)
		case 1:
			rnd.Read(b[:2])
		case 2:
			b[rnd.Intn(512)] ^= 1 << rnd.Intn(8)
		case 3:
			binary.LittleEndian.PutUint16(b, uint16(rnd.Intn(520)))
		case 4:
			rnd.Read(b)
		}
		pages[i] = string(b)
	}
	return pages
}

// P9.1: Open over files of any pages does what the chapter says, and what is appended then stands behind.
func TestOpenOfAnyPages(t *testing.T) {
	rnd := rand.New(rand.NewSource(1))
	kinds := map[int]int{}
	for range 4000 {
		pages := randomFile(rnd)
		kinds[opened(pages).acts]++
		wantOpens(t, "random pages", pages)
	}
	for acts := range 4 {
		if kinds[acts] < 20 {
			t.Errorf("%d files of %d acts", kinds[acts], acts)
		}
	}
}

// P9.1: a log's page that tells of any number of bytes.
func TestAnyNumberTold(t *testing.T) {
	list := []string{sized(300), sized(200), sized(600)}
	pages := laid(joined(list))
	for told := range 1 << 16 {
		if told > 600 && told%251 != 0 && told < 65500 {
			continue
		}
		wantOpens(t, "first page", []string{page(told, pages[0][2:]), pages[1], pages[2]})
		wantOpens(t, "second page", []string{pages[0], page(told, pages[1][2:]), pages[2]})
	}
}
