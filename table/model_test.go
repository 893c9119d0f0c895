package table_test

import (
	"encoding/binary"
	"fmt"
	"hash/crc32"
	"math/rand"
	"slices"
	"strings"
	"testing"

	"rootstock/api"
	"rootstock/table"
)

// number answers a number's bytes as layer 1 has them.
func number(n uint64) string { return string(binary.AppendUvarint(nil, n)) }

// text answers a text's bytes as layer 1 has them.
func text(s string) string { return number(uint64(len(s))) + s }

// record answers a record's bytes by layer 4's words and the library's check.
func record(s string) string {
	b := []byte(text(s))
	return string(binary.LittleEndian.AppendUint32(b, crc32.Checksum(b, crc32.MakeTable(crc32.Castagnoli))))
}

// write answers a write's bytes, as it is.
func write(w api.Write) string {
	gone := "\x00"
	if w.Gone {
		gone = "\x01"
	}
	return gone + text(w.Key) + text(w.Val)
}

// inner answers what a table's record has of writes, as they are.
func inner(list []api.Write) string {
	var b strings.Builder
	b.WriteString(number(uint64(len(list))))
	for _, w := range list {
		b.WriteString(write(w))
	}
	return b.String()
}

// laid answers a table's bytes of writes, as they are.
func laid(list ...api.Write) string { return record(inner(list)) }

// last answers by the chapter's words what a table of writes has: of each key the last one, by rising keys, without a Val if it is Gone.
func last(list []api.Write) []api.Write {
	var out []api.Write
	for i, w := range list {
		if slices.ContainsFunc(list[i+1:], func(v api.Write) bool { return v.Key == w.Key }) {
			continue
		}
		if w.Gone {
			w.Val = ""
		}
		at := 0
		for at < len(out) && out[at].Key < w.Key {
			at++
		}
		out = slices.Insert(out, at, w)
	}
	return out
}

// set answers a write that gives a key a value.
func set(key, val string) api.Write { return api.Write{Key: key, Val: val} }

// gone answers a write that takes a key's value away.
func gone(key string) api.Write { return api.Write{Key: key, Gone: true} }

// show tells writes in short.
func show(list []api.Write) string {
	return fmt.Sprintf("%d: %.200s", len(list), fmt.Sprintf("%#v", list))
}

// wantErr fails if a call didn't answer that error.
func wantErr(t *testing.T, what string, got, want api.Errno) {
	t.Helper()
	if got != want {
		t.Fatalf("%s: error %d, want %d", what, got, want)
	}
}

// wantTable fails if a table hasn't just these writes, asked in every way.
func wantTable(t *testing.T, what string, got *table.Table, want []api.Write) {
	t.Helper()
	if got == nil {
		t.Fatalf("%s: no table", what)
	}
	if list := got.All(); !slices.Equal(list, want) {
		t.Fatalf("%s: All %s, want %s", what, show(list), show(want))
	}
	for _, w := range want {
		if v, ok := got.Get(w.Key); v != w || !ok {
			t.Fatalf("%s: Get of %q: %#v, %t, want %#v", what, w.Key, v, ok, w)
		}
		wantNo(t, what, got, w.Key+"\x00", want)
		wantNo(t, what, got, w.Key[:len(w.Key)/2], want)
	}
	wantNo(t, what, got, "", want)
	if b := string(got.Bytes()); b != laid(want...) {
		t.Fatalf("%s: Bytes %.100q, want %.100q", what, b, laid(want...))
	}
}

// wantNo fails if a table has a key that none of its writes has.
func wantNo(t *testing.T, what string, got *table.Table, key string, want []api.Write) {
	t.Helper()
	if slices.ContainsFunc(want, func(w api.Write) bool { return w.Key == key }) {
		return
	}
	if v, ok := got.Get(key); v != (api.Write{}) || ok {
		t.Fatalf("%s: Get of %q: %#v, %t, want none", what, key, v, ok)
	}
}

// wantRead fails if Read of bytes doesn't answer the table of just these writes.
func wantRead(t *testing.T, what, bytes string, want ...api.Write) {
	t.Helper()
	got, e := table.Read([]byte(bytes))
	wantErr(t, what+": Read", e, api.OK)
	wantTable(t, what, got, want)
}

// wantForm fails if Read of bytes doesn't answer ErrForm alone.
func wantForm(t *testing.T, what, bytes string) {
	t.Helper()
	if got, e := table.Read([]byte(bytes)); got != nil || e != api.ErrForm {
		t.Fatalf("%s: Read of %.100q: table %t, error %d", what, bytes, got != nil, e)
	}
}

// cutNumber takes a number off bytes as layer 1 reads it: false, if none stands there.
func cutNumber(s string) (uint64, string, bool) {
	n, size := binary.Uvarint([]byte(s))
	if size <= 0 || number(n) != s[:size] {
		return 0, "", false
	}
	return n, s[size:], true
}

// cutText takes a text of at most so many bytes off bytes as layer 1 reads it.
func cutText(s string, most uint64) (string, string, bool) {
	n, s, ok := cutNumber(s)
	if !ok || n > most || n > uint64(len(s)) {
		return "", "", false
	}
	return s[:n], s[n:], true
}

// modelRead answers the writes of a table's bytes, behind which noughts may stand, by the chapter's words; false: they are none.
func modelRead(s string) ([]api.Write, bool) {
	size, rest, ok := cutNumber(s)
	if !ok || size > uint64(len(rest)) || len(rest)-int(size) < 4 {
		return nil, false
	}
	in, behind := rest[:size], rest[size+4:]
	if s != record(in)+behind || strings.Trim(behind, "\x00") != "" {
		return nil, false
	}
	count, in, ok := cutNumber(in)
	var list []api.Write
	for ; ok && count > 0; count-- {
		var w api.Write
		var flag uint64
		if flag, in, ok = cutNumber(in); !ok || flag > 1 {
			return nil, false
		}
		w.Gone = flag == 1
		if w.Key, in, ok = cutText(in, 48); !ok {
			return nil, false
		}
		if w.Val, in, ok = cutText(in, 160); !ok || w.Gone && w.Val != "" {
			return nil, false
		}
		if len(list) > 0 && list[len(list)-1].Key >= w.Key {
			return nil, false
		}
		list = append(list, w)
	}
	return list, ok && in == ""
}

// wantAsModel fails if Read of bytes doesn't answer what the model does; it tells whether they are a table's.
func wantAsModel(t *testing.T, what, bytes string) bool {
	t.Helper()
	list, ok := modelRead(bytes)
	if ok {
		wantRead(t, what, bytes, list...)
	} else {
		wantForm(t, what, bytes)
	}
	return ok
}

// randomText answers bytes of which there are at most so many, often the same ones.
func randomText(rnd *rand.Rand, most int) string {
	b := make([]byte, rnd.Intn([]int{2, 3, most + 1}[rnd.Intn(3)]))
	for i := range b {
		b[i] = "\x00ab\xff"[rnd.Intn(4)]
	}
	return string(b)
}

// randomWrites answers some writes whose keys and values aren't too long, in no order, keys often more than once; some that are Gone have a Val.
func randomWrites(rnd *rand.Rand) []api.Write {
	list := make([]api.Write, rnd.Intn([]int{3, 9, 60}[rnd.Intn(3)]))
	for i := range list {
		list[i] = api.Write{Key: randomText(rnd, 48), Val: randomText(rnd, 160), Gone: rnd.Intn(3) == 0}
	}
	return list
}
