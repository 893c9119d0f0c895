package table

import (
	"rootstock/api"
	"rootstock/code"
	"rootstock/frame"
)

// Bytes: a table's.
func (t *Table) Bytes() []byte { return frame.Put(nil, t.record()) }

// Read: the table of bytes, behind which noughts may stand; ErrForm.
func Read(b []byte) (*Table, api.Errno) {
	// No record is of noughts alone, so a second one is none that may stand behind.
	records, size := frame.Split(b)
	if len(records) != 1 || !areNoughts(b[size:]) {
		return nil, api.ErrForm
	}
	list, ok := writesOf(records[0])
	if !ok {
		return nil, api.ErrForm
	}
	t := Of(list...)
	// A table has one record only: another one has keys that don't rise, a Val of one that is Gone, or the like.
	if t.record() != records[0] {
		return nil, api.ErrForm
	}
	return t, api.OK
}

// record answers what a table's bytes are the record of.
func (t *Table) record() string {
	list := t.All()
	b := code.Uint(nil, uint64(len(list)))
	for _, w := range list {
		// Each one on its own: what is put behind all the others would copy them each time.
		b = append(b, bytesOf(w)...)
	}
	return string(b)
}

// bytesOf answers a write's bytes.
func bytesOf(w api.Write) []byte {
	gone := uint64(0)
	if w.Gone {
		gone = 1
	}
	return code.Text(code.Text(code.Uint(nil, gone), w.Key), w.Val)
}

// writesOf answers the writes that a record tells of; false: it tells of none, or of one that is too long.
func writesOf(record string) ([]api.Write, bool) {
	r := code.Read([]byte(record))
	var list []api.Write
	for range r.Uint() {
		gone := r.Uint() == 1
		w := api.Write{Gone: gone, Key: r.Text(api.MaxKey), Val: r.Text(api.MaxVal)}
		// The number of writes may be any: the bytes end sooner.
		if !r.Good() {
			return nil, false
		}
		list = append(list, w)
	}
	return list, r.End()
}

// areNoughts tells whether all bytes are 0.
func areNoughts(b []byte) bool {
	for _, c := range b {
		if c != 0 {
			return false
		}
	}
	return true
}
