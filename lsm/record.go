package lsm

import (
	"slices"

	"rootstock/api"
	"rootstock/code"
	"rootstock/frame"
	"rootstock/table"
)

// logRoom is how many of the log's bytes a page has at most.
const logRoom = api.PageSize - 2

// recordOf answers the log's record of an Apply: the number of the table that its writes will be laid down in, and these, as a table's bytes.
func recordOf(number int, writes *table.Table) string {
	return string(code.Text(code.Int(nil, number), string(writes.Bytes())))
}

// readRecord answers what a record tells, whose number is at most most; false: it is none.
func readRecord(record string, most int) (int, *table.Table, bool) {
	r := code.Read([]byte(record))
	number := r.In(1, most)
	b := r.Text(len(record))
	if !r.End() {
		return 0, nil, false
	}
	writes, e := table.Read([]byte(b))
	return number, writes, e == api.OK
}

// enter puts a record into the log; ErrFull, ErrDown.
func (t *Tree) enter(record string) api.Errno {
	// The log asks for the power first; but a tree that has no room for a record says so, with the power off, too.
	if t.disk.Down() && t.pagesFor(record) > t.disk.Free() {
		return api.ErrFull
	}
	return t.log.Append(record)
}

// pagesFor answers how many pages more the log takes with a record.
func (t *Tree) pagesFor(record string) int {
	pages := func(size int) int { return (size + logRoom - 1) / logRoom }
	size := t.log.Size()
	return pages(size+len(frame.Put(nil, record))) - pages(size)
}

// remember puts writes into memory.
func (t *Tree) remember(writes *table.Table) {
	list := writes.All()
	t.count += len(list)
	t.memory = table.Of(slices.Concat(t.memory, list)...).All()
}

// replay puts the log's writes into memory, but for those that a table has, since the power went ahead of the log's Clear; ErrDown, ErrForm.
func (t *Tree) replay(records []string) api.Errno {
	for _, record := range records {
		number, writes, ok := readRecord(record, t.last+1)
		if !ok {
			return api.ErrForm
		}
		if number > t.last {
			t.remember(writes)
		}
	}
	if len(records) > 0 && t.count == 0 {
		return t.log.Clear()
	}
	return api.OK
}
