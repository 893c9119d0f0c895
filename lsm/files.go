package lsm

import (
	"slices"
	"strconv"
	"strings"

	"rootstock/api"
	"rootstock/table"
)

// A tree's files are its log, of the tree's name, and its tables: behind that name stands what the file is, and the number of the youngest table that it has. Tables are numbered from 1 on, as they are laid down.
const (
	partEnd  = "-part"  // a table that was laid down
	wholeEnd = "-whole" // all tables up to that number, put together
	draftEnd = "-draft" // a table that has no name of its own yet: it may be there in part
)

// full is how many writes are laid down as a table, many how many tables are put together.
const (
	full = 24
	many = 4
)

// file answers the name of a table's file.
func (t *Tree) file(end string, number int) string { return t.name + end + strconv.Itoa(number) }

// number answers which number a table's file has; 0: the file is no such table.
func (t *Tree) number(file, end string) int {
	digits, _ := strings.CutPrefix(file, t.name+end)
	n, err := strconv.Atoi(digits)
	// There is one way only to write a number.
	if err != nil || n < 1 || file != t.file(end, n) {
		return 0
	}
	return n
}

// newest answers the greatest number of such a table's file; 0: there is none.
func (t *Tree) newest(end string) int {
	n := 0
	for _, file := range t.disk.Names() {
		n = max(n, t.number(file, end))
	}
	return n
}

// load reads the tables: the one of all up to a number (0: there is none), and those that were laid down behind it; ErrDown, ErrForm.
func (t *Tree) load(whole int) api.Errno {
	if whole > 0 {
		if e := t.read(t.file(wholeEnd, whole)); e != api.OK {
			return e
		}
	}
	t.last = whole
files:
	for {
		switch e := t.read(t.file(partEnd, t.last+1)); e {
		case api.OK:
			t.last++
		case api.ErrNone:
			break files
		default:
			return e
		}
	}
	// One that stands behind a gap: those between are lost.
	if t.newest(partEnd) > t.last {
		return api.ErrForm
	}
	return api.OK
}

// read reads a table behind the others; ErrDown, ErrNone, ErrForm.
func (t *Tree) read(file string) api.Errno {
	if !t.disk.Has(file) {
		return api.ErrNone
	}
	x, e := table.Load(t.disk, file)
	switch e {
	case api.OK:
		t.tables = append(t.tables, x.All())
	case api.ErrNone:
		// It is there, but has no pages.
		return api.ErrForm
	}
	return e
}

// lay lays memory down as a table, if it is full, and the disk has room; ErrDown.
func (t *Tree) lay() api.Errno {
	if t.count < full {
		return api.OK
	}
	saved, e := t.save(table.Of(t.memory...), t.file(partEnd, t.last+1))
	if !saved {
		return e
	}
	t.tables = append(t.tables, t.memory)
	t.last++
	t.memory, t.count, t.tight = nil, 0, 0
	return t.log.Clear()
}

// join puts the tables together, if they are many, and the disk has room; ErrDown.
func (t *Tree) join() api.Errno {
	if len(t.tables) < many || t.disk.Free() <= t.tight {
		return api.OK
	}
	whole := table.Merge(true, table.Of(slices.Concat(t.tables...)...))
	saved, e := t.save(whole, t.file(wholeEnd, t.last))
	if !saved {
		t.tight = t.disk.Free()
		return e
	}
	t.tables = [][]api.Write{whole.All()}
	return t.sweep(t.last)
}

// save lays a table down in a file, which is there with all of it, or not at all; false: it isn't, since there is no room (OK), or the power went.
func (t *Tree) save(x *table.Table, file string) (bool, api.Errno) {
	draft := t.name + draftEnd
	switch e := x.Save(t.disk, draft); e {
	case api.OK:
	case api.ErrFull:
		return false, api.OK
	default:
		return false, e
	}
	e := t.disk.Rename(draft, file)
	return e == api.OK, e
}

// sweep removes the draft, and the tables that the whole one of a number has; ErrDown.
func (t *Tree) sweep(whole int) api.Errno {
	for _, file := range t.disk.Names() {
		if !t.isOver(file, whole) {
			continue
		}
		if e := t.disk.Remove(file); e != api.OK {
			return e
		}
	}
	return api.OK
}

// isOver tells whether a file has nothing more to tell, since there is the whole table of a number.
func (t *Tree) isOver(file string, whole int) bool {
	part, other := t.number(file, partEnd), t.number(file, wholeEnd)
	return file == t.name+draftEnd || 0 < part && part <= whole || 0 < other && other < whole
}
