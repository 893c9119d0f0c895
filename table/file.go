package table

import (
	"slices"

	"rootstock/api"
	"rootstock/disk"
)

// Save lays a table down in a file that isn't there, safe; ErrNil, ErrDown, ErrTwice, ErrFull.
func (t *Table) Save(d *disk.Disk, name string) api.Errno {
	switch {
	case t == nil || d == nil:
		return api.ErrNil
	case d.Down():
		return api.ErrDown
	case d.Has(name):
		return api.ErrTwice
	}
	pages := slices.Collect(slices.Chunk(t.Bytes(), api.PageSize))
	if len(pages) > d.Free() {
		return api.ErrFull
	}
	for i, page := range pages {
		if e := d.Write(name, i, page); e != api.OK {
			return e
		}
	}
	return d.Sync(name)
}

// Load: the table that was laid down in a file; ErrNil, ErrDown, ErrNone, ErrForm.
func Load(d *disk.Disk, name string) (*Table, api.Errno) {
	// The first page is read in any case: a file that has none is refused as one that isn't there.
	b, e := d.Read(name, 0)
	if e != api.OK {
		return nil, e
	}
	for i := 1; i < d.Count(name); i++ {
		page, e := d.Read(name, i)
		if e != api.OK {
			return nil, e
		}
		b = append(b, page...)
	}
	return Read(b)
}
