package pager

import (
	"bytes"
	"slices"

	"rootstock/api"
	"rootstock/frame"
)

func (p *Pager) draft() string   { return p.name + "-t" }
func (p *Pager) journal() string { return p.name + "-j" }

// discard removes a draft that is there.
func (p *Pager) discard() api.Errno {
	if !p.disk.Has(p.draft()) {
		return api.OK
	}
	return p.disk.Remove(p.draft())
}

// post makes the record the journal: from then on the pages are written, whatever the power does.
func (p *Pager) post(record []byte) api.Errno {
	// Of a longer draft that somebody left, pages would stand behind the record.
	if e := p.discard(); e != api.OK {
		return e
	}
	i := 0
	for page := range slices.Chunk(record, api.PageSize) {
		if e := p.disk.Write(p.draft(), i, page); e != api.OK {
			return e
		}
		i++
	}
	if e := p.disk.Sync(p.draft()); e != api.OK {
		return e
	}
	return p.disk.Rename(p.draft(), p.journal())
}

// replay writes what a journal that is there tells.
func (p *Pager) replay() api.Errno {
	if !p.disk.Has(p.journal()) {
		return api.OK
	}
	record, ok := p.posted()
	if !ok {
		return api.ErrForm
	}
	writes, ok := decode(record)
	if !ok {
		return api.ErrForm
	}
	fresh, ok := p.fresh(writes)
	if !ok {
		return api.ErrForm
	}
	// Others may have taken the room that was there when it was posted.
	if p.disk.Free() < fresh {
		return api.ErrFull
	}
	return p.settle(writes)
}

// posted answers the record that the journal is; false: it is none, or something else than noughts stands behind it.
func (p *Pager) posted() (string, bool) {
	var b []byte
	for i := range p.disk.Count(p.journal()) {
		page, e := p.disk.Read(p.journal(), i)
		if e != api.OK {
			return "", false
		}
		b = append(b, page...)
	}
	records, taken := frame.Split(b)
	if len(records) != 1 || len(bytes.Trim(b[taken:], "\x00")) > 0 {
		return "", false
	}
	return records[0], true
}
