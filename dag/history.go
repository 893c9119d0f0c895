package dag

import (
	"cmp"
	"iter"
	"maps"
	"slices"
	"strings"

	"rootstock/api"
	"rootstock/ident"
	"rootstock/tree"
)

// history is commits by their names.
type history map[api.Id]api.Commit

// place is one of the row: a name, and what its commit's Num must be below.
type place struct {
	id    api.Id
	below int
}

// gather reads all commits that the heads come from.
func gather(s tree.Source, heads []api.Id) (history, api.Errno) {
	h := history{}
	row := placesOf(heads, api.MaxDag+1)
	for len(row) > 0 {
		p := row[0]
		row = row[1:]
		if _, ok := h[p.id]; !ok {
			if e := h.read(s, p.id); e != api.OK {
				return nil, e
			}
			row = append(row, placesOf(h[p.id].Parents, h[p.id].Num)...)
		}
		// A commit that was read ahead of this place is one more's Parent here.
		if h[p.id].Num >= p.below {
			return nil, api.ErrForm
		}
	}
	return h, api.OK
}

// placesOf answers names as places of the row.
func placesOf(ids []api.Id, below int) []place {
	var row []place
	for _, id := range ids {
		row = append(row, place{id, below})
	}
	return row
}

// read has one more commit there.
func (h history) read(s tree.Source, id api.Id) api.Errno {
	c, e := Read(s, id)
	if e != api.OK {
		return e
	}
	// What can't be read is told ahead of what is too much.
	if len(h) == api.MaxDag {
		return api.ErrLong
	}
	h[id] = c
	return api.OK
}

// back goes over all commits that one comes from, each once, from it on backwards.
func (h history) back(id api.Id) iter.Seq2[api.Id, api.Commit] {
	return func(yield func(api.Id, api.Commit) bool) {
		met := map[api.Id]int{id: 0}
		row := []api.Id{id}
		for len(row) > 0 {
			at := row[0]
			row = row[1:]
			if !yield(at, h[at]) {
				return
			}
			for _, p := range h[at].Parents {
				if _, ok := met[p]; !ok {
					met[p] = len(met)
					row = append(row, p)
				}
			}
		}
	}
}

// both answers the commits that two come from.
func (h history) both(a, b api.Id) history {
	ofA := maps.Collect(h.back(a))
	list := history{}
	for id, c := range h.back(b) {
		if _, ok := ofA[id]; ok {
			list[id] = c
		}
	}
	return list
}

// heads answers those that no other one comes from.
func (h history) heads() history {
	list := maps.Clone(h)
	for _, c := range h {
		for _, p := range c.Parents {
			// All that one of both comes from is of both, too; so its Parents tell of all behind them.
			delete(list, p)
		}
	}
	return list
}

// inOrder answers the commits by rising Nums, those of one Num by rising texts of their names.
func (h history) inOrder() []api.Entry {
	var list []api.Entry
	for id, c := range h {
		list = append(list, api.Entry{Id: id, Commit: c})
	}
	slices.SortFunc(list, func(a, b api.Entry) int {
		return cmp.Or(cmp.Compare(a.Commit.Num, b.Commit.Num), strings.Compare(ident.Text(a.Id), ident.Text(b.Id)))
	})
	return list
}
