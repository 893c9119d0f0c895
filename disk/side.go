package disk

import (
	"maps"

	"rootstock/api"
)

type page [api.PageSize]byte

// place is where a page is: which one of the file of that number.
type place struct{ file, at int }

// write is a page that was written.
type write struct {
	place
	data page
}

// side is all files' pages, as they are now or as they are safe. A page of noughts stands in it, too, so there are as many as the files have.
type side struct {
	counts map[int]int
	pages  map[place]page
}

func blank() side {
	return side{counts: map[int]int{}, pages: map[place]page{}}
}

// twin answers a side that holds the same, and shares nothing with it.
func (s side) twin() side {
	return side{counts: maps.Clone(s.counts), pages: maps.Clone(s.pages)}
}

// put writes a page, and noughts into those ahead of it that aren't there.
func (s side) put(w write) {
	for at := s.counts[w.file]; at < w.at; at++ {
		s.pages[place{w.file, at}] = page{}
	}
	s.pages[w.place] = w.data
	s.counts[w.file] = max(s.counts[w.file], w.at+1)
}

// cut leaves a file n pages at most.
func (s side) cut(file, n int) {
	for at := n; at < s.counts[file]; at++ {
		delete(s.pages, place{file, at})
	}
	s.counts[file] = min(s.counts[file], n)
}
