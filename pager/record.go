package pager

import (
	"iter"

	"rootstock/api"
	"rootstock/code"
	"rootstock/frame"
)

// encode answers the record of pages: how many, and of each its number and its bytes.
func encode(writes map[int][]byte) []byte {
	text := code.Int(nil, len(writes))
	for _, i := range rising(writes) {
		// Each one on its own: what is put behind all the others would copy them each time.
		text = append(text, code.Text(code.Int(nil, i), string(writes[i]))...)
	}
	return frame.Put(nil, string(text))
}

// decode answers the pages that a record tells; false: it is none of pages.
func decode(record string) (map[int][]byte, bool) {
	r := code.Read([]byte(record))
	writes := map[int][]byte{}
	for i, data := range told(r) {
		writes[i] = []byte(data)
	}
	return writes, r.End()
}

// told goes over the pages of a record, by rising numbers, up to a fault.
func told(r *code.Reader) iter.Seq2[int, string] {
	return func(yield func(int, string) bool) {
		least := 0
		for range r.In(0, api.MaxPages) {
			i := r.In(least, api.MaxPages-1)
			data := r.Text(api.PageSize)
			if !r.Good() || !yield(i, data) {
				return
			}
			least = i + 1
		}
	}
}

// pagesOf answers how many pages bytes take.
func pagesOf(b []byte) int { return (len(b) + api.PageSize - 1) / api.PageSize }
