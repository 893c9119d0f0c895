package log

import (
	"rootstock/api"
	"rootstock/disk"
)

const (
	headSize = 2                       // bytes that tell how many of the log's bytes stand behind
	room     = api.PageSize - headSize // the log's bytes that a page has at most
)

// pageOf answers the page that has this part of the log's bytes.
func pageOf(part []byte) []byte {
	return append([]byte{byte(len(part)), byte(len(part) >> 8)}, part...)
}

// partOf answers the part of the log's bytes that a page has.
func partOf(page []byte) []byte {
	told := int(page[0]) | int(page[1])<<8
	return page[headSize : headSize+min(told, room)]
}

// read answers the log's bytes that a file's pages have.
func read(d *disk.Disk, name string) ([]byte, api.Errno) {
	var b []byte
	for i := range d.Count(name) {
		page, e := d.Read(name, i)
		if e != api.OK {
			return nil, e
		}
		part := partOf(page)
		b = append(b, part...)
		// What stands behind was written when this page had more, which is lost.
		if len(part) < room {
			break
		}
	}
	return b, api.OK
}

// ending answers what the last page has of bytes, unless it is full.
func ending(b []byte) []byte { return b[len(b)/room*room:] }

// pagesOf answers how many pages so many bytes take.
func pagesOf(size int) int { return (size + room - 1) / room }
