package disk_test

import (
	"fmt"
	"math/rand"
	"slices"
	"testing"

	"rootstock/api"
	"rootstock/disk"
)

// modelFile is a file by the chapter's words: its pages, and those that are safe.
type modelFile struct{ now, safe []string }

// modelWrite is a write that isn't safe, of the file that had the page then.
type modelWrite struct {
	file *modelFile
	i    int
	data string
}

// model is a disk by the chapter's words, in lists.
type model struct {
	room  int
	files map[string]*modelFile
	late  []modelWrite
	off   bool
	acts  int
	fuse  int
	keep  uint64
}

func newModel(room int) *model { return &model{room: room, files: map[string]*modelFile{}, fuse: -1} }

func (m *model) free() int {
	left := m.room
	for _, f := range m.files {
		left -= len(f.now)
	}
	return left
}

// set answers pages of which the i-th is that, with noughts ahead of it where there were none.
func set(pages []string, i int, data string) []string {
	pages = slices.Clone(pages)
	for len(pages) <= i {
		pages = append(pages, full(""))
	}
	pages[i] = data
	return pages
}

func (m *model) lose(keep uint64) {
	for i, w := range m.late {
		if keep&(1<<(i%64)) != 0 {
			w.file.safe = set(w.file.safe, w.i, w.data)
		}
	}
	for _, f := range m.files {
		f.now = f.safe
	}
	m.late, m.off, m.fuse = nil, true, -1
}

// act tells whether the power goes in an act.
func (m *model) act() bool {
	m.acts++
	if m.fuse > 0 {
		m.fuse--
	}
	if m.fuse == 0 {
		m.lose(m.keep)
	}
	return m.off
}

func (m *model) write(name string, i int, b []byte) api.Errno {
	f, count := m.files[name], 0
	if f != nil {
		count = len(f.now)
	}
	switch {
	case m.off:
		return api.ErrDown
	case len(b) > api.PageSize:
		return api.ErrLong
	case i < 0 || i > count:
		return api.ErrArg
	case i == count && m.free() < 1:
		return api.ErrFull
	}
	if f == nil {
		f = &modelFile{}
		m.files[name] = f
	}
	f.now = set(f.now, i, full(string(b)))
	m.late = append(m.late, modelWrite{f, i, full(string(b))})
	if m.act() {
		return api.ErrDown
	}
	return api.OK
}

// unwrite takes writes out of those that aren't safe.
func (m *model) unwrite(gone func(modelWrite) bool) {
	var rest []modelWrite
	for _, w := range m.late {
		if !gone(w) {
			rest = append(rest, w)
		}
	}
	m.late = rest
}

// change does what stands behind the errors of Sync, Cut, Rename, Remove.
func (m *model) change(name string, bad bool, do func(*modelFile)) api.Errno {
	switch {
	case m.off:
		return api.ErrDown
	case m.files[name] == nil:
		return api.ErrNone
	case bad:
		return api.ErrArg
	}
	if m.act() {
		return api.ErrDown
	}
	do(m.files[name])
	return api.OK
}

func (m *model) sync(name string) api.Errno {
	return m.change(name, false, func(f *modelFile) {
		f.safe = f.now
		m.unwrite(func(w modelWrite) bool { return w.file == f })
	})
}

func (m *model) cut(name string, n int) api.Errno {
	return m.change(name, n < 0, func(f *modelFile) {
		f.now = f.now[:min(n, len(f.now))]
		f.safe = f.safe[:min(n, len(f.safe))]
		m.unwrite(func(w modelWrite) bool { return w.file == f && w.i >= n })
	})
}

func (m *model) rename(from, to string) api.Errno {
	return m.change(from, false, func(f *modelFile) {
		if from != to {
			m.unwrite(func(w modelWrite) bool { return w.file == m.files[to] })
			m.files[to] = f
			delete(m.files, from)
		}
	})
}

func (m *model) remove(name string) api.Errno {
	return m.change(name, false, func(f *modelFile) {
		m.unwrite(func(w modelWrite) bool { return w.file == f })
		delete(m.files, name)
	})
}

// same tells in what a disk parts from the model; "" if in nothing.
func (m *model) same(d *disk.Disk, names []string) string {
	if d.Free() != m.free() || d.Acts() != m.acts || d.Down() != m.off {
		return fmt.Sprintf("Free %d, Acts %d, Down %t, want %d, %d, %t", d.Free(), d.Acts(), d.Down(), m.free(), m.acts, m.off)
	}
	var there []string
	for _, name := range names {
		f := m.files[name]
		if f == nil || m.off {
			f = &modelFile{}
		}
		if has := m.files[name] != nil && !m.off; d.Has(name) != has || d.Count(name) != len(f.now) {
			return fmt.Sprintf("%q: Has %t, Count %d, want %t, %d", name, d.Has(name), d.Count(name), has, len(f.now))
		} else if has {
			there = append(there, name)
		}
		for i, want := range f.now {
			if b, e := d.Read(name, i); e != api.OK || string(b) != want {
				return fmt.Sprintf("%q: page %d is %.9q, error %d, want %.9q", name, i, b, e, want)
			}
		}
	}
	if got := d.Names(); !slices.Equal(got, there) {
		return fmt.Sprintf("Names %q, want %q", got, there)
	}
	return ""
}

// step does one thing to a disk and to the model, and answers what it was, and both errors.
func step(rnd *rand.Rand, d *disk.Disk, m *model, names []string, mark int) (string, api.Errno, api.Errno) {
	name, other := names[rnd.Intn(len(names))], names[rnd.Intn(len(names))]
	count := 0
	if f := m.files[name]; f != nil {
		count = len(f.now)
	}
	i := count + rnd.Intn(4) - 2
	if rnd.Intn(3) > 0 {
		i = count
	}
	switch k := rnd.Intn(40); {
	case k < 22:
		b := []byte(fmt.Sprint(mark))
		if rnd.Intn(50) == 0 {
			b = make([]byte, api.PageSize+rnd.Intn(2))
		}
		return fmt.Sprintf("Write(%s, %d)", name, i), d.Write(name, i, b), m.write(name, i, b)
	case k < 26:
		return "Sync " + name, d.Sync(name), m.sync(name)
	case k < 29:
		return fmt.Sprintf("Cut(%s, %d)", name, i), d.Cut(name, i), m.cut(name, i)
	case k < 32:
		return "Rename " + name + " " + other, d.Rename(name, other), m.rename(name, other)
	case k < 33:
		return "Remove " + name, d.Remove(name), m.remove(name)
	case k < 34:
		keep := rnd.Uint64()
		d.Off(keep)
		if !m.off {
			m.lose(keep)
		}
		return fmt.Sprintf("Off(%x)", keep), 0, 0
	case k < 37:
		d.On()
		m.off = false
		return "On", 0, 0
	default:
		n, keep := rnd.Intn(30)-3, rnd.Uint64()
		d.Arm(n, keep)
		m.fuse, m.keep = n, keep
		if n < 1 {
			m.fuse = -1
		}
		return fmt.Sprintf("Arm(%d, %x)", n, keep), 0, 0
	}
}

// P5.1, P5.2: in every order of calls a disk answers as the model does.
func TestEveryOrder(t *testing.T) {
	names := []string{"", "a", "a-j", "b"}
	for seed := range int64(300) {
		rnd := rand.New(rand.NewSource(seed))
		room := rnd.Intn(30)
		d, m := disk.New(room), newModel(room)
		for mark := range 300 {
			what, got, want := step(rnd, d, m, names, mark)
			if got != want {
				t.Fatalf("seed %d, step %d: %s: error %d, want %d", seed, mark, what, got, want)
			}
			if parts := m.same(d, names); parts != "" {
				t.Fatalf("seed %d, step %d: behind %s: %s", seed, mark, what, parts)
			}
		}
	}
}
