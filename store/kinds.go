package store

import (
	"slices"

	"rootstock/api"
	"rootstock/btree"
	"rootstock/lsm"
)

// pairs is what every kind of store does, whose power is on.
type pairs interface {
	Get(key string) (string, bool, api.Errno)
	Apply(list ...api.Write) api.Errno
	Scan(from string, n int) ([]api.Pair, api.Errno)
	Sync() api.Errno
}

// inMemory is pairs that are gone with the program.
type inMemory struct{ *sorted }

func (m inMemory) Get(key string) (string, bool, api.Errno) {
	val, ok := m.value(key)
	return val, ok, api.OK
}

func (m inMemory) Apply(list ...api.Write) api.Errno {
	if areLong(list) {
		return api.ErrLong
	}
	for _, w := range list {
		if w.Gone {
			m.drop(w.Key)
		} else {
			m.put(w.Key, w.Val)
		}
	}
	return api.OK
}

func (m inMemory) Scan(from string, n int) ([]api.Pair, api.Errno) {
	return m.first(from, n), api.OK
}

func (m inMemory) Sync() api.Errno { return api.OK }

// inPages is pairs in a search tree.
type inPages struct{ *btree.Tree }

// Sync has nothing to do: each Apply that was OK is safe.
func (p inPages) Sync() api.Errno { return api.OK }

// inTables is pairs in a log and tables.
type inTables struct{ *lsm.Tree }

func (t inTables) Get(key string) (string, bool, api.Errno) {
	val, ok := t.Tree.Get(key)
	return val, ok, api.OK
}

func (t inTables) Scan(from string, n int) ([]api.Pair, api.Errno) {
	return t.Tree.Scan(from, n), api.OK
}

// areLong tells whether writes are too many, or one has too many bytes.
func areLong(list []api.Write) bool {
	isLong := func(w api.Write) bool { return len(w.Key) > api.MaxKey || len(w.Val) > api.MaxVal }
	return len(list) > api.MaxBatch || slices.ContainsFunc(list, isLong)
}
