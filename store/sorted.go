package store

import (
	"slices"
	"strings"

	"rootstock/api"
)

// most is how many pairs a part has at most.
const most = 512

// sorted is pairs by rising keys, in parts, so that one more moves few others. There is a first part always; of the others each has a pair.
type sorted struct{ parts [][]api.Pair }

func newSorted() *sorted { return &sorted{parts: make([][]api.Pair, 1)} }

// value answers a key's value; false: it has none.
func (s *sorted) value(key string) (string, bool) {
	part, i, ok := s.place(key)
	if !ok {
		return "", false
	}
	return s.parts[part][i].Val, true
}

// put gives a key a value.
func (s *sorted) put(key, val string) {
	part, i, ok := s.place(key)
	if ok {
		s.parts[part][i].Val = val
		return
	}
	s.parts[part] = slices.Insert(s.parts[part], i, api.Pair{Key: key, Val: val})
	if len(s.parts[part]) > most {
		s.halve(part)
	}
}

// drop takes a key's value, if it has one.
func (s *sorted) drop(key string) {
	part, i, ok := s.place(key)
	if !ok {
		return
	}
	s.parts[part] = slices.Delete(s.parts[part], i, i+1)
	if part > 0 && len(s.parts[part]) == 0 {
		s.parts = slices.Delete(s.parts, part, part+1)
	}
}

// first answers the first n pairs whose keys aren't below from.
func (s *sorted) first(from string, n int) []api.Pair {
	part, i, _ := s.place(from)
	var pairs []api.Pair
	for ; part < len(s.parts) && len(pairs) < n; part++ {
		list := s.parts[part][i:]
		pairs = append(pairs, list[:min(len(list), n-len(pairs))]...)
		i = 0
	}
	return pairs
}

// place answers where a key stands, or would: its part, and which pair of that it is; false: it isn't there.
func (s *sorted) place(key string) (int, int, bool) {
	part, ok := slices.BinarySearchFunc(s.parts[1:], key, func(list []api.Pair, key string) int { return compare(list[0], key) })
	if ok {
		return part + 1, 0, true
	}
	i, ok := slices.BinarySearchFunc(s.parts[part], key, compare)
	return part, i, ok
}

// halve makes two parts of one. The second one has memory of its own, so what is put into the first one isn't in it.
func (s *sorted) halve(part int) {
	list := s.parts[part]
	half := len(list) / 2
	s.parts = slices.Insert(s.parts, part+1, slices.Clone(list[half:]))
	s.parts[part] = slices.Delete(list, half, len(list))
}

func compare(p api.Pair, key string) int { return strings.Compare(p.Key, key) }
