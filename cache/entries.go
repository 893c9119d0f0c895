package cache

// entry is what the store says of a key: a value, or none.
type entry struct {
	key, val     string
	has          bool
	elder, newer *entry
}

// entries are at most so many, by their keys, and in a ring from the eldest to the newest, so that none of these is looked for.
type entries struct {
	most  int
	byKey map[string]*entry
	gap   *entry // no entry: it stands in the ring ahead of the eldest, and behind the newest
}

func newEntries(most int) *entries {
	gap := &entry{}
	gap.elder, gap.newer = gap, gap
	return &entries{most: most, byKey: map[string]*entry{}, gap: gap}
}

func (l *entries) count() int { return len(l.byKey) }

// find answers a key's entry, the newest now; nil: it has none.
func (l *entries) find(key string) *entry {
	one := l.byKey[key]
	if one != nil {
		one.leave()
		one.enter(l.gap)
	}
	return one
}

// keep has a key's entry say that, and be the newest; the eldest makes room for a new one.
func (l *entries) keep(key, val string, has bool) {
	if one := l.find(key); one != nil {
		one.val, one.has = val, has
		return
	}
	if l.most == 0 {
		return
	}
	if l.count() == l.most {
		l.forget()
	}
	one := &entry{key: key, val: val, has: has}
	one.enter(l.gap)
	l.byKey[key] = one
}

// forget takes out the eldest entry, of one at least.
func (l *entries) forget() {
	one := l.gap.newer
	one.leave()
	delete(l.byKey, one.key)
}

// enter puts an entry into the ring ahead of its gap: it is the newest there.
func (one *entry) enter(gap *entry) {
	one.elder, one.newer = gap.elder, gap
	one.elder.newer, gap.elder = one, one
}

// leave takes an entry out of its ring.
func (one *entry) leave() {
	one.elder.newer, one.newer.elder = one.newer, one.elder
}
