package cache_test

import (
	"fmt"
	"math"
	"math/rand"
	"slices"
	"testing"

	"rootstock/api"
	"rootstock/cache"
	"rootstock/disk"
	"rootstock/store"
)

// told is what a store says of a key.
type told struct {
	key, val string
	has      bool
}

// model is a cache by the chapter's words, ahead of a store of its own.
type model struct {
	s    *store.Store
	most int
	list []told // from the eldest to the newest
	hits int
}

func (m *model) keep(one told) {
	i := slices.IndexFunc(m.list, func(o told) bool { return o.key == one.key })
	switch {
	case i >= 0:
		m.list = slices.Delete(m.list, i, i+1)
	case m.most == 0:
		return
	case len(m.list) == m.most:
		m.list = m.list[1:]
	}
	m.list = append(m.list, one)
}

func (m *model) Get(key string) (string, bool, api.Errno) {
	for _, one := range m.list {
		if one.key == key {
			m.hits++
			m.keep(one)
			return one.val, one.has, api.OK
		}
	}
	val, has, e := m.s.Get(key)
	if e == api.OK {
		m.keep(told{key, val, has})
	}
	return val, has, e
}

func (m *model) Apply(list ...api.Write) api.Errno {
	e := m.s.Apply(list...)
	for _, w := range list {
		switch {
		case e != api.OK:
		case w.Gone:
			m.keep(told{key: w.Key})
		default:
			m.keep(told{w.Key, w.Val, true})
		}
	}
	return e
}

func (m *model) Scan(from string, n int) ([]api.Pair, api.Errno) { return m.s.Scan(from, n) }
func (m *model) Sync() api.Errno                                 { return m.s.Sync() }

func (m *model) Drop(n int) { m.list = m.list[min(max(n, 0), len(m.list)):] }
func (m *model) Size() int  { return len(m.list) }
func (m *model) Hits() int  { return m.hits }

// asked is what a cache and a store answer both.
type asked interface {
	Get(key string) (string, bool, api.Errno)
	Apply(list ...api.Write) api.Errno
	Scan(from string, n int) ([]api.Pair, api.Errno)
	Sync() api.Errno
}

// cached is what a cache and its model answer both.
type cached interface {
	asked
	Drop(n int)
	Size() int
	Hits() int
}

func randomKey(rnd *rand.Rand) string {
	switch rnd.Intn(20) {
	case 0:
		return []string{"", "\x00", "\xff", fat(48), fat(49)}[rnd.Intn(5)]
	case 1, 2, 3, 4, 5, 6:
		return nth(rnd.Intn(8))
	}
	return nth(rnd.Intn(100))
}

// randomWrites answers some writes, now and then none, or with one that is too long.
func randomWrites(rnd *rand.Rand) []api.Write {
	var list []api.Write
	for range rnd.Intn([]int{2, 4, 12, 40}[rnd.Intn(4)]) {
		list = append(list, api.Write{Key: randomKey(rnd), Val: fmt.Sprint(rnd.Intn(1000)), Gone: rnd.Intn(3) == 0})
	}
	if len(list) > 0 && rnd.Intn(20) == 0 {
		list[rnd.Intn(len(list))].Val = fat(161)
	}
	return list
}

// ask does a call that a store has too, as rnd says, and answers in words what it answered.
func ask(a asked, rnd *rand.Rand) string {
	switch rnd.Intn(10) {
	case 0:
		return fmt.Sprint(a.Sync())
	case 1:
		return fmt.Sprint(a.Scan(randomKey(rnd), []int{-1, 0, 1, 7, 40, math.MaxInt}[rnd.Intn(6)]))
	case 2, 3:
		return fmt.Sprint(a.Apply(randomWrites(rnd)...))
	}
	return fmt.Sprint(a.Get(randomKey(rnd)))
}

// call does any call, as rnd says, and answers in words what it answered, and what is counted behind it.
func call(c cached, rnd *rand.Rand) string {
	what := ""
	if rnd.Intn(15) == 0 {
		c.Drop([]int{-1, 0, 1, 1, 2, 5, 2000}[rnd.Intn(7)])
	} else {
		what = ask(c, rnd)
	}
	return fmt.Sprint(what, ", size ", c.Size(), ", hits ", c.Hits())
}

// sizes are caches' sizes, and mosts the numbers that New gets for them.
func sizes() []int { return []int{0, 0, 1, 2, 3, 10, 40, 1024, 1024} }
func mosts() []int { return []int{-7, 0, 1, 2, 3, 10, 40, 1024, 99999} }

// P13.1, P13.3: all calls in random orders, wrong ones among them, answer what the chapter's words say, while the power goes and comes back, and disks fill up.
func TestRandomOrders(t *testing.T) {
	for seed := range int64(40) {
		for _, kind := range kinds() {
			for i, most := range mosts() {
				rnd := rand.New(rand.NewSource(seed*100 + int64(i)))
				room := []int{8, 30, 400}[rnd.Intn(3)]
				one, other := disk.New(room), disk.New(room)
				c := cache.New(open(t, kind, one), most)
				m := &model{s: open(t, kind, other), most: sizes()[i]}
				for step := range 120 {
					what := fmt.Sprintf("kind %d, most %d, seed %d, step %d", kind, most, seed, step)
					source := rnd.Int63()
					got, want := call(c, rand.New(rand.NewSource(source))), call(m, rand.New(rand.NewSource(source)))
					if got != want {
						t.Fatalf("%s: %.300s, want %.300s", what, got, want)
					}
					if c.Size() > sizes()[i] {
						t.Fatalf("%s: %d entries", what, c.Size())
					}
					switch rnd.Intn(15) {
					case 0:
						keep := rnd.Uint64()
						one.Off(keep)
						other.Off(keep)
					case 1, 2, 3:
						one.On()
						other.On()
					}
				}
			}
		}
	}
}

// P13.2: a cache of any size answers what its store would, call by call, in every kind of store, opened anew or not.
func TestAnswersAsStore(t *testing.T) {
	for seed := range int64(30) {
		for _, kind := range kinds() {
			bare := open(t, kind, disk.New(1000))
			var disks []*disk.Disk
			var caches []*cache.Cache
			for _, most := range mosts() {
				d := disk.New(1000)
				disks, caches = append(disks, d), append(caches, cache.New(open(t, kind, d), most))
			}
			rnd := rand.New(rand.NewSource(seed))
			for step := range 100 {
				source := rnd.Int63()
				want := ask(bare, rand.New(rand.NewSource(source)))
				for i, c := range caches {
					if got := ask(c, rand.New(rand.NewSource(source))); got != want {
						t.Fatalf("kind %d, most %d, seed %d, step %d: %.300s, the store %.300s", kind, mosts()[i], seed, step, got, want)
					}
					if source%23 == 0 && kind != store.Mem {
						caches[i] = cache.New(open(t, kind, disks[i]), mosts()[i])
					}
				}
			}
		}
	}
}

// P13.2: behind each call every key has of a cache what its own store says of it.
func TestEveryKey(t *testing.T) {
	for i, most := range mosts() {
		for _, kind := range kinds() {
			s := open(t, kind, disk.New(1000))
			c := cache.New(s, most)
			rnd := rand.New(rand.NewSource(int64(i)))
			for range 150 {
				call(c, rnd)
				// They are asked in any order, so that the eldest one is any.
				for _, k := range rnd.Perm(30) {
					got := fmt.Sprint(c.Get(nth(k)))
					if want := fmt.Sprint(s.Get(nth(k))); got != want {
						t.Fatalf("kind %d, most %d: Get(%s) = %s, the store's %s", kind, most, nth(k), got, want)
					}
				}
			}
		}
	}
}

// To ask changes no pair, and writes nothing.
func TestAskingWritesNothing(t *testing.T) {
	for _, kind := range kinds() {
		d := disk.New(50)
		c := cache.New(open(t, kind, d), 3)
		wantErr(t, "Apply", c.Apply(filling(20)...), api.OK)
		acts := d.Acts()
		before, _ := c.Scan("", math.MaxInt)
		for i := range 30 {
			c.Get(nth(i))
			c.Drop(i % 3)
			c.Size()
			c.Hits()
		}
		if after, _ := c.Scan("", math.MaxInt); !slices.Equal(before, after) || d.Acts() != acts {
			t.Errorf("kind %d: %q behind %q, %d acts", kind, after, before, d.Acts()-acts)
		}
	}
}
