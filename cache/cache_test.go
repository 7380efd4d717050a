package cache_test

import (
	"fmt"
	"math"
	"slices"
	"testing"

	"cellarage/api"
	"cellarage/cache"
)

const lowest, greatest = math.MinInt, math.MaxInt

// source makes the same numbers for the same seed.
type source uint64

func (s *source) next() uint64 {
	*s = *s*6364136223846793005 + 1442695040888963407
	return uint64(*s >> 16)
}

// below is a number from 0 to n - 1.
func (s *source) below(n int) int { return int(s.next() % uint64(n)) }

func key(sum byte, n uint32) api.Key { return api.Key{Sum: api.Sum{sum}, N: n} }

// row is a chunk with a fingerprint and a number, and where it lies.
func row(sum byte, n uint32, shelf, slot int) api.Row {
	return api.Row{Key: key(sum, n), Place: api.Place{Shelf: shelf, Slot: slot}}
}

// loaded is a shelf with all rows that were loaded with it.
type loaded struct {
	shelf int
	rows  []api.Row
}

// slow is a cache as the chapter tells it: its shelves, in their order.
type slow struct {
	room int
	all  []loaded
}

func (m *slow) at(shelf int) int {
	for i, s := range m.all {
		if s.shelf == shelf {
			return i
		}
	}
	return -1
}

// remove makes the list anew, without the one at an index.
func (m *slow) remove(at int) {
	var left []loaded
	for i, s := range m.all {
		if i != at {
			left = append(left, s)
		}
	}
	m.all = left
}

func (m *slow) load(shelf int, l []api.Row, draw uint64) {
	if m.room == 0 || m.at(shelf) >= 0 {
		return
	}
	if len(m.all) == m.room {
		m.remove(int(draw % uint64(len(m.all))))
	}
	m.all = append(m.all, loaded{shelf, slices.Clone(l)})
}

func (m *slow) drop(shelf int) bool {
	at := m.at(shelf)
	if at >= 0 {
		m.remove(at)
	}
	return at >= 0
}

func (m *slow) get(k api.Key) (api.Place, bool) {
	for _, s := range m.all {
		for _, r := range s.rows {
			if r.Key == k {
				return r.Place, true
			}
		}
	}
	return api.Place{}, false
}

func (m *slow) shelves() []int {
	var l []int
	for _, s := range m.all {
		l = append(l, s.shelf)
	}
	return l
}

// others are keys that are mostly in no row, near those that are.
func others(k api.Key) []api.Key {
	l := []api.Key{{}, {Sum: k.Sum, N: k.N + 1}, {Sum: k.Sum, N: k.N - 1}, {Sum: k.Sum, N: k.N ^ 1<<31}}
	for _, i := range []int{0, 1, 15, 30, 31} {
		near := k
		near.Sum[i] ^= 1
		l = append(l, near)
	}
	return l
}

// same tells whether c is as m, in all that can be seen without changing it.
func (m *slow) same(t *testing.T, c *cache.Cache, keys ...api.Key) {
	t.Helper()
	if got, want := c.Shelves(), m.shelves(); !slices.Equal(got, want) {
		t.Fatalf("shelves %v, want %v", got, want)
	}
	shelves := []int{0, 1, -1, 3, lowest, greatest, 1 << 32}
	for _, s := range m.all {
		shelves = append(shelves, s.shelf, s.shelf+1, s.shelf-1)
		for _, r := range s.rows {
			keys = append(keys, r.Key)
		}
	}
	for _, at := range shelves {
		if got, want := c.Has(at), m.at(at) >= 0; got != want {
			t.Fatalf("has %d: %v, want %v", at, got, want)
		}
	}
	for _, k := range append(keys, api.Key{}, key(1, 0)) {
		p, there := c.Get(k)
		if want, is := m.get(k); p != want || there != is {
			t.Fatalf("%v: got %v, %v, want %v, %v", k, p, there, want, is)
		}
	}
}

// load1 loads a shelf into a cache and a slow one.
func (m *slow) load1(c *cache.Cache, shelf int, draw uint64, l ...api.Row) {
	c.Load(shelf, l, draw)
	m.load(shelf, l, draw)
}

// drop1 drops a shelf from both, and tells that it was the same.
func (m *slow) drop1(t *testing.T, c *cache.Cache, shelf int) {
	t.Helper()
	if got, want := c.Drop(shelf), m.drop(shelf); got != want {
		t.Fatalf("drop of %d: %v, want %v", shelf, got, want)
	}
}

// step does the same with both, with few shelves and few keys.
func (m *slow) step(t *testing.T, r *source, c *cache.Cache) {
	t.Helper()
	shelf := r.number()
	if r.below(4) == 0 {
		m.drop1(t, c, shelf)
		return
	}
	m.load1(c, shelf, r.draw(), r.rows(6)...)
}

// number is one of few, for a shelf or a slot.
func (s *source) number() int {
	return []int{0, 1, 2, 3, 4, -1, lowest, greatest, 1 << 32}[s.below(9)]
}

// draw is a small one, a great one, or any.
func (s *source) draw() uint64 {
	switch s.below(3) {
	case 0:
		return uint64(s.below(10))
	case 1:
		return math.MaxUint64 - uint64(s.below(10))
	}
	return s.next()<<32 ^ s.next()
}

// key is one of few keys; some differ in one byte of the fingerprint alone, or in N.
func (s *source) key() api.Key {
	var d api.Sum
	d[[]int{0, 16, 31}[s.below(3)]] = []byte{0, 1, 255}[s.below(3)]
	return api.Key{Sum: d, N: []uint32{0, 1, 1 << 31, 1<<32 - 1}[s.below(4)]}
}

// rows are fewer than many; a key may be in some of them.
func (s *source) rows(many int) []api.Row {
	var l []api.Row
	for range s.below(many) {
		l = append(l, api.Row{Key: s.key(), Place: api.Place{Shelf: s.number(), Slot: s.number()}})
	}
	return l
}

// fresh is an empty cache and a slow one, with the same room.
func fresh(t *testing.T, room int) (*cache.Cache, *slow) {
	t.Helper()
	c, e := cache.New(room)
	if c == nil || e != api.OK {
		t.Fatalf("room %d: %v, error %d", room, c, e)
	}
	return c, &slow{room: room}
}

// P14.1

func TestNewRefusesOtherRooms(t *testing.T) {
	for _, room := range []int{-1, -2, -4096, lowest, lowest + 1, 4097, 4098, 8192, 1 << 16, 1 << 32, 1<<32 + 1, greatest} {
		if c, e := cache.New(room); c != nil || e != api.ErrArg {
			t.Errorf("room %d: %v, error %d", room, c, e)
		}
	}
}

func TestANewCacheIsEmpty(t *testing.T) {
	for _, room := range []int{0, 1, 2, 100, 4095, 4096} {
		c, m := fresh(t, room)
		m.same(t, c)
		if c.Drop(0) || c.Drop(1) {
			t.Error("it drops what it has not")
		}
		m.same(t, c)
	}
}

func TestExamples(t *testing.T) {
	c, _ := fresh(t, 2)
	for _, shelf := range []int{5, 7, 9} {
		c.Load(shelf, nil, 0)
	}
	if l := c.Shelves(); !slices.Equal(l, []int{7, 9}) {
		t.Errorf("got %v", l)
	}
	c.Load(9, []api.Row{row(1, 0, 9, 0)}, 0)
	if l := c.Shelves(); !slices.Equal(l, []int{7, 9}) {
		t.Errorf("got %v", l)
	}
	if p, there := c.Get(key(1, 0)); there {
		t.Errorf("got %v", p)
	}
	c.Load(11, nil, 3)
	if l := c.Shelves(); !slices.Equal(l, []int{7, 11}) {
		t.Errorf("got %v", l)
	}
}

func TestThereIsRoomForAsMany(t *testing.T) {
	for _, room := range []int{0, 1, 2, 3, 7, 4096} {
		c, _ := fresh(t, room)
		for i := range room {
			if l := c.Shelves(); len(l) != i {
				t.Fatalf("room %d: %d shelves, want %d", room, len(l), i)
			}
			c.Load(i, nil, uint64(i)) // nothing is drawn yet
		}
		l := c.Shelves()
		for i := range room {
			if l[i] != i || !c.Has(i) {
				t.Fatalf("room %d: shelf %d is not there", room, i)
			}
		}
		c.Load(-5, nil, 1)
		if l := c.Shelves(); len(l) != room || c.Has(-5) != (room > 0) {
			t.Fatalf("room %d: %d shelves", room, len(l))
		}
	}
}

func TestNoRoom(t *testing.T) {
	c, m := fresh(t, 0)
	for _, draw := range []uint64{0, 1, math.MaxUint64} {
		for _, shelf := range []int{0, 1, -1, lowest, greatest} {
			m.load1(c, shelf, draw, row(1, 0, shelf, 0))
			m.same(t, c, key(1, 0))
			if c.Has(shelf) || c.Drop(shelf) {
				t.Errorf("shelf %d is loaded", shelf)
			}
			if p, there := c.Get(key(1, 0)); p != (api.Place{}) || there {
				t.Errorf("got %v, %v", p, there)
			}
		}
	}
}

func TestALoadedShelfIsNotLoadedAgain(t *testing.T) {
	for room := 1; room <= 3; room++ {
		c, m := fresh(t, room)
		for shelf := range room {
			m.load1(c, shelf, 0, row(byte(shelf), 0, shelf, 5))
		}
		for shelf := range room { // neither rows nor the order change, and none goes
			for draw := range uint64(room) {
				c.Load(shelf, []api.Row{row(byte(shelf), 0, 8, 8), row(9, 9, 9, 9)}, draw)
				m.same(t, c, key(9, 9))
			}
		}
	}
}

func TestAShelfWithoutRowsIsLoaded(t *testing.T) {
	for _, l := range [][]api.Row{nil, {}} {
		c, m := fresh(t, 2)
		m.load1(c, 3, 0, l...)
		m.same(t, c)
		if !c.Has(3) {
			t.Error("it is not")
		}
		c.Load(3, []api.Row{row(1, 0, 3, 0)}, 0) // it is loaded already
		m.same(t, c, key(1, 0))
		m.drop1(t, c, 3)
		m.same(t, c)
	}
}

func TestTheDrawnShelfGoes(t *testing.T) {
	for room := 1; room <= 5; room++ {
		draws := []uint64{1 << 31, 1<<32 - 1, 1 << 32, 1<<32 + 1, 1<<63 - 1, 1 << 63, 1<<63 + 1, math.MaxUint64 - 1, math.MaxUint64}
		for draw := range uint64(3*room + 1) {
			draws = append(draws, draw)
		}
		for _, draw := range draws {
			c, m := fresh(t, room)
			want := []int{}
			for i := range room {
				shelf := (7 * i) % 11 // not in increasing order
				m.load1(c, shelf, draw, row(byte(i), 0, shelf, i))
				if uint64(i) != draw%uint64(room) {
					want = append(want, shelf)
				}
			}
			m.load1(c, 20, draw, row(8, 8, 20, 0))
			if l := c.Shelves(); !slices.Equal(l, append(want, 20)) {
				t.Fatalf("room %d, draw %d: %v, want %v", room, draw, l, want)
			}
			for i := range room { // its rows go with it
				if _, there := c.Get(key(byte(i), 0)); there != (uint64(i) != draw%uint64(room)) {
					t.Fatalf("room %d, draw %d: row %d: %v", room, draw, i, there)
				}
			}
			m.same(t, c)
		}
	}
}

func TestGreatDraws(t *testing.T) {
	for _, x := range []struct {
		draw uint64
		want []int // which of 10, 11 and 12 are left, and 13
	}{
		{1<<32 - 1, []int{11, 12, 13}},
		{1 << 32, []int{10, 12, 13}},
		{1<<63 - 1, []int{10, 12, 13}},
		{1 << 63, []int{10, 11, 13}},
		{1<<63 + 1, []int{11, 12, 13}},
		{math.MaxUint64 - 1, []int{10, 11, 13}},
		{math.MaxUint64, []int{11, 12, 13}},
	} {
		c, _ := fresh(t, 3)
		for shelf := 10; shelf < 14; shelf++ {
			c.Load(shelf, nil, x.draw)
		}
		if l := c.Shelves(); !slices.Equal(l, x.want) {
			t.Errorf("draw %d: %v, want %v", x.draw, l, x.want)
		}
	}
}

func TestADrawTakesNothingWhileThereIsRoom(t *testing.T) {
	c, m := fresh(t, 3)
	m.load1(c, 1, 0, row(1, 0, 1, 0))
	m.load1(c, 2, 0, row(2, 0, 2, 0))
	m.load1(c, 3, 0, row(3, 0, 3, 0))
	m.drop1(t, c, 2)
	m.load1(c, 4, 0, row(4, 0, 4, 0)) // in the room that the dropped one left
	m.same(t, c)
	if l := c.Shelves(); !slices.Equal(l, []int{1, 3, 4}) {
		t.Errorf("got %v", l)
	}
	m.load1(c, 5, 1)
	if l := c.Shelves(); !slices.Equal(l, []int{1, 4, 5}) {
		t.Errorf("got %v", l)
	}
	m.same(t, c, key(3, 0))
}

func TestAnyShelfAndAnyRows(t *testing.T) {
	ends := []int{0, 1, -1, 4095, 4096, 1 << 14, 1 << 32, lowest, lowest + 1, greatest - 1, greatest}
	c, m := fresh(t, len(ends))
	for i, shelf := range ends {
		var l []api.Row
		for j, slot := range ends { // a row may tell another shelf than that it is loaded with
			l = append(l, row(byte(i), uint32(j), slot, shelf))
		}
		m.load1(c, shelf, 0, l...)
		m.same(t, c)
	}
	for _, shelf := range ends {
		m.drop1(t, c, shelf)
		m.same(t, c)
	}
}

// P14.2

func TestGetTakesTheFirstRowOfAShelf(t *testing.T) {
	c, m := fresh(t, 4)
	m.load1(c, 1, 0, row(1, 0, 1, 5), row(2, 0, 1, 6), row(1, 0, 1, 2), row(1, 0, 0, 0), row(2, 0, 9, 9))
	m.same(t, c)
	if p, there := c.Get(key(1, 0)); p != (api.Place{Shelf: 1, Slot: 5}) || !there {
		t.Errorf("got %v, %v", p, there)
	}
	if p, there := c.Get(key(2, 0)); p != (api.Place{Shelf: 1, Slot: 6}) || !there {
		t.Errorf("got %v, %v", p, there)
	}
}

func TestTheZeroPlaceIsOne(t *testing.T) {
	c, m := fresh(t, 2)
	m.load1(c, 1, 0, api.Row{}, row(0, 0, 4, 4))
	m.load1(c, 2, 0, row(0, 0, 5, 5))
	m.same(t, c)
	if p, there := c.Get(api.Key{}); p != (api.Place{}) || !there {
		t.Errorf("got %v, %v", p, there)
	}
}

func TestGetTakesTheShelfThatWasLoadedFirst(t *testing.T) {
	shelves := []int{4, -2, 9, 0}
	c, m := fresh(t, len(shelves))
	for i, shelf := range shelves {
		m.load1(c, shelf, 0, row(1, 0, shelf, i), row(2, 0, shelf, i), row(1, 0, shelf, 9))
	}
	m.same(t, c)
	for i, shelf := range shelves { // each one in turn is the first
		if p, there := c.Get(key(1, 0)); p != (api.Place{Shelf: shelf, Slot: i}) || !there {
			t.Errorf("got %v, %v, want shelf %d", p, there, shelf)
		}
		m.drop1(t, c, shelf)
		m.same(t, c, key(1, 0), key(2, 0))
	}
	for i, shelf := range shelves {
		m.load1(c, shelf, 0, row(1, 0, shelf, i))
	}
	m.drop1(t, c, 4)
	m.load1(c, 4, 0, row(1, 0, 4, 7)) // it is the last one now
	m.same(t, c)
	if p, there := c.Get(key(1, 0)); p != (api.Place{Shelf: -2, Slot: 1}) || !there {
		t.Errorf("got %v, %v", p, there)
	}
}

func TestGetOfWhatIsNotThere(t *testing.T) {
	c, m := fresh(t, 3)
	m.load1(c, 1, 0, row(1, 0, 1, 0), row(1, 5, 1, 1))
	m.load1(c, 2, 0, row(2, 0, 2, 2))
	for _, r := range []api.Row{row(1, 0, 0, 0), row(1, 5, 0, 0), row(2, 0, 0, 0)} {
		for _, k := range others(r.Key) {
			m.same(t, c, k)
			p, there := c.Get(k)
			if p != (api.Place{}) || there {
				t.Errorf("%v: got %v, %v", k, p, there)
			}
		}
	}
}

func TestDropLeavesTheOthers(t *testing.T) {
	for first := range 5 {
		for second := range 5 {
			c, m := fresh(t, 4)
			for shelf := range 4 {
				m.load1(c, shelf, 0, row(byte(shelf), 0, shelf, 0), row(9, 0, shelf, 1))
			}
			m.drop1(t, c, first)
			m.same(t, c)
			m.drop1(t, c, second)
			m.same(t, c)
			m.load1(c, first, 0, row(9, 1, first, 7)) // with its new rows alone
			m.same(t, c, key(byte(first), 0), key(byte(second), 0))
		}
	}
}

func TestDropOfWhatIsNotLoaded(t *testing.T) {
	c, m := fresh(t, 3)
	m.load1(c, 1, 0, row(1, 0, 6, 0)) // its row tells shelf 6
	m.load1(c, 5, 0, row(2, 0, 5, 0))
	for _, shelf := range []int{0, 2, 4, 6, -1, -5, lowest, greatest, 1 << 32, 1<<32 + 1} {
		if c.Has(shelf) || c.Drop(shelf) {
			t.Errorf("shelf %d was loaded", shelf)
		}
		m.same(t, c)
	}
}

func TestANilCache(t *testing.T) {
	var c *cache.Cache
	for _, shelf := range []int{0, 1, -1, lowest, greatest} {
		for _, draw := range []uint64{0, 1, math.MaxUint64} {
			c.Load(shelf, []api.Row{{}, row(1, 0, shelf, 3)}, draw)
			c.Load(shelf, nil, draw)
		}
		for _, k := range []api.Key{{}, key(1, 0)} {
			if p, there := c.Get(k); p != (api.Place{}) || there {
				t.Errorf("got %v, %v", p, there)
			}
		}
		if c.Has(shelf) || c.Drop(shelf) || len(c.Shelves()) > 0 {
			t.Errorf("shelf %d was loaded", shelf)
		}
	}
}

// The chapter says nothing of a Cache that New did not make: it has no room.
func TestAZeroCache(t *testing.T) {
	r := source(1)
	c, m := &cache.Cache{}, &slow{}
	for range 50 {
		m.step(t, &r, c)
		m.same(t, c)
	}
}

// P14.1 and P14.2

// All that may be done in five calls, with few shelves and draws.
func TestAllShortHistories(t *testing.T) {
	const shelves, ways = 3, 3 // a way is to load with draw 0, with draw 1, or to drop
	many := shelves * ways
	for room := range 4 {
		for history := range many * many * many * many * many {
			c, m := fresh(t, room)
			for call := range 5 {
				shelf, way := history%shelves, history/shelves%ways
				history /= many
				if way == 2 {
					m.drop1(t, c, shelf)
				} else {
					m.load1(c, shelf, uint64(way), row(1, 0, shelf, call), row(2, uint32(shelf), 5, call))
				}
			}
			m.same(t, c, key(2, 0), key(2, 1), key(2, 2))
		}
	}
}

func TestACacheIsThatOfTheChapter(t *testing.T) {
	r := source(2)
	for room := range 9 {
		for range 20 {
			c, m := fresh(t, room)
			for range 60 {
				m.step(t, &r, c)
				m.same(t, c, r.key(), r.key())
			}
		}
	}
}

func TestAGreatCache(t *testing.T) {
	r := source(3)
	c, m := fresh(t, api.MaxShelves)
	for i := range 6000 {
		shelf := r.below(9000)
		m.load1(c, shelf, r.draw(), row(byte(shelf), uint32(shelf), shelf, i), row(byte(i%7), 0, shelf, i))
		if i%50 == 0 {
			m.drop1(t, c, r.below(9000))
		}
	}
	if len(m.all) < 3000 {
		t.Fatalf("only %d shelves", len(m.all))
	}
	if !slices.Equal(c.Shelves(), m.shelves()) {
		t.Error("other shelves")
	}
	for shelf := 0; shelf < 9000; shelf += 9 {
		k := key(byte(shelf), uint32(shelf))
		p, there := c.Get(k)
		if want, is := m.get(k); p != want || there != is {
			t.Fatalf("%v: got %v, %v, want %v, %v", k, p, there, want, is)
		}
	}
}

// P14.3

func TestNoMoreShelvesThanRoomAndTheLastIsThere(t *testing.T) {
	r := source(4)
	for _, room := range []int{1, 2, 3, 5, 8} {
		c, _ := fresh(t, room)
		most := 0
		for range 400 {
			shelf, had := r.number(), c.Shelves()
			if r.below(5) == 0 {
				c.Drop(shelf)
				continue
			}
			was := c.Has(shelf)
			c.Load(shelf, r.rows(3), r.draw())
			l := c.Shelves()
			if len(l) > room || !c.Has(shelf) {
				t.Fatalf("room %d: %v after shelf %d", room, l, shelf)
			}
			if was && !slices.Equal(l, had) || !was && l[len(l)-1] != shelf {
				t.Fatalf("room %d: %v after shelf %d, before %v", room, l, shelf, had)
			}
			most = max(most, len(l))
		}
		if most != room {
			t.Errorf("room %d: never more than %d shelves", room, most)
		}
	}
}

func TestARoomOfOneHasTheLast(t *testing.T) {
	c, m := fresh(t, 1)
	for i := range 20 {
		m.load1(c, i, uint64(i), row(byte(i), 0, i, 1), row(99, 0, i, 2))
		if l := c.Shelves(); !slices.Equal(l, []int{i}) {
			t.Fatalf("got %v", l)
		}
		m.same(t, c, key(byte(i-1), 0))
	}
}

// P14.4

func TestWhatIsGotIsFromALoadedShelf(t *testing.T) {
	r := source(5)
	got := 0
	for room := range 5 {
		c, _ := fresh(t, room)
		rows := map[int][]api.Row{} // those that the shelves were loaded with last
		for range 300 {
			shelf := r.number()
			if r.below(4) == 0 {
				c.Drop(shelf)
			} else if !c.Has(shelf) {
				rows[shelf] = r.rows(5)
				c.Load(shelf, rows[shelf], r.draw())
			}
			var there []api.Row
			for _, shelf := range c.Shelves() {
				there = append(there, rows[shelf]...)
			}
			for range 5 {
				k := r.key()
				p, is := c.Get(k)
				if is && !slices.Contains(there, api.Row{Key: k, Place: p}) {
					t.Fatalf("room %d: got %v of %v, there are %v", room, p, k, there)
				}
				if is {
					got++
				}
			}
		}
	}
	if got < 500 {
		t.Errorf("only %d keys were there", got)
	}
}

// The rules for all calls

func TestRowsAreNeitherKeptNorChanged(t *testing.T) {
	c, m := fresh(t, 3)
	whole := []api.Row{row(1, 0, 1, 0), row(2, 0, 1, 1), row(1, 0, 1, 2), row(3, 0, 1, 3), row(4, 0, 1, 4)}
	before := slices.Clone(whole)
	l := whole[1:3]
	c.Load(1, l, 0)
	m.load(1, l, 0)
	c.Load(1, whole, 0)
	m.same(t, c, key(3, 0), key(4, 0)) // what lies beyond the length is not read
	if !slices.Equal(whole, before) {
		t.Errorf("the rows were changed: %v", whole)
	}
	for i := range whole {
		whole[i] = row(77, 7, 7, 7)
	}
	m.same(t, c, key(77, 7), key(3, 0), key(4, 0))
	m.load1(c, 2, 0, whole...)
	m.drop1(t, c, 1)
	m.same(t, c, key(1, 0), key(2, 0))
	for i := range whole {
		if whole[i] != row(77, 7, 7, 7) {
			t.Errorf("row %d was changed: %v", i, whole[i])
		}
	}
}

func TestShelvesAreNewMemory(t *testing.T) {
	c, m := fresh(t, 4)
	for _, shelf := range []int{5, 6, 7} {
		m.load1(c, shelf, 0, row(byte(shelf), 0, shelf, 0))
	}
	kept, spoiled := c.Shelves(), c.Shelves()
	spoiled = spoiled[:cap(spoiled)]
	for i := range spoiled {
		spoiled[i] = 99
	}
	m.same(t, c)
	m.load1(c, 8, 0)
	m.same(t, c)
	m.load1(c, 9, 0)
	m.drop1(t, c, 7)
	m.same(t, c)
	if !slices.Equal(kept, []int{5, 6, 7}) {
		t.Errorf("other calls changed a result: %v", kept)
	}
	for i := range spoiled {
		if spoiled[i] != 99 {
			t.Errorf("other calls changed a result: %v", spoiled)
		}
	}
}

func TestAskingChangesNothing(t *testing.T) {
	c, m := fresh(t, 2)
	m.load1(c, 5, 0, row(1, 0, 5, 0))
	m.load1(c, 6, 0, row(2, 0, 6, 0))
	for range 3 {
		m.same(t, c)
		c.Get(key(1, 0)) // it is not nearer to the end for being asked for
		c.Has(5)
	}
	m.load1(c, 7, 0)
	m.same(t, c, key(1, 0))
}

func TestCachesDoNotDisturbEachOther(t *testing.T) {
	r := source(6)
	var all [3]*cache.Cache
	var models [3]*slow
	for i := range all {
		all[i], models[i] = fresh(t, i+1)
	}
	for range 300 {
		i := r.below(3)
		models[i].step(t, &r, all[i])
		for i, m := range models {
			m.same(t, all[i])
		}
	}
}

func TestTheSameCallsLeaveTheSame(t *testing.T) {
	var told [3]string
	for i := range told {
		r := source(7)
		c, m := fresh(t, 4)
		for range 200 {
			m.step(t, &r, c)
			p, there := c.Get(r.key())
			told[i] += fmt.Sprint(c.Shelves(), p, there)
		}
	}
	if told[0] != told[1] || told[1] != told[2] {
		t.Error("they do not")
	}
}
