package find_test

import (
	"bytes"
	"fmt"
	"math"
	"slices"
	"testing"

	"cellarage/api"
	"cellarage/find"
)

const lowest, greatest = math.MinInt, math.MaxInt

// source makes the same numbers for the same seed.
type source uint64

func (s *source) next() uint64 {
	*s = *s*6364136223846793005 + 1442695040888963407
	return uint64(*s >> 16)
}

// below is a number from 0 to n - 1.
func (s *source) below(n int) int { return int(s.next() % uint64(n)) }

func key(sum byte, n uint32) api.Key { return api.Key{Sum: api.Sum{sum}, N: n} }

func place(shelf, slot int) api.Place { return api.Place{Shelf: shelf, Slot: slot} }

// how is what a finder is made of.
type how struct{ bits, probes, room int }

// hows are with and without a filter and a cache, with small ones and great ones.
var hows = []how{
	{0, 0, 0}, {0, 5, 2}, {64, 0, 1}, {64, 3, 0}, {64, 3, 1}, {13, 2, 2}, {8, 1, 3}, {1, 1, 2},
	{3, 30, 1}, {1000, 4, 2}, {100003, 7, 5}, {api.MaxBits, api.MaxProbes, api.MaxShelves},
}

// before is the order of keys as layer 13 tells it.
func before(a, b api.Key) bool {
	for i := range a.Sum {
		if a.Sum[i] != b.Sum[i] {
			return a.Sum[i] < b.Sum[i]
		}
	}
	return a.N < b.N
}

// loaded is a shelf of the cache with its rows.
type loaded struct {
	shelf int
	rows  []api.Row
}

// slow is a finder as the chapters tell it: a list of rows, the bits of the filter
// that are 1, and the shelves of the cache in their order.
type slow struct {
	how
	rows         []api.Row
	ones         map[uint32]bool
	cache        []loaded
	asks, loads  int
	hits, denied int // how often the cache and the filter saved the index
}

// bits are those of a key, as layer 6 tells them.
func (m *slow) bitsOf(k api.Key) []uint32 {
	var a, b uint32
	for i := range 4 {
		a = a<<8 | uint32(k.Sum[i])
		b = b<<8 | uint32(k.Sum[4+i])
	}
	var l []uint32
	for i := 0; i < m.probes && m.bits > 0; i++ {
		l = append(l, (a+k.N+uint32(i)*(b|1))%uint32(m.bits))
	}
	return l
}

func (m *slow) add(k api.Key) {
	for _, bit := range m.bitsOf(k) {
		m.ones[bit] = true
	}
}

func (m *slow) may(k api.Key) bool {
	for _, bit := range m.bitsOf(k) {
		if !m.ones[bit] {
			return false
		}
	}
	return true
}

// at is the index of a key's row, or -1.
func (m *slow) at(k api.Key) int {
	return slices.IndexFunc(m.rows, func(r api.Row) bool { return r.Key == k })
}

// uncache removes a shelf from the cache.
func (m *slow) uncache(shelf int) {
	var left []loaded
	for _, s := range m.cache {
		if s.shelf != shelf {
			left = append(left, s)
		}
	}
	m.cache = left
}

// cached is the place that the cache has for a key.
func (m *slow) cached(k api.Key) (api.Place, bool) {
	for _, s := range m.cache {
		for _, r := range s.rows {
			if r.Key == k {
				return r.Place, true
			}
		}
	}
	return api.Place{}, false
}

func (m *slow) drop(k api.Key) bool {
	at := m.at(k)
	if at < 0 {
		return false
	}
	m.uncache(m.rows[at].Place.Shelf)
	m.rows = append(slices.Clone(m.rows[:at]), m.rows[at+1:]...)
	return true
}

func (m *slow) put(k api.Key, p api.Place) {
	m.drop(k)
	m.rows = append(m.rows, api.Row{Key: k, Place: p})
	m.add(k)
	m.uncache(p.Shelf)
}

func (m *slow) find(k api.Key, draw uint64) (api.Place, bool) {
	if !m.may(k) {
		m.denied++
		return api.Place{}, false
	}
	if p, there := m.cached(k); there {
		m.hits++
		return p, true
	}
	m.asks++
	at := m.at(k)
	if at < 0 {
		return api.Place{}, false
	}
	m.loads++
	m.load(m.rows[at].Place.Shelf, draw)
	return m.rows[at].Place, true
}

// load loads a shelf that is not loaded.
func (m *slow) load(shelf int, draw uint64) {
	if m.room == 0 {
		return
	}
	if len(m.cache) == m.room {
		m.uncache(m.cache[draw%uint64(m.room)].shelf)
	}
	m.cache = append(m.cache, loaded{shelf, m.shelf(shelf)})
}

func (m *slow) anew() {
	m.ones = map[uint32]bool{}
	for _, r := range m.rows {
		m.add(r.Key)
	}
}

func (m *slow) blur(b []byte) {
	for i := range 8 * len(b) {
		if b[i/8]>>(i%8)&1 == 1 {
			m.ones[uint32(i)] = true
		}
	}
}

// some are the rows that are asked for; each is put ahead of the first one behind it.
func (m *slow) some(asked func(api.Row) bool, less func(a, b api.Row) bool) []api.Row {
	var l []api.Row
	for _, r := range m.rows {
		if !asked(r) {
			continue
		}
		i := 0
		for i < len(l) && less(l[i], r) {
			i++
		}
		l = slices.Insert(l, i, r)
	}
	return l
}

func (m *slow) all() []api.Row {
	return m.some(func(api.Row) bool { return true }, func(a, b api.Row) bool { return before(a.Key, b.Key) })
}

func (m *slow) shelf(at int) []api.Row {
	return m.some(func(r api.Row) bool { return r.Place.Shelf == at }, func(a, b api.Row) bool {
		if a.Place.Slot != b.Place.Slot {
			return a.Place.Slot < b.Place.Slot
		}
		return before(a.Key, b.Key)
	})
}

func (m *slow) twins(d api.Sum) []api.Key {
	var l []api.Key
	for _, r := range m.all() {
		if r.Key.Sum == d {
			l = append(l, r.Key)
		}
	}
	return l
}

// both is a finder, and a slow one that the same is done with.
type both struct {
	*slow
	f *find.Finder
	t *testing.T
}

// fresh is both, without chunks.
func fresh(t *testing.T, h how) *both {
	t.Helper()
	f, e := find.New(h.bits, h.probes, h.room)
	if f == nil || e != api.OK {
		t.Fatalf("%v: %v, error %d", h, f, e)
	}
	return &both{&slow{how: h, ones: map[uint32]bool{}}, f, t}
}

func (b *both) put(k api.Key, p api.Place) {
	b.t.Helper()
	b.f.Put(k, p)
	b.slow.put(k, p)
	b.costs()
}

func (b *both) drop(k api.Key) bool {
	b.t.Helper()
	got, want := b.f.Drop(k), b.slow.drop(k)
	if got != want {
		b.t.Fatalf("%v: drop of %v: %v, want %v", b.how, k, got, want)
	}
	b.costs()
	return got
}

func (b *both) find(k api.Key, draw uint64) (api.Place, bool) {
	b.t.Helper()
	got, is := b.f.Find(k, draw)
	if want, there := b.slow.find(k, draw); got != want || is != there {
		b.t.Fatalf("%v: found %v at %v, %v, want %v, %v", b.how, k, got, is, want, there)
	}
	b.costs()
	return got, is
}

func (b *both) anew() {
	b.t.Helper()
	b.f.Anew()
	b.slow.anew()
	b.costs()
}

func (b *both) blur(l ...byte) {
	b.t.Helper()
	b.f.Blur(l)
	b.slow.blur(l)
	b.costs()
}

// costs tells whether the costs are the same.
func (b *both) costs() {
	b.t.Helper()
	if asks, loads := b.f.Cost(); asks != b.asks || loads != b.loads {
		b.t.Fatalf("%v: cost %d, %d, want %d, %d", b.how, asks, loads, b.asks, b.loads)
	}
}

// cost tells whether the cost is that.
func (b *both) cost(asks, loads int) {
	b.t.Helper()
	if n, m := b.f.Cost(); n != asks || m != loads {
		b.t.Fatalf("%v: cost %d, %d, want %d, %d", b.how, n, m, asks, loads)
	}
}

// same tells whether all is the same that can be seen without changing it.
func (b *both) same() {
	b.t.Helper()
	b.costs()
	if got := b.f.Len(); got != len(b.rows) {
		b.t.Fatalf("%v: %d chunks, want %d", b.how, got, len(b.rows))
	}
	if got, want := b.f.All(), b.all(); !slices.Equal(got, want) {
		b.t.Fatalf("%v: all %v, want %v", b.how, got, want)
	}
	for _, at := range []int{0, 1, 2, 3, 4, -1, lowest, greatest, 1 << 32} {
		if got, want := b.f.Shelf(at), b.shelf(at); !slices.Equal(got, want) {
			b.t.Fatalf("%v: shelf %d: %v, want %v", b.how, at, got, want)
		}
	}
	for _, d := range append(sums(b.rows), api.Sum{}, api.Sum{1}, api.Sum{31: 1}) {
		if got, want := b.f.Twins(d), b.twins(d); !slices.Equal(got, want) {
			b.t.Fatalf("%v: twins of %v: %v, want %v", b.how, d, got, want)
		}
	}
}

// sums are the fingerprints of some rows.
func sums(rows []api.Row) []api.Sum {
	var l []api.Sum
	for _, r := range rows {
		if !slices.Contains(l, r.Key.Sum) {
			l = append(l, r.Key.Sum)
		}
	}
	return l
}

// number is one of few, for a shelf or a slot.
func (s *source) number() int {
	return []int{0, 1, 2, 3, 4, -1, lowest, greatest, 1 << 32}[s.below(9)]
}

// place is one of few.
func (s *source) place() api.Place { return place(s.number(), s.number()) }

// draw is a small one, a great one, or any.
func (s *source) draw() uint64 {
	switch s.below(3) {
	case 0:
		return uint64(s.below(10))
	case 1:
		return math.MaxUint64 - uint64(s.below(10))
	}
	return s.next()<<32 ^ s.next()
}

// key is one of few keys; some differ in one byte of the fingerprint alone, or in N.
func (s *source) key() api.Key {
	var d api.Sum
	d[[]int{0, 3, 7, 31}[s.below(4)]] = []byte{0, 1, 255}[s.below(3)]
	return api.Key{Sum: d, N: []uint32{0, 1, 1 << 31, 1<<32 - 1}[s.below(4)]}
}

// bytes are few, most of whose bits are 0.
func (s *source) bytes() []byte {
	l := make([]byte, s.below(6))
	for i := range l {
		l[i] = byte(s.next() & s.next() & s.next())
	}
	return l
}

// step does one thing with both.
func (b *both) step(r *source) {
	b.t.Helper()
	switch r.below(12) {
	case 0, 1, 2:
		b.put(r.key(), r.place())
	case 3:
		b.drop(r.key())
	case 4:
		b.anew()
	case 5:
		b.blur(r.bytes()...)
	default:
		b.find(r.key(), r.draw())
	}
}

// P15.1

func TestNewRefusesWhatItsPartsRefuse(t *testing.T) {
	for _, h := range []how{
		{-1, 0, 0}, {lowest, 1, 1}, {api.MaxBits + 1, 1, 1}, {greatest, 3, 2}, {1<<32 + 8, 1, 1},
		{0, -1, 0}, {8, lowest, 1}, {8, api.MaxProbes + 1, 1}, {0, 31, 0}, {8, greatest, 1}, {8, 1<<32 + 1, 1},
		{0, 0, -1}, {8, 1, lowest}, {8, 1, api.MaxShelves + 1}, {0, 0, greatest}, {8, 1, 1<<32 + 1},
		{-1, -1, 0}, {-1, 0, -1}, {0, -1, -1}, {-1, -1, -1}, {greatest, greatest, greatest}, {lowest, lowest, lowest},
	} {
		if f, e := find.New(h.bits, h.probes, h.room); f != nil || e != api.ErrArg {
			t.Errorf("%v: %v, error %d", h, f, e)
		}
	}
}

func TestANewFinderHasNoChunks(t *testing.T) {
	edges := []how{{api.MaxBits, 0, 0}, {0, api.MaxProbes, 0}, {0, 0, api.MaxShelves}, {api.MaxBits, 0, api.MaxShelves}}
	for _, h := range append(edges, hows...) {
		b := fresh(t, h)
		b.cost(0, 0)
		b.same()
		for _, k := range []api.Key{{}, key(1, 0), key(255, 1<<32-1)} {
			if b.drop(k) {
				t.Errorf("%v: %v was there", h, k)
			}
			if p, there := b.find(k, 1); p != (api.Place{}) || there {
				t.Errorf("%v: found %v at %v, %v", h, k, p, there)
			}
		}
		b.same()
	}
}

func TestExamples(t *testing.T) {
	b := fresh(t, how{0, 0, 0})
	b.put(key(7, 0), place(1, 2))
	if p, there := b.find(key(7, 0), 0); p != place(1, 2) || !there {
		t.Errorf("got %v, %v", p, there)
	}
	b.cost(1, 1)
	b = fresh(t, how{64, 3, 1})
	if p, there := b.find(key(7, 0), 0); p != place(0, 0) || there {
		t.Errorf("got %v, %v", p, there)
	}
	b.cost(0, 0)
}

func TestPutAndDropAreThoseOfTheIndex(t *testing.T) {
	for _, h := range hows {
		b := fresh(t, h)
		for i, at := range []int{0, 1, -1, lowest, greatest, 1 << 32} {
			k := key(byte(i), uint32(i))
			b.put(k, place(at, -at))
			b.put(key(byte(i), 99), place(0, at))
			b.same()
			b.put(k, place(at, 3)) // it lies elsewhere now
			b.same()
			b.find(k, 0)
			b.put(k, place(2, at))
			b.same()
			if p, there := b.find(k, 0); p != place(2, at) || !there {
				t.Errorf("%v: found %v at %v, %v", h, k, p, there)
			}
		}
		for i := range 6 {
			if k := key(byte(i), uint32(i)); !b.drop(k) || b.drop(k) {
				t.Errorf("%v: drop of %v", h, k)
			}
			b.same()
		}
	}
}

// shelves puts that many shelves of that many chunks each, into finders without
// chunks, and loads them all.
func (b *both) shelves(many, each int) {
	b.t.Helper()
	for at := range many {
		for i := range each {
			b.put(key(byte(at), uint32(i)), place(at, i))
		}
	}
	for at := range many {
		b.find(key(byte(at), 0), 0)
	}
	b.cost(many, many)
}

func TestPutRemovesTheShelfThatAChunkComesTo(t *testing.T) {
	b := fresh(t, how{100000, 5, 4})
	b.shelves(3, 2)
	b.put(key(9, 0), place(1, 7))
	b.find(key(0, 0), 0)
	b.find(key(2, 1), 0)
	b.cost(3, 3) // the other shelves are there
	b.find(key(1, 1), 0)
	b.cost(4, 4) // this one was not
	if p, there := b.find(key(9, 0), 0); p != place(1, 7) || !there {
		t.Errorf("found at %v, %v", p, there)
	}
	b.cost(4, 4) // it was loaded with its new chunk
}

func TestPutRemovesTheShelfThatAChunkLeaves(t *testing.T) {
	b := fresh(t, how{100000, 5, 4})
	b.shelves(3, 2)
	b.put(key(2, 0), place(5, 0)) // from shelf 2
	b.find(key(0, 1), 0)
	b.find(key(1, 0), 0)
	b.cost(3, 3)
	if p, there := b.find(key(2, 0), 0); p != place(5, 0) || !there {
		t.Errorf("found at %v, %v", p, there)
	}
	b.cost(4, 4)
	b.find(key(2, 1), 3)
	b.cost(5, 5)
}

func TestPutOfANewChunkLeavesOtherShelves(t *testing.T) {
	b := fresh(t, how{100000, 5, 4})
	b.shelves(3, 2) // shelf 0 is that of the zero Place
	b.put(key(9, 0), place(7, 7))
	for at := range 3 {
		b.find(key(byte(at), 1), 0)
	}
	b.cost(3, 3)
}

func TestPutToTheSamePlaceRemovesTheShelf(t *testing.T) {
	b := fresh(t, how{100000, 5, 4})
	b.shelves(3, 2)
	b.put(key(1, 1), place(1, 1))
	b.find(key(0, 1), 0)
	b.find(key(2, 1), 0)
	b.cost(3, 3)
	b.find(key(1, 0), 0)
	b.cost(4, 4)
}

func TestDropRemovesItsShelf(t *testing.T) {
	b := fresh(t, how{100000, 5, 4})
	b.shelves(3, 3)
	b.drop(key(1, 0))
	b.find(key(0, 1), 0)
	b.find(key(2, 1), 0)
	b.cost(3, 3)
	if p, there := b.find(key(1, 0), 0); p != (api.Place{}) || there {
		t.Errorf("found at %v, %v", p, there)
	}
	b.cost(4, 3) // the filter has it still
	b.find(key(1, 1), 0)
	b.cost(5, 4)
	b.find(key(1, 2), 0)
	b.cost(5, 4)
}

func TestDropOfWhatIsNotThereRemovesNoShelf(t *testing.T) {
	b := fresh(t, how{100000, 5, 4})
	b.shelves(3, 2)
	for range 2 {
		b.drop(key(9, 9))
		b.drop(key(0, 9))
		b.drop(api.Key{Sum: api.Sum{31: 1}})
	}
	for at := range 3 {
		b.find(key(byte(at), 0), 0)
		b.find(key(byte(at), 1), 0)
	}
	b.cost(3, 3)
}

func TestTheFilterKeepsWhatIsDropped(t *testing.T) {
	b := fresh(t, how{100000, 5, 0})
	b.put(key(1, 0), place(1, 0))
	b.drop(key(1, 0))
	for i := range 3 {
		b.find(key(1, 0), 0)
		b.cost(i+1, 0)
	}
	b.find(key(2, 0), 0) // this one was never there
	b.cost(3, 0)
}

// P15.2

func TestTheFilterSavesTheIndex(t *testing.T) {
	b := fresh(t, how{1000003, 10, 3})
	for i := range 50 {
		b.put(key(byte(i), 0), place(i, i))
	}
	for i := range 150 {
		if p, there := b.find(key(byte(50+i), 0), uint64(i)); p != (api.Place{}) || there {
			t.Fatalf("found %d at %v, %v", i, p, there)
		}
	}
	b.cost(0, 0)
}

func TestWithoutAFilterTheIndexIsAsked(t *testing.T) {
	for _, h := range []how{{0, 0, 2}, {0, 30, 2}, {1000, 0, 2}} {
		b := fresh(t, h)
		b.put(key(1, 0), place(1, 0))
		for i := range 5 {
			b.find(key(2, 0), 0)
			b.cost(i+1, 0) // there is nothing to load
		}
	}
}

func TestACacheSavesTheIndex(t *testing.T) {
	for _, h := range []how{{0, 0, 1}, {64, 3, 1}, {1000, 5, 4}, {0, 0, api.MaxShelves}} {
		b := fresh(t, h)
		for i := range 20 {
			b.put(key(byte(i), uint32(i)), place(6, 19-i))
		}
		for round := range 3 {
			for i := range 20 {
				p, there := b.find(key(byte(i), uint32(i)), uint64(round+i))
				if p != place(6, 19-i) || !there {
					t.Errorf("%v: found %d at %v, %v", h, i, p, there)
				}
				b.cost(1, 1)
			}
		}
	}
}

func TestTheDrawTellsWhichShelfGoes(t *testing.T) {
	for room := 1; room <= 4; room++ {
		for _, draw := range []uint64{0, 1, 2, 3, 4, 5, 6, 7, 1<<32 - 1, 1 << 32, 1 << 63, 1<<63 + 1, math.MaxUint64 - 1, math.MaxUint64} {
			b := fresh(t, how{0, 0, room})
			for at := range room + 1 {
				b.put(key(byte(at), 0), place(at, 0))
				b.put(key(byte(at), 1), place(at, 1))
			}
			for at := range room {
				b.find(key(byte(at), 0), draw) // nothing is drawn yet
			}
			b.find(key(byte(room), 0), draw)
			b.cost(room+1, room+1)
			gone := int(draw % uint64(room))
			for at := range room + 1 {
				if at != gone {
					b.find(key(byte(at), 1), 0)
				}
			}
			b.cost(room+1, room+1)
			b.find(key(byte(gone), 1), 0)
			b.cost(room+2, room+2)
		}
	}
}

func TestTheRowsThatAreLoadedAreThoseOfTheShelf(t *testing.T) {
	b := fresh(t, how{0, 0, 1})
	for i := range 30 {
		b.put(key(byte(i), 0), place(i%3, i))
	}
	for at := range 3 {
		for i := range 10 {
			b.find(key(byte(3*i+at), 0), 0)
		}
		b.cost(at+1, at+1)
	}
}

// P15.3

func TestCostCountsWithoutRoom(t *testing.T) {
	for _, h := range []how{{0, 0, 0}, {64, 3, 0}} {
		b := fresh(t, h)
		b.put(key(1, 0), place(1, 0))
		for i := range 10 {
			b.find(key(1, 0), uint64(i))
			b.cost(i+1, i+1)
		}
	}
}

func TestCostCountsWhatFindDoesAlone(t *testing.T) {
	b := fresh(t, how{8, 1, 2})
	for i := range 20 {
		b.put(key(byte(i%7), 0), place(i%3, i))
		b.drop(key(byte(i%5), 0))
		b.anew()
		b.blur(byte(i))
		b.same()
		b.cost(0, 0)
	}
}

func TestAnewForgetsWhatIsGone(t *testing.T) {
	b := fresh(t, how{100000, 5, 0})
	for i := range 20 {
		b.put(key(byte(i), 0), place(i, 0))
	}
	for i := range 10 {
		b.drop(key(byte(i), 0))
	}
	b.anew()
	for i := range 10 {
		b.find(key(byte(i), 0), 0)
	}
	b.cost(0, 0)
	for i := range 10 {
		if _, there := b.find(key(byte(10+i), 0), 0); !there {
			t.Errorf("chunk %d is not there", 10+i)
		}
	}
	b.cost(10, 10)
}

func TestAnewForgetsABlur(t *testing.T) {
	b := fresh(t, how{64, 3, 0})
	b.blur(bytes.Repeat([]byte{255}, 8)...)
	b.find(key(1, 0), 0)
	b.cost(1, 0)
	b.anew()
	b.find(key(1, 0), 0)
	b.cost(1, 0)
	b.same()
}

func TestAnewLeavesTheCache(t *testing.T) {
	b := fresh(t, how{100000, 5, 4})
	b.shelves(3, 2)
	b.anew()
	b.anew()
	b.blur(255)
	for at := range 3 {
		b.find(key(byte(at), 0), 0)
		b.find(key(byte(at), 1), 0)
	}
	b.cost(3, 3)
	b.same()
}

func TestBlurIsOrOfTheFilter(t *testing.T) {
	for _, x := range []struct {
		bits []byte
		n    uint32 // of the key whose bit is asked for
		asks int
	}{
		{nil, 0, 0}, {[]byte{0}, 0, 0}, {[]byte{1}, 0, 1}, {[]byte{1}, 1, 0}, {[]byte{2}, 1, 1}, {[]byte{128}, 7, 1},
		{[]byte{0, 1}, 8, 1}, {[]byte{0, 16}, 12, 1}, {[]byte{0, 224, 255, 255}, 12, 0}, {[]byte{0, 224, 255}, 0, 0},
		{[]byte{0, 0, 1}, 0, 0}, {[]byte{1}, 13, 1}, {[]byte{1}, 14, 0},
	} {
		b := fresh(t, how{13, 1, 0})
		b.blur(x.bits...)
		b.find(key(0, x.n), 0)
		b.cost(x.asks, 0)
		b.put(key(0, 5), place(1, 1)) // nothing is cleared
		b.blur(0, 0, 0)
		b.find(key(0, x.n), 0)
		b.cost(2*x.asks, 0)
		b.find(key(0, 5), 0)
		b.cost(2*x.asks+1, 1)
	}
}

func TestANilFinder(t *testing.T) {
	var f *find.Finder
	for range 2 {
		for _, k := range []api.Key{{}, key(1, 0), key(255, 1<<32-1)} {
			for _, at := range []int{0, 1, -1, lowest, greatest} {
				f.Put(k, place(at, at))
				if p, there := f.Find(k, uint64(at)); p != (api.Place{}) || there {
					t.Errorf("found at %v, %v", p, there)
				}
				if l := f.Shelf(at); len(l) > 0 {
					t.Errorf("got %v", l)
				}
			}
			if f.Drop(k) || len(f.Twins(k.Sum)) > 0 || len(f.All()) > 0 || f.Len() != 0 {
				t.Error("there is something")
			}
		}
		f.Anew()
		f.Blur(nil)
		f.Blur([]byte{1, 2, 3})
		if asks, loads := f.Cost(); asks != 0 || loads != 0 {
			t.Errorf("cost %d, %d", asks, loads)
		}
	}
}

// The chapter says nothing of a Finder that New did not make: it keeps nothing.
func TestAZeroFinder(t *testing.T) {
	f := &find.Finder{}
	for range 2 {
		for _, k := range []api.Key{{}, key(1, 0)} {
			f.Put(k, place(1, 2))
			if p, there := f.Find(k, 0); p != (api.Place{}) || there {
				t.Errorf("found at %v, %v", p, there)
			}
			if f.Drop(k) || len(f.Twins(k.Sum)) > 0 || len(f.Shelf(1)) > 0 || len(f.All()) > 0 || f.Len() != 0 {
				t.Error("there is something")
			}
		}
		f.Anew()
		f.Blur([]byte{1, 2, 3})
	}
}

// P15.1 to P15.3

// All that may be done in five calls, with two chunks and two shelves.
func TestAllShortHistories(t *testing.T) {
	calls := []func(*both){
		func(b *both) { b.put(key(1, 0), place(1, 0)) },
		func(b *both) { b.put(key(1, 0), place(2, 0)) },
		func(b *both) { b.put(key(2, 0), place(1, 1)) },
		func(b *both) { b.drop(key(1, 0)) },
		func(b *both) { b.drop(key(2, 0)) },
		func(b *both) { b.find(key(1, 0), 0) },
		func(b *both) { b.find(key(2, 0), 1) },
		func(b *both) { b.anew() },
		func(b *both) { b.blur(0, 0, 0, 12, 96) },
	}
	n := len(calls)
	for _, h := range []how{{0, 0, 0}, {64, 3, 1}, {5, 1, 2}} {
		for history := range n * n * n * n * n {
			b := fresh(t, h)
			for range 5 {
				calls[history%n](b)
				history /= n
			}
			for draw := range 2 {
				b.find(key(1, 0), uint64(draw))
				b.find(key(2, 0), uint64(draw))
			}
			b.same()
		}
	}
}

func TestAFinderIsThatOfTheChapter(t *testing.T) {
	for i, h := range hows {
		r := source(i)
		var asks, loads, hits, denied int
		for range 40 {
			b := fresh(t, h)
			for range 150 {
				b.step(&r)
			}
			b.same()
			asks, loads, hits, denied = asks+b.asks, loads+b.loads, hits+b.hits, denied+b.denied
		}
		if h.room > 0 && hits < 100 || h.bits*h.probes > 0 && denied < 50 || asks-loads < 50 {
			t.Errorf("%v: %d asked, %d loaded, %d in the cache, %d denied", h, asks, loads, hits, denied)
		}
	}
}

func TestAGreatFinder(t *testing.T) {
	const many, each = 300, 10
	b := fresh(t, how{api.MaxBits, api.MaxProbes, many})
	r := source(50)
	keys, gone := r.keys(many*each), r.keys(500)
	for i, k := range keys {
		b.f.Put(k, place(i/each, i%each))
	}
	for _, k := range gone {
		b.f.Put(k, place(0, 0))
	}
	for _, k := range gone {
		b.f.Drop(k)
	}
	b.f.Anew()
	for range 2 {
		for i, k := range keys {
			if p, there := b.f.Find(k, uint64(i)); p != place(i/each, i%each) || !there {
				t.Fatalf("%d: found at %v, %v", i, p, there)
			}
		}
		for i, k := range gone {
			if p, there := b.f.Find(k, uint64(i)); p != (api.Place{}) || there {
				t.Fatalf("%d: found at %v, %v", i, p, there)
			}
		}
		b.cost(many, many)
	}
	if l := b.f.All(); len(l) != many*each || b.f.Len() != many*each {
		t.Errorf("%d chunks", len(l))
	}
}

// keys are that many with any fingerprints.
func (s *source) keys(many int) []api.Key {
	l := make([]api.Key, many)
	for i := range l {
		for j := range l[i].Sum {
			l[i].Sum[j] = byte(s.next())
		}
		l[i].N = uint32(s.below(3))
	}
	return l
}

// P15.4

func TestFindReturnsWhatTheIndexContains(t *testing.T) {
	r := source(100)
	for round := range 20 {
		var all []*find.Finder
		for _, h := range hows {
			f, e := find.New(h.bits, h.probes, h.room)
			if e != api.OK {
				t.Fatalf("%v: error %d", h, e)
			}
			all = append(all, f)
		}
		there := map[api.Key]api.Place{}
		for range 200 {
			k, p, way := r.key(), r.place(), r.below(3)
			want, is := there[k]
			for i, f := range all {
				switch way {
				case 0:
					f.Put(k, p)
				case 1:
					if got := f.Drop(k); got != is {
						t.Fatalf("%d, %v: drop of %v: %v", round, hows[i], k, got)
					}
				default:
					if got, found := f.Find(k, r.draw()); got != want || found != is {
						t.Fatalf("%d, %v: found %v at %v, %v, want %v, %v", round, hows[i], k, got, found, want, is)
					}
				}
				if r.below(10) == 0 {
					f.Anew()
				}
				if r.below(10) == 0 {
					f.Blur(r.bytes())
				}
			}
			if way == 0 {
				there[k] = p
			} else if way == 1 {
				delete(there, k)
			}
		}
		for i, f := range all {
			if !slices.Equal(f.All(), all[0].All()) || f.Len() != len(there) {
				t.Fatalf("%d, %v: other chunks", round, hows[i])
			}
		}
	}
}

// P15.5

func TestAfterALoadTheIndexIsNotLookedUp(t *testing.T) {
	r := source(200)
	saved := 0
	for _, h := range hows {
		if h.room == 0 {
			continue
		}
		f, _ := find.New(h.bits, h.probes, h.room)
		for range 100 {
			f.Put(r.key(), r.place())
		}
		for range 200 {
			k := r.key()
			p, there := f.Find(k, r.draw())
			if !there {
				continue
			}
			asks, loads := f.Cost()
			for _, row := range f.Shelf(p.Shelf) {
				if got, found := f.Find(row.Key, r.draw()); got != row.Place || !found {
					t.Fatalf("%v: found %v at %v, %v, want %v", h, row.Key, got, found, row.Place)
				}
				saved++
			}
			if n, m := f.Cost(); n != asks || m != loads {
				t.Fatalf("%v: cost %d, %d, before %d, %d", h, n, m, asks, loads)
			}
		}
	}
	if saved < 1000 {
		t.Errorf("only %d were found", saved)
	}
}

// The rules for all calls

func TestBytesAreNeitherKeptNorChanged(t *testing.T) {
	b := fresh(t, how{64, 1, 0})
	whole := []byte{1, 2, 4, 255, 255, 255, 255, 255}
	part := whole[:3] // what lies beyond the length is not read
	b.blur(part...)
	for n := range uint32(64) {
		b.find(key(0, n), 0)
	}
	b.cost(3, 0)
	if !bytes.Equal(whole, []byte{1, 2, 4, 255, 255, 255, 255, 255}) {
		t.Errorf("they were changed: %v", whole)
	}
	for i := range whole {
		whole[i] = 255
	}
	for n := range uint32(64) {
		b.find(key(0, n), 0)
	}
	b.cost(6, 0)
	b.put(key(0, 9), place(0, 0))
	b.anew()
	for _, c := range whole {
		if c != 255 {
			t.Errorf("they were changed: %v", whole)
		}
	}
}

func TestResultsAreNewMemory(t *testing.T) {
	b := fresh(t, how{64, 3, 4})
	b.shelves(3, 3)
	all, shelf, twins := b.f.All(), b.f.Shelf(1), b.f.Twins(api.Sum{1})
	kept := fmt.Sprint(all, shelf, twins)
	for range 2 {
		for _, l := range [][]api.Row{b.f.All(), b.f.Shelf(1)} {
			for i := range l[:cap(l)] {
				l[:cap(l)][i] = api.Row{Key: key(99, 9), Place: place(9, 9)}
			}
		}
		l := b.f.Twins(api.Sum{1})
		for i := range l[:cap(l)] {
			l[:cap(l)][i] = key(99, 9)
		}
	}
	b.same()
	for at := range 3 {
		for i := range 3 {
			b.find(key(byte(at), uint32(i)), 0)
		}
	}
	b.put(key(1, 0), place(2, 9))
	b.drop(key(1, 1))
	b.same()
	if fmt.Sprint(all, shelf, twins) != kept {
		t.Error("other calls changed a result")
	}
}

func TestAskingChangesNothing(t *testing.T) {
	b := fresh(t, how{64, 3, 2})
	for at := range 4 {
		b.put(key(byte(at), 0), place(at, 0))
	}
	b.find(key(0, 0), 0)
	b.find(key(1, 0), 0)
	for range 3 {
		b.same() // Shelf loads nothing
		b.find(key(0, 0), 0)
		b.find(key(1, 0), 0)
		b.cost(2, 2)
	}
	b.find(key(2, 0), 0) // shelf 0 is the first one still
	b.find(key(1, 0), 0)
	b.cost(3, 3)
}

func TestFindersDoNotDisturbEachOther(t *testing.T) {
	r := source(300)
	var all []*both
	for _, h := range []how{{64, 3, 2}, {64, 3, 2}, {0, 0, 1}, {13, 1, 0}} {
		all = append(all, fresh(t, h))
	}
	for range 1000 {
		all[r.below(len(all))].step(&r)
		all[r.below(len(all))].same()
	}
	for _, b := range all {
		b.same()
	}
}

func TestTheSameCallsLeaveTheSame(t *testing.T) {
	var told [3]string
	for i := range told {
		r := source(400)
		b := fresh(t, how{13, 2, 2})
		for range 400 {
			b.step(&r)
			p, there := b.find(r.key(), r.draw())
			asks, loads := b.f.Cost()
			told[i] += fmt.Sprint(p, there, asks, loads, b.f.Len())
		}
		told[i] += fmt.Sprint(b.f.All(), b.f.Shelf(1), b.f.Twins(api.Sum{1}))
	}
	if told[0] != told[1] || told[1] != told[2] {
		t.Error("they do not")
	}
}
