package index_test

import (
	"fmt"
	"math"
	"slices"
	"testing"

	"cellarage/api"
	"cellarage/index"
)

const lowest, greatest = math.MinInt, math.MaxInt

// source makes the same numbers for the same seed.
type source uint64

func (s *source) next() uint64 {
	*s = *s*6364136223846793005 + 1442695040888963407
	return uint64(*s >> 16)
}

// below is a number from 0 to n - 1.
func (s *source) below(n int) int { return int(s.next() % uint64(n)) }

// row is a chunk with a fingerprint and a number, and where it lies.
func row(sum byte, n uint32, shelf, slot int) api.Row {
	return api.Row{Key: key(sum, n), Place: api.Place{Shelf: shelf, Slot: slot}}
}

func key(sum byte, n uint32) api.Key { return api.Key{Sum: api.Sum{sum}, N: n} }

// before is the order of keys as the chapter tells it.
func before(a, b api.Key) bool {
	for i := range a.Sum {
		if a.Sum[i] != b.Sum[i] {
			return a.Sum[i] < b.Sum[i]
		}
	}
	return a.N < b.N
}

// slow is an index as the chapter tells it: its rows, in no order.
type slow []api.Row

func (m slow) at(k api.Key) int {
	for i, r := range m {
		if r.Key == k {
			return i
		}
	}
	return -1
}

func (m *slow) put(r api.Row) bool {
	had := m.drop(r.Key)
	*m = append(*m, r)
	return had
}

func (m *slow) drop(k api.Key) bool {
	i := m.at(k)
	if i < 0 {
		return false
	}
	*m = append((*m)[:i:i], (*m)[i+1:]...)
	return true
}

// some are the rows that are asked for; each is put ahead of the first one behind it.
func (m slow) some(asked func(api.Row) bool, less func(a, b api.Row) bool) []api.Row {
	var l []api.Row
	for _, r := range m {
		if !asked(r) {
			continue
		}
		i := 0
		for i < len(l) && less(l[i], r) {
			i++
		}
		l = slices.Insert(l, i, r)
	}
	return l
}

func (m slow) all() []api.Row {
	return m.some(func(api.Row) bool { return true }, func(a, b api.Row) bool { return before(a.Key, b.Key) })
}

func (m slow) shelf(at int) []api.Row {
	return m.some(func(r api.Row) bool { return r.Place.Shelf == at }, func(a, b api.Row) bool {
		if a.Place.Slot != b.Place.Slot {
			return a.Place.Slot < b.Place.Slot
		}
		return before(a.Key, b.Key)
	})
}

func (m slow) twins(d api.Sum) []api.Key {
	var l []api.Key
	for _, r := range m.some(func(r api.Row) bool { return r.Key.Sum == d }, func(a, b api.Row) bool { return before(a.Key, b.Key) }) {
		l = append(l, r.Key)
	}
	return l
}

// others are keys that are mostly in no index, near those that are.
func others(k api.Key) []api.Key {
	l := []api.Key{{}, {Sum: k.Sum, N: k.N + 1}, {Sum: k.Sum, N: k.N - 1}, {Sum: k.Sum, N: k.N ^ 1<<31}}
	for _, i := range []int{0, 1, 15, 30, 31} {
		near := k
		near.Sum[i] ^= 1
		l = append(l, near)
	}
	return l
}

// same tells whether x is as m, in all that can be seen without changing it.
func (m slow) same(t *testing.T, x *index.Index) {
	t.Helper()
	all := m.all()
	if x.Len() != len(m) {
		t.Fatalf("%d chunks, want %d", x.Len(), len(m))
	}
	if got := x.All(); !slices.Equal(got, all) {
		t.Fatalf("got %v, want %v", got, all)
	}
	shelves, sums := []int{0, 1, -1, 3, lowest, greatest, 1 << 32}, []api.Sum{{}, {1}, {31: 1}, {255, 255}}
	for i, r := range m {
		m.sameAt(t, x, r.Key)
		if i < 20 { // enough of those that take long
			for _, k := range others(r.Key) {
				m.sameAt(t, x, k)
				sums = append(sums, k.Sum)
			}
		}
		shelves, sums = append(shelves, r.Place.Shelf, r.Place.Slot, r.Place.Shelf+1), append(sums, r.Key.Sum)
	}
	slices.Sort(shelves)
	for _, at := range slices.Compact(shelves) {
		if got, want := x.Shelf(at), m.shelf(at); !slices.Equal(got, want) {
			t.Fatalf("shelf %d: got %v, want %v", at, got, want)
		}
	}
	for _, d := range sums {
		if got, want := x.Twins(d), m.twins(d); !slices.Equal(got, want) {
			t.Fatalf("twins of %x: got %v, want %v", d, got, want)
		}
	}
}

// sameAt tells whether x has a key as m has it.
func (m slow) sameAt(t *testing.T, x *index.Index, k api.Key) {
	t.Helper()
	var want api.Place
	i := m.at(k)
	if i >= 0 {
		want = m[i].Place
	}
	if p, there := x.Get(k); p != want || there != (i >= 0) {
		t.Fatalf("%v: got %v, %v, want %v, %v", k, p, there, want, i >= 0)
	}
}

// put1 puts a row into an index and a slow one, and tells that it was the same.
func (m *slow) put1(t *testing.T, x *index.Index, r api.Row) {
	t.Helper()
	if got, want := x.Put(r.Key, r.Place), m.put(r); got != want {
		t.Fatalf("put of %v: %v, want %v", r, got, want)
	}
}

// drop1 drops a key from an index and a slow one, and tells that it was the same.
func (m *slow) drop1(t *testing.T, x *index.Index, k api.Key) {
	t.Helper()
	if got, want := x.Drop(k), m.drop(k); got != want {
		t.Fatalf("drop of %v: %v, want %v", k, got, want)
	}
}

// step does the same with both, with few keys and few places.
func (m *slow) step(t *testing.T, r *source, x *index.Index) {
	t.Helper()
	k := r.key()
	if r.below(3) == 0 {
		m.drop1(t, x, k)
		return
	}
	m.put1(t, x, api.Row{Key: k, Place: r.place()})
}

// key is one of few keys; some differ in one byte of the fingerprint alone, or in N.
func (s *source) key() api.Key {
	var d api.Sum
	d[[]int{0, 1, 16, 31}[s.below(4)]] = []byte{0, 1, 127, 128, 255}[s.below(5)]
	return api.Key{Sum: d, N: []uint32{0, 1, 2, 255, 256, 1 << 16, 1<<31 - 1, 1 << 31, 1<<32 - 1}[s.below(9)]}
}

// place is one of few places.
func (s *source) place() api.Place {
	l := []int{0, 1, 2, -1, lowest, greatest, 1 << 32}
	return api.Place{Shelf: l[s.below(len(l))], Slot: l[s.below(len(l))]}
}

// filled is an index and a slow one with the same rows.
func filled(t *testing.T, rows ...api.Row) (*index.Index, *slow) {
	t.Helper()
	x, m := index.New(), &slow{}
	for _, r := range rows {
		m.put1(t, x, r)
	}
	return x, m
}

// shuffled is the same rows, in another order.
func (s *source) shuffled(l []api.Row) []api.Row {
	l = slices.Clone(l)
	for i := range l {
		j := s.below(i + 1)
		l[i], l[j] = l[j], l[i]
	}
	return l
}

// P13.1

func TestANewIndexHasNoChunks(t *testing.T) {
	for range 2 {
		x := index.New()
		if x == nil {
			t.Fatal("there is none")
		}
		slow{}.same(t, x)
		if x.Drop(api.Key{}) || x.Drop(key(1, 2)) {
			t.Error("it drops what it has not")
		}
		slow{}.same(t, x)
	}
}

func TestExamples(t *testing.T) {
	x, k := index.New(), key(7, 1)
	if x.Put(k, api.Place{Shelf: 1, Slot: 2}) {
		t.Error("first put")
	}
	if !x.Put(k, api.Place{Shelf: 3, Slot: 4}) {
		t.Error("second put")
	}
	if p, there := x.Get(k); p != (api.Place{Shelf: 3, Slot: 4}) || !there {
		t.Error(p, there)
	}
	if !x.Drop(k) {
		t.Error("first drop")
	}
	if x.Drop(k) {
		t.Error("second drop")
	}
	slow{}.same(t, x)
}

func TestPutTakesAnyLocation(t *testing.T) {
	ends := []int{0, 1, -1, 999, 1000, 1 << 14, 1 << 32, lowest, lowest + 1, greatest - 1, greatest}
	x, m := filled(t)
	for _, shelf := range ends {
		for _, slot := range ends {
			m.put1(t, x, row(1, 0, shelf, slot))
			m.same(t, x)
		}
	}
	for i, shelf := range ends {
		for j, slot := range ends {
			m.put1(t, x, row(byte(i), uint32(j), shelf, slot))
		}
	}
	m.same(t, x)
}

func TestPutTakesAnyKey(t *testing.T) {
	x, m := filled(t)
	for _, n := range []uint32{0, 1, 1 << 31, 1<<32 - 1} {
		for i := range 32 {
			for _, b := range []byte{1, 128, 255} {
				k := api.Key{N: n}
				k.Sum[i] = b
				m.put1(t, x, api.Row{Key: k, Place: api.Place{Shelf: i % 3, Slot: int(b)}})
			}
		}
		m.put1(t, x, api.Row{Key: api.Key{N: n}, Place: api.Place{Shelf: 1}})
	}
	if x.Len() != 4*97 {
		t.Errorf("%d chunks", x.Len())
	}
	m.same(t, x)
}

func TestTheZeroLocationIsOne(t *testing.T) {
	x, m := filled(t, row(0, 0, 0, 0))
	m.same(t, x)
	if p, there := x.Get(api.Key{}); p != (api.Place{}) || !there {
		t.Errorf("got %v, %v", p, there)
	}
	if !x.Put(api.Key{}, api.Place{}) || !x.Drop(api.Key{}) || x.Drop(api.Key{}) {
		t.Error("it is not")
	}
}

func TestPutOfTheSameLocation(t *testing.T) {
	x, m := filled(t, row(1, 0, 5, 6), row(1, 1, 5, 6), row(2, 0, 5, 7))
	for range 3 {
		m.put1(t, x, row(1, 0, 5, 6))
		m.same(t, x)
	}
}

func TestPutMovesAChunk(t *testing.T) {
	x, m := filled(t, row(1, 0, 0, 0), row(1, 1, 0, 1), row(2, 0, 0, 2), row(3, 0, 1, 0))
	for _, r := range []api.Row{row(1, 1, 0, 9), row(1, 0, 1, 1), row(2, 0, 1, 0), row(1, 1, 1, 1), row(1, 0, 0, 0)} {
		m.put1(t, x, r)
		m.same(t, x)
	}
}

func TestDropLeavesTheOthers(t *testing.T) {
	rows := []api.Row{row(1, 0, 0, 0), row(1, 1, 0, 1), row(1, 2, 1, 1), row(2, 0, 0, 1), row(2, 1, 1, 0), row(3, 0, 2, 0)}
	for i := range rows {
		for j := range rows {
			x, m := filled(t, rows...)
			m.drop1(t, x, rows[i].Key)
			m.same(t, x)
			m.drop1(t, x, rows[j].Key)
			m.same(t, x)
			m.put1(t, x, rows[i])
			m.same(t, x)
		}
	}
}

func TestDropOfWhatIsNotThere(t *testing.T) {
	x, m := filled(t, row(1, 0, 0, 0), row(1, 5, 0, 1), row(2, 0, 0, 2))
	for _, k := range append(others(key(1, 0)), key(1, 4), key(2, 5), key(3, 0)) {
		if m.at(k) < 0 && x.Drop(k) {
			t.Errorf("drop of %v: true", k)
		}
		m.same(t, x)
	}
}

// All that may be done in three calls, with few keys and places.
func TestAllShortHistories(t *testing.T) {
	var keys []api.Key
	for _, sum := range []byte{0, 1} {
		keys = append(keys, key(sum, 0), key(sum, 1))
	}
	places := []api.Place{{}, {Slot: 1}, {Shelf: 1}}
	many := len(keys) * (len(places) + 1)
	for history := range many * many * many {
		x, m := index.New(), &slow{}
		for range 3 {
			k, what := keys[history%len(keys)], history/len(keys)%(len(places)+1)
			history /= many
			if what == len(places) {
				m.drop1(t, x, k)
			} else {
				m.put1(t, x, api.Row{Key: k, Place: places[what]})
			}
		}
		m.same(t, x)
	}
}

// P13.2

func TestKeysAreOrderedByTheirBytes(t *testing.T) {
	want := []api.Key{
		{},
		{N: 1},
		{N: 255},
		{N: 256},
		{N: 1<<31 - 1},
		{N: 1 << 31},
		{N: 1<<32 - 1},
		{Sum: api.Sum{31: 1}},
		{Sum: api.Sum{31: 127}},
		{Sum: api.Sum{31: 128}, N: 1},
		{Sum: api.Sum{31: 255}},
		{Sum: api.Sum{30: 1}},
		{Sum: api.Sum{16: 1}},
		{Sum: api.Sum{15: 1, 16: 255}},
		{Sum: api.Sum{1: 1}},
		{Sum: api.Sum{1: 200, 31: 9}, N: 7},
		{Sum: api.Sum{1}},
		{Sum: api.Sum{1, 1}},
		{Sum: api.Sum{127, 255}},
		{Sum: api.Sum{128}},
		{Sum: api.Sum{255}, N: 1<<32 - 1},
		{Sum: api.Sum{255, 1}},
	}
	r := source(1)
	for range 20 {
		var rows []api.Row
		for i, k := range want {
			rows = append(rows, api.Row{Key: k, Place: api.Place{Shelf: 4, Slot: i * r.below(2)}})
		}
		rows = r.shuffled(rows)
		x, m := filled(t, rows...)
		var got []api.Key
		for _, row := range x.All() {
			got = append(got, row.Key)
		}
		if !slices.Equal(got, want) {
			t.Fatalf("got %v, want %v", got, want)
		}
		m.same(t, x)
	}
}

func TestTwinsAreThoseOfOneFingerprint(t *testing.T) {
	ns := []uint32{7, 0, 1<<32 - 1, 3, 1 << 31, 256, 1, 255}
	x, m := filled(t)
	for i, n := range ns {
		m.put1(t, x, row(5, n, i%3, i))
		m.put1(t, x, row(6, n+1, i%3, i))
	}
	if got := x.Twins(api.Sum{5}); !slices.Equal(got, []api.Key{key(5, 0), key(5, 1), key(5, 3), key(5, 7), key(5, 255), key(5, 256), key(5, 1<<31), key(5, 1<<32-1)}) {
		t.Errorf("got %v", got)
	}
	for _, d := range []api.Sum{{}, {4}, {7}, {5, 1}, {31: 5}} {
		if got := x.Twins(d); len(got) > 0 {
			t.Errorf("%x: got %v", d, got)
		}
	}
	for _, n := range ns {
		m.drop1(t, x, key(5, n))
		m.same(t, x)
	}
	if got := x.Twins(api.Sum{5}); len(got) > 0 {
		t.Errorf("got %v", got)
	}
}

func TestShelfIsOrderedBySlotAndKey(t *testing.T) {
	want := []api.Row{
		row(9, 9, 2, lowest),
		row(8, 0, 2, -1),
		row(1, 1, 2, 0),
		row(1, 2, 2, 0),
		row(2, 0, 2, 0),
		row(0, 5, 2, 1),
		row(3, 1, 2, 1),
		row(0, 0, 2, 7),
		row(0, 1, 2, greatest),
	}
	r := source(2)
	for range 30 {
		x, m := filled(t, r.shuffled(append([]api.Row{row(0, 2, 1, 0), row(0, 3, 3, 0), row(0, 4, -2, 2)}, want...))...)
		if got := x.Shelf(2); !slices.Equal(got, want) {
			t.Fatalf("got %v, want %v", got, want)
		}
		m.same(t, x)
	}
}

func TestShelfFollowsItsChunks(t *testing.T) {
	x, m := filled(t, row(1, 0, 7, 0), row(2, 0, 7, 1))
	m.put1(t, x, row(1, 0, 8, 0))
	if l := x.Shelf(7); !slices.Equal(l, []api.Row{row(2, 0, 7, 1)}) {
		t.Errorf("got %v", l)
	}
	m.drop1(t, x, key(2, 0))
	if l := x.Shelf(7); len(l) > 0 {
		t.Errorf("got %v", l)
	}
	if l := x.Shelf(8); !slices.Equal(l, []api.Row{row(1, 0, 8, 0)}) {
		t.Errorf("got %v", l)
	}
	m.put1(t, x, row(1, 0, 7, 3))
	if l := x.Shelf(8); len(l) > 0 {
		t.Errorf("got %v", l)
	}
	m.same(t, x)
}

func TestLenCountsChunks(t *testing.T) {
	x := index.New()
	for i := range 300 {
		x.Put(key(byte(i%100), uint32(i/100)), api.Place{})
		if x.Len() != i+1 {
			t.Fatalf("%d chunks, want %d", x.Len(), i+1)
		}
	}
	for i := range 300 {
		x.Put(key(byte(i%100), uint32(i/100)), api.Place{Shelf: i})
		if x.Len() != 300 {
			t.Fatalf("%d chunks", x.Len())
		}
	}
	for i := range 300 {
		x.Drop(key(byte(i%100), uint32(i/100)))
		x.Drop(key(byte(i%100), uint32(i/100)))
		if x.Len() != 299-i {
			t.Fatalf("%d chunks, want %d", x.Len(), 299-i)
		}
	}
}

func TestANilIndex(t *testing.T) {
	var x *index.Index
	for range 2 {
		for _, k := range append(others(key(1, 1)), key(1, 1)) {
			if x.Put(k, api.Place{Shelf: 1, Slot: 2}) {
				t.Error("put of it again")
			}
			if p, there := x.Get(k); p != (api.Place{}) || there {
				t.Errorf("got %v, %v", p, there)
			}
			if x.Drop(k) {
				t.Error("it drops what it has not")
			}
			if l := x.Twins(k.Sum); len(l) > 0 {
				t.Errorf("twins: %v", l)
			}
		}
		for _, at := range []int{0, 1, -1, lowest, greatest} {
			if l := x.Shelf(at); len(l) > 0 {
				t.Errorf("shelf %d: %v", at, l)
			}
		}
		if x.Len() != 0 || len(x.All()) > 0 {
			t.Errorf("%d chunks, %v", x.Len(), x.All())
		}
	}
}

// The chapter says nothing of an Index that New did not make: it has no chunks.
func TestAZeroIndex(t *testing.T) {
	slow{}.same(t, &index.Index{})
	if new(index.Index).Drop(api.Key{}) {
		t.Error("it drops what it has not")
	}
	r := source(3)
	x, m := &index.Index{}, &slow{}
	for range 100 {
		m.step(t, &r, x)
		m.same(t, x)
	}
}

// P13.1 and P13.2

func TestAnIndexIsThatOfTheChapter(t *testing.T) {
	r := source(4)
	for range 30 {
		x, m := filled(t)
		for range 60 {
			m.step(t, &r, x)
			m.same(t, x)
		}
	}
}

func TestAGreatIndex(t *testing.T) {
	r := source(5)
	x, m := filled(t)
	for i := range 2500 {
		k := api.Key{N: uint32(i % 3)}
		for j := range k.Sum {
			k.Sum[j] = byte(r.next())
		}
		for range 1 + r.below(2) {
			m.put1(t, x, api.Row{Key: k, Place: api.Place{Shelf: r.below(40), Slot: r.below(100)}})
		}
		if r.below(3) == 0 {
			m.drop1(t, x, k)
		}
	}
	if got, want := x.All(), m.all(); !slices.Equal(got, want) {
		t.Errorf("%d rows, want %d", len(got), len(want))
	}
	for at := range 40 {
		if got, want := x.Shelf(at), m.shelf(at); !slices.Equal(got, want) {
			t.Errorf("shelf %d: %d rows, want %d", at, len(got), len(want))
		}
	}
}

// P13.3

func TestTheOrderOfPutsDoesNotMatter(t *testing.T) {
	r := source(6)
	for range 60 {
		var rows []api.Row
		for range r.below(40) {
			rows = append(rows, api.Row{Key: r.key(), Place: r.place()})
		}
		x, m := filled(t, rows...)
		other := index.New()
		for _, row := range r.shuffled(rows) { // where they lay before
			other.Put(row.Key, r.place())
			if r.below(4) == 0 {
				other.Drop(row.Key)
			}
		}
		for _, row := range r.shuffled(m.all()) { // the last location of each
			other.Put(row.Key, row.Place)
		}
		m.same(t, x)
		m.same(t, other)
	}
}

func TestAllOrdersOfSomePuts(t *testing.T) {
	rows := []api.Row{row(1, 0, 0, 0), row(1, 1, 0, 0), row(2, 0, 0, 1), row(2, 1, 1, 0), row(0, 3, 1, 0), row(3, 0, 0, 0)}
	var orders func(head, tail []api.Row)
	orders = func(head, tail []api.Row) {
		if len(tail) == 0 {
			x, _ := filled(t, head...)
			slow(rows).same(t, x)
		}
		for i := range tail {
			orders(append(slices.Clone(head), tail[i]), slices.Delete(slices.Clone(tail), i, i+1))
		}
	}
	orders(nil, rows)
}

// P13.4

func TestAllIsTheShelvesAndTheTwins(t *testing.T) {
	r := source(7)
	for range 40 {
		x, m := filled(t)
		for range r.below(80) {
			m.step(t, &r, x)
		}
		shelves, sums := map[int]int{}, map[api.Sum]int{}
		for _, row := range x.All() {
			shelves[row.Place.Shelf]++
			sums[row.Key.Sum]++
		}
		var rows []api.Row
		for at, many := range shelves {
			l := x.Shelf(at)
			if len(l) != many {
				t.Errorf("shelf %d: %d rows, want %d", at, len(l), many)
			}
			rows = append(rows, l...)
		}
		slices.SortFunc(rows, func(a, b api.Row) int {
			if before(a.Key, b.Key) {
				return -1
			}
			return 1
		})
		if !slices.Equal(rows, x.All()) {
			t.Errorf("the shelves have %v, all have %v", rows, x.All())
		}
		for i := range x.All() {
			k := x.All()[i].Key
			l := x.Twins(k.Sum)
			if len(l) != sums[k.Sum] || !slices.Contains(l, k) {
				t.Errorf("twins of %v: %v", k, l)
			}
		}
	}
}

// The rules for all calls

func TestResultsAreNewMemory(t *testing.T) {
	rows := []api.Row{row(1, 0, 0, 0), row(1, 1, 0, 1), row(1, 2, 0, 2), row(2, 0, 1, 0), row(2, 1, 1, 1)}
	x, m := filled(t, rows...)
	all, shelf, twins := x.All(), x.Shelf(0), x.Twins(api.Sum{1})
	spoil := func(l []api.Row) {
		l = l[:cap(l)]
		for i := range l {
			l[i] = row(99, 99, 99, 99)
		}
	}
	spoil(x.All())
	spoil(x.Shelf(0))
	l := x.Twins(api.Sum{1})
	for i := range l[:cap(l)] {
		l[:cap(l)][i] = key(99, 99)
	}
	m.same(t, x)
	for i := range rows {
		x.Put(rows[i].Key, api.Place{Shelf: 77})
	}
	x.Drop(key(1, 1))
	if !slices.Equal(all, rows) || !slices.Equal(shelf, rows[:3]) || !slices.Equal(twins, []api.Key{key(1, 0), key(1, 1), key(1, 2)}) {
		t.Errorf("other calls changed results: %v, %v, %v", all, shelf, twins)
	}
}

func TestAskingChangesNothing(t *testing.T) {
	x, m := filled(t, row(1, 0, 0, 0), row(1, 1, 0, 1))
	for range 3 {
		m.same(t, x)
	}
	if x.Len() != 2 {
		t.Errorf("%d chunks", x.Len())
	}
}

func TestIndicesDoNotDisturbEachOther(t *testing.T) {
	r := source(8)
	var all [3]*index.Index
	var models [3]slow
	for i := range all {
		all[i] = index.New()
	}
	for range 200 {
		i := r.below(3)
		models[i].step(t, &r, all[i])
		for i, m := range models {
			m.same(t, all[i])
		}
	}
}

func TestTheSameCallsLeaveTheSame(t *testing.T) {
	var told [3]string
	for i := range told {
		r := source(9)
		x, m := filled(t)
		for range 200 {
			m.step(t, &r, x)
			k := r.key()
			told[i] += fmt.Sprint(x.All(), x.Shelf(r.place().Shelf), x.Twins(k.Sum))
		}
	}
	if told[0] != told[1] || told[1] != told[2] {
		t.Error("they do not")
	}
}
