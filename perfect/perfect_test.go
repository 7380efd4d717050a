package perfect_test

import (
	"math"
	"math/big"
	"slices"
	"sync"
	"testing"

	"cellarage/api"
	"cellarage/perfect"
)

// source makes the same numbers for the same seed.
type source uint64

func (s *source) next() uint64 {
	*s = *s*6364136223846793005 + 1442695040888963407
	return uint64(*s >> 16)
}

func (s *source) key() api.Key {
	k := api.Key{N: uint32(s.next())}
	for i := range k.Sum {
		k.Sum[i] = byte(s.next())
	}
	return k
}

func (s *source) keys(many int) []api.Key {
	l := make([]api.Key, many)
	for i := range l {
		l[i] = s.key()
	}
	return l
}

// crowded is keys of some of the groups alone that there are for that many.
func (s *source) crowded(many int, groups ...int) []api.Key {
	var l []api.Key
	for len(l) < many {
		k := s.key()
		if slices.Contains(groups, slowIndex(0, k, many/4+1)) {
			l = append(l, k)
		}
	}
	return l
}

func (s *source) shuffle(l []api.Key) []api.Key {
	l = slices.Clone(l)
	for i := range l {
		j := int(s.next() % uint64(i+1))
		l[i], l[j] = l[j], l[i]
	}
	return l
}

// from is the key with these bytes, then only bytes rest, and with this number.
func from(head string, rest byte, n uint32) api.Key {
	k := api.Key{N: n}
	for i := copy(k.Sum[:], head); i < len(k.Sum); i++ {
		k.Sum[i] = rest
	}
	return k
}

// plain is keys that differ in few bytes.
func plain(many int) []api.Key {
	l := make([]api.Key, many)
	for i := range l {
		l[i] = api.Key{Sum: api.Sum{byte(i), byte(i >> 8), 5}, N: uint32(i % 2)}
	}
	return l
}

// numbered is keys that differ in their numbers alone.
func numbered(many int) []api.Key {
	l := make([]api.Key, many)
	for i := range l {
		l[i] = from("abc", 1, uint32(i)<<(i%20))
	}
	slices.SortFunc(l, func(a, b api.Key) int { return int(a.N) - int(b.N) })
	return slices.Compact(l)
}

// lists are some without repetitions: small and great ones, even and crowded ones.
func lists() [][]api.Key {
	s := source(1)
	var all [][]api.Key
	for n := range 130 {
		all = append(all, s.keys(n), s.keys(n), plain(n), numbered(n))
		all = append(all, s.crowded(n, 0), s.crowded(n, n/4), s.crowded(n, 0, n/8, n/4), s.shuffle(s.crowded(n, n/8, n/5, n/4)))
	}
	for _, n := range []int{255, 256, 257, 1000, 4095, api.MaxKeys - 1, api.MaxKeys} {
		all = append(all, s.keys(n), plain(n))
	}
	return append(all, s.crowded(700, 3), s.crowded(700, 3, 99, 100, 175))
}

// slowHash is the hash of a key, in numbers of any size.
func slowHash(seed uint64, k api.Key) uint64 {
	sum := new(big.Int).SetUint64(14695981039346656037)
	sum.Xor(sum, new(big.Int).SetUint64(seed))
	all := append(slices.Clone(k.Sum[:]), byte(k.N/(1<<24)), byte(k.N/(1<<16)), byte(k.N/(1<<8)), byte(k.N))
	for _, b := range all {
		sum.Xor(sum, big.NewInt(int64(b)))
		sum.Mul(sum, big.NewInt(1099511628211))
		sum.Mod(sum, new(big.Int).Lsh(big.NewInt(1), 64))
	}
	sum.Xor(sum, new(big.Int).Rsh(sum, 32))
	return sum.Uint64()
}

// slowIndex takes Hash, which has tests of its own.
func slowIndex(seed uint64, k api.Key, size int) int {
	return int(perfect.Hash(seed, k) % uint64(size))
}

// slow is a map as the chapter tells it.
type slow struct {
	keys    []api.Key
	groups  map[int][]api.Key // those that have keys
	used    map[int]bool
	d       map[int]int // of the groups that have one
	spilled []int       // the groups that are, in their order
	at      map[api.Key]int
}

func slowBuild(l []api.Key) *slow {
	m := &slow{keys: l, groups: map[int][]api.Key{}, used: map[int]bool{}, d: map[int]int{}, at: map[api.Key]int{}}
	most := 0
	for _, k := range l {
		g := m.group(k)
		m.groups[g] = append(m.groups[g], k)
		most = max(most, len(m.groups[g]))
	}
	for size := most; size > 0; size-- {
		for g := range len(l)/4 + 1 {
			if len(m.groups[g]) == size {
				m.process(g)
			}
		}
	}
	for _, g := range m.spilled {
		for _, k := range m.groups[g] {
			for m.at[k] = 0; m.used[m.at[k]]; m.at[k]++ {
			}
			m.used[m.at[k]] = true
		}
	}
	return m
}

func (m *slow) group(k api.Key) int { return slowIndex(0, k, len(m.keys)/4+1) }

// fits tells whether d may be the group's.
func (m *slow) fits(g, d int) bool {
	taken := map[int]bool{}
	for _, k := range m.groups[g] {
		i := slowIndex(uint64(d), k, len(m.keys))
		if m.used[i] || taken[i] {
			return false
		}
		taken[i] = true
	}
	return true
}

func (m *slow) process(g int) {
	for d := 1; d <= 256; d++ {
		if m.fits(g, d) {
			m.d[g] = d
			for _, k := range m.groups[g] {
				m.used[slowIndex(uint64(d), k, len(m.keys))] = true
			}
			return
		}
	}
	m.spilled = append(m.spilled, g)
}

func (m *slow) place(k api.Key) int {
	if d, ok := m.d[m.group(k)]; ok {
		return slowIndex(uint64(d), k, len(m.keys))
	}
	if i, ok := m.at[k]; ok {
		return i
	}
	return -1
}

func built(t *testing.T, l []api.Key) *perfect.Map {
	t.Helper()
	m, e := perfect.Build(l)
	if e != api.OK || m == nil {
		t.Fatalf("%d keys: error %d", len(l), e)
	}
	return m
}

// places is the indices of these keys.
func places(m *perfect.Map, l []api.Key) []int {
	var all []int
	for _, k := range l {
		all = append(all, m.Place(k))
	}
	return all
}

// near is a key that is nearly k.
func near(k api.Key, i int) api.Key {
	switch i % 3 {
	case 0:
		k.N ^= 1 << (i % 32)
	case 1:
		k.Sum[i%32] ^= 1 << (i % 8)
	default:
		k.Sum[i%32], k.N = byte(i), uint32(i)
	}
	return k
}

// P7.1

func TestHashOfKnownKeys(t *testing.T) {
	const start = 14695981039346656037
	for _, x := range []struct {
		seed uint64
		k    api.Key
		want uint64
	}{
		{0, api.Key{}, 0x943cf288d57fbcfd},
		{1, api.Key{}, 0x3d1d178a56a81eee},
		{math.MaxUint64, api.Key{}, 0x14a33279fd8d5e03},
		{0, from("", 255, math.MaxUint32), 0xc771196870f1a8d9},
		{256, from("", 255, math.MaxUint32), 0xa7961b938eadbb22},
		{0, from("", 0, 1), 0x943cf188d57fbd4a},
		{0, from("", 0, 0x01020304), 0x0591da7ff14b68a2},
		{7, from("\x00\x01\x02\x03\x04\x05\x06\x07\x08\x09\x0a\x0b\x0c\x0d\x0e\x0f\x10\x11\x12\x13\x14\x15\x16\x17\x18\x19\x1a\x1b\x1c\x1d\x1e\x1f", 0, 1<<31), 0xf0a7b05a21e48858},
		{0, from("\x01", 0, 0), 0x3d1d178a56a81eee},
		{0, api.Key{Sum: api.Sum{31: 1}}, 0x878e0f5d447deb4f},
		{start, api.Key{}, 0},
		{start, from("", 0, 1), 0x00000100000000b3},
		{1 << 63, from("abc", 9, 5), 0xd934c1c42f0f6405},
	} {
		if got := perfect.Hash(x.seed, x.k); got != x.want {
			t.Errorf("seed %d, %v: got %x, want %x", x.seed, x.k, got, x.want)
		}
	}
}

func TestHashIsThatOfTheChapter(t *testing.T) {
	s := source(2)
	l := append(s.keys(30), api.Key{}, from("", 255, math.MaxUint32))
	for i := range 32 {
		low, high := api.Key{N: 1 << i}, api.Key{}
		low.Sum[i], high.Sum[i] = 1, 255
		l = append(l, low, high, api.Key{N: 1 << i})
	}
	seeds := []uint64{0, 1, 2, 255, 256, 257, math.MaxInt64, 1 << 63, math.MaxUint64, 14695981039346656037, s.next() * s.next()}
	for i := range 64 {
		seeds = append(seeds, 1<<i)
	}
	for _, k := range l {
		for _, seed := range seeds {
			if got, want := perfect.Hash(seed, k), slowHash(seed, k); got != want {
				t.Fatalf("seed %d, %v: got %x, want %x", seed, k, got, want)
			}
		}
	}
}

// P7.2

func TestBuildRefusesTooManyKeys(t *testing.T) {
	s := source(3)
	l := s.keys(api.MaxKeys + 2)
	for _, many := range []int{api.MaxKeys + 1, api.MaxKeys + 2} {
		if m, e := perfect.Build(l[:many]); m != nil || e != api.ErrLong {
			t.Errorf("%d keys: error %d", many, e)
		}
	}
	same := make([]api.Key, 2*api.MaxKeys) // that there are too many is told first
	if m, e := perfect.Build(same); m != nil || e != api.ErrLong {
		t.Errorf("%d equal keys: error %d", len(same), e)
	}
	if m := built(t, l[:api.MaxKeys]); m.Len() != api.MaxKeys {
		t.Errorf("%d keys: Len %d", api.MaxKeys, m.Len())
	}
}

func TestBuildRefusesAKeyThatOccursTwice(t *testing.T) {
	s := source(4)
	for _, many := range []int{2, 3, 4, 9, 40} {
		for i := range many {
			for j := range i {
				l := s.keys(many)
				l[i] = l[j]
				if m, e := perfect.Build(l); m != nil || e != api.ErrThere {
					t.Errorf("%d keys, %d as %d: error %d", many, i, j, e)
				}
			}
		}
	}
	l := s.keys(api.MaxKeys)
	l[0] = l[api.MaxKeys-1]
	if m, e := perfect.Build(l); m != nil || e != api.ErrThere {
		t.Errorf("%d keys: error %d", len(l), e)
	}
	if m, e := perfect.Build(make([]api.Key, 3)); m != nil || e != api.ErrThere {
		t.Errorf("a key three times: error %d", e)
	}
}

// Keys that differ in one bit are not the same.
func TestBuildTakesKeysThatAreNearlyTheSame(t *testing.T) {
	s := source(5)
	k := s.key()
	l := []api.Key{k}
	for i := range 256 {
		other := k
		other.Sum[i/8] ^= 1 << (i % 8)
		l = append(l, other)
	}
	for i := range 32 {
		other := k
		other.N ^= 1 << i
		l = append(l, other)
	}
	for _, other := range l[1:] {
		if got := places(built(t, []api.Key{k, other}), []api.Key{k, other}); got[0] == got[1] {
			t.Errorf("%v and %v: got %v", k, other, got)
		}
	}
	if got := built(t, l).Len(); got != len(l) {
		t.Errorf("Len is %d, want %d", got, len(l))
	}
}

func TestIndicesOfKnownKeys(t *testing.T) {
	for _, x := range []struct {
		spilled int
		want    []int
	}{
		{0, nil},
		{0, []int{0}},
		{0, []int{0, 1}},
		{0, []int{2, 0, 1}},
		{0, []int{2, 0, 3, 1}},
		{0, []int{1, 2, 4, 3, 0}},
		{0, []int{0, 5, 1, 4, 3, 6, 2}},
		{0, []int{1, 3, 7, 6, 5, 4, 0, 2}},
		{0, []int{9, 8, 11, 10, 5, 0, 4, 1, 7, 2, 6, 3}},
		{3, []int{10, 0, 4, 12, 5, 2, 7, 9, 6, 8, 14, 3, 15, 1, 13, 11}},
		{3, []int{1, 27, 22, 12, 18, 17, 3, 0, 25, 21, 6, 19, 4, 8, 15, 26, 10, 13, 16, 30, 38, 9, 24, 29, 5, 28, 11, 37, 20, 23, 7, 32, 31, 39, 35, 33, 14, 34, 36, 2}},
	} {
		l := plain(len(x.want))
		m := built(t, l)
		if got := places(m, l); !slices.Equal(got, x.want) || m.Spilled() != x.spilled || m.Len() != len(l) {
			t.Errorf("%d keys: got %v, Spilled %d, Len %d", len(l), got, m.Spilled(), m.Len())
		}
	}
}

// Keys of few groups, among which groups are spilled.
func TestIndicesOfKnownCrowdedKeys(t *testing.T) {
	for _, x := range []struct {
		numbers []int
		spilled int
		want    []int
	}{
		{[]int{0, 6, 9, 11, 16, 20, 24, 27, 33, 36, 37}, 11, []int{0, 1, 2, 3, 4, 5, 6, 7, 8, 9, 10}},
		{[]int{1, 2, 10, 15, 19, 21, 23, 28, 32, 34, 38}, 11, []int{0, 1, 2, 3, 4, 5, 6, 7, 8, 9, 10}},
		{[]int{1, 4, 6, 8, 10, 21, 28, 30, 37, 44, 46, 48}, 11, []int{6, 0, 1, 2, 3, 4, 5, 7, 8, 9, 10, 11}},
		{[]int{0, 1, 3, 7, 11, 17, 26, 27, 28, 32, 35, 42, 45, 46, 51, 54, 57, 59, 60, 61, 63, 66, 70, 73}, 12, []int{3, 16, 13, 6, 4, 5, 23, 7, 8, 17, 10, 11, 20, 2, 12, 14, 9, 15, 0, 1, 18, 19, 21, 22}},
		{[]int{0, 1, 3, 7, 11, 17, 18, 26, 27, 28, 32, 35, 42, 45, 46, 50, 51, 54, 57, 59, 60, 61, 63, 66}, 10, []int{3, 16, 13, 6, 4, 5, 18, 23, 7, 8, 17, 10, 11, 20, 2, 21, 12, 14, 9, 15, 0, 1, 19, 22}},
		{[]int{0, 9, 11, 15, 24, 40, 49, 51, 55, 72, 81, 97, 103, 112, 121, 129, 130, 144, 153, 154, 160, 169, 184, 192, 197, 202, 216, 232}, 13, []int{0, 13, 2, 7, 8, 3, 9, 11, 14, 4, 16, 17, 26, 18, 23, 19, 15, 20, 5, 21, 22, 27, 6, 24, 1, 25, 12, 10}},
	} {
		var l []api.Key
		for _, n := range x.numbers {
			l = append(l, from(string([]byte{byte(n), byte(n >> 8)}), 7, 0))
		}
		m := built(t, l)
		if got := places(m, l); !slices.Equal(got, x.want) || m.Spilled() != x.spilled || m.Len() != len(l) {
			t.Errorf("%v: got %v, Spilled %d, Len %d", x.numbers, got, m.Spilled(), m.Len())
		}
	}
}

// seen counts, in the maps that were compared, what must not be missing there.
type seen struct {
	first, last       int // groups with d 1, and with d 256
	beyond            int // spilled groups that d 257 would suit
	equal, unequal    int // spilled groups of the same size as the one before, and smaller ones
	mixed             int // maps whose spilled keys get their indices not in the order of the list
	taken, gone, none int // keys that are not in the list: their group has a d, is spilled, has no keys
}

func (c *seen) note(m *slow) {
	for _, d := range m.d {
		switch d {
		case 1:
			c.first++
		case 256:
			c.last++
		}
	}
	for _, i := range m.at {
		delete(m.used, i) // as it was when spilled groups were tried
	}
	for i, g := range m.spilled {
		if m.fits(g, 257) {
			c.beyond++
		}
		if i == 0 {
			continue
		}
		if len(m.groups[g]) == len(m.groups[m.spilled[i-1]]) {
			c.equal++
		} else {
			c.unequal++
		}
	}
	if !slices.IsSorted(m.spilledPlaces()) {
		c.mixed++
	}
}

// spilledPlaces is the indices of spilled keys, in the order of the list.
func (m *slow) spilledPlaces() []int {
	var l []int
	for _, k := range m.keys {
		if i, ok := m.at[k]; ok {
			l = append(l, i)
		}
	}
	return l
}

// stranger counts a key that is not in the list.
func (c *seen) stranger(m *slow, k api.Key) {
	g := m.group(k)
	switch {
	case m.d[g] > 0:
		c.taken++
	case len(m.groups[g]) > 0:
		c.gone++
	default:
		c.none++
	}
}

func (c *seen) complete() bool {
	return min(c.first, c.last, c.beyond, c.equal, c.unequal, c.mixed, c.taken, c.gone, c.none) > 0
}

// P7.2 and P7.3

func TestBuildIsThatOfTheChapter(t *testing.T) {
	s, c := source(6), seen{}
	for _, l := range lists() {
		m, want := built(t, l), slowBuild(l)
		if m.Len() != len(l) || m.Spilled() != len(want.at) {
			t.Errorf("%d keys: Len %d, Spilled %d, want %d", len(l), m.Len(), m.Spilled(), len(want.at))
		}
		for i, k := range l {
			if m.Place(k) != want.place(k) {
				t.Fatalf("%d keys, that at %d: got %d, want %d", len(l), i, m.Place(k), want.place(k))
			}
		}
		for i := range 200 {
			k := s.key()
			if len(l) > 0 && i < 100 {
				k = near(l[i%len(l)], i)
			}
			if slices.Contains(l, k) {
				continue
			}
			if m.Place(k) != want.place(k) {
				t.Fatalf("%d keys, %v, which is not there: got %d, want %d", len(l), k, m.Place(k), want.place(k))
			}
			c.stranger(want, k)
		}
		c.note(want)
	}
	if !c.complete() {
		t.Errorf("the lists leave something out: %+v", c)
	}
}

// The order of the list matters only where groups are spilled.
func TestOrderMattersOnlyForSpilledKeys(t *testing.T) {
	s := source(7)
	for _, l := range [][]api.Key{s.keys(20), s.keys(300), s.crowded(50, 2), s.crowded(90, 1, 5, 9, 17), plain(64), numbered(77)} {
		a, was := built(t, l), slowBuild(l)
		b := built(t, s.shuffle(l))
		for _, k := range l {
			if _, spilled := was.at[k]; !spilled && a.Place(k) != b.Place(k) {
				t.Errorf("%d keys, %v: %d became %d", len(l), k, a.Place(k), b.Place(k))
			}
		}
	}
}

// P7.3

func TestWithoutKeys(t *testing.T) {
	s := source(8)
	for i, m := range []*perfect.Map{nil, {}, built(t, nil), built(t, []api.Key{})} {
		for _, k := range append(s.keys(20), api.Key{}, from("", 255, math.MaxUint32)) {
			if m.Place(k) != -1 {
				t.Errorf("map %d, %v: got %d", i, k, m.Place(k))
			}
		}
		if m.Len() != 0 || m.Spilled() != 0 {
			t.Errorf("map %d: Len %d, Spilled %d", i, m.Len(), m.Spilled())
		}
	}
}

func TestOneKey(t *testing.T) {
	s := source(9)
	for _, k := range append(s.keys(20), api.Key{}, from("", 255, math.MaxUint32)) {
		m := built(t, []api.Key{k})
		if m.Place(k) != 0 || m.Len() != 1 || m.Spilled() != 0 {
			t.Errorf("%v: got %d, Len %d, Spilled %d", k, m.Place(k), m.Len(), m.Spilled())
		}
		if other := near(k, 1); m.Place(other) != 0 { // it is in the same group, and there is but one index
			t.Errorf("%v: got %d", other, m.Place(other))
		}
	}
}

// Keys of a spilled group are told from others of that group.
func TestPlaceOfAStrangerInASpilledGroup(t *testing.T) {
	s := source(10)
	l := s.crowded(40, 4)
	m := built(t, l)
	if m.Spilled() != 40 {
		t.Fatalf("Spilled is %d", m.Spilled())
	}
	for i, k := range l {
		if m.Place(k) != i {
			t.Errorf("key %d: got %d", i, m.Place(k))
		}
	}
	for _, k := range append(s.crowded(40, 4), s.crowded(40, 0, 10)...) { // of the spilled group, and of groups without keys
		if m.Place(k) != -1 {
			t.Errorf("%v, which is not there: got %d", k, m.Place(k))
		}
	}
}

// P7.4

func TestEachIndexOccursOnce(t *testing.T) {
	for _, l := range lists() {
		got := places(built(t, l), l)
		slices.Sort(got)
		for want, i := range got {
			if i != want {
				t.Fatalf("%d keys: index %d is missing, or not there once", len(l), want)
			}
		}
	}
}

// P7.5

func TestIndicesAreLessThanTheNumberOfKeys(t *testing.T) {
	s := source(11)
	for _, l := range lists() {
		m := built(t, l)
		for range 300 {
			k := s.key()
			if i := m.Place(k); i < -1 || i >= len(l) {
				t.Fatalf("%d keys, %v: got %d", len(l), k, i)
			}
		}
	}
}

// The rules for all calls

func TestArgumentsAreLeftAlone(t *testing.T) {
	s := source(12)
	for _, size := range []int{0, 1, 2, 9, 40, 60} {
		for _, memory := range [][]api.Key{s.keys(60), s.crowded(60, 15, 3), plain(60)} {
			kept := slices.Clone(memory)
			m := built(t, memory[:size])
			if !slices.Equal(memory, kept) {
				t.Errorf("%d keys: Build changed them, or what lies behind", size)
			}
			want := places(m, kept)
			for i := range memory {
				memory[i] = s.key()
			}
			changed := slices.Clone(memory)
			if got := places(m, kept); !slices.Equal(got, want) {
				t.Errorf("%d keys: the map keeps them", size)
			}
			if !slices.Equal(memory, changed) {
				t.Errorf("%d keys: Place changed the memory", size)
			}
		}
	}
}

func TestWhatLiesBehindIsNotRead(t *testing.T) {
	s := source(13)
	l := s.keys(20)
	copy(l[10:], l[:10]) // behind the first ten, each occurs again
	m := built(t, l[:10])
	if want := built(t, slices.Clone(l[:10])); !slices.Equal(places(m, l), places(want, l)) || m.Len() != 10 {
		t.Errorf("got %v, Len %d", places(m, l), m.Len())
	}
	many := s.keys(api.MaxKeys + 1)
	if m := built(t, many[:api.MaxKeys]); m.Len() != api.MaxKeys {
		t.Errorf("Len is %d", m.Len())
	}
}

func TestTheSameKeysGiveTheSameMap(t *testing.T) {
	s := source(14)
	for _, l := range [][]api.Key{s.keys(50), s.keys(2000), s.crowded(80, 1, 2, 20), plain(500)} {
		a, b := built(t, l), built(t, l)
		all := append(slices.Clone(l), s.keys(200)...)
		want := places(a, all)
		for range 3 {
			if !slices.Equal(places(a, all), want) || !slices.Equal(places(b, all), want) || a.Spilled() != b.Spilled() {
				t.Errorf("%d keys: the maps differ", len(l))
			}
		}
	}
}

func TestMapsDoNotDisturbEachOther(t *testing.T) {
	s := source(15)
	var maps []*perfect.Map
	var wants [][]int
	all := append(s.crowded(60, 0, 1), s.keys(60)...)
	for i := range 30 {
		m := built(t, all[i:2*i+60])
		maps = append(maps, m)
		wants = append(wants, places(m, all))
	}
	perfect.Build(append(all, all[0]))
	for i, m := range maps {
		if got := places(m, all); !slices.Equal(got, wants[i]) {
			t.Errorf("map %d: got %v, want %v", i, got, wants[i])
		}
	}
}

// A Map that was built may be asked by several at a time.
func TestPlaceIsPure(t *testing.T) {
	s := source(16)
	l := append(s.crowded(100, 7), s.keys(100)...)
	m := built(t, l[:150])
	want := places(m, l)
	var got [4][]int
	var wait sync.WaitGroup
	for i := range got {
		wait.Go(func() { got[i] = places(m, l) })
	}
	wait.Wait()
	for _, g := range got {
		if !slices.Equal(g, want) {
			t.Errorf("got %v, want %v", g, want)
		}
	}
}
