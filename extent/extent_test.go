package extent_test

import (
	"bytes"
	"fmt"
	"math"
	"math/big"
	"slices"
	"testing"

	"cellarage/api"
	"cellarage/extent"
)

const lowest, greatest = math.MinInt, math.MaxInt

// source makes the same numbers for the same seed.
type source uint64

func (s *source) next() uint64 {
	*s = *s*6364136223846793005 + 1442695040888963407
	return uint64(*s >> 16)
}

// below is a number from 0 to n - 1.
func (s *source) below(n int) int { return int(s.next() % uint64(n)) }

// key is one of few; some differ in one byte of the fingerprint alone, or in N.
func (s *source) key() api.Key {
	var d api.Sum
	d[[]int{0, 16, 31}[s.below(3)]] = []byte{0, 1, 255}[s.below(3)]
	return api.Key{Sum: d, N: []uint32{0, 1, 1 << 31, math.MaxUint32}[s.below(4)]}
}

// anyKey is any one.
func (s *source) anyKey() api.Key {
	k := api.Key{N: uint32(s.next())}
	for i := range k.Sum {
		k.Sum[i] = byte(s.next())
	}
	return k
}

// extents are many valid ones; of each, about half continue the one before it.
func (s *source) extents(many int) []api.Extent {
	var l []api.Extent
	for range many {
		x := api.Extent{Key: s.key()}
		if s.below(2) == 0 && len(l) > 0 {
			last := l[len(l)-1]
			x.Key, x.Off = last.Key, last.Off+last.Len
		} else {
			x.Off = s.below([]int{1, 3, 4096}[s.below(3)])
		}
		if x.Off > 4095 {
			x.Off = 0
		}
		x.Len = 1 + s.below(min(4096-x.Off, []int{1, 4, 4096}[s.below(3)]))
		l = append(l, x)
	}
	return l
}

var a, b, c = api.Key{Sum: api.Sum{1}}, api.Key{Sum: api.Sum{2}}, api.Key{Sum: api.Sum{1}, N: 1}

// part is an extent of a chunk.
func part(k api.Key, off, n int) api.Extent { return api.Extent{Key: k, Off: off, Len: n} }

// list is some extents.
func list(l ...api.Extent) []api.Extent { return l }

// spread are many valid extents none of which continues the one before it.
func spread(many int) []api.Extent {
	l := make([]api.Extent, many)
	for i := range l {
		l[i] = part(api.Key{N: uint32(i)}, i%7, 1+i%3)
	}
	return l
}

// faulty are extents that no valid list has.
func faulty() []api.Extent {
	l := []api.Extent{
		{}, {Len: -1}, {Len: lowest}, {Off: 1}, {Off: 4096}, {Off: 4095},
		{Off: -1, Len: 1}, {Off: -1, Len: 5}, {Off: -4096, Len: 4096}, {Off: -1, Len: 4097}, {Off: lowest, Len: 1},
		{Off: 0, Len: 4097}, {Off: 1, Len: 4096}, {Off: 4095, Len: 2}, {Off: 4096, Len: 1}, {Off: 4097, Len: 1}, {Off: 2048, Len: 2049},
		{Off: 4097, Len: -1}, {Off: 4097, Len: 0}, {Off: -1, Len: 0}, {Off: 5, Len: -4}, {Off: -4, Len: -4},
		{Off: greatest, Len: 1}, {Off: 1, Len: greatest}, {Off: greatest, Len: greatest}, {Off: 0, Len: greatest}, {Off: 4095, Len: greatest},
		{Off: lowest, Len: lowest}, {Off: lowest, Len: greatest}, {Off: greatest, Len: lowest}, {Off: 1 << 32, Len: 1}, {Off: 0, Len: 1 << 32},
		{Off: 0, Len: 1<<32 + 1}, {Off: 1 << 16, Len: 1}, {Off: 0, Len: 1<<16 + 1}, {Off: lowest, Len: 4096},
	}
	for i := range l {
		l[i].Key = a
	}
	return l
}

// invalid are lists that are not valid: each faulty extent alone, and among valid ones,
// and lists that are too long.
func invalid() [][]api.Extent {
	var all [][]api.Extent
	for _, x := range faulty() {
		all = append(all, list(x), list(x, part(b, 0, 9)), list(part(b, 0, 9), x), list(part(b, 0, 9), x, part(a, 0, 9)))
	}
	return append(all,
		append(spread(16383), part(a, -1, 1)),
		spread(16385),
		slices.Repeat(list(part(a, 0, 1)), 16385),
		append(spread(16384), part(api.Key{N: 16383}, 16383%7+1+16383%3, 1)), // the last one continues the one before it
		spread(20000))
}

// valid are lists that are valid, short ones and long ones.
func valid() [][]api.Extent {
	all := [][]api.Extent{
		nil, {},
		list(part(a, 0, 1)), list(part(a, 4095, 1)), list(part(a, 0, 4096)), list(part(a, 1, 4095)), list(part(a, 2048, 2048)),
		list(part(a, 0, 10), part(b, 5, 10)),
		list(part(a, 0, 10), part(a, 10, 10), part(a, 20, 1)),
		list(part(a, 0, 10), part(a, 0, 10), part(c, 10, 10)),
		spread(5), spread(256), spread(16383), spread(16384),
		slices.Repeat(list(part(a, 0, 4096)), 16384),
	}
	r := source(1)
	for many := range 30 {
		all = append(all, r.extents(many), r.extents(many))
	}
	return all
}

// short are those of valid with not many extents.
func short() [][]api.Extent {
	return slices.DeleteFunc(valid(), func(l []api.Extent) bool { return len(l) > 30 })
}

// slowRight is Right, in whole numbers of any size.
func slowRight(l []api.Extent) bool {
	for _, x := range l {
		off, n := big.NewInt(int64(x.Off)), big.NewInt(int64(x.Len))
		end := new(big.Int).Add(off, n)
		if off.Sign() < 0 || n.Sign() <= 0 || end.Cmp(big.NewInt(4096)) > 0 {
			return false
		}
	}
	return len(l) <= 16384
}

// slowSlice looks at each byte of a valid list on its own.
func slowSlice(l []api.Extent, off, n int) []api.Extent {
	from := big.NewInt(int64(off))
	behind := new(big.Int).Add(from, big.NewInt(int64(n)))
	var out []api.Extent
	at := int64(0)
	for _, x := range l {
		var got []int // the bytes of the chunk that are asked for
		for i := range x.Len {
			if p := big.NewInt(at); p.Cmp(from) >= 0 && p.Cmp(behind) < 0 {
				got = append(got, x.Off+i)
			}
			at++
		}
		if len(got) > 0 {
			out = append(out, part(x.Key, got[0], len(got)))
		}
	}
	return out
}

// slowJoin merges the first two extents that continue each other, as long as there are two.
func slowJoin(l ...[]api.Extent) []api.Extent {
	var out []api.Extent
	for _, some := range l {
		if !slowRight(some) {
			return nil
		}
		out = append(out, some...)
	}
	for i := 1; i < len(out); i++ {
		if out[i].Key == out[i-1].Key && out[i].Off == out[i-1].Off+out[i-1].Len {
			out[i-1].Len += out[i].Len
			out = slices.Delete(out, i, i+1)
			i--
		}
	}
	if !slowRight(out) {
		return nil
	}
	return out
}

// slowKeys looks each key up in the list of those that are there.
func slowKeys(l []api.Extent) []api.Key {
	var keys []api.Key
	for _, x := range l {
		if !slices.Contains(keys, x.Key) {
			keys = append(keys, x.Key)
		}
	}
	return keys
}

// digits are the bytes of n, the most significant one first.
func digits(n, many int) []byte {
	d := make([]byte, many)
	for i := many - 1; i >= 0; i-- {
		d[i] = byte(n % 256)
		n /= 256
	}
	return d
}

// laid are the bytes of any extents, with any number ahead of them.
func laid(many int, l []api.Extent) []byte {
	out := digits(many, 4)
	for _, x := range l {
		out = append(out, x.Key.Sum[:]...)
		out = append(out, digits(int(x.Key.N), 4)...)
		out = append(out, digits(x.Off, 2)...)
		out = append(out, digits(x.Len, 2)...)
	}
	return out
}

// refused tells that bytes are not extents.
func refused(t *testing.T, d []byte) {
	t.Helper()
	if l, e := extent.Take(d); len(l) != 0 || e != api.ErrExtent {
		t.Fatalf("%d bytes: %d extents, error %d", len(d), len(l), e)
	}
}

// taken tells that bytes are those extents.
func taken(t *testing.T, d []byte, want []api.Extent) {
	t.Helper()
	if l, e := extent.Take(d); !slices.Equal(l, want) || e != api.OK {
		t.Fatalf("%d bytes: %d extents, want %d, error %d", len(d), len(l), len(want), e)
	}
}

// P16.1

func TestRightOfValidLists(t *testing.T) {
	for _, l := range valid() {
		if !extent.Right(l) {
			t.Fatalf("%d extents: %v", len(l), l[:min(len(l), 5)])
		}
	}
}

func TestRightOfInvalidLists(t *testing.T) {
	for _, l := range invalid() {
		if extent.Right(l) {
			t.Fatalf("%d extents: %v", len(l), l[:min(len(l), 5)])
		}
	}
}

func TestRightOfAllEdges(t *testing.T) {
	ends := []int{lowest, lowest + 1, -4097, -4096, -4095, -1, 0, 1, 2, 2047, 2048, 2049, 4094, 4095, 4096, 4097, 1 << 16, 1<<32 - 1, 1 << 32, greatest - 4096, greatest - 1, greatest}
	for _, off := range ends {
		for _, n := range ends {
			x := part(b, off, n)
			for _, l := range [][]api.Extent{list(x), list(part(a, 0, 4096), x, part(a, 0, 4096))} {
				if got, want := extent.Right(l), slowRight(l); got != want {
					t.Fatalf("%d, %d: %v, want %v", off, n, got, want)
				}
			}
		}
	}
}

func TestAFaultyExtentIsNoticedWhereverItIs(t *testing.T) {
	for _, at := range []int{0, 1, 8000, 16382, 16383} {
		l := spread(16384)
		l[at].Len = 0
		if extent.Right(l) || extent.Total(l) != 0 {
			t.Errorf("extent %d", at)
		}
	}
}

func TestTotal(t *testing.T) {
	for _, x := range []struct {
		l    []api.Extent
		want int
	}{
		{nil, 0}, {list(), 0}, {list(part(a, 0, 1)), 1}, {list(part(a, 4000, 96)), 96}, {list(part(a, 0, 4096)), 4096},
		{list(part(a, 0, 10), part(b, 5, 10)), 20}, {list(part(a, 3, 7), part(a, 3, 7), part(a, 4, 7)), 21},
		{slices.Repeat(list(part(a, 0, 4096)), 16384), 1 << 26},
	} {
		if got := extent.Total(x.l); got != x.want {
			t.Errorf("%d extents: %d, want %d", len(x.l), got, x.want)
		}
	}
	for _, l := range valid() {
		want := 0
		for _, x := range l {
			want += x.Len
		}
		if got := extent.Total(l); got != want {
			t.Errorf("%d extents: %d, want %d", len(l), got, want)
		}
	}
}

func TestTotalOfInvalidLists(t *testing.T) {
	for _, l := range invalid() {
		if got := extent.Total(l); got != 0 {
			t.Fatalf("%d extents: %d", len(l), got)
		}
	}
}

// P16.2

func TestSliceOfAllSmallLists(t *testing.T) {
	small := []api.Extent{part(a, 0, 1), part(a, 1, 2), part(b, 4, 3), part(c, 4093, 3)}
	var all func(l []api.Extent)
	all = func(l []api.Extent) {
		total := extent.Total(l)
		for off := -2; off <= total+2; off++ {
			for n := -2; n <= total+4; n++ {
				if got, want := extent.Slice(l, off, n), slowSlice(l, off, n); !slices.Equal(got, want) {
					t.Fatalf("%v, %d, %d: %v, want %v", l, off, n, got, want)
				}
			}
		}
		if len(l) < 4 {
			for _, x := range small {
				all(append(slices.Clone(l), x))
			}
		}
	}
	all(nil)
}

func TestSliceOfAnyLists(t *testing.T) {
	r := source(2)
	for range 400 {
		l := r.extents(r.below(12))
		total := extent.Total(l)
		off, n := r.below(total+20)-10, r.below(total+20)-10
		if got, want := extent.Slice(l, off, n), slowSlice(l, off, n); !slices.Equal(got, want) {
			t.Fatalf("%v, %d, %d: %v, want %v", l, off, n, got, want)
		}
	}
}

func TestSliceAtTheEndsOfInt(t *testing.T) {
	ends := []int{lowest, lowest + 1, lowest + 5, lowest + 20, lowest + 21, lowest / 2, -1 << 32, -21, -20, -19, -1, 0, 1, 10, 19, 20, 21, 1 << 32, greatest / 2, greatest - 21, greatest - 20, greatest - 19, greatest - 5, greatest - 1, greatest}
	for _, l := range [][]api.Extent{nil, list(part(a, 3, 1)), list(part(a, 0, 10), part(b, 5, 10))} {
		for _, off := range ends {
			for _, n := range ends {
				if got, want := extent.Slice(l, off, n), slowSlice(l, off, n); !slices.Equal(got, want) {
					t.Fatalf("%d extents, %d, %d: %v, want %v", len(l), off, n, got, want)
				}
			}
		}
	}
}

func TestSliceKeepsExtentsApartThatContinueEachOther(t *testing.T) {
	l := list(part(a, 0, 4), part(a, 4, 6), part(a, 10, 2))
	if got := extent.Slice(l, 0, 12); !slices.Equal(got, l) {
		t.Errorf("got %v", got)
	}
	if got := extent.Slice(l, 3, 8); !slices.Equal(got, list(part(a, 3, 1), part(a, 4, 6), part(a, 10, 1))) {
		t.Errorf("got %v", got)
	}
}

func TestSliceOfAGreatList(t *testing.T) {
	l := slices.Repeat(list(part(a, 0, 4096)), 16384)
	if got := extent.Slice(l, 0, 1<<26); !slices.Equal(got, l) {
		t.Errorf("%d extents", len(got))
	}
	if got := extent.Slice(l, -5, 1<<26+5); !slices.Equal(got, l) {
		t.Errorf("%d extents", len(got))
	}
	if got := extent.Slice(l, 1<<26-1, 1); !slices.Equal(got, list(part(a, 4095, 1))) {
		t.Errorf("%v", got)
	}
	if got := extent.Slice(l, 1<<26, 1); len(got) != 0 {
		t.Errorf("%v", got)
	}
	if got := extent.Slice(l, 4095, 4098); !slices.Equal(got, list(part(a, 4095, 1), part(a, 0, 4096), part(a, 0, 1))) {
		t.Errorf("%v", got)
	}
}

func TestSliceOfInvalidLists(t *testing.T) {
	for _, l := range invalid() {
		for _, off := range []int{lowest, -5, 0, 1, greatest} {
			for _, n := range []int{-1, 0, 1, 9, 30, greatest} {
				if got := extent.Slice(l, off, n); len(got) != 0 {
					t.Fatalf("%d extents, %d, %d: %v", len(l), off, n, got)
				}
			}
		}
	}
}

func TestJoinMergesWhatContinues(t *testing.T) {
	for i, x := range []struct {
		l    [][]api.Extent
		want []api.Extent
	}{
		{nil, nil},
		{[][]api.Extent{nil}, nil},
		{[][]api.Extent{nil, {}, nil}, nil},
		{[][]api.Extent{{part(a, 0, 4)}}, list(part(a, 0, 4))},
		{[][]api.Extent{{part(a, 0, 4)}, {part(a, 4, 6)}}, list(part(a, 0, 10))},
		{[][]api.Extent{{part(a, 0, 4), part(a, 4, 6)}}, list(part(a, 0, 10))},
		{[][]api.Extent{{part(a, 0, 4)}, nil, {}, {part(a, 4, 6)}, nil}, list(part(a, 0, 10))},
		{[][]api.Extent{{part(a, 7, 1)}, {part(a, 8, 1)}, {part(a, 9, 1)}, {part(a, 10, 1)}}, list(part(a, 7, 4))},
		{[][]api.Extent{{part(a, 7, 1), part(a, 8, 1)}, {part(a, 9, 1), part(a, 10, 1)}}, list(part(a, 7, 4))},
		{[][]api.Extent{{part(a, 0, 4095)}, {part(a, 4095, 1)}}, list(part(a, 0, 4096))},
		{[][]api.Extent{{part(a, 0, 2048)}, {part(a, 2048, 2048)}, {part(a, 0, 1)}}, list(part(a, 0, 4096), part(a, 0, 1))},
		{[][]api.Extent{{part(a, 0, 4)}, {part(a, 5, 6)}}, list(part(a, 0, 4), part(a, 5, 6))},                                 // a byte is left out
		{[][]api.Extent{{part(a, 0, 4)}, {part(a, 3, 6)}}, list(part(a, 0, 4), part(a, 3, 6))},                                 // a byte is there twice
		{[][]api.Extent{{part(a, 0, 4)}, {part(a, 0, 4)}}, list(part(a, 0, 4), part(a, 0, 4))},                                 // the same bytes
		{[][]api.Extent{{part(a, 4, 6)}, {part(a, 0, 4)}}, list(part(a, 4, 6), part(a, 0, 4))},                                 // the wrong way round
		{[][]api.Extent{{part(a, 0, 4)}, {part(b, 4, 6)}}, list(part(a, 0, 4), part(b, 4, 6))},                                 // another fingerprint
		{[][]api.Extent{{part(a, 0, 4)}, {part(c, 4, 6)}}, list(part(a, 0, 4), part(c, 4, 6))},                                 // another number
		{[][]api.Extent{{part(a, 0, 4)}, {part(b, 0, 1)}, {part(a, 4, 6)}}, list(part(a, 0, 4), part(b, 0, 1), part(a, 4, 6))}, // another one between them
		{[][]api.Extent{{part(a, 0, 4), part(a, 4, 1), part(b, 5, 1)}, {part(b, 6, 1), part(b, 6, 1)}}, list(part(a, 0, 5), part(b, 5, 2), part(b, 6, 1))},
	} {
		if got := extent.Join(x.l...); !slices.Equal(got, x.want) {
			t.Errorf("%d: %v, want %v", i, got, x.want)
		}
	}
	if got := extent.Join(); len(got) != 0 {
		t.Errorf("of no list: %v", got)
	}
}

func TestJoinTellsKeysApartInEachByte(t *testing.T) {
	for i := range len(a.Sum) {
		other := a
		other.Sum[i] ^= 1
		if l := list(part(a, 0, 4), part(other, 4, 4)); !slices.Equal(extent.Join(l), l) {
			t.Errorf("byte %d", i)
		}
	}
	for i := range 32 {
		other := a
		other.N ^= 1 << i
		if l := list(part(a, 0, 4), part(other, 4, 4)); !slices.Equal(extent.Join(l), l) {
			t.Errorf("bit %d", i)
		}
	}
}

func TestJoinIsThatOfTheChapter(t *testing.T) {
	r := source(3)
	for range 1000 {
		l := r.extents(r.below(20))
		var all [][]api.Extent
		for len(l) > 0 { // the lists continue each other, too
			n := r.below(len(l) + 1)
			all = append(all, l[:n])
			l = l[n:]
		}
		for range r.below(3) {
			all = append(all, r.extents(r.below(4)))
		}
		if got, want := extent.Join(all...), slowJoin(all...); !slices.Equal(got, want) {
			t.Fatalf("%v: %v, want %v", all, got, want)
		}
	}
}

func TestJoinOfInvalidLists(t *testing.T) {
	good := list(part(b, 0, 9))
	for _, l := range invalid() {
		for i, all := range [][][]api.Extent{{l}, {l, good}, {good, l}, {good, l, good}, {nil, l}, {l, nil}} {
			if got := extent.Join(all...); len(got) != 0 {
				t.Fatalf("%d extents, as %d: %d", len(l), i, len(got))
			}
		}
	}
	// What would be valid once it is merged.
	if got := extent.Join(list(part(a, 0, 0), part(a, 0, 5))); len(got) != 0 {
		t.Errorf("got %v", got)
	}
	if got := extent.Join(list(part(a, 0, 5)), list(part(a, 5, -2))); len(got) != 0 {
		t.Errorf("got %v", got)
	}
	one := make([]api.Extent, 0, 16385)
	for i := range 16385 {
		one = append(one, part(api.Key{N: uint32(i / 4096)}, i%4096, 1))
	}
	if got := extent.Join(one); len(got) != 0 {
		t.Errorf("%d extents", len(got))
	}
}

func TestJoinOfAsMuchAsMayBe(t *testing.T) {
	l := spread(16384)
	last := l[16383]
	next := part(last.Key, last.Off+last.Len, 2)
	merged := slices.Clone(l)
	merged[16383].Len += 2
	for i, x := range []struct {
		l    [][]api.Extent
		want []api.Extent
	}{
		{[][]api.Extent{l}, l},
		{[][]api.Extent{l, nil}, l},
		{[][]api.Extent{l[:1], l[1:]}, l},
		{[][]api.Extent{l[:8192], l[8192:16383], l[16383:]}, l},
		{[][]api.Extent{l, {next}}, merged}, // more extents than may be, but not in the result
		{[][]api.Extent{l, {part(a, 0, 1)}}, nil},
		{[][]api.Extent{{part(a, 0, 1)}, l}, nil},
		{[][]api.Extent{l, l}, nil},
		{[][]api.Extent{l, {next}, {part(a, 0, 1)}}, nil},
		{[][]api.Extent{l, {part(a, 0, 1)}, {next}}, nil},
		{[][]api.Extent{l[:16383], {part(a, 0, 1), part(a, 1, 1), part(a, 2, 1)}}, append(slices.Clone(l[:16383]), part(a, 0, 3))},
	} {
		if got := extent.Join(x.l...); !slices.Equal(got, x.want) {
			t.Errorf("%d: %d extents, want %d", i, len(got), len(x.want))
		}
	}
	var all [][]api.Extent
	for i := range 20000 { // as few as five in the result
		all = append(all, list(part(api.Key{N: uint32(i / 4096)}, i%4096, 1)))
	}
	if got := extent.Join(all...); len(got) != 5 || extent.Total(got) != 20000 {
		t.Errorf("%d extents", len(got))
	}
}

func TestKeys(t *testing.T) {
	for i, x := range []struct {
		l    []api.Extent
		want []api.Key
	}{
		{nil, nil}, {list(), nil},
		{list(part(a, 0, 1)), []api.Key{a}},
		{list(part(a, 0, 1), part(a, 0, 1), part(a, 5, 2)), []api.Key{a}},
		{list(part(b, 0, 1), part(a, 0, 1), part(b, 1, 1)), []api.Key{b, a}},
		{list(part(c, 0, 1), part(a, 0, 1), part(b, 1, 1), part(a, 0, 1), part(c, 0, 1)), []api.Key{c, a, b}},
		{list(part(api.Key{}, 0, 1), part(a, 0, 1)), []api.Key{{}, a}},
	} {
		if got := extent.Keys(x.l); !slices.Equal(got, x.want) {
			t.Errorf("%d: %v, want %v", i, got, x.want)
		}
	}
	for _, l := range short() {
		if got, want := extent.Keys(l), slowKeys(l); !slices.Equal(got, want) {
			t.Errorf("%v, want %v", got, want)
		}
	}
}

func TestKeysOfInvalidLists(t *testing.T) {
	for _, l := range invalid() {
		if len(l) > 30 {
			continue
		}
		if got, want := extent.Keys(l), slowKeys(l); !slices.Equal(got, want) {
			t.Errorf("%v: %v, want %v", l, got, want)
		}
	}
	l := spread(20000)
	got := extent.Keys(append(l, l...))
	if len(got) != 20000 {
		t.Fatalf("%d keys", len(got))
	}
	for i, k := range got {
		if k.N != uint32(i) {
			t.Fatalf("key %d is %d", i, k.N)
		}
	}
}

// P16.3

func TestLayOfKnownExtents(t *testing.T) {
	k := api.Key{N: 0x01020304}
	for i := range k.Sum {
		k.Sum[i] = byte(100 + i)
	}
	d, e := extent.Lay(list(part(k, 0x0506, 0x0708), part(api.Key{Sum: api.Sum{31: 9}, N: math.MaxUint32}, 0, 4096)))
	want := "\x00\x00\x00\x02" +
		"defghijklmnopqrstuvwxyz{|}~\x7f\x80\x81\x82\x83" + "\x01\x02\x03\x04" + "\x05\x06" + "\x07\x08" +
		"\x00\x00\x00\x00\x00\x00\x00\x00\x00\x00\x00\x00\x00\x00\x00\x00\x00\x00\x00\x00\x00\x00\x00\x00\x00\x00\x00\x00\x00\x00\x00\x09" + "\xff\xff\xff\xff" + "\x00\x00" + "\x10\x00"
	if string(d) != want || e != api.OK {
		t.Errorf("%x, error %d", d, e)
	}
	for _, l := range [][]api.Extent{nil, {}} {
		if d, e := extent.Lay(l); string(d) != "\x00\x00\x00\x00" || e != api.OK {
			t.Errorf("of nothing: %x, error %d", d, e)
		}
	}
}

func TestLayIsThatOfTheChapter(t *testing.T) {
	for _, l := range valid() {
		if d, e := extent.Lay(l); !bytes.Equal(d, laid(len(l), l)) || e != api.OK {
			t.Fatalf("%d extents: %d bytes, error %d", len(l), len(d), e)
		}
	}
}

func TestLayRefusesInvalidLists(t *testing.T) {
	for _, l := range invalid() {
		if d, e := extent.Lay(l); len(d) != 0 || e != api.ErrArg {
			t.Fatalf("%d extents: %d bytes, error %d", len(l), len(d), e)
		}
	}
}

func TestTakeOfExtents(t *testing.T) {
	for _, l := range valid() {
		taken(t, laid(len(l), l), l)
	}
}

func TestTakeRefusesWhatLayRefuses(t *testing.T) {
	for _, off := range []int{0, 1, 255, 256, 4095, 4096, 4097, 32768, 65535} {
		for _, n := range []int{0, 1, 255, 256, 4095, 4096, 4097, 32768, 65535} {
			for at := range 3 {
				l := list(part(a, 0, 4096), part(b, 4095, 1), part(c, 1, 1))
				l[at].Off, l[at].Len = off, n
				if slowRight(l) {
					taken(t, laid(3, l), l)
				} else {
					refused(t, laid(3, l))
				}
			}
		}
	}
	for _, many := range []int{16385, 16386, 20000, 65537} {
		refused(t, laid(many, spread(many)))
	}
}

func TestTakeRefusesOtherLengths(t *testing.T) {
	for _, l := range short() {
		d := laid(len(l), l)
		for size := range d {
			refused(t, d[:size])
		}
		for _, more := range []int{1, 2, 4, 39, 40, 41, 80, 1000} {
			refused(t, append(slices.Clone(d), make([]byte, more)...))
			refused(t, append(slices.Clone(d), laid(1, spread(more))[4:]...))
		}
	}
	refused(t, nil)
	refused(t, []byte{})
	d := laid(16384, spread(16384))
	refused(t, d[:len(d)-1])
	refused(t, append(d, 0))
}

func TestTakeRefusesOtherNumbers(t *testing.T) {
	for _, l := range [][]api.Extent{nil, spread(1), spread(2), spread(256)} {
		for _, many := range []int{0, 1, 2, 3, 255, 256, 257, 512, 1 << 14, 1<<14 + 1, 1 << 16, 1 << 24, 1<<24 + 1, 1 << 31, 1<<32 - 1, (1<<32 + 4) / 40, 1 << 29} {
			if many != len(l) {
				refused(t, laid(many, l))
			}
		}
	}
	for _, many := range []int{0, 1, 16383, 16385, 1<<16 | 1<<14, 1<<31 | 1<<14} {
		refused(t, laid(many, spread(16384)))
	}
}

func TestTakeOfChangedBytes(t *testing.T) {
	l := list(part(a, 0, 10), part(b, 4000, 96), part(c, 1, 4095))
	for i := range laid(3, l) {
		for change := 1; change < 256; change++ {
			d := laid(3, l)
			d[i] ^= byte(change)
			got, e := extent.Take(d)
			if e == api.OK {
				if !slowRight(got) || !bytes.Equal(laid(3, got), d) {
					t.Fatalf("byte %d, change %d: %v", i, change, got)
				}
				continue
			}
			at := (i - 4) % 40
			if e != api.ErrExtent || len(got) != 0 || i >= 4 && at < 36 {
				t.Fatalf("byte %d, change %d: %v, error %d", i, change, got, e)
			}
		}
	}
}

func TestTakeOfAnyBytes(t *testing.T) {
	r := source(4)
	for range 3000 {
		many := r.below(4)
		d := digits(many, 4)
		for range many*40 + []int{0, 0, 0, 0, -3, 1, 40}[r.below(7)] {
			d = append(d, byte(r.next()))
		}
		for i := 40; i < len(d) && r.below(3) > 0; i += 40 { // Off and Len of an extent: less than 2^11
			d[i] %= 8
			if i+2 < len(d) {
				d[i+2] %= 8
			}
		}
		l, e := extent.Take(d)
		switch e {
		case api.OK:
			if !slowRight(l) || !bytes.Equal(laid(len(l), l), d) {
				t.Fatalf("%x: %v", d, l)
			}
		case api.ErrExtent:
			if len(l) != 0 {
				t.Fatalf("%x: %v beside an error", d, l)
			}
		default:
			t.Fatalf("%x: error %d", d, e)
		}
	}
}

// P16.4

func TestAListIsItsFirstBytesAndTheRest(t *testing.T) {
	for _, l := range short() {
		l = slowJoin(l) // so that none continues the one before it
		total := extent.Total(l)
		for _, at := range cuts(total) {
			head, rest := extent.Slice(l, 0, at), extent.Slice(l, at, total)
			if got := extent.Join(head, rest); !slices.Equal(got, l) {
				t.Fatalf("%v at %d: %v", l, at, got)
			}
		}
	}
	l := spread(16384)
	total := extent.Total(l)
	for _, at := range []int{0, 1, 2, total / 2, total/2 + 1, total/2 + 2, total - 1, total} {
		if got := extent.Join(extent.Slice(l, 0, at), extent.Slice(l, at, total-at)); !slices.Equal(got, l) {
			t.Fatalf("at %d of %d: %d extents", at, total, len(got))
		}
	}
}

// cuts are places in a list of that many bytes, all of them if there are few.
func cuts(total int) []int {
	step := 1 + total/50
	var l []int
	for at := 0; at < total; at += step {
		l = append(l, at)
	}
	return append(l, max(total-1, 0), total)
}

// P16.5

func TestASliceOfASliceIsASliceOfTheList(t *testing.T) {
	r := source(5)
	for range 2000 {
		l := r.extents(r.below(9))
		total := extent.Total(l)
		off, n := r.below(total+1), r.below(total+1)
		n = min(n, total-off)
		some := extent.Slice(l, off, n)
		if got := extent.Total(some); got != n || !extent.Right(some) {
			t.Fatalf("%v, %d, %d: %d bytes", l, off, n, got)
		}
		at, m := r.below(n+1), r.below(n+1)
		m = min(m, n-at)
		if got, want := extent.Slice(some, at, m), extent.Slice(l, off+at, m); !slices.Equal(got, want) {
			t.Fatalf("%v, %d, %d, then %d, %d: %v, want %v", l, off, n, at, m, got, want)
		}
	}
}

func TestASliceHasAsManyBytesAsItsRange(t *testing.T) {
	l := list(part(a, 0, 10), part(b, 5, 10))
	for off := -5; off <= 25; off++ {
		for n := -5; n <= 30; n++ {
			want := 0
			for p := range 20 {
				if p >= off && p < off+n {
					want++
				}
			}
			if got := extent.Total(extent.Slice(l, off, n)); got != want {
				t.Errorf("%d, %d: %d bytes, want %d", off, n, got, want)
			}
		}
	}
}

// P16.6

func TestLayAndTakeAreInverse(t *testing.T) {
	r := source(6)
	for range 300 {
		l := r.extents(r.below(20))
		for i := range l {
			if r.below(2) == 0 {
				l[i].Key = r.anyKey()
			}
		}
		d, e := extent.Lay(l)
		if e != api.OK {
			t.Fatalf("error %d", e)
		}
		taken(t, d, l)
		m, _ := extent.Take(d)
		if again, e := extent.Lay(m); !bytes.Equal(again, d) || e != api.OK {
			t.Fatalf("%x became %x, error %d", d, again, e)
		}
	}
}

// The chapter's examples

func TestExamples(t *testing.T) {
	l := list(part(a, 0, 10), part(b, 5, 10))
	if got := extent.Total(l); got != 20 {
		t.Errorf("total: %d", got)
	}
	if got := extent.Slice(l, 8, 5); !slices.Equal(got, list(part(a, 8, 2), part(b, 5, 3))) {
		t.Errorf("slice: %v", got)
	}
	if got := extent.Join(list(part(a, 0, 4)), list(part(a, 4, 6))); !slices.Equal(got, list(part(a, 0, 10))) {
		t.Errorf("join: %v", got)
	}
	taken(t, []byte{0, 0, 0, 0}, nil)
}

// The rules for all calls

// every makes every call with a list, and returns what they return.
func every(l []api.Extent) string {
	d, e := extent.Lay(l)
	m, f := extent.Take(d)
	return fmt.Sprint(extent.Right(l), extent.Total(l), extent.Slice(l, 1, 5), extent.Slice(l, -1, greatest), extent.Join(l), extent.Join(l, l), extent.Keys(l), d, e, m, f)
}

func TestTheSameCallsReturnTheSame(t *testing.T) {
	for _, l := range append(short(), invalid()[:100]...) {
		if first, second := every(l), every(slices.Clone(l)); first != second {
			t.Errorf("%v: %s, and %s", l, first, second)
		}
	}
}

func TestNilAndEmptyAreTheSame(t *testing.T) {
	if first, second := every(nil), every([]api.Extent{}); first != second {
		t.Errorf("%s, and %s", first, second)
	}
}

func TestListsAreLeftAlone(t *testing.T) {
	r := source(7)
	for range 100 {
		memory := r.extents(20)
		kept := slices.Clone(memory)
		lists := [][]api.Extent{memory[:5], memory[5:5], memory[5:9], memory[:12]}
		keptLists := slices.Clone(lists)
		for _, l := range lists {
			every(l)
		}
		extent.Join(lists[:2]...)
		got := extent.Join(lists...)
		if !slices.Equal(got, slowJoin(kept[:5], nil, kept[5:9], kept[:12])) {
			t.Fatalf("got %v", got)
		}
		if !slices.Equal(memory, kept) {
			t.Fatalf("%v became %v", kept, memory)
		}
		for i := range lists {
			if len(lists[i]) != len(keptLists[i]) {
				t.Fatalf("list %d became %v", i, lists[i])
			}
		}
	}
}

func TestBytesAreLeftAlone(t *testing.T) {
	for _, l := range short() {
		memory := append(laid(len(l), l), "what lies behind"...)
		kept := slices.Clone(memory)
		size := len(memory) - 16
		taken(t, memory[:size], l)
		got, _ := extent.Take(memory[:size])
		for i := range memory {
			memory[i] ^= 255
		}
		if !slices.Equal(got, l) {
			t.Fatalf("%v became %v", l, got)
		}
		copy(memory, kept)
		spoil(got)
		if !bytes.Equal(memory, kept) {
			t.Fatalf("%v: the bytes became %x", l, memory)
		}
	}
}

// spoil overwrites a result, and the memory behind it.
func spoil(l []api.Extent) {
	l = l[:cap(l)]
	for i := range l {
		l[i] = part(api.Key{N: 77}, 77, 77)
	}
}

func TestResultsAreNewMemory(t *testing.T) {
	for _, l := range short() {
		kept := slices.Clone(l)
		total := extent.Total(l)
		calls := []func() []api.Extent{
			func() []api.Extent { return extent.Slice(l, 0, total) },
			func() []api.Extent { return extent.Slice(l, -9, greatest) },
			func() []api.Extent { return extent.Join(l) },
			func() []api.Extent { return extent.Join(nil, l, nil) },
			func() []api.Extent { m, _ := extent.Take(laid(len(kept), kept)); return m },
		}
		for i, call := range calls {
			first, second := call(), call()
			want := slices.Clone(second)
			spoil(first)
			if !slices.Equal(l, kept) || !slices.Equal(second, want) || !slices.Equal(call(), want) {
				t.Fatalf("%v, call %d: the list became %v, another result %v", kept, i, l, second)
			}
		}
		keys, other := extent.Keys(l), extent.Keys(l)
		clear(keys[:cap(keys)])
		d, _ := extent.Lay(l)
		again, _ := extent.Lay(l)
		clear(d[:cap(d)])
		if !slices.Equal(l, kept) || !slices.Equal(other, slowKeys(kept)) || !bytes.Equal(again, laid(len(kept), kept)) {
			t.Fatalf("%v: the list became %v, the keys %v, the bytes %x", kept, l, other, again)
		}
	}
}

func TestResultsDoNotHangOnTheList(t *testing.T) {
	for _, l := range short() {
		kept := slices.Clone(l)
		some, joined, keys := extent.Slice(l, 0, greatest), extent.Join(l), extent.Keys(l)
		d, _ := extent.Lay(l)
		spoil(l)
		if !slices.Equal(some, kept) || !slices.Equal(joined, slowJoin(kept)) || !slices.Equal(keys, slowKeys(kept)) || !bytes.Equal(d, laid(len(kept), kept)) {
			t.Fatalf("%v: results became %v, %v, %v, %x", kept, some, joined, keys, d)
		}
	}
}
