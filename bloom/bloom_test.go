package bloom_test

import (
	"bytes"
	"math"
	"slices"
	"testing"

	"cellarage/api"
	"cellarage/bloom"
)

const lowest, greatest = math.MinInt, math.MaxInt

// source makes the same numbers for the same seed.
type source uint64

func (s *source) next() uint64 {
	*s = *s*6364136223846793005 + 1442695040888963407
	return uint64(*s >> 16)
}

func (s *source) bytes(size int) []byte {
	b := make([]byte, size)
	for i := range b {
		b[i] = byte(s.next())
	}
	return b
}

func (s *source) key() api.Key {
	return api.Key{Sum: api.Sum(s.bytes(32)), N: uint32(s.next())}
}

func (s *source) keys(many int) []api.Key {
	l := make([]api.Key, many)
	for i := range l {
		l[i] = s.key()
	}
	return l
}

// from is the key with these bytes, then only bytes rest, and with this number.
func from(head string, rest byte, n uint32) api.Key {
	k := api.Key{N: n}
	for i := copy(k.Sum[:], head); i < len(k.Sum); i++ {
		k.Sum[i] = rest
	}
	return k
}

// keys are some whose sums are at the ends of what can be, and some others.
func keys() []api.Key {
	l := []api.Key{{}}
	for _, head := range []string{"\x00\x00\x00\x00", "\x00\x00\x00\x01", "\x80\x00\x00\x00", "\xff\xff\xff\xfe", "\xff\xff\xff\xff", "\x01\x02\x03\x04"} {
		for _, step := range []string{"\x00\x00\x00\x00", "\x00\x00\x00\x01", "\x00\x00\x00\x02", "\x80\x00\x00\x00", "\xff\xff\xff\xff", "\x05\x06\x07\x08"} {
			for _, n := range []uint32{0, 1, 1 << 31, math.MaxUint32} {
				l = append(l, from(head+step, 9, n))
			}
		}
	}
	s := source(1)
	return append(l, s.keys(60)...)
}

// sizes are numbers of bits: all small ones, and a few great ones.
func sizes() []int {
	l := []int{1000, 1<<16 - 1, 1 << 16, api.MaxBits - 9, api.MaxBits - 1, api.MaxBits}
	for bits := range 70 {
		l = append(l, bits)
	}
	return l
}

// slowBits is the bits of a key, as the chapter tells it.
func slowBits(bits, probes int, k api.Key) []int {
	var l []int
	if bits == 0 {
		return l
	}
	a, b := uint64(0), uint64(0)
	for i := range 4 {
		a = a*256 + uint64(k.Sum[i])
		b = b*256 + uint64(k.Sum[4+i])
	}
	if b%2 == 0 {
		b++
	}
	for i := range probes {
		sum := (a + uint64(k.N) + uint64(i)*b) % (1 << 32)
		l = append(l, int(sum%uint64(bits)))
	}
	return l
}

// coded is a filter whose bits are 1 at these places, as bytes.
func coded(bits int, ones ...int) []byte {
	b := make([]byte, (bits+7)/8)
	for _, p := range ones {
		b[p/8] |= 1 << (p % 8)
	}
	return b
}

func made(t *testing.T, bits, probes int) *bloom.Vector {
	t.Helper()
	v, e := bloom.New(bits, probes)
	if e != api.OK || v == nil {
		t.Fatalf("%d bits, %d probes: error %d", bits, probes, e)
	}
	return v
}

func filled(t *testing.T, bits, probes int, l ...api.Key) *bloom.Vector {
	t.Helper()
	v := made(t, bits, probes)
	for _, k := range l {
		v.Add(k)
	}
	return v
}

// overwrite changes all memory of b, also that behind its length.
func overwrite(b []byte) {
	b = b[:cap(b)]
	for i := range b {
		b[i] ^= 255
	}
}

// P6.1

func TestNewRefuses(t *testing.T) {
	for _, x := range [][2]int{
		{-1, 1}, {-1, 0}, {-8, 4}, {lowest, 4}, {api.MaxBits + 1, 1}, {api.MaxBits + 8, 0}, {greatest, 1}, {1 << 32, 1}, {1<<32 + 8, 1},
		{8, -1}, {0, -1}, {8, lowest}, {8, 31}, {0, 31}, {api.MaxBits, 31}, {8, greatest}, {8, 1 << 32},
		{-1, -1}, {lowest, lowest}, {greatest, greatest}, {api.MaxBits + 1, api.MaxProbes + 1},
	} {
		if v, e := bloom.New(x[0], x[1]); v != nil || e != api.ErrArg {
			t.Errorf("%d bits, %d probes: error %d, %v", x[0], x[1], e, v)
		}
	}
}

func TestANewFilterHasAllBitsZero(t *testing.T) {
	for _, bits := range sizes() {
		for _, probes := range []int{0, 1, 2, 29, 30} {
			v := made(t, bits, probes)
			if !bytes.Equal(v.Bytes(), coded(bits)) {
				t.Errorf("%d bits, %d probes: got %x", bits, probes, v.Bytes())
			}
			for _, k := range keys() {
				if v.May(k) != (bits == 0 || probes == 0) {
					t.Fatalf("%d bits, %d probes: %v may be in an empty one: %v", bits, probes, k, v.May(k))
				}
			}
		}
	}
}

func TestAddOfKnownKeys(t *testing.T) {
	risen := "\xc8\xc9\xca\xcb\xcc\xcd\xce\xcf\xd0"
	for _, x := range []struct {
		bits, probes int
		k            api.Key
		want         []int
	}{
		{8, 1, from("", 0, 3), []int{3}},
		{8, 1, from("", 0, 11), []int{3}},
		{8, 1, from("", 0, 4), []int{4}},
		{64, 5, from("", 0, 0), []int{0, 1, 2, 3, 4}},
		{64, 5, from("\x00\x00\x00\x00\x00\x00\x00\x01", 0, 0), []int{0, 1, 2, 3, 4}},
		{64, 5, from("\x00\x00\x00\x00\x00\x00\x00\x02", 0, 0), []int{0, 3, 6, 9, 12}},
		{64, 5, from("\x00\x00\x00\x00\x00\x00\x00\x03", 255, 0), []int{0, 3, 6, 9, 12}},
		{100, 4, from("\x01\x02\x03\x04\x05\x06\x07\x08", 9, 0), []int{60, 57, 54, 51}},
		{100, 4, from("\x01\x02\x03\x04\x05\x06\x07\x08", 9, 1000), []int{60, 57, 54, 51}},
		{100, 4, from("\x01\x02\x03\x04\x05\x06\x07\x08", 9, 1), []int{61, 58, 55, 52}},
		{20, 3, from("", 255, 0), []int{15, 14, 13}},
		{20, 3, from("", 255, 1), []int{0, 15, 14}},
		{20, 3, from("", 255, math.MaxUint32), []int{14, 13, 12}},
		{1, 30, from("", 255, math.MaxUint32), []int{0}},
		{60, 6, from("\x80\x00\x00\x00\x80\x00\x00\x00", 0, math.MaxInt32), []int{15, 8, 1, 10, 3, 12}},
		{61, 10, from(risen, 0, 7), []int{15, 3, 52, 40, 24, 12, 0, 49, 37, 21}},
		{128, 30, from(risen, 0, 7), []int{82, 33, 112, 63, 14, 93, 44, 123, 74, 25, 104, 55, 6, 85, 36, 115, 66, 17, 96, 47, 126, 77, 28, 107, 58, 9, 88, 39, 118, 69}},
		{api.MaxBits, 4, from("\x00\x00\x00\x00\x00\x0f\xff\xff", 0, 0), []int{0, 1<<20 - 1, 1<<20 - 2, 1<<20 - 3}},
	} {
		v := filled(t, x.bits, x.probes, x.k)
		if want := coded(x.bits, x.want...); !bytes.Equal(v.Bytes(), want) {
			t.Errorf("%d bits, %d probes, %v: got %x, want %x", x.bits, x.probes, x.k, v.Bytes(), want)
		}
	}
}

func TestAddSetsTheBitsOfAKey(t *testing.T) {
	for _, bits := range sizes() {
		v := made(t, bits, 0)
		for probes := range api.MaxProbes + 1 {
			if bits > 70 && probes%6 > 0 {
				continue // enough of those that take long
			}
			v = made(t, bits, probes)
			for _, k := range keys() {
				v.Clear()
				v.Add(k)
				if got, want := v.Bytes(), coded(bits, slowBits(bits, probes, k)...); !bytes.Equal(got, want) {
					t.Fatalf("%d bits, %d probes, %v: got %.64x, want %.64x", bits, probes, k, got, want)
				}
			}
		}
	}
}

func TestMayReportsWhetherAllBitsAreSet(t *testing.T) {
	for _, bits := range []int{1, 2, 7, 8, 9, 11} {
		for _, probes := range []int{0, 1, 2, 3, 5, 30} {
			v := made(t, bits, probes)
			for ones := range 1 << bits { // each filter that there can be
				held := []byte{byte(ones), byte(ones >> 8)}
				v.Clear()
				v.Or(held)
				for _, k := range keys() {
					want := true
					for _, p := range slowBits(bits, probes, k) {
						want = want && ones>>p&1 == 1
					}
					if v.May(k) != want {
						t.Fatalf("%d bits, %d probes, %x, %v: got %v", bits, probes, held, k, !want)
					}
				}
			}
		}
	}
}

// One bit that is missing is noticed, whichever of the key's it is.
func TestMayMissesEachBit(t *testing.T) {
	for _, bits := range []int{67, 1000, api.MaxBits} {
		for _, k := range keys() {
			all := slowBits(bits, api.MaxProbes, k)
			v := made(t, bits, api.MaxProbes)
			for _, missing := range all {
				v.Clear()
				v.Or(coded(bits, slices.DeleteFunc(slices.Clone(all), func(p int) bool { return p == missing })...))
				if v.May(k) {
					t.Fatalf("%d bits, %v: without bit %d", bits, k, missing)
				}
			}
			if v.Or(coded(bits, all...)); !v.May(k) {
				t.Fatalf("%d bits, %v: with all bits", bits, k)
			}
			if bits == api.MaxBits && k.N == 1<<31 {
				break // enough of those that take long
			}
		}
	}
}

func TestMayOfKnownKeys(t *testing.T) {
	v := filled(t, 8, 1, from("", 0, 3))
	if !v.May(from("", 0, 3)) || !v.May(from("", 0, 11)) || v.May(from("", 0, 4)) {
		t.Errorf("%x", v.Bytes())
	}
	if !bytes.Equal(v.Bytes(), []byte{8}) {
		t.Errorf("May changed the filter: %x", v.Bytes())
	}
}

func TestWithoutBitsOrProbesAllKeysMayBeThere(t *testing.T) {
	for _, x := range [][2]int{{0, 0}, {0, 1}, {0, 5}, {0, 30}, {1, 0}, {8, 0}, {13, 0}, {api.MaxBits, 0}} {
		v := made(t, x[0], x[1])
		for _, k := range keys() {
			if !v.May(k) {
				t.Errorf("%d bits, %d probes, empty: not %v", x[0], x[1], k)
			}
			v.Add(k)
			if !v.May(k) {
				t.Errorf("%d bits, %d probes: not %v", x[0], x[1], k)
			}
		}
		if !bytes.Equal(v.Bytes(), coded(x[0])) {
			t.Errorf("%d bits, %d probes: Add made it %x", x[0], x[1], v.Bytes())
		}
	}
}

// P6.2

func TestOrSetsTheBitsOfBytes(t *testing.T) {
	s := source(2)
	for _, bits := range append(sizes()[6:], 1000) {
		v, want := made(t, bits, 3), coded(bits)
		for range 3 {
			for _, size := range []int{0, 1, 2, 3, bits / 8, bits/8 + 1, bits/8 + 2, 40} {
				b := s.bytes(size)
				for i := range b {
					b[i] &= byte(s.next()) & byte(s.next()) // else all are 1 soon
				}
				v.Or(b)
				for p := range min(bits, 8*size) {
					want[p/8] |= b[p/8] & (1 << (p % 8))
				}
				if !bytes.Equal(v.Bytes(), want) {
					t.Fatalf("%d bits, Or of %x: got %x, want %x", bits, b, v.Bytes(), want)
				}
			}
		}
	}
}

func TestOrOfOneBit(t *testing.T) {
	for _, bits := range sizes()[6:] {
		for p := range 90 {
			v := made(t, bits, 1)
			v.Or(coded(90, p))
			want := coded(bits)
			if p < bits {
				want = coded(bits, p)
			}
			if !bytes.Equal(v.Bytes(), want) {
				t.Errorf("%d bits, Or with bit %d: got %x, want %x", bits, p, v.Bytes(), want)
			}
		}
	}
}

func TestUnusedBitsStayZero(t *testing.T) {
	ones := bytes.Repeat([]byte{255}, api.MaxBits/8+5)
	for _, bits := range sizes() {
		for _, b := range [][]byte{ones[:(bits+7)/8], ones} {
			v := made(t, bits, 2)
			v.Or(b)
			want := bytes.Clone(ones[:(bits+7)/8])
			if bits%8 > 0 {
				want[bits/8] = 255 >> (8 - bits%8)
			}
			if !bytes.Equal(v.Bytes(), want) {
				t.Errorf("%d bits: Or of all ones gives %.64x", bits, v.Bytes())
			}
			for _, k := range keys() {
				if !v.May(k) {
					t.Fatalf("%d bits, all 1: not %v", bits, k)
				}
			}
		}
	}
}

// What is ignored now is not there later, either.
func TestOrTakesOnlyWhatIsThere(t *testing.T) {
	v := made(t, 3, 0)
	v.Or(nil)
	v.Or([]byte{})
	v.Or([]byte{248, 255})
	if b := v.Bytes(); !bytes.Equal(b, []byte{0}) {
		t.Errorf("got %x", b)
	}
	v.Or([]byte{10})
	v.Or([]byte{0, 7})
	v.Or([]byte{1})
	if b := v.Bytes(); !bytes.Equal(b, []byte{3}) {
		t.Errorf("got %x", b)
	}
}

func TestClearSetsAllBitsToZero(t *testing.T) {
	ones := bytes.Repeat([]byte{255}, api.MaxBits/8)
	for _, bits := range sizes() {
		for _, probes := range []int{0, 1, 4, 30} {
			v := filled(t, bits, probes, keys()...)
			v.Or(ones)
			v.Clear()
			if !bytes.Equal(v.Bytes(), coded(bits)) {
				t.Fatalf("%d bits: got %.64x", bits, v.Bytes())
			}
			k := keys()[20]
			if v.May(k) != (bits == 0 || probes == 0) {
				t.Errorf("%d bits, %d probes: May is %v behind Clear", bits, probes, v.May(k))
			}
			v.Add(k) // it has the same bits and probes
			if !bytes.Equal(v.Bytes(), coded(bits, slowBits(bits, probes, k)...)) || !v.May(k) {
				t.Errorf("%d bits, %d probes: got %.64x behind Clear", bits, probes, v.Bytes())
			}
		}
	}
}

// A Vector that New did not make has no bits.
func TestNilAndZero(t *testing.T) {
	for _, v := range []*bloom.Vector{nil, {}} {
		for _, k := range keys() {
			v.Add(k)
			v.Or([]byte{255, 255})
			if !v.May(k) || len(v.Bytes()) > 0 {
				t.Errorf("%v: not %v, or bytes %x", v == nil, k, v.Bytes())
			}
			v.Clear()
			if !v.May(k) || len(v.Bytes()) > 0 {
				t.Errorf("%v: behind Clear, not %v, or bytes %x", v == nil, k, v.Bytes())
			}
		}
	}
}

// P6.3

func TestWhatWasAddedMayBeThere(t *testing.T) {
	s := source(3)
	for _, bits := range sizes() {
		for _, probes := range []int{0, 1, 2, 7, 30} {
			v := made(t, bits, probes)
			var added []api.Key
			for _, k := range append(keys()[:20], s.keys(20)...) {
				v.Add(k)
				added = append(added, k)
				v.Or(s.bytes(int(s.next() % 4)))
				for _, k := range added {
					if !v.May(k) {
						t.Fatalf("%d bits, %d probes: not %v", bits, probes, k)
					}
				}
			}
		}
	}
}

// A filter that has room tells most keys that were not added.
func TestOtherKeysMostlyAreNot(t *testing.T) {
	s := source(4)
	for _, x := range [][2]int{{1 << 14, 4}, {10007, 7}, {api.MaxBits, 1}, {api.MaxBits, 30}} {
		v := filled(t, x[0], x[1], s.keys(1000)...)
		wrong := 0
		for _, k := range s.keys(10000) {
			if v.May(k) {
				wrong++
			}
		}
		if wrong > 500 {
			t.Errorf("%d bits, %d probes: %d of 10000 may be there", x[0], x[1], wrong)
		}
	}
}

// P6.4

func TestOrderAndRepetitionDoNotMatter(t *testing.T) {
	s := source(5)
	for _, bits := range sizes() {
		for _, probes := range []int{0, 1, 3, 30} {
			l := append(keys()[50:70], s.keys(20)...)
			want := filled(t, bits, probes, l...).Bytes()
			again := append(slices.Clone(l), l...)
			again = append(again, l[3], l[3], l[7])
			back := slices.Clone(l)
			slices.Reverse(back)
			for range 3 {
				mixed := slices.Clone(again)
				for i := range mixed {
					j := int(s.next() % uint64(i+1))
					mixed[i], mixed[j] = mixed[j], mixed[i]
				}
				for _, m := range [][]api.Key{again, back, mixed} {
					if got := filled(t, bits, probes, m...).Bytes(); !bytes.Equal(got, want) {
						t.Errorf("%d bits, %d probes: got %.64x, want %.64x", bits, probes, got, want)
					}
				}
			}
		}
	}
}

func TestOrIsAsAddingTheKeys(t *testing.T) {
	s := source(6)
	for _, bits := range sizes() {
		for _, probes := range []int{0, 1, 3, 30} {
			a, b := s.keys(10), s.keys(10)
			got := filled(t, bits, probes, a...)
			got.Or(filled(t, bits, probes, b...).Bytes())
			want := filled(t, bits, probes, append(slices.Clone(a), b...)...)
			if !bytes.Equal(got.Bytes(), want.Bytes()) {
				t.Errorf("%d bits, %d probes: got %.64x, want %.64x", bits, probes, got.Bytes(), want.Bytes())
			}
			for _, k := range append(append(a, b...), s.keys(50)...) {
				if got.May(k) != want.May(k) {
					t.Errorf("%d bits, %d probes: May of %v is %v", bits, probes, k, got.May(k))
				}
			}
			got.Or(got.Bytes())
			if !bytes.Equal(got.Bytes(), want.Bytes()) {
				t.Errorf("%d bits, %d probes: its own bytes made it %.64x", bits, probes, got.Bytes())
			}
		}
	}
}

// The rules for all calls

func TestArgumentsAreLeftAlone(t *testing.T) {
	s := source(7)
	for _, size := range []int{0, 1, 5, 9, 30} {
		memory := s.bytes(60)
		kept := bytes.Clone(memory)
		v := filled(t, 77, 4, s.keys(9)...)
		v.Or(memory[:size])
		if !bytes.Equal(memory, kept) {
			t.Errorf("%d bytes: Or made the memory %x", size, memory)
		}
		want := v.Bytes()
		overwrite(memory)
		if !bytes.Equal(v.Bytes(), want) {
			t.Errorf("%d bytes: the filter keeps them", size)
		}
		overwrite(memory)
		v.Add(s.key())
		v.Clear()
		if !bytes.Equal(memory, kept) {
			t.Errorf("%d bytes: the memory became %x", size, memory)
		}
	}
}

func TestWhatLiesBehindIsNotRead(t *testing.T) {
	ones := bytes.Repeat([]byte{255}, 50)
	for size := range 12 {
		v := made(t, 77, 4)
		v.Or(ones[:size])
		want := coded(77)
		for p := range min(77, 8*size) {
			want[p/8] |= 1 << (p % 8)
		}
		if !bytes.Equal(v.Bytes(), want) {
			t.Errorf("%d bytes: got %x, want %x", size, v.Bytes(), want)
		}
	}
}

func TestResultsAreNewMemory(t *testing.T) {
	for _, bits := range sizes() {
		v := filled(t, bits, 3, keys()...)
		first, second := v.Bytes(), v.Bytes()
		want := bytes.Clone(first)
		overwrite(first)
		if !bytes.Equal(second, want) || !bytes.Equal(v.Bytes(), want) {
			t.Errorf("%d bits: results share memory", bits)
		}
		v.Clear()
		if !bytes.Equal(second, want) {
			t.Errorf("%d bits: Clear changed a result", bits)
		}
	}
}

func TestFiltersDoNotDisturbEachOther(t *testing.T) {
	s := source(8)
	var filters [3]*bloom.Vector
	var l [3][]api.Key
	for i := range filters {
		filters[i] = made(t, 500, 3)
	}
	for range 30 {
		for i, v := range filters {
			k := s.key()
			l[i] = append(l[i], k)
			v.Add(k)
		}
	}
	filters[2].Clear()
	l[2] = nil
	for i, v := range filters {
		if want := filled(t, 500, 3, l[i]...).Bytes(); !bytes.Equal(v.Bytes(), want) {
			t.Errorf("filter %d: got %x, want %x", i, v.Bytes(), want)
		}
	}
}
