package roll_test

import (
	"bytes"
	"math"
	"math/big"
	"slices"
	"testing"

	"cellarage/api"
	"cellarage/roll"
)

const base = 16777619

// source makes the same numbers for the same seed.
type source uint64

func (s *source) next() uint64 {
	*s = *s*6364136223846793005 + 1442695040888963407
	return uint64(*s >> 16)
}

func (s *source) bytes(size int) []byte {
	b := make([]byte, size)
	for i := range b {
		b[i] = byte(s.next())
	}
	return b
}

func rising(size int) []byte {
	b := make([]byte, size)
	for i := range b {
		b[i] = byte(i)
	}
	return b
}

// inputs are byte strings of all small sizes, and a few long ones.
func inputs() [][]byte {
	s := source(1)
	l := [][]byte{nil, {}, []byte("abc"), rising(256), s.bytes(4096), s.bytes(1<<16 + 1)}
	for size := range 70 {
		l = append(l, s.bytes(size), make([]byte, size), bytes.Repeat([]byte{255}, size))
	}
	return l
}

// rest is n modulo 2^32; it is never negative.
func rest(n *big.Int) uint32 {
	return uint32(new(big.Int).Mod(n, big.NewInt(1<<32)).Uint64())
}

// share is what the byte c adds to a hash, with that many bytes after it, in
// whole numbers.
func share(c byte, after int) *big.Int {
	power := new(big.Int).Exp(big.NewInt(base), big.NewInt(int64(after)), nil)
	return power.Mul(power, big.NewInt(int64(c)+1))
}

// slow is the hash of the last Window bytes, summed as the chapter tells it.
func slow(b []byte) uint32 {
	sum := new(big.Int)
	for i := max(0, len(b)-api.Window); i < len(b); i++ {
		sum.Add(sum, share(b[i], len(b)-1-i))
	}
	return rest(sum)
}

// slowNext is the hash with one more byte, as the chapter tells it.
func slowNext(sum uint32, out, in byte) uint32 {
	n := new(big.Int).Sub(big.NewInt(int64(sum)), share(out, api.Window-1))
	n.Mul(n, big.NewInt(base))
	return rest(n.Add(n, share(in, 0)))
}

// P4.1

func TestOfKnownBytes(t *testing.T) {
	zeros := string(make([]byte, 17))
	ones := string(bytes.Repeat([]byte{255}, 16))
	for _, x := range []struct {
		b    string
		want uint32
	}{
		{"", 0}, {"\x00", 1}, {"\x01", 2}, {"\xff", 256},
		{"\x00\x00", 16777620}, {"\x00\x01", 16777621}, {"\x01\x00", 33555239},
		{"abc", 0xEFF3786F},
		{zeros[:15], 0xCE5F46C5}, {zeros[:16], 0xA4FC6820}, {zeros, 0xA4FC6820},
		{ones[:15], 0x5F46C500}, {ones, 0xFC682000},
		{string(rising(15)), 0x111B5FC8}, {string(rising(16)), 0xB617C7E8}, {string(rising(17)), 0x5B143008},
		{string(rising(17)[1:]), 0x5B143008}, {string(rising(256)), 0x62B965E8},
		{"\x01" + zeros[:15], 0x7B99897B}, {"\x01" + zeros[:16], 0xA4FC6820},
		{"The quick brown fox jumps over the lazy dog", 0xA2E3EF84},
		{string(bytes.Repeat([]byte{7}, 4096)), 0x27E34100},
	} {
		if got := roll.Of([]byte(x.b)); got != x.want {
			t.Errorf("%d bytes %.17q: got %08X, want %08X", len(x.b), x.b, got, x.want)
		}
	}
	if roll.Of(nil) != 0 {
		t.Error("no bytes")
	}
}

func TestOfIsSummedAsTheChapterTells(t *testing.T) {
	for _, b := range inputs() {
		if got, want := roll.Of(b), slow(b); got != want {
			t.Errorf("%d bytes %.17x: got %08X, want %08X", len(b), b, got, want)
		}
	}
}

func TestOfFewerBytesTakesAll(t *testing.T) {
	s := source(2)
	for size := range api.Window {
		b := s.bytes(size)
		for begin := range 256 {
			longer := append([]byte{byte(begin)}, b...)
			if got, want := roll.Of(longer)-roll.Of(b), rest(share(byte(begin), size)); got != want {
				t.Fatalf("%d ahead of %d bytes adds %08X, want %08X", begin, size, got, want)
			}
		}
	}
}

// P4.2

func TestNextOfKnownNumbers(t *testing.T) {
	for _, x := range []struct {
		sum     uint32
		out, in byte
		want    uint32
	}{
		{0, 0, 0, 0xCBA47DC0}, {1, 0, 0, 0xCCA47F53},
		{0, 255, 0, 0xA47DBF01}, {0, 0, 255, 0xCBA47EBF}, {0, 255, 255, 0xA47DC000},
		{math.MaxUint32, 0, 0, 0xCAA47C2D}, {math.MaxUint32, 255, 255, 0xA37DBE6D},
		{1 << 31, 7, 9, 0xDD23EE02}, {123456789, 1, 2, 0x41CCD390},
		{0xD69D215B, 0, 0, 1}, // the base to the power of 15: what is taken away is all
		{0xD69D215B, 0, 255, 256},
		{0xA4FC6820, 0, 0, 0xA4FC6820}, // of 16 bytes 0, then of 16 again
	} {
		if got := roll.Next(x.sum, x.out, x.in); got != x.want {
			t.Errorf("%08X, %d, %d: got %08X, want %08X", x.sum, x.out, x.in, got, x.want)
		}
	}
}

// Next takes any sum, also one that no bytes have that begin with out.
func TestNextOfAnyNumbers(t *testing.T) {
	s := source(3)
	sums := []uint32{0, 1, 2, base, 1<<31 - 1, 1 << 31, math.MaxUint32 - 1, math.MaxUint32}
	for range 4 {
		sums = append(sums, uint32(s.next()))
	}
	for _, sum := range sums {
		for c := range 256 {
			for _, other := range []byte{0, 1, 127, 128, 254, 255, byte(s.next())} {
				for _, x := range [][2]byte{{byte(c), other}, {other, byte(c)}} {
					if got, want := roll.Next(sum, x[0], x[1]), slowNext(sum, x[0], x[1]); got != want {
						t.Fatalf("%08X, %d, %d: got %08X, want %08X", sum, x[0], x[1], got, want)
					}
				}
			}
		}
	}
}

// P4.3

func TestAllOfFewerBytesIsNothing(t *testing.T) {
	s := source(4)
	for size := range api.Window {
		if l := roll.All(s.bytes(size)); len(l) != 0 {
			t.Errorf("%d bytes: %x", size, l)
		}
		if l := roll.All(s.bytes(40)[:size]); len(l) != 0 {
			t.Errorf("%d bytes with others behind: %x", size, l)
		}
	}
	if l := roll.All(nil); len(l) != 0 {
		t.Errorf("nil: %x", l)
	}
}

func TestAllOfKnownBytes(t *testing.T) {
	for _, x := range []struct {
		b    []byte
		want []uint32
	}{
		{rising(16), []uint32{0xB617C7E8}},
		{rising(17), []uint32{0xB617C7E8, 0x5B143008}},
		{rising(20), []uint32{0xB617C7E8, 0x5B143008, 0x00109828, 0xA50D0048, 0x4A096868}},
		{append([]byte{1}, make([]byte, 16)...), []uint32{0x7B99897B, 0xA4FC6820}},
	} {
		if got := roll.All(x.b); !slices.Equal(got, x.want) {
			t.Errorf("%d bytes: got %08X, want %08X", len(x.b), got, x.want)
		}
	}
}

func TestAllIsOfEachPrefix(t *testing.T) {
	for _, b := range inputs() {
		l := roll.All(b)
		if len(l) != max(0, len(b)-api.Window+1) {
			t.Errorf("%d bytes: %d hashes", len(b), len(l))
			continue
		}
		for i, got := range l {
			if want := roll.Of(b[:i+api.Window]); got != want {
				t.Fatalf("the first %d of %d bytes: got %08X, want %08X", i+api.Window, len(b), got, want)
			}
		}
	}
}

// P4.4

func TestNextIsOfTheLastWindow(t *testing.T) {
	s := source(5)
	for _, b := range [][]byte{make([]byte, 17), bytes.Repeat([]byte{255}, 17), rising(17), s.bytes(17), s.bytes(17)} {
		for v := range 256 {
			for _, at := range []int{0, 1, 15, 16} {
				c := bytes.Clone(b)
				c[at] = byte(v)
				got := roll.Next(roll.Of(c[:api.Window]), c[0], c[api.Window])
				if want := roll.Of(c[1:]); got != want {
					t.Fatalf("%x: got %08X, want %08X", c, got, want)
				}
			}
		}
	}
}

func TestNextGoesOnAndOn(t *testing.T) {
	s := source(6)
	b := s.bytes(5000)
	sum := roll.Of(b[:api.Window])
	for i := api.Window; i < len(b); i++ {
		sum = roll.Next(sum, b[i-api.Window], b[i])
		if want := slow(b[:i+1]); sum != want {
			t.Fatalf("the first %d bytes: got %08X, want %08X", i+1, sum, want)
		}
	}
}

// P4.5

func TestOfDependsOnTheLastWindowAlone(t *testing.T) {
	s := source(7)
	for range 20 {
		last := s.bytes(api.Window)
		want := roll.Of(last)
		for size := range 50 {
			if got := roll.Of(append(s.bytes(size), last...)); got != want {
				t.Fatalf("%x with %d bytes ahead: got %08X, want %08X", last, size, got, want)
			}
		}
		for v := range 256 {
			if got := roll.Of(append([]byte{byte(v)}, last...)); got != want {
				t.Fatalf("%x behind %d: got %08X, want %08X", last, v, got, want)
			}
		}
	}
}

// All values of one byte have hashes of their own, so each two of them differ.
func TestOneOtherByteHasAnotherHash(t *testing.T) {
	s := source(8)
	for _, size := range []int{1, 2, 3, 8, 15, 16, 17, 40} {
		for _, b := range [][]byte{make([]byte, size), bytes.Repeat([]byte{255}, size), s.bytes(size)} {
			for at := max(0, size-api.Window); at < size; at++ {
				seen := map[uint32]int{}
				for v := range 256 {
					b[at] = byte(v)
					sum := roll.Of(b)
					if other, ok := seen[sum]; ok {
						t.Fatalf("%d bytes: %d and %d at %d have the hash %08X", size, other, v, at, sum)
					}
					seen[sum] = v
				}
			}
		}
	}
}

// The rules for all calls

func TestArgumentsAreLeftAlone(t *testing.T) {
	s := source(9)
	for _, size := range []int{0, 1, 15, 16, 17, 60} {
		memory := s.bytes(100)
		want := bytes.Clone(memory)
		roll.Of(memory[:size])
		roll.All(memory[:size])
		if !bytes.Equal(memory, want) {
			t.Errorf("%d bytes: the memory became %x", size, memory)
		}
	}
}

func TestWhatLiesBehindIsNotRead(t *testing.T) {
	s := source(10)
	for size := range 60 {
		one, other := s.bytes(100), s.bytes(100)
		copy(other, one[:size])
		a, b := one[:size], other[:size]
		if roll.Of(a) != roll.Of(b) || !slices.Equal(roll.All(a), roll.All(b)) {
			t.Errorf("the first %d bytes", size)
		}
	}
}

func TestResultsAreNewMemory(t *testing.T) {
	s := source(11)
	for _, size := range []int{15, 16, 17, 60} {
		b := s.bytes(size)
		first, second := roll.All(b), roll.All(b)
		want := slices.Clone(second)
		for i := range first[:cap(first)] {
			first[:cap(first)][i] ^= math.MaxUint32
		}
		if !slices.Equal(second, want) || !slices.Equal(roll.All(b), want) {
			t.Errorf("%d bytes: a result shares memory", size)
		}
	}
}

func TestTheSameArgumentsHaveTheSameResults(t *testing.T) {
	for _, b := range inputs() {
		sum, all := roll.Of(b), roll.All(b)
		next := roll.Next(sum, 1, 2)
		roll.All([]byte("others that are long enough"))
		roll.Next(7, 8, 9)
		if roll.Of(bytes.Clone(b)) != sum || !slices.Equal(roll.All(bytes.Clone(b)), all) || roll.Next(sum, 1, 2) != next {
			t.Errorf("%d bytes: other results", len(b))
		}
	}
}
