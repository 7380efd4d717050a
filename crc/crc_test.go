package crc_test

import (
	"bytes"
	"hash/crc32"
	"math"
	"math/bits"
	"testing"

	"cellarage/crc"
)

// sealedSum is the checksum of whatever is sealed.
const sealedSum = 0x38FB2284

// source makes the same numbers for the same seed.
type source uint64

func (s *source) next() uint64 {
	*s = *s*6364136223846793005 + 1442695040888963407
	return uint64(*s >> 16)
}

func (s *source) bytes(size int) []byte {
	b := make([]byte, size)
	for i := range b {
		b[i] = byte(s.next())
	}
	return b
}

// inputs are byte strings of all small sizes, with all values, and a few long
// ones.
func inputs() [][]byte {
	s := source(1)
	l := [][]byte{nil, {}, bytes.Repeat([]byte{0}, 4), bytes.Repeat([]byte{255}, 4), []byte("123456789")}
	for v := range 256 {
		l = append(l, []byte{byte(v)}, []byte{byte(v), 0, 0, 0, 0}, []byte{255, 255, 255, 255, byte(v)})
	}
	for size := range 140 {
		l = append(l, s.bytes(size))
	}
	return append(l, s.bytes(4096), s.bytes(1<<16+1), make([]byte, 4096), bytes.Repeat([]byte{255}, 4096))
}

// register takes b in, bit by bit, as the chapter tells it.
func register(start uint32, b []byte) uint32 {
	for _, c := range b {
		start ^= uint32(c) << 24
		for range 8 {
			out := start&0x80000000 != 0
			start <<= 1
			if out {
				start ^= 0x04C11DB7
			}
		}
	}
	return start
}

// P2.1

func TestSumOfKnownBytes(t *testing.T) {
	for _, x := range []struct {
		b    string
		want uint32
	}{
		{"", 0}, {"\x00", 0xB1F7404B}, {"\x80", 0xD8FBA0A5}, {"\xff", 0x000000FF},
		{"a", 0x19939B6B}, {"ab", 0xE993FDCD}, {"123456789", 0xFC891918},
		{"\x00\x00\x00\x00", sealedSum}, {"\xff\xff\xff\xff", 0xFFFFFFFF},
		{"The quick brown fox jumps over the lazy dog", 0x459DEE61},
		{string(make([]byte, 4096)), 0x880038E3},
	} {
		if got := crc.Sum([]byte(x.b)); got != x.want {
			t.Errorf("%d bytes %.9q: got %08X, want %08X", len(x.b), x.b, got, x.want)
		}
	}
	if crc.Sum(nil) != 0 {
		t.Error("no bytes")
	}
}

func TestSumTakesBitAfterBit(t *testing.T) {
	for _, b := range inputs() {
		if got, want := crc.Sum(b), ^register(math.MaxUint32, b); got != want {
			t.Errorf("%d bytes %.9x: got %08X, want %08X", len(b), b, got, want)
		}
	}
}

// The library has the checksum that takes the bits of each byte from the other
// end; it differs by nothing else.
func TestSumIsTheLibrarysFromTheOtherEnd(t *testing.T) {
	for _, b := range inputs() {
		turned := bytes.Clone(b)
		for i, c := range turned {
			turned[i] = bits.Reverse8(c)
		}
		if got, want := crc.Sum(b), bits.Reverse32(crc32.ChecksumIEEE(turned)); got != want {
			t.Errorf("%d bytes %.9x: got %08X, want %08X", len(b), b, got, want)
		}
	}
}

func TestTheSameBytesHaveTheSameSum(t *testing.T) {
	for _, b := range inputs() {
		first := crc.Sum(b)
		crc.Sum([]byte("others"))
		crc.More(7, []byte("others"))
		if crc.Sum(bytes.Clone(b)) != first {
			t.Errorf("%d bytes %.9x: another sum", len(b), b)
		}
	}
}

// P2.2

func TestMoreGoesOnFromASum(t *testing.T) {
	s := source(2)
	sums := []uint32{0, 1, 0x80000000, 0x7FFFFFFF, 0x04C11DB7, math.MaxUint32}
	for range 20 {
		sums = append(sums, uint32(s.next()))
	}
	for _, sum := range sums {
		if crc.More(sum, nil) != sum || crc.More(sum, []byte{}) != sum {
			t.Errorf("no bytes behind %08X: %08X", sum, crc.More(sum, nil))
		}
		for size := range 40 {
			b := s.bytes(size)
			if got, want := crc.More(sum, b), ^register(^sum, b); got != want {
				t.Errorf("%x behind %08X: got %08X, want %08X", b, sum, got, want)
			}
		}
	}
	for _, b := range inputs() {
		if crc.More(0, b) != crc.Sum(b) {
			t.Errorf("%d bytes %.9x behind none", len(b), b)
		}
	}
}

func TestSealLaysTheSumBehind(t *testing.T) {
	for _, x := range []struct{ b, want string }{
		{"", "\x00\x00\x00\x00"},
		{"123456789", "123456789\xfc\x89\x19\x18"},
		{"\xff", "\xff\x00\x00\x00\xff"},
		{"ab", "ab\xe9\x93\xfd\xcd"},
		{"\x00\x00\x00\x00", "\x00\x00\x00\x00\x38\xfb\x22\x84"},
	} {
		if got := crc.Seal([]byte(x.b)); string(got) != x.want {
			t.Errorf("%q: got %x, want %x", x.b, got, x.want)
		}
	}
	if got := crc.Seal(nil); string(got) != "\x00\x00\x00\x00" {
		t.Errorf("no bytes: %x", got)
	}
}

func TestOpenTakesWhatIsSealed(t *testing.T) {
	for _, x := range []struct {
		b, want string
		ok      bool
	}{
		{"\x00\x00\x00\x00", "", true},
		{"123456789\xfc\x89\x19\x18", "123456789", true},
		{"\xff\x00\x00\x00\xff", "\xff", true},
		{"\x00\x00\x00\x00\x38\xfb\x22\x84", "\x00\x00\x00\x00", true},
		{"", "", false},
		{"\x00", "", false},
		{"\x00\x00", "", false},
		{"\x00\x00\x00", "", false},
		{"\xff\xff\xff", "", false},
		{"\x00\x00\x00\x01", "", false},
		{"\x01\x00\x00\x00", "", false},
		{"\xff\xff\xff\xff", "", false},
		{"\x00\x00\x00\x00\x00", "", false},
		{"123456789", "", false},
		{"123456789\x18\x19\x89\xfc", "", false},
		{"\xfc\x89\x19\x18123456789", "", false},
		{"123456789\xfc\x89\x19", "", false},
		{"123456789\xfc\x89\x19\x18\x00", "", false},
		{"123456789\x03\x76\xe6\xe7", "", false},
	} {
		if got, ok := crc.Open([]byte(x.b)); ok != x.ok || string(got) != x.want {
			t.Errorf("%x: got %x, %v", x.b, got, ok)
		}
	}
	if got, ok := crc.Open(nil); ok || len(got) != 0 {
		t.Errorf("no bytes: %x, %v", got, ok)
	}
}

func TestOpenTakesOneSumAlone(t *testing.T) {
	s := source(3)
	for size := range 30 {
		sealed := crc.Seal(s.bytes(size))
		for at := size; at < size+4; at++ {
			for change := 1; change < 256; change++ {
				other := bytes.Clone(sealed)
				other[at] ^= byte(change)
				if got, ok := crc.Open(other); ok || len(got) != 0 {
					t.Errorf("%x: got %x, %v", other, got, ok)
				}
			}
		}
		for many := range sealed {
			if crc.Sum(sealed[:many]) == sealedSum {
				continue // it ends by a sum of its own
			}
			if got, ok := crc.Open(sealed[:many]); ok || len(got) != 0 {
				t.Errorf("%x: got %x, %v", sealed[:many], got, ok)
			}
		}
	}
}

func TestArgumentsAreLeftAlone(t *testing.T) {
	sealed := crc.Seal([]byte("cellar"))
	for _, size := range []int{0, 3, 6, len(sealed)} {
		memory := append(bytes.Clone(sealed), "behind it"...)
		want := bytes.Clone(memory)
		crc.Sum(memory[:size])
		crc.More(5, memory[:size])
		crc.Seal(memory[:size])
		crc.Open(memory[:size])
		if !bytes.Equal(memory, want) {
			t.Errorf("%d bytes: the memory became %x", size, memory)
		}
	}
}

func TestWhatLiesBehindIsNotRead(t *testing.T) {
	sealed := crc.Seal([]byte("cellar"))
	one, other := append(bytes.Clone(sealed), 1, 2, 3), append(bytes.Clone(sealed), 7, 8, 9)
	for size := range len(sealed) + 1 {
		a, b := one[:size], other[:size]
		x, xok := crc.Open(a)
		y, yok := crc.Open(b)
		if crc.Sum(a) != crc.Sum(b) || crc.More(5, a) != crc.More(5, b) ||
			!bytes.Equal(crc.Seal(a), crc.Seal(b)) || xok != yok || !bytes.Equal(x, y) {
			t.Errorf("the first %d bytes", size)
		}
	}
}

func TestResultsAreNewMemory(t *testing.T) {
	makings := []func(b []byte) []byte{
		func(b []byte) []byte { return crc.Seal(b) },
		func(b []byte) []byte { opened, _ := crc.Open(b); return opened },
	}
	for i, build := range makings {
		for _, text := range []string{"", "cellar"} {
			memory := append(crc.Seal([]byte(text)), "behind it"...)
			b := memory[:len(text)+4]
			first, second := build(b), build(b)
			kept, want := bytes.Clone(memory), bytes.Clone(second)
			for j := range first[:cap(first)] {
				first[:cap(first)][j] ^= 255
			}
			if !bytes.Equal(memory, kept) || !bytes.Equal(second, want) {
				t.Errorf("making %d of %q: a result shares memory", i, text)
			}
		}
	}
}

// P2.3

func TestSumOfTwoPartsIsMoreOfTheFirst(t *testing.T) {
	s := source(4)
	for size := range 60 {
		b := s.bytes(size)
		whole := crc.Sum(b)
		for i := range size + 1 {
			first := crc.Sum(b[:i])
			if crc.More(first, b[i:]) != whole {
				t.Fatalf("%x, parted after %d", b, i)
			}
			for j := i; j <= size; j++ {
				if crc.More(crc.More(first, b[i:j]), b[j:]) != whole {
					t.Fatalf("%x, parted after %d and %d", b, i, j)
				}
			}
		}
	}
}

// P2.4

// flip changes the bits of b that pattern has, whose highest bit lies at the
// bit at; false if they do not all lie in b.
func flip(b []byte, at int, pattern uint32) ([]byte, bool) {
	b = bytes.Clone(b)
	for i := range 32 {
		if pattern<<i>>31 == 0 {
			continue
		}
		if at+i >= 8*len(b) {
			return nil, false
		}
		b[(at+i)/8] ^= 0x80 >> ((at + i) % 8)
	}
	return b, true
}

// patterns are changes within 32 bits, each with the first of them.
func patterns() []uint32 {
	s := source(5)
	l := []uint32{1 << 31, math.MaxUint32, 0x04C11DB7 << 5, 1<<31 | 0x04C11DB7>>1, 0xAAAAAAAA, 0x80000001}
	for size := 1; size < 32; size++ {
		l = append(l, math.MaxUint32<<size, 1<<31|1<<size, 1<<31|uint32(s.next()), 1<<31|uint32(s.next()))
	}
	return l
}

func TestAShortChangeChangesTheSum(t *testing.T) {
	s := source(6)
	for _, size := range []int{1, 2, 4, 5, 13, 40} {
		b := s.bytes(size)
		for at := range 8 * size {
			for _, pattern := range patterns() {
				if other, ok := flip(b, at, pattern); ok && crc.Sum(other) == crc.Sum(b) {
					t.Fatalf("%x and %x", b, other)
				}
			}
		}
	}
}

func TestOpenRefusesAShortChange(t *testing.T) {
	s := source(7)
	for _, size := range []int{0, 1, 3, 4, 13, 40} {
		sealed := crc.Seal(s.bytes(size))
		for at := range 8 * len(sealed) {
			for _, pattern := range patterns() {
				other, ok := flip(sealed, at, pattern)
				if !ok {
					continue
				}
				if got, ok := crc.Open(other); ok || len(got) != 0 {
					t.Fatalf("%x as %x: got %x, %v", sealed, other, got, ok)
				}
			}
		}
	}
}

// What 32 single changes do to the sum are 32 numbers of which no choice has
// the XOR 0; so, by P2.6, no change that is made of them goes unseen.
func TestShortChangesAreIndependent(t *testing.T) {
	s := source(9)
	for _, size := range []int{4, 5, 13, 40} {
		b := s.bytes(size)
		for at := range 8*size - 31 {
			var leading [32]uint32 // by the place of the highest bit
			for i := range 32 {
				other, _ := flip(b, at+i, 1<<31)
				change := crc.Sum(other) ^ crc.Sum(b)
				for change != 0 && leading[bits.LeadingZeros32(change)] != 0 {
					change ^= leading[bits.LeadingZeros32(change)]
				}
				if change == 0 {
					t.Fatalf("%d bytes: a change of the bits from %d to %d goes unseen", size, at, at+i)
				}
				leading[bits.LeadingZeros32(change)] = change
			}
		}
	}
}

// A change of 33 bits can go unseen: the divisor's own, with its highest bit.
func TestALongerChangeMayLeaveTheSum(t *testing.T) {
	b := []byte("some bytes")
	other, _ := flip(b, 9, 1<<31|0x04C11DB7>>1)
	other, _ = flip(other, 9+32, 1<<31)
	if crc.Sum(other) != crc.Sum(b) {
		t.Errorf("%08X and %08X", crc.Sum(b), crc.Sum(other))
	}
}

// P2.5

func TestSealedBytesOpen(t *testing.T) {
	for _, b := range inputs() {
		sealed := crc.Seal(b)
		if len(sealed) != len(b)+4 || crc.Sum(sealed) != sealedSum {
			t.Errorf("%d bytes %.9x: sealed they are %d, of sum %08X", len(b), b, len(sealed), crc.Sum(sealed))
		}
		opened, ok := crc.Open(sealed)
		if !ok || !bytes.Equal(opened, b) {
			t.Errorf("%d bytes %.9x: opened they are %d, %v", len(b), b, len(opened), ok)
		}
		if !bytes.Equal(crc.Seal(opened), sealed) {
			t.Errorf("%d bytes %.9x: sealed again they are others", len(b), b)
		}
		twice := crc.Seal(sealed)
		if once, ok := crc.Open(twice); !ok || !bytes.Equal(once, sealed) {
			t.Errorf("%d bytes %.9x: sealed twice, they do not open", len(b), b)
		}
	}
}

// P2.6

func TestSumsOfThreeAndOfTheirXor(t *testing.T) {
	s := source(8)
	for size := range 200 {
		a, b, c := s.bytes(size), s.bytes(size), s.bytes(size)
		all := make([]byte, size)
		for i := range all {
			all[i] = a[i] ^ b[i] ^ c[i]
		}
		if x := crc.Sum(a) ^ crc.Sum(b) ^ crc.Sum(c) ^ crc.Sum(all); x != 0 {
			t.Errorf("%x, %x and %x: %08X", a, b, c, x)
		}
	}
}
