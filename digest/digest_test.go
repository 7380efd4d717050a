package digest_test

import (
	"bytes"
	"encoding/hex"
	"math"
	"strconv"
	"strings"
	"sync"
	"testing"

	"cellarage/api"
	"cellarage/digest"
)

// noBytes is the fingerprint of no bytes.
const noBytes = "69217a3079908094e11121d042354a7c1f55b6482ca1a51e1b250dfd1ed0eef9"

func text(d api.Sum) string { return hex.EncodeToString(d[:]) }

// rising is size bytes 0, 1, 2, ..
func rising(size int) []byte {
	b := make([]byte, size)
	for i := range b {
		b[i] = byte(i)
	}
	return b
}

// source makes the same numbers for the same seed.
type source uint64

func (s *source) next() uint64 {
	*s = *s*6364136223846793005 + 1442695040888963407
	return uint64(*s >> 16)
}

func (s *source) bytes(size int) []byte {
	b := make([]byte, size)
	for i := range b {
		b[i] = byte(s.next())
	}
	return b
}

// edges are sizes about the ends of blocks, and a few others.
func edges() []int {
	return []int{0, 1, 2, 4, 31, 32, 33, 60, 63, 64, 65, 96, 127, 128, 129, 191, 192, 193, 256, 300}
}

// written is the fingerprint of what is written, part by part.
func written(parts ...[]byte) api.Sum {
	s := digest.New()
	for _, part := range parts {
		s.Write(part)
	}
	return s.Sum()
}

// orders are the ten permutations, as the chapter lists them.
const orders = `0 1 2 3 4 5 6 7 8 9 10 11 12 13 14 15
14 10 4 8 9 15 13 6 1 12 0 2 11 7 5 3
11 8 12 0 5 2 15 13 10 14 3 6 7 1 9 4
7 9 3 1 13 12 11 14 2 6 5 10 4 0 15 8
9 0 5 7 2 4 10 15 14 1 11 12 6 8 3 13
2 12 6 10 0 11 8 3 4 13 7 5 15 14 1 9
12 5 1 15 14 13 4 10 0 7 6 3 9 2 8 11
13 11 7 14 12 1 3 9 5 0 15 4 8 6 2 10
6 15 14 9 11 3 0 8 12 2 13 7 1 4 10 5
10 2 8 4 7 6 1 5 15 11 9 14 3 12 13 0`

// slow makes a fingerprint of all bytes at once, step by step as the chapter
// tells it.
func slow(b []byte) api.Sum {
	start := []uint32{0x6A09E667, 0xBB67AE85, 0x3C6EF372, 0xA54FF53A, 0x510E527F, 0x9B05688C, 0x1F83D9AB, 0x5BE0CD19}
	h := append([]uint32{}, start...)
	h[0] ^= 0x01010020
	blocks := max(1, (len(b)+63)/64)
	padded := append(bytes.Clone(b), make([]byte, 64*blocks-len(b))...)
	for k := range blocks {
		v := append(append([]uint32{}, h...), start...)
		end := uint64(min(len(b), 64*k+64))
		v[12] ^= uint32(end)
		v[13] ^= uint32(end >> 32)
		if k == blocks-1 {
			v[14] = ^v[14]
		}
		slowRounds(v, padded[64*k:64*k+64])
		for i := range h {
			h[i] ^= v[i] ^ v[i+8]
		}
	}
	var d api.Sum
	for i, word := range h {
		for j := range 4 {
			d[4*i+j] = byte(word >> (8 * j))
		}
	}
	return d
}

func slowRounds(v []uint32, block []byte) {
	m := func(i int) uint32 {
		return uint32(block[4*i]) + uint32(block[4*i+1])<<8 + uint32(block[4*i+2])<<16 + uint32(block[4*i+3])<<24
	}
	right := func(n uint32, many int) uint32 { return n>>many | n<<(32-many) }
	quads := [][4]int{
		{0, 4, 8, 12}, {1, 5, 9, 13}, {2, 6, 10, 14}, {3, 7, 11, 15},
		{0, 5, 10, 15}, {1, 6, 11, 12}, {2, 7, 8, 13}, {3, 4, 9, 14},
	}
	for line := range strings.SplitSeq(orders, "\n") {
		o := strings.Fields(line)
		for i, q := range quads {
			first, _ := strconv.Atoi(o[2*i])
			second, _ := strconv.Atoi(o[2*i+1])
			a, b, c, d := &v[q[0]], &v[q[1]], &v[q[2]], &v[q[3]]
			*a = *a + *b + m(first)
			*d = right(*d^*a, 16)
			*c = *c + *d
			*b = right(*b^*c, 12)
			*a = *a + *b + m(second)
			*d = right(*d^*a, 8)
			*c = *c + *d
			*b = right(*b^*c, 7)
		}
	}
}

// P3.1

func TestSumOfKnownBytes(t *testing.T) {
	for _, x := range []struct{ b, want string }{
		{"", noBytes},
		{"abc", "508c5e8c327c14e2e1a72ba34eeb452f37458b209ed63a294d999b4c86675982"},
		{"a", "4a0d129873403037c2cd9b9048203687f6233fb6738956e0349bd4320fec3e90"},
		{"\x00", "e34d74dbaf4ff4c6abd871cc220451d2ea2648846c7757fbaac82fe51ad64bea"},
		{"\xff", "8a1ef126b4e286703744a80b2f414be700cc93023e7bfc8688b79b54931abd27"},
		{"The quick brown fox jumps over the lazy dog", "606beeec743ccbeff6cbcdf5d5302aa855c256c29b88c8ed331ea1a6bf3c8812"},
		{string(rising(63)), "e57cb79487dd57902432b250733813bd96a84efce59f650fac26e6696aefafc3"},
		{string(rising(64)), "56f34e8b96557e90c1f24b52d0c89d51086acf1b00f634cf1dde9233b8eaaa3e"},
		{string(rising(65)), "1b53ee94aaf34e4b159d48de352c7f0661d0a40edff95a0b1639b4090e974472"},
		{string(rising(127)), "f18417b39d617ab1c18fdf91ebd0fc6d5516bb34cf39364037bce81fa04cecb1"},
		{string(rising(128)), "1fa877de67259d19863a2a34bcc6962a2b25fcbf5cbecd7ede8f1fa36688a796"},
		{string(rising(129)), "5bd169e67c82c2c2e98ef7008bdf261f2ddf30b1c00f9e7f275bb3e8a28dc9a2"},
		{strings.Repeat("\x00", 64), "ae09db7cd54f42b490ef09b6bc541af688e4959bb8c53f359a6f56e38ab454a3"},
		{strings.Repeat("\xff", 128), "20dfe3ad1ecfd9d3e9e9f0762349556b1f4e79701719cfb4933e42fdc6542df0"},
		{strings.Repeat("\x00", api.MaxChunk), "0b5476eaf024eab298e923d89b207f04f3c57f4a1ede5a368adad04aba82b1dd"},
		{strings.Repeat("\x00", api.MaxCont+1), "ecc115f8c199adcfb69057a2110e6873b210a4f48eb5ca1d4ea06e1572cbb018"},
		{strings.Repeat("a", 1000000), "bec0c0e6cde5b67acb73b81f79a67a4079ae1c60dac9d2661af18e9f8b50dfa5"},
	} {
		if got := text(digest.Sum([]byte(x.b))); got != x.want {
			t.Errorf("%d bytes %.9q: got %s, want %s", len(x.b), x.b, got, x.want)
		}
	}
}

// The published fingerprints of the first 256 rising byte strings, told by the
// fingerprint of all of them.
func TestSumsOfRisingBytes(t *testing.T) {
	var all []byte
	for size := range 256 {
		d := digest.Sum(rising(size))
		all = append(all, d[:]...)
	}
	if got := text(digest.Sum(all)); got != "6d86d20a9d486cc270bc10f4523a3e811f7f88636204b0a9a76277823b30b672" {
		t.Errorf("got %s", got)
	}
}

func TestSumIsMadeAsTheChapterTells(t *testing.T) {
	s := source(1)
	for size := range 400 {
		for _, b := range [][]byte{s.bytes(size), make([]byte, size), bytes.Repeat([]byte{255}, size)} {
			if got, want := digest.Sum(b), slow(b); got != want {
				t.Fatalf("%d bytes %.9x: got %s, want %s", size, b, text(got), text(want))
			}
		}
	}
	for _, size := range []int{api.MaxChunk - 1, api.MaxChunk, api.MaxChunk + 1, api.MaxCont, 1<<17 + 5} {
		if b := s.bytes(size); digest.Sum(b) != slow(b) {
			t.Errorf("%d bytes: got %s, want %s", size, text(digest.Sum(b)), text(slow(b)))
		}
	}
}

// What a block is padded with tells nothing of what was there.
func TestBytesZeroAreNoPadding(t *testing.T) {
	for _, begin := range []string{"", "abc"} {
		seen := map[api.Sum]int{}
		for size := range 300 {
			d := digest.Sum([]byte(begin), make([]byte, size))
			if other, ok := seen[d]; ok {
				t.Errorf("%q with %d and with %d bytes 0: both %s", begin, other, size, text(d))
			}
			seen[d] = size
		}
	}
}

func TestEachBitCounts(t *testing.T) {
	s := source(2)
	for _, size := range []int{1, 63, 64, 65, 128, 130} {
		b := s.bytes(size)
		seen := map[api.Sum]int{digest.Sum(b): -1}
		for bit := range 8 * size {
			b[bit/8] ^= 1 << (bit % 8)
			d := digest.Sum(b)
			if other, ok := seen[d]; ok {
				t.Errorf("%d bytes: the bits %d and %d make no difference", size, other, bit)
			}
			seen[d] = bit
			b[bit/8] ^= 1 << (bit % 8)
		}
	}
}

func TestPartsOfNothing(t *testing.T) {
	for i, got := range []api.Sum{
		digest.Sum(), digest.Sum(nil), digest.Sum([]byte{}), digest.Sum(nil, nil, []byte{}),
		digest.Sum([][]byte(nil)...), digest.Sum([][]byte{}...), digest.Sum([]byte("abc")[:0]),
	} {
		if text(got) != noBytes {
			t.Errorf("%d: got %s", i, text(got))
		}
	}
	abc := digest.Sum([]byte("abc"))
	if digest.Sum(nil, []byte("a"), []byte{}, []byte("bc"), nil) != abc {
		t.Error("parts of nothing among others make a difference")
	}
	if digest.Sum([]byte("bc"), []byte("a")) == abc {
		t.Error("the order of the parts makes no difference")
	}
}

func TestTheSameBytesHaveTheSameSum(t *testing.T) {
	s := source(3)
	for _, size := range edges() {
		b := s.bytes(size)
		first := digest.Sum(b)
		digest.Sum([]byte("others"), make([]byte, 70))
		written([]byte("others"), make([]byte, 70))
		if digest.Sum(bytes.Clone(b)) != first {
			t.Errorf("%d bytes: another sum", size)
		}
	}
}

// P3.2

func TestANewStateHasNoBytes(t *testing.T) {
	for _, s := range []*digest.State{digest.New(), {}} {
		if s == nil || s.Len() != 0 || text(s.Sum()) != noBytes {
			t.Fatal("a new state")
		}
		s.Write(nil)
		s.Write([]byte{})
		if s.Len() != 0 || text(s.Sum()) != noBytes {
			t.Error("a new state to which nothing was written")
		}
		s.Write([]byte("abc"))
		if s.Len() != 3 || s.Sum() != digest.Sum([]byte("abc")) {
			t.Error("a new state to which abc was written")
		}
	}
}

func TestWriteAppendsAndSumLeavesTheState(t *testing.T) {
	random := source(4)
	for _, step := range []int{1, 3, 32, 63, 64, 65, 128, 200} {
		b := random.bytes(5*step + 130)
		s := digest.New()
		at := 0
		for at+step <= len(b) {
			s.Write(b[at : at+step])
			at += step
			want := slow(b[:at])
			for range 3 {
				if s.Sum() != want || s.Len() != uint64(at) {
					t.Fatalf("%d bytes in steps of %d: %s, %d bytes", at, step, text(s.Sum()), s.Len())
				}
			}
		}
	}
}

// A sum that is asked for between two writes makes no difference to the next.
func TestSumBetweenWrites(t *testing.T) {
	b := rising(200)
	whole := digest.Sum(b)
	for _, i := range edges() {
		for _, j := range edges() {
			if i > j || j > len(b) {
				continue
			}
			s := digest.New()
			s.Sum()
			s.Write(b[:i])
			s.Sum()
			s.Write(b[i:j])
			s.Sum()
			s.Write(b[j:])
			if s.Sum() != whole || s.Len() != 200 {
				t.Errorf("parted after %d and %d: %s", i, j, text(s.Sum()))
			}
		}
	}
}

func TestLenCountsAllBytes(t *testing.T) {
	s := digest.New()
	want := uint64(0)
	for _, size := range append(edges(), 1<<20, 0, 7) {
		s.Write(make([]byte, size))
		want += uint64(size)
		if s.Len() != want {
			t.Fatalf("got %d, want %d", s.Len(), want)
		}
		s.Sum()
		if s.Len() != want {
			t.Fatalf("behind a sum: got %d, want %d", s.Len(), want)
		}
	}
}

func TestANilState(t *testing.T) {
	var s *digest.State
	for _, b := range [][]byte{nil, {}, []byte("abc"), make([]byte, 64), make([]byte, 1000)} {
		s.Write(b)
		if text(s.Sum()) != noBytes || s.Len() != 0 {
			t.Errorf("after %d bytes: %s, %d", len(b), text(s.Sum()), s.Len())
		}
	}
}

// P3.3

func TestFrontIsTheFirstEightBytes(t *testing.T) {
	for _, x := range []struct {
		front string
		want  uint64
	}{
		{"\x00\x00\x00\x00\x00\x00\x01\x02", 258},
		{"\x00\x00\x00\x00\x00\x00\x00\x00", 0},
		{"\x01\x02\x03\x04\x05\x06\x07\x08", 0x0102030405060708},
		{"\x80\x00\x00\x00\x00\x00\x00\x00", 1 << 63},
		{"\x00\x00\x00\x00\x00\x00\x00\x01", 1},
		{"\xff\xff\xff\xff\xff\xff\xff\xff", math.MaxUint64},
	} {
		for _, behind := range []byte{0, 1, 128, 255} {
			var d api.Sum
			for i := range d {
				d[i] = behind
			}
			copy(d[:], x.front)
			if got := digest.Front(d); got != x.want {
				t.Errorf("%x, then %d: got %x, want %x", x.front, behind, got, x.want)
			}
		}
	}
	for i := range 32 {
		var d api.Sum
		d[i] = 1
		want := uint64(0)
		if i < 8 {
			want = 1 << (8 * (7 - i))
		}
		if got := digest.Front(d); got != want {
			t.Errorf("byte %d: got %x, want %x", i, got, want)
		}
	}
	if got := digest.Front(digest.Sum()); got != 0x69217a3079908094 {
		t.Errorf("of no bytes: %x", got)
	}
}

// P3.4

func TestTwoParts(t *testing.T) {
	random := source(5)
	for _, size := range edges() {
		b := random.bytes(size)
		whole := slow(b)
		for i := range size + 1 {
			if digest.Sum(b[:i], b[i:]) != whole {
				t.Errorf("%d bytes in parts of %d and the rest", size, i)
			}
			if written(b[:i], b[i:]) != whole {
				t.Errorf("%d bytes in writes of %d and the rest", size, i)
			}
		}
	}
}

func TestManyParts(t *testing.T) {
	random := source(6)
	for range 400 {
		b := random.bytes(int(random.next() % 700))
		whole := digest.Sum(b)
		most := random.next()%150 + 2 // some parts are empty, but not all
		var parts [][]byte
		for left := b; len(left) > 0; {
			many := min(int(random.next()%most), len(left))
			parts = append(parts, left[:many])
			left = left[many:]
		}
		if digest.Sum(parts...) != whole || written(parts...) != whole {
			t.Fatalf("%d bytes in %d parts: %s", len(b), len(parts), text(digest.Sum(parts...)))
		}
	}
}

// P3.5

func TestStatesAreIndependent(t *testing.T) {
	random := source(7)
	const many = 9
	var states [many]*digest.State
	var wrote [many][]byte
	for i := range states {
		states[i] = digest.New()
	}
	for range 300 {
		i := random.next() % many
		b := random.bytes(int(random.next() % 100))
		states[i].Write(b)
		wrote[i] = append(wrote[i], b...)
		for j, s := range states {
			if s.Len() != uint64(len(wrote[j])) || s.Sum() != digest.Sum(wrote[j]) {
				t.Fatalf("after a write to state %d, state %d has other bytes", i, j)
			}
		}
		if fresh := digest.New(); fresh.Len() != 0 || text(fresh.Sum()) != noBytes {
			t.Fatal("a new state has bytes")
		}
	}
}

func TestACopiedStateIsAnother(t *testing.T) {
	for _, size := range edges() {
		b := rising(size)
		s := digest.New()
		s.Write(b)
		other := *s
		s.Write(make([]byte, 70))
		if other.Sum() != digest.Sum(b) || other.Len() != uint64(size) {
			t.Errorf("%d bytes: a write to the state changed its copy", size)
		}
		other.Write([]byte("behind"))
		if s.Sum() != digest.Sum(b, make([]byte, 70)) || other.Sum() != digest.Sum(b, []byte("behind")) {
			t.Errorf("%d bytes: a write to the copy changed the state", size)
		}
	}
}

func TestStatesAtTheSameTime(t *testing.T) {
	var wait sync.WaitGroup
	var got, want [8]api.Sum
	for i := range got {
		b := bytes.Repeat([]byte{byte(i)}, 5000+i)
		want[i] = slow(b)
		wait.Go(func() {
			s := digest.New()
			for _, c := range b {
				s.Write([]byte{c})
			}
			got[i] = s.Sum()
		})
	}
	wait.Wait()
	if got != want {
		t.Error("states that are written at the same time have others' bytes")
	}
}

// Rules 4 and 5

func TestArgumentsAreLeftAlone(t *testing.T) {
	for _, size := range edges() {
		memory := rising(size + 100)
		parts := [][]byte{memory[:size], nil, memory[size/2 : size], []byte("kept")}
		digest.Sum(parts[:3]...)
		s := digest.New()
		s.Write(memory[:size])
		s.Sum()
		s.Write(memory[:size/2])
		s.Sum()
		if !bytes.Equal(memory, rising(size+100)) {
			t.Errorf("%d bytes: the memory became %x", size, memory)
		}
		if len(parts[0]) != size || parts[1] != nil || len(parts[2]) != size-size/2 || string(parts[3]) != "kept" {
			t.Errorf("%d bytes: the list of parts was changed", size)
		}
	}
}

func TestWhatLiesBehindIsNotRead(t *testing.T) {
	for _, size := range edges() {
		one, other := append(rising(size), 1, 2, 3), append(rising(size), 7, 8, 9)
		if digest.Sum(one[:size]) != digest.Sum(other[:size]) || written(one[:size]) != written(other[:size]) {
			t.Errorf("%d bytes: what lies behind them makes a difference", size)
		}
	}
}

func TestWhatWasWrittenIsNotRetained(t *testing.T) {
	for _, size := range edges() {
		b := rising(size)
		s := digest.New()
		s.Write(b)
		for i := range b {
			b[i] ^= 255
		}
		if s.Sum() != digest.Sum(rising(size)) {
			t.Errorf("%d bytes: a state has its bytes in its caller's memory", size)
		}
	}
}
