package chunk_test

import (
	"bytes"
	"math"
	"slices"
	"testing"

	"cellarage/api"
	"cellarage/chunk"
	"cellarage/roll"
)

const (
	lowest, greatest = math.MinInt, math.MaxInt

	never = math.MaxUint32 // a divisor that the hashes here hardly ever meet
)

// source makes the same numbers for the same seed.
type source uint64

func (s *source) next() uint64 {
	*s = *s*6364136223846793005 + 1442695040888963407
	return uint64(*s >> 16)
}

func (s *source) bytes(size int) []byte {
	b := make([]byte, size)
	for i := range b {
		b[i] = byte(s.next())
	}
	return b
}

func rising(size int) []byte {
	b := make([]byte, size)
	for i := range b {
		b[i] = byte(i)
	}
	return b
}

// high makes bytes whose prefixes from Window on have hashes of their own, all
// above 2^31, so that a divisor can be met at one length alone. A byte hardly
// changes the hash that it ends, but the next one: so each is chosen by what
// the hash behind it will be.
func high(size int) []byte {
	s := source(77)
	b := s.bytes(api.Window - 1)
	seen := map[uint32]bool{}
	for len(b) < size {
		longer := append(bytes.Clone(b), byte(s.next()))
		sum, next := roll.Of(longer), roll.Of(append(bytes.Clone(longer), 0))
		if len(longer) == api.Window && sum < 1<<31 {
			b = s.bytes(api.Window - 1)
		} else if !seen[sum] && sum < never && next >= 1<<31 && next < never-256 {
			b = longer
			seen[sum] = true
		}
	}
	return b
}

// meeting is the divisor that high bytes meet at that length alone.
func meeting(b []byte, size int) uint32 { return roll.Of(b[:size]) + 1 }

// cutters are valid ones, of all kinds of ends.
func cutters() []api.Cutter {
	return []api.Cutter{
		{Min: 16, Max: 16, Main: never, Back: never},
		{Min: 16, Max: 20, Main: 1, Back: 1},
		{Min: 16, Max: 20, Main: never, Back: never},
		{Min: 16, Max: 64, Main: never, Back: 1},
		{Min: 16, Max: 64, Main: 32, Back: 8},
		{Min: 17, Max: 80, Main: 1000, Back: 3},
		{Min: 32, Max: 200, Main: 64, Back: 16},
		{Min: 64, Max: 64, Main: 7, Back: 7},
		{Min: 100, Max: 300, Main: 5000, Back: 100},
		{Min: 16, Max: 4096, Main: 300, Back: 30},
		{Min: 2048, Max: 4096, Main: 3000, Back: 700},
		{Min: 4096, Max: 4096, Main: 1, Back: 1},
	}
}

// wrong are cutters that are not valid.
func wrong() []api.Cutter {
	return []api.Cutter{
		{},
		{Min: 15, Max: 20, Main: 1, Back: 1},
		{Min: 0, Max: 20, Main: 1, Back: 1},
		{Min: -16, Max: 20, Main: 1, Back: 1},
		{Min: lowest, Max: greatest, Main: 1, Back: 1},
		{Min: 17, Max: 16, Main: 1, Back: 1},
		{Min: 16, Max: 15, Main: 1, Back: 1},
		{Min: 16, Max: 0, Main: 1, Back: 1},
		{Min: 16, Max: -1, Main: 1, Back: 1},
		{Min: 16, Max: lowest, Main: 1, Back: 1},
		{Min: greatest, Max: lowest, Main: 1, Back: 1},
		{Min: 4096, Max: 4095, Main: 1, Back: 1},
		{Min: 16, Max: 4097, Main: 1, Back: 1},
		{Min: 4097, Max: 4097, Main: 1, Back: 1},
		{Min: 16, Max: greatest, Main: 1, Back: 1},
		{Min: greatest, Max: greatest, Main: 1, Back: 1},
		{Min: 16, Max: 20, Main: 0, Back: 1},
		{Min: 16, Max: 20, Main: 1, Back: 0},
		{Min: 16, Max: 20},
	}
}

// inputs are byte strings of all small sizes, and a few long ones.
func inputs() [][]byte {
	s := source(1)
	l := [][]byte{nil, {}, rising(256), s.bytes(5000), make([]byte, 9000), s.bytes(20000)}
	for size := 1; size < 90; size++ {
		l = append(l, s.bytes(size))
	}
	return append(l, make([]byte, 40), bytes.Repeat(rising(50), 30), bytes.Repeat([]byte{255}, 333))
}

// slowCut considers the lengths one by one, as the chapter tells it.
func slowCut(c api.Cutter, b []byte) int {
	candidate := 0
	for size := c.Min; size <= c.Max && size <= len(b); size++ {
		hash := uint64(roll.Of(b[:size]))
		if hash%uint64(c.Main) == uint64(c.Main)-1 {
			return size
		}
		if hash%uint64(c.Back) == uint64(c.Back)-1 {
			candidate = size
		}
	}
	if len(b) < c.Max {
		return 0
	}
	if candidate > 0 {
		return candidate
	}
	return c.Max
}

// slowAll is the chunks of b, as the chapter tells it.
func slowAll(c api.Cutter, b []byte) [][]byte {
	var l [][]byte
	for len(b) > 0 {
		size := slowCut(c, b)
		if size == 0 {
			size = len(b)
		}
		l = append(l, b[:size])
		b = b[size:]
	}
	return l
}

func same(a, b [][]byte) bool { return slices.EqualFunc(a, b, bytes.Equal) }

func sizes(l [][]byte) []int {
	var n []int
	for _, b := range l {
		n = append(n, len(b))
	}
	return n
}

func cloned(l [][]byte) [][]byte {
	var m [][]byte
	for _, b := range l {
		m = append(m, bytes.Clone(b))
	}
	return m
}

// overwrite changes all memory of b, also that behind its length.
func overwrite(b []byte) {
	b = b[:cap(b)]
	for i := range b {
		b[i] ^= 255
	}
}

// P5.1

func TestRight(t *testing.T) {
	for _, c := range cutters() {
		if !chunk.Right(c) {
			t.Errorf("%v is valid", c)
		}
	}
	for _, c := range wrong() {
		if chunk.Right(c) {
			t.Errorf("%v is not valid", c)
		}
	}
}

// P5.2

// Main and Back are each met at one length, or at none that counts.
func TestCutWhereDivisorsAreMet(t *testing.T) {
	b := high(66)
	for _, x := range [][2]int{{16, 16}, {16, 17}, {16, 40}, {16, 64}, {17, 18}, {39, 40}, {40, 40}, {40, 64}, {63, 64}} {
		for main := api.Window; main <= len(b); main++ {
			for back := api.Window; back <= len(b); back++ {
				c := api.Cutter{Min: x[0], Max: x[1], Main: meeting(b, main), Back: meeting(b, back)}
				for _, size := range []int{0, 15, 16, c.Min - 1, c.Min, main - 1, main, main + 1, back, c.Max - 1, c.Max, c.Max + 1, len(b)} {
					size = min(size, len(b))
					want := c.Max
					if c.Min <= main && main <= min(c.Max, size) {
						want = main
					} else if size < c.Max {
						want = 0
					} else if c.Min <= back && back <= c.Max {
						want = back
					}
					if got := chunk.Cut(c, b[:size]); got != want {
						t.Fatalf("from %d to %d, Main met at %d, Back at %d, %d bytes: got %d, want %d", c.Min, c.Max, main, back, size, got, want)
					}
				}
			}
		}
	}
}

func TestALaterCandidateReplacesAnEarlierOne(t *testing.T) {
	b := high(32)
	b = append(b, b...) // the hash at 48 is that at 16, and so on
	for back := 16; back <= 31; back++ {
		for end := 16; end <= 64; end++ {
			c := api.Cutter{Min: 16, Max: end, Main: never, Back: meeting(b, back)}
			want := end
			if back <= end {
				want = back
			}
			if back+32 <= end {
				want = back + 32
			}
			if got := chunk.Cut(c, b); got != want {
				t.Errorf("candidates %d and %d, to %d: got %d, want %d", back, back+32, end, got, want)
			}
		}
	}
}

// These have the greatest hashes, and the least ones.
func TestCutByTheGreatestHashes(t *testing.T) {
	for _, x := range []struct {
		b    string
		hash uint32
	}{
		{"\xee\x62\xb4\xed\xc3\x3c\x92\x85\x59\x5c\x9f\x49\xcd\xb5\x90\xf1", math.MaxUint32},
		{"\x2d\x70\xaf\x5c\xc7\x6b\xd8\x2c\xd2\x89\xc9\x27\x0e\x17\x48\xc8", math.MaxUint32 - 1},
		{"\x98\x51\xc7\xff\x1e\xb2\x91\x59\x2a\x7f\x27\xb9\xf8\x35\xb9\x30", 0},
		{"\xbb\x1b\xe4\xb6\x98\xe8\xfe\x29\xe2\xe8\xaa\xa5\x16\xee\xe8\xb7", 1},
	} {
		if roll.Of([]byte(x.b)) != x.hash {
			t.Fatalf("%x: the hash is %08X", x.b, roll.Of([]byte(x.b)))
		}
		for _, n := range []uint32{1, 2, 3, 5, 7, 1 << 16, 1<<31 - 1, 1 << 31, 1<<31 + 1, math.MaxUint32 - 1, math.MaxUint32} {
			ends := uint64(x.hash)%uint64(n) == uint64(n)-1
			if got := chunk.Cut(api.Cutter{Min: 16, Max: 17, Main: n, Back: never - 1}, []byte(x.b)); (got == 16) != ends {
				t.Errorf("hash %08X, Main %d: got %d", x.hash, n, got)
			}
			behind := []byte(x.b + "\x00")
			want := 17
			if ends && roll.Of(behind)%n != n-1 {
				want = 16
			}
			if got := chunk.Cut(api.Cutter{Min: 16, Max: 17, Main: never - 2, Back: n}, behind); got != want {
				t.Errorf("hash %08X, Back %d: got %d, want %d", x.hash, n, got, want)
			}
		}
	}
}

func TestCutConsidersLengthAfterLength(t *testing.T) {
	for _, c := range cutters() {
		for _, b := range inputs() {
			if got, want := chunk.Cut(c, b), slowCut(c, b); got != want {
				t.Errorf("%v, %d bytes %.17x: got %d, want %d", c, len(b), b, got, want)
			}
		}
		b := inputs()[3]
		for size := range b {
			if c.Max-c.Min > 1000 && size%97 != 0 && size != c.Min && size != c.Max {
				continue // enough of those that take long
			}
			if got, want := chunk.Cut(c, b[:size]), slowCut(c, b[:size]); got != want {
				t.Errorf("%v, the first %d bytes: got %d, want %d", c, size, got, want)
			}
		}
	}
}

func TestCutterThatIsNotValidCutsNothing(t *testing.T) {
	s := source(2)
	for _, c := range wrong() {
		for _, b := range [][]byte{nil, {}, s.bytes(15), s.bytes(16), s.bytes(50), s.bytes(9000)} {
			if n := chunk.Cut(c, b); n != 0 {
				t.Errorf("%v, %d bytes: cut at %d", c, len(b), n)
			}
			if l := chunk.All(c, b); len(l) != 0 {
				t.Errorf("%v, %d bytes: %d chunks", c, len(b), len(l))
			}
		}
	}
}

// P5.3

func TestAllOfKnownBytes(t *testing.T) {
	s := source(1)
	random := s.bytes(600)
	for _, x := range []struct {
		c    api.Cutter
		b    []byte
		want []int
	}{
		{api.Cutter{Min: 16, Max: 20, Main: 1, Back: 1}, make([]byte, 40), []int{16, 16, 8}},
		{api.Cutter{Min: 16, Max: 20, Main: never, Back: never}, make([]byte, 40), []int{20, 20}},
		{api.Cutter{Min: 16, Max: 20, Main: never, Back: never}, make([]byte, 41), []int{20, 20, 1}},
		{api.Cutter{Min: 16, Max: 20, Main: 1, Back: 1}, nil, nil},
		{api.Cutter{Min: 16, Max: 20, Main: 1, Back: 1}, []byte{5}, []int{1}},
		{api.Cutter{Min: 16, Max: 20, Main: 1, Back: 1}, make([]byte, 16), []int{16}},
		{api.Cutter{Min: 16, Max: 20, Main: 1, Back: 1}, make([]byte, 32), []int{16, 16}},
		{api.Cutter{Min: 16, Max: 20, Main: never, Back: 1}, make([]byte, 39), []int{20, 19}},
		{api.Cutter{Min: 16, Max: 40, Main: 16, Back: 4}, rising(256), []int{40, 40, 40, 40, 40, 40, 16}},
		{api.Cutter{Min: 16, Max: 256, Main: 100, Back: 7}, rising(256), []int{255, 1}},
		{api.Cutter{Min: 20, Max: 100, Main: never, Back: 10}, rising(256), []int{100, 100, 56}},
		{api.Cutter{Min: 16, Max: 64, Main: 32, Back: 8}, random, []int{42, 60, 22, 27, 49, 48, 44, 53, 31, 41, 51, 61, 21, 50}},
		{api.Cutter{Min: 32, Max: 100, Main: 64, Back: 16}, random, []int{42, 60, 98, 92, 53, 72, 100, 83}},
		{api.Cutter{Min: 16, Max: 200, Main: 1000, Back: 32}, random, []int{185, 191, 188, 36}},
		{api.Cutter{Min: 20, Max: 64, Main: never, Back: 2}, random, []int{61, 63, 64, 64, 64, 63, 63, 62, 64, 32}},
		{api.Cutter{Min: 16, Max: 600, Main: 50, Back: 3}, random, []int{66, 58, 49, 74, 32, 51, 21, 50, 35, 24, 17, 52, 51, 16, 4}},
		{api.Cutter{Min: 16, Max: 4096, Main: 300, Back: 3}, random, []int{279, 198, 123}},
	} {
		l := chunk.All(x.c, x.b)
		if !slices.Equal(sizes(l), x.want) || !bytes.Equal(bytes.Join(l, nil), x.b) {
			t.Errorf("%v, %d bytes: got %v, want %v", x.c, len(x.b), sizes(l), x.want)
		}
	}
}

func TestAllCutsWhatIsLeft(t *testing.T) {
	for _, c := range cutters() {
		for _, b := range inputs() {
			if got, want := chunk.All(c, b), slowAll(c, b); !same(got, want) {
				t.Errorf("%v, %d bytes %.17x: got %v, want %v", c, len(b), b, sizes(got), sizes(want))
			}
		}
	}
}

// P5.4

// slowStream is a stream as the chapter tells it.
type slowStream struct {
	c    api.Cutter
	held []byte
}

func (s *slowStream) write(b []byte) [][]byte {
	s.held = append(s.held, b...)
	var l [][]byte
	for slowCut(s.c, s.held) != 0 {
		size := slowCut(s.c, s.held)
		l = append(l, s.held[:size])
		s.held = s.held[size:]
	}
	return l
}

// parts divides b into parts of at most most bytes, some of them empty.
func parts(s *source, b []byte, most int) [][]byte {
	var l [][]byte
	for len(b) > 0 {
		size := min(int(s.next()%uint64(most+1)), len(b))
		l = append(l, b[:size])
		b = b[size:]
	}
	return append(l, nil)
}

func TestAStreamGivesChunksAsTheyAreComplete(t *testing.T) {
	s := source(3)
	for _, c := range cutters() {
		got, want := chunk.New(c), &slowStream{c: c}
		if got == nil {
			t.Fatalf("%v: no stream", c)
		}
		for _, most := range []int{50, 4096, 700, 9000} { // after Close, the stream is as a new one
			if got.Held() != 0 {
				t.Fatalf("%v: %d bytes are held ahead of all", c, got.Held())
			}
			for _, b := range parts(&s, s.bytes(3*c.Max+7), most) {
				l, m := got.Write(b), want.write(b)
				if !same(l, m) || got.Held() != len(want.held) {
					t.Fatalf("%v, %d bytes: got %v and holds %d, want %v and %d", c, len(b), sizes(l), got.Held(), sizes(m), len(want.held))
				}
			}
			var last [][]byte
			if len(want.held) > 0 {
				last = [][]byte{want.held}
			}
			if l := got.Close(); !same(l, last) || got.Held() != 0 {
				t.Fatalf("%v: the end is %v, want %v", c, sizes(l), sizes(last))
			}
			want.held = nil
		}
	}
}

func TestAStreamOfKnownBytes(t *testing.T) {
	s := chunk.New(api.Cutter{Min: 16, Max: 20, Main: never, Back: never})
	b := rising(60)
	for _, x := range []struct {
		from, to, held int
		want           []int
	}{{0, 0, 0, nil}, {0, 16, 16, nil}, {16, 19, 19, nil}, {19, 20, 0, []int{20}}, {20, 20, 0, nil}, {20, 59, 19, []int{20}}} {
		if l := s.Write(b[x.from:x.to]); !slices.Equal(sizes(l), x.want) || s.Held() != x.held {
			t.Errorf("from %d to %d: got %v, %d are held", x.from, x.to, sizes(l), s.Held())
		}
	}
	if l := s.Close(); !same(l, [][]byte{b[40:59]}) || s.Held() != 0 {
		t.Errorf("the end: %x, %d are held", l, s.Held())
	}
	if l := s.Close(); len(l) != 0 || s.Held() != 0 {
		t.Errorf("the end again: %x", l)
	}
	if l := s.Write(b[:41]); !same(l, [][]byte{b[:20], b[20:40]}) || s.Held() != 1 {
		t.Errorf("from the beginning: %v, %d are held", sizes(l), s.Held())
	}
	if l := s.Close(); !same(l, [][]byte{b[40:41]}) {
		t.Errorf("the end of these: %x", l)
	}
}

// A cut of Main comes at once, one of Back not before Max bytes are there.
func TestAStreamWaitsNoLongerThanItMust(t *testing.T) {
	b := high(50)
	main := chunk.New(api.Cutter{Min: 20, Max: 40, Main: meeting(b, 25), Back: 1})
	back := chunk.New(api.Cutter{Min: 20, Max: 40, Main: never, Back: meeting(b, 25)})
	for i := range 40 {
		l, m := main.Write(b[i:i+1]), back.Write(b[i:i+1])
		if (len(l) == 1) != (i == 24) || (len(m) == 1) != (i == 39) {
			t.Errorf("byte %d: %v and %v", i, sizes(l), sizes(m))
		}
	}
	if main.Held() != 15 || back.Held() != 15 {
		t.Errorf("%d and %d are held", main.Held(), back.Held())
	}
}

func TestStreamsThatAreNone(t *testing.T) {
	for _, c := range wrong() {
		s := chunk.New(c)
		if s != nil {
			t.Errorf("%v: a stream", c)
		}
		for _, b := range [][]byte{nil, {}, rising(15), rising(9000)} {
			if l := s.Write(b); len(l) != 0 || s.Held() != 0 {
				t.Errorf("%d bytes: %v, %d are held", len(b), sizes(l), s.Held())
			}
		}
		if l := s.Close(); len(l) != 0 || s.Held() != 0 {
			t.Errorf("the end: %v", sizes(l))
		}
	}
}

// A stream that New did not make has no cutter, so no chunk of it is complete.
func TestAZeroStreamHoldsAll(t *testing.T) {
	var s chunk.Stream
	b := rising(9000)
	if len(s.Close()) != 0 || len(s.Write(b[:5000])) != 0 || len(s.Write(b[5000:])) != 0 || s.Held() != 9000 {
		t.Errorf("%d are held", s.Held())
	}
	if l := s.Close(); !same(l, [][]byte{b}) || s.Held() != 0 {
		t.Errorf("the end: %v", sizes(l))
	}
}

// P5.5

// streamed is the chunks of the parts, written one after the other.
func streamed(c api.Cutter, parts [][]byte) [][]byte {
	s := chunk.New(c)
	var l [][]byte
	for _, b := range parts {
		l = append(l, s.Write(b)...)
	}
	return append(l, s.Close()...)
}

func TestAStreamsChunksAreAllHoweverItIsDivided(t *testing.T) {
	s := source(4)
	for _, c := range cutters() {
		for _, b := range inputs() {
			want := chunk.All(c, b)
			for _, most := range []int{40, 1000, 30000} {
				l := parts(&s, b, most)
				if got := streamed(c, l); !same(got, want) {
					t.Fatalf("%v, %d bytes in %v: got %v, want %v", c, len(b), sizes(l), sizes(got), sizes(want))
				}
			}
		}
	}
}

func TestAStreamTakesByteAfterByte(t *testing.T) {
	for _, c := range cutters() {
		for _, b := range [][]byte{inputs()[3][:4200], rising(256), make([]byte, 100)} {
			var l [][]byte
			for i := range b {
				l = append(l, b[i:i+1])
			}
			if got, want := streamed(c, l), chunk.All(c, b); !same(got, want) {
				t.Errorf("%v, %d bytes: got %v, want %v", c, len(b), sizes(got), sizes(want))
			}
		}
	}
}

func TestAStreamIsDividedAnywhere(t *testing.T) {
	b := inputs()[3][:300]
	for _, c := range cutters()[:8] {
		want := chunk.All(c, b)
		for i := range len(b) + 1 {
			if got := streamed(c, [][]byte{b[:i], b[i:]}); !same(got, want) {
				t.Errorf("%v, divided after %d: got %v, want %v", c, i, sizes(got), sizes(want))
			}
		}
	}
}

func TestStreamsDoNotDisturbEachOther(t *testing.T) {
	c := api.Cutter{Min: 16, Max: 64, Main: 32, Back: 8}
	s := source(5)
	var b [3][]byte
	var l [3][][]byte
	var streams [3]*chunk.Stream
	for i := range streams {
		b[i], streams[i] = s.bytes(2000), chunk.New(c)
	}
	for from := 0; from < 2000; from += 25 {
		for i, stream := range streams {
			l[i] = append(l[i], stream.Write(b[i][from:from+25])...)
		}
	}
	for i, stream := range streams {
		l[i] = append(l[i], stream.Close()...)
		if !same(l[i], chunk.All(c, b[i])) {
			t.Errorf("stream %d: %v", i, sizes(l[i]))
		}
	}
}

// P5.6

func TestChunksAreTheStream(t *testing.T) {
	s := source(6)
	for _, c := range cutters() {
		for _, b := range inputs() {
			for _, l := range [][][]byte{chunk.All(c, b), streamed(c, parts(&s, b, 3000))} {
				if !bytes.Equal(bytes.Join(l, nil), b) {
					t.Errorf("%v: %d bytes became others", c, len(b))
				}
				for i, x := range l {
					last := i == len(l)-1
					if len(x) > c.Max || last && len(x) < 1 || !last && len(x) < c.Min {
						t.Errorf("%v, %d bytes: chunk %d of %d has %d", c, len(b), i, len(l), len(x))
					}
				}
			}
		}
	}
}

// P5.7

func TestBehindAChunkAllIsAsAtTheBeginning(t *testing.T) {
	for _, c := range cutters() {
		for _, b := range inputs() {
			l := chunk.All(c, b)
			from := 0
			for i, x := range l {
				if rest := chunk.All(c, b[from:]); !same(rest, l[i:]) {
					t.Fatalf("%v, %d bytes from %d on: got %v, want %v", c, len(b), from, sizes(rest), sizes(l[i:]))
				}
				if i > 20 {
					break
				}
				from += len(x)
			}
		}
	}
}

// A chunk that Back ends hangs on the bytes behind it too, up to Max; one that
// Main ends, or that has Max bytes, does not.
func TestTheSameBytesBehindAChunkHaveTheSameChunks(t *testing.T) {
	s := source(7)
	for _, c := range append(cutters(), withoutBack()...) {
		tail := s.bytes(5 * c.Max)
		want := chunk.All(c, tail)
		for tried := 0; tried < 5; {
			head := s.bytes(c.Max)
			head = head[:chunk.Cut(c, head)]
			if chunk.Cut(c, head) == 0 {
				continue
			}
			tried++
			if got := chunk.All(c, append(bytes.Clone(head), tail...)); !same(got[1:], want) || len(got[0]) != len(head) {
				t.Errorf("%v: got %v behind %d, want %v", c, sizes(got), len(head), sizes(want))
			}
		}
	}
}

func withoutBack() []api.Cutter {
	l := cutters()
	for i := range l {
		l[i].Back = never
	}
	return l
}

// The rules for all calls

func TestArgumentsAreLeftAlone(t *testing.T) {
	s := source(8)
	for _, size := range []int{0, 1, 16, 40, 100} {
		memory := s.bytes(300)
		want := bytes.Clone(memory)
		c := api.Cutter{Min: 16, Max: 20, Main: 7, Back: 2}
		b := memory[:size]
		chunk.Cut(c, b)
		stream := chunk.New(c)
		results := append(chunk.All(c, b), stream.Write(b)...)
		results = append(results, stream.Write(b)...)
		results = append(results, stream.Close()...)
		for _, x := range results {
			overwrite(x)
		}
		if !bytes.Equal(memory, want) {
			t.Errorf("%d bytes: the memory became %x", size, memory)
		}
	}
}

func TestWhatLiesBehindIsNotRead(t *testing.T) {
	s := source(9)
	for _, c := range cutters() {
		for _, size := range []int{0, 15, 16, c.Min, c.Max - 1, c.Max, c.Max + 30} {
			one, other := s.bytes(2*c.Max+60), s.bytes(2*c.Max+60)
			copy(other, one[:size])
			a, b := one[:size], other[:size]
			if chunk.Cut(c, a) != chunk.Cut(c, b) || !same(chunk.All(c, a), chunk.All(c, b)) || !same(streamed(c, [][]byte{a}), streamed(c, [][]byte{b})) {
				t.Errorf("%v: the first %d bytes", c, size)
			}
		}
	}
}

// What is held stays as it was written, whatever becomes of the memory that it
// came from, and of the chunks that were given out.
func TestAStreamKeepsCopies(t *testing.T) {
	s := source(10)
	for _, c := range cutters() {
		b := s.bytes(4*c.Max + 9)
		stream := chunk.New(c)
		var got [][]byte
		take := func(l [][]byte) {
			got = append(got, cloned(l)...)
			for _, x := range l {
				overwrite(x)
			}
			clear(l[:cap(l)])
		}
		for from := 0; from < len(b); {
			part := bytes.Clone(b[from:min(len(b), from+int(s.next()%uint64(c.Max+50)))])
			from += len(part)
			l := stream.Write(part)
			overwrite(part)
			take(l)
		}
		take(stream.Close())
		if want := chunk.All(c, b); !same(got, want) {
			t.Errorf("%v: got %v, want %v", c, sizes(got), sizes(want))
		}
	}
}

func TestResultsAreNewMemory(t *testing.T) {
	s := source(11)
	for _, c := range cutters() {
		b := s.bytes(4*c.Max + 9)
		stream, kept := chunk.New(c), chunk.New(c)
		lists := [][][]byte{
			chunk.All(c, b), chunk.All(c, b),
			stream.Write(b), stream.Close(), stream.Write(b), stream.Close(), kept.Write(b), kept.Close(),
		}
		var all [][]byte
		for _, l := range lists {
			all = append(all, l...)
		}
		want := cloned(all)
		for i := range all {
			overwrite(all[i])
			for j := i + 1; j < len(all); j++ {
				if !bytes.Equal(all[j], want[j]) {
					t.Fatalf("%v: chunks %d and %d share memory", c, i, j)
				}
			}
		}
	}
}

func TestTheSameCallsHaveTheSameResults(t *testing.T) {
	for _, c := range cutters() {
		for _, b := range inputs() {
			size, all := chunk.Cut(c, b), chunk.All(c, b)
			chunk.All(cutters()[1], []byte("others that are long enough to be cut"))
			chunk.New(c).Write(inputs()[4])
			if chunk.Cut(c, bytes.Clone(b)) != size || !same(chunk.All(c, bytes.Clone(b)), all) {
				t.Errorf("%v, %d bytes: other results", c, len(b))
			}
		}
	}
}
