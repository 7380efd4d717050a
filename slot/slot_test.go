package slot_test

import (
	"bytes"
	"fmt"
	"math"
	"slices"
	"strings"
	"testing"

	"cellarage/api"
	"cellarage/slot"
)

// source makes the same numbers for the same seed.
type source uint64

func (s *source) next() uint64 {
	*s = *s*6364136223846793005 + 1442695040888963407
	return uint64(*s >> 16)
}

// below is a number from 0 to n - 1.
func (s *source) below(n int) int { return int(s.next() % uint64(n)) }

// number is any one of 64 bits, often one at the ends, and often one of few bits.
func (s *source) number() uint64 {
	if l := []uint64{0, 1, 255, 256, math.MaxUint32, math.MaxUint32 + 1, 1 << 63, math.MaxUint64 - 1, math.MaxUint64}; s.below(3) == 0 {
		return l[s.below(len(l))]
	}
	return (s.next()<<32 ^ s.next()) >> s.below(64)
}

// slot is any one whose Gen is not 0.
func (s *source) slot() api.Slot {
	return api.Slot{Gen: max(1, s.number()), Area: uint8(s.next()), Size: uint32(s.number()), Sum: uint32(s.number())}
}

func (s *source) bytes(size int) []byte {
	b := make([]byte, size)
	for i := range b {
		b[i] = byte(s.next())
	}
	return b
}

// slots are some whose Gen is not 0: with the fields at their ends, with bits of
// which each field has one, and any ones.
func slots() []api.Slot {
	l := []api.Slot{
		{Gen: 1},
		{Gen: 1, Area: 1, Size: 1, Sum: 1},
		{Gen: math.MaxUint64, Area: math.MaxUint8, Size: math.MaxUint32, Sum: math.MaxUint32},
		{Gen: math.MaxUint64},
		{Gen: 0x0102030405060708, Area: 9, Size: 0x0A0B0C0D, Sum: 0x0E0F1011},
		{Gen: 0xFFFEFDFCFBFAF9F8, Area: 0xF7, Size: 0xF6F5F4F3, Sum: 0xF2F1F0EF},
		{Gen: 256, Area: 128, Size: 1 << 31, Sum: 1 << 31},
	}
	for bit := range 64 {
		l = append(l, api.Slot{Gen: 1 << bit})
	}
	for bit := range 32 {
		l = append(l, api.Slot{Gen: 5, Size: 1 << bit}, api.Slot{Gen: 5, Sum: 1 << bit})
	}
	for area := range 256 {
		l = append(l, api.Slot{Gen: 7, Area: uint8(area)})
	}
	r := source(1)
	for range 300 {
		l = append(l, r.slot())
	}
	return l
}

// digits are the bytes of n, the most significant one first.
func digits(n uint64, many int) []byte {
	b := make([]byte, many)
	for i := many - 1; i >= 0; i-- {
		b[i] = byte(n % 256)
		n /= 256
	}
	return b
}

// slowLay is the sector of s, put together as the chapter tells it.
func slowLay(s api.Slot) []byte {
	return slices.Concat(digits(s.Gen, 8), digits(uint64(s.Area), 1), digits(uint64(s.Size), 4), digits(uint64(s.Sum), 4),
		make([]byte, 128-17-8), digits(s.Gen, 8))
}

// number is what digits gives the bytes of.
func number(b []byte) uint64 {
	n := uint64(0)
	for _, c := range b {
		n = n*256 + uint64(c)
	}
	return n
}

// slowTake reports which slot the bytes are, looking at them part by part.
func slowTake(b []byte) (api.Slot, bool) {
	if len(b) != 128 || !bytes.Equal(b[:8], b[120:]) || bytes.Count(b[17:120], []byte{0}) != 103 || number(b[:8]) == 0 {
		return api.Slot{}, false
	}
	return api.Slot{Gen: number(b[:8]), Area: b[8], Size: uint32(number(b[9:13])), Sum: uint32(number(b[13:17]))}, true
}

// checkTake compares Take of b with slowTake, and reports whether b is a slot.
func checkTake(t *testing.T, b []byte) bool {
	t.Helper()
	want, ok := slowTake(b)
	got, e := slot.Take(b)
	if got != want || (e == api.OK) != ok || !ok && e != api.ErrSlot {
		t.Fatalf("%x: got %v, error %d; want %v, %v", b, got, e, want, ok)
	}
	return ok
}

// overwrite changes all memory of b, also that behind its length.
func overwrite(b []byte) {
	b = b[:cap(b)]
	for i := range b {
		b[i] ^= 255
	}
}

// noSlots are bytes that are not a slot.
func noSlots() [][]byte {
	whole := slowLay(api.Slot{Gen: 3, Area: 1, Size: 9, Sum: 8})
	other := bytes.Clone(whole)
	other[127]++
	filled := bytes.Clone(whole)
	filled[50] = 1
	return [][]byte{
		nil, {}, {1}, make([]byte, 127), make([]byte, 128), make([]byte, 129), bytes.Repeat([]byte{255}, 128),
		whole[:127], whole[1:], append(bytes.Clone(whole), 0), append([]byte{0}, whole...), append(bytes.Clone(whole), whole...),
		other, filled, slowLay(api.Slot{Area: 1, Size: 2, Sum: 3}),
	}
}

// P10.1

func TestLayOfKnownSlots(t *testing.T) {
	zeros := strings.Repeat("\x00", 103)
	for _, x := range []struct {
		s    api.Slot
		want string
	}{
		{api.Slot{}, strings.Repeat("\x00", 128)},
		{api.Slot{Gen: 1}, strings.Repeat("\x00", 7) + "\x01" + strings.Repeat("\x00", 119) + "\x01"},
		{api.Slot{Area: 255}, strings.Repeat("\x00", 8) + "\xff" + strings.Repeat("\x00", 119)},
		{api.Slot{Size: 258}, strings.Repeat("\x00", 11) + "\x01\x02" + strings.Repeat("\x00", 115)},
		{api.Slot{Sum: 258}, strings.Repeat("\x00", 15) + "\x01\x02" + strings.Repeat("\x00", 111)},
		{
			api.Slot{Gen: 0x0102030405060708, Area: 9, Size: 0x0A0B0C0D, Sum: 0x0E0F1011},
			"\x01\x02\x03\x04\x05\x06\x07\x08\x09\x0a\x0b\x0c\x0d\x0e\x0f\x10\x11" + zeros + "\x01\x02\x03\x04\x05\x06\x07\x08",
		},
		{
			api.Slot{Gen: math.MaxUint64, Area: math.MaxUint8, Size: math.MaxUint32, Sum: math.MaxUint32},
			strings.Repeat("\xff", 17) + zeros + strings.Repeat("\xff", 8),
		},
	} {
		if got := slot.Lay(x.s); string(got) != x.want {
			t.Errorf("%v: got %x, want %x", x.s, got, x.want)
		}
	}
}

func TestLayIsThatOfTheChapter(t *testing.T) {
	r := source(2)
	l := slots()
	for range 2000 {
		s := r.slot()
		s.Gen = r.number() // also 0
		l = append(l, s)
	}
	for _, s := range l {
		if got := slot.Lay(s); len(got) != api.SectorSize || !bytes.Equal(got, slowLay(s)) {
			t.Fatalf("%v: got %x", s, got)
		}
	}
}

// P10.2

func TestTakeRefusesAnotherNumberOfBytes(t *testing.T) {
	for _, whole := range [][]byte{make([]byte, 400), bytes.Repeat([]byte{1}, 400), bytes.Repeat(slowLay(slots()[4]), 4)} {
		for size := range 300 {
			if checkTake(t, whole[:size]) && size != 128 {
				t.Errorf("%d bytes are a slot", size)
			}
			checkTake(t, whole[5:5+size])
		}
	}
	for _, s := range slots()[:7] {
		b := slowLay(s)
		for size := range 128 { // also where both ends would be there
			checkTake(t, b[:size])
			checkTake(t, b[128-size:])
			checkTake(t, append(bytes.Clone(b[:size]), b[120:]...))
		}
		for more := 1; more < 140; more++ {
			checkTake(t, append(bytes.Clone(b), make([]byte, more)...))
			checkTake(t, slices.Concat(b[:120], make([]byte, more), b[120:]))
		}
	}
}

func TestTakeRefusesGenerationZero(t *testing.T) {
	r := source(3)
	l := []api.Slot{{}, {Area: 1}, {Size: 1}, {Sum: 1}, {Area: math.MaxUint8, Size: math.MaxUint32, Sum: math.MaxUint32}}
	for range 500 {
		l = append(l, r.slot())
	}
	for _, s := range l {
		s.Gen = 0
		for _, b := range [][]byte{slowLay(s), slot.Lay(s)} {
			if got, e := slot.Take(b); got != (api.Slot{}) || e != api.ErrSlot {
				t.Errorf("%v: got %v, error %d", s, got, e)
			}
		}
	}
}

func TestTakeOfSectorsWithOneOtherByte(t *testing.T) {
	for _, s := range slots()[:7] {
		for at := range 128 {
			for change := 1; change < 256; change++ {
				b := slowLay(s)
				b[at] ^= byte(change)
				if checkTake(t, b) != (at >= 8 && at < 17) {
					t.Fatalf("%v with another byte %d: %x", s, at, b)
				}
			}
		}
	}
}

func TestTakeOfSectorsWithTwoOtherBytes(t *testing.T) {
	for _, s := range slots()[:7] {
		for first := range 128 {
			for second := range first {
				for _, change := range []byte{1, 128, 255} {
					b := slowLay(s)
					b[first] ^= change
					b[second] ^= change
					checkTake(t, b)
				}
			}
		}
	}
}

func TestTakeOfAnyBytes(t *testing.T) {
	r := source(4)
	for range 5000 {
		b := r.bytes(128)
		checkTake(t, b)
		copy(b[120:], b[:8])
		checkTake(t, b)
		clear(b[17:120])
		if !checkTake(t, b) {
			t.Fatalf("%x is no slot", b)
		}
		b[17+r.below(103)] = byte(1 + r.below(255))
		if checkTake(t, b) {
			t.Fatalf("%x is a slot", b)
		}
	}
}

func TestTakeOfWhatIsNoSlot(t *testing.T) {
	for i, b := range noSlots() {
		if got, e := slot.Take(b); got != (api.Slot{}) || e != api.ErrSlot {
			t.Errorf("bytes %d, %x: got %v, error %d", i, b, got, e)
		}
	}
}

// P10.3

// checkNewer compares Newer of a and b with what it is to return.
func checkNewer(t *testing.T, a, b []byte, want api.Slot, wantAt int, wantFault api.Errno) {
	t.Helper()
	if got, at, e := slot.Newer(a, b); got != want || at != wantAt || e != wantFault {
		t.Errorf("%x, %x: got %v, %d, error %d; want %v, %d, error %d", a, b, got, at, e, want, wantAt, wantFault)
	}
}

func TestNewerOfTwoSlots(t *testing.T) {
	gens := []uint64{1, 2, 3, 255, 256, 257, 1<<32 - 1, 1 << 32, 1<<32 + 1, 1<<63 - 1, 1 << 63, 1<<63 + 1, math.MaxUint64 - 1, math.MaxUint64}
	r := source(5)
	for i, lesser := range gens {
		for _, greater := range gens[i+1:] {
			for range 8 {
				old, now := r.slot(), r.slot()
				old.Gen, now.Gen = lesser, greater
				checkNewer(t, slowLay(now), slowLay(old), now, 0, api.OK)
				checkNewer(t, slowLay(old), slowLay(now), now, 1, api.OK)
			}
		}
	}
}

func TestNewerOfEqualGenerations(t *testing.T) {
	r := source(6)
	for _, gen := range []uint64{1, 2, 256, 1 << 63, math.MaxUint64} {
		for range 100 {
			one, other := r.slot(), r.slot()
			one.Gen, other.Gen = gen, gen
			checkNewer(t, slowLay(one), slowLay(other), one, 0, api.OK)
			checkNewer(t, slowLay(other), slowLay(one), other, 0, api.OK)
			checkNewer(t, slowLay(one), slowLay(one), one, 0, api.OK)
		}
	}
}

func TestNewerOfOneSlot(t *testing.T) {
	for _, s := range slots() {
		for _, b := range noSlots() {
			checkNewer(t, slowLay(s), b, s, 0, api.OK)
			checkNewer(t, b, slowLay(s), s, 1, api.OK)
		}
	}
}

func TestNewerOfNoSlot(t *testing.T) {
	for _, a := range noSlots() {
		for _, b := range noSlots() {
			checkNewer(t, a, b, api.Slot{}, 0, api.ErrSlot)
		}
	}
}

// P10.4

func TestLayAndTakeAreInverse(t *testing.T) {
	r := source(7)
	l := slots()
	for range 5000 {
		l = append(l, r.slot())
	}
	for _, s := range l {
		b := slot.Lay(s)
		got, e := slot.Take(b)
		if got != s || e != api.OK {
			t.Fatalf("%v: got %v, error %d", s, got, e)
		}
		if again := slot.Lay(got); !bytes.Equal(again, b) {
			t.Fatalf("%v: got %x, want %x", s, again, b)
		}
	}
}

func TestOtherSlotsHaveOtherSectors(t *testing.T) {
	seen := map[string]api.Slot{}
	for _, s := range slots() {
		b := string(slot.Lay(s))
		if other, ok := seen[b]; ok && other != s {
			t.Errorf("%v and %v: %x", s, other, b)
		}
		seen[b] = s
	}
}

// P10.5

// pairs are slots that may be one over the other: neighbours, and any ones.
func pairs() [][2]api.Slot {
	r := source(8)
	var l [][2]api.Slot
	for range 400 {
		one, other := r.slot(), r.slot()
		if r.below(2) == 0 {
			other.Gen = max(1, one.Gen+uint64(r.below(5)-2))
		}
		if r.below(3) == 0 { // only the generation is another one
			other = api.Slot{Gen: other.Gen, Area: one.Area, Size: one.Size, Sum: one.Sum}
		}
		l = append(l, [2]api.Slot{one, other})
	}
	return append(l, [2]api.Slot{{Gen: 255}, {Gen: 256}}, [2]api.Slot{{Gen: 1<<56 + 5, Area: 1}, {Gen: 1<<56 + 4}},
		[2]api.Slot{{Gen: 1 << 63}, {Gen: 1<<63 - 1}}, [2]api.Slot{{Gen: math.MaxUint64}, {Gen: math.MaxUint64 - 1}})
}

func TestTakeOfPartsOfTwoSlots(t *testing.T) {
	many := 0
	for _, p := range pairs() {
		if byte(p[0].Gen) == byte(p[1].Gen) {
			continue
		}
		many++
		one, other := slot.Lay(p[0]), slot.Lay(p[1])
		for n := range 129 {
			torn := append(bytes.Clone(one[:n]), other[n:]...)
			got, e := slot.Take(torn)
			if e == api.OK && got != p[0] && got != p[1] || e != api.OK && (e != api.ErrSlot || got != api.Slot{}) {
				t.Fatalf("%v for %d bytes, then %v: got %v, error %d", p[0], n, p[1], got, e)
			}
			if n == 0 && got != p[1] || n == 128 && got != p[0] || n > 7 && n < 128 && e == api.OK {
				t.Fatalf("%v for %d bytes, then %v: got %v, error %d", p[0], n, p[1], got, e)
			}
			checkTake(t, torn)
		}
	}
	if many < 100 {
		t.Errorf("%d pairs are too few", many)
	}
}

func TestTakeOfTheFirstPartOfASlot(t *testing.T) {
	for _, s := range slots() {
		b := slot.Lay(s)
		for n := range 129 {
			torn := append(bytes.Clone(b[:n]), make([]byte, 128-n)...)
			got, e := slot.Take(torn)
			if byte(s.Gen) != 0 && (n == 128) != (e == api.OK) {
				t.Fatalf("%v for %d bytes: error %d", s, n, e)
			}
			if byte(s.Gen) != 0 && e == api.OK && got != s {
				t.Fatalf("%v for %d bytes: got %v", s, n, got)
			}
			checkTake(t, torn)
		}
	}
}

// Where a sector of the older of two is rewritten, the newer one holds till the
// new one is there.
func TestNewerWhileASlotIsWritten(t *testing.T) {
	r := source(9)
	for gen := uint64(1); gen < 520; gen++ {
		old, now, next := r.slot(), r.slot(), r.slot()
		old.Gen, now.Gen, next.Gen = gen, gen+1, gen+2
		for n := range 129 {
			torn := append(slot.Lay(next)[:n:n], slot.Lay(old)[n:]...)
			want, at := now, 1
			if n == 128 {
				want, at = next, 0
			}
			checkNewer(t, torn, slot.Lay(now), want, at, api.OK)
			checkNewer(t, slot.Lay(now), torn, want, 1-at, api.OK)
		}
	}
}

func TestExamples(t *testing.T) {
	if got, e := slot.Take(make([]byte, 128)); got != (api.Slot{}) || e != api.ErrSlot {
		t.Errorf("got %v, error %d", got, e)
	}
	for i, c := range slot.Lay(api.Slot{Gen: 1}) {
		if (c == 1) != (i == 7 || i == 127) || c > 1 {
			t.Errorf("byte %d is %d", i, c)
		}
	}
}

// The rules for all calls

func TestArgumentsAreLeftAlone(t *testing.T) {
	r := source(10)
	for _, size := range []int{0, 1, 127, 128, 129, 200} {
		one, other := r.bytes(300), r.bytes(300)
		copy(one, slowLay(r.slot()))
		copy(other, slowLay(r.slot()))
		keptOne, keptOther := bytes.Clone(one), bytes.Clone(other)
		slot.Take(one[:size])
		slot.Newer(one[:size], other[:size])
		slot.Newer(one[:size], one[:size])
		if !bytes.Equal(one, keptOne) || !bytes.Equal(other, keptOther) {
			t.Errorf("%d bytes: the memory became %x, %x", size, one, other)
		}
	}
}

func TestWhatLiesBehindIsNotRead(t *testing.T) {
	whole := slowLay(slots()[4])
	for _, size := range []int{0, 1, 8, 17, 119, 127, 128} {
		if got, e := slot.Take(whole[:size]); (size == 128) != (e == api.OK) || size < 128 && got != (api.Slot{}) {
			t.Errorf("%d bytes: got %v, error %d", size, got, e)
		}
		if _, at, e := slot.Newer(whole[:size], nil); (size == 128) != (e == api.OK) || at != 0 {
			t.Errorf("%d bytes: %d, error %d", size, at, e)
		}
	}
	for _, behind := range [][]byte{{}, {0}, {1, 2, 3}, whole} {
		if got, e := slot.Take(append(bytes.Clone(whole), behind...)[:128]); got != slots()[4] || e != api.OK {
			t.Errorf("ahead of %x: got %v, error %d", behind, got, e)
		}
	}
}

func TestResultsAreNewMemory(t *testing.T) {
	for _, s := range []api.Slot{{}, {Gen: 1}, slots()[4]} {
		first, second := slot.Lay(s), slot.Lay(s)
		overwrite(first)
		if !bytes.Equal(second, slowLay(s)) || !bytes.Equal(slot.Lay(s), slowLay(s)) {
			t.Errorf("%v: results share memory: %x", s, second)
		}
	}
}

func TestTheSameCallsReturnTheSame(t *testing.T) {
	var all [2]string
	for i := range all {
		r := source(11)
		for range 200 {
			a, b := slot.Lay(r.slot()), slot.Lay(r.slot())
			s, at, e := slot.Newer(a, b)
			all[i] += fmt.Sprint(a, b, s, at, e)
		}
	}
	if all[0] != all[1] {
		t.Error("they do not")
	}
}
