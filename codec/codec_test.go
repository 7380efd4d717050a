package codec_test

import (
	"bytes"
	"cmp"
	"math"
	"strings"
	"testing"

	"cellarage/api"
	"cellarage/codec"
)

const lowest, greatest = math.MinInt, math.MaxInt

// P1.1

func TestPutLaysTheLowestBytesHighestFirst(t *testing.T) {
	const n = 0x0102030405060708
	for _, x := range []struct {
		many int
		want string
	}{
		{0, ""}, {1, "\x08"}, {2, "\x07\x08"}, {3, "\x06\x07\x08"}, {4, "\x05\x06\x07\x08"},
		{5, "\x04\x05\x06\x07\x08"}, {6, "\x03\x04\x05\x06\x07\x08"}, {7, "\x02\x03\x04\x05\x06\x07\x08"},
		{8, "\x01\x02\x03\x04\x05\x06\x07\x08"},
	} {
		if got := codec.Put(nil, n, x.many); string(got) != x.want {
			t.Errorf("many %d: got %x, want %x", x.many, got, x.want)
		}
		if got := codec.Put([]byte("ab"), n, x.many); string(got) != "ab"+x.want {
			t.Errorf("behind ab, many %d: got %x, want ab and %x", x.many, got, x.want)
		}
	}
	if got := codec.Put(nil, 258, 3); string(got) != "\x00\x01\x02" {
		t.Errorf("258 in three bytes: %x", got)
	}
	if got := codec.Put(nil, math.MaxUint64, 8); string(got) != strings.Repeat("\xff", 8) {
		t.Errorf("the greatest integer: %x", got)
	}
}

func TestPutTakesManyFromNoneToEight(t *testing.T) {
	for _, many := range []int{-1, -8, lowest} {
		if got := codec.Put([]byte("ab"), 5, many); string(got) != "ab" {
			t.Errorf("many %d: %x", many, got)
		}
	}
	for _, many := range []int{9, 64, greatest} {
		if got := codec.Put(nil, 5, many); string(got) != "\x00\x00\x00\x00\x00\x00\x00\x05" {
			t.Errorf("many %d: %x", many, got)
		}
	}
}

func TestTextLaysItsLengthAhead(t *testing.T) {
	for _, x := range []struct{ b, s, want string }{
		{"", "ab", "\x00\x00\x00\x02ab"},
		{"", "", "\x00\x00\x00\x00"},
		{"xy", "c", "xy\x00\x00\x00\x01c"},
		{"", "\x00\xff\xc3", "\x00\x00\x00\x03\x00\xff\xc3"},
		{"", strings.Repeat("z", 258), "\x00\x00\x01\x02" + strings.Repeat("z", 258)},
		{"", strings.Repeat("z", api.MaxText+1), "\x00\x01\x00\x01" + strings.Repeat("z", api.MaxText+1)},
	} {
		if got := codec.Text([]byte(x.b), x.s); string(got) != x.want {
			t.Errorf("%d bytes behind %q: got %d bytes", len(x.s), x.b, len(got))
		}
	}
}

// layings are calls that return something behind b.
func layings() []func(b []byte) []byte {
	return []func(b []byte) []byte{
		func(b []byte) []byte { return codec.Put(b, 1<<63|7, 8) },
		func(b []byte) []byte { return codec.Put(b, 7, 0) },
		func(b []byte) []byte { return codec.Put(b, 7, -1) },
		func(b []byte) []byte { return codec.Text(b, "new") },
		func(b []byte) []byte { return codec.Text(b, "") },
	}
}

func TestLayingLeavesItsArgumentAlone(t *testing.T) {
	for i, lay := range layings() {
		memory := []byte("abcdefghijklmnopqrst")
		lay(memory[:2])
		if string(memory) != "abcdefghijklmnopqrst" {
			t.Errorf("laying %d: the argument's memory became %q", i, memory)
		}
	}
}

func TestWhatIsLaidIsNewMemory(t *testing.T) {
	for i, lay := range layings() {
		memory := []byte("abcdefghijklmnopqrst")
		first, second := lay(memory[:2]), lay(memory[:2])
		want := string(second)
		for j := range first[:cap(first)] {
			first[:cap(first)][j] = '!'
		}
		if string(memory) != "abcdefghijklmnopqrst" || string(second) != want {
			t.Errorf("laying %d: a result shares memory: %q, %q", i, memory, second)
		}
	}
}

// P1.2

func TestGetDecodesAndAdvances(t *testing.T) {
	r := codec.New([]byte{1, 2, 3, 4, 5, 6, 7, 8, 9, 10})
	for _, x := range []struct {
		many int
		want uint64
		left int
	}{{0, 0, 10}, {1, 1, 9}, {3, 0x020304, 6}, {0, 0, 6}, {6, 0x05060708090a, 0}, {0, 0, 0}} {
		if got := r.Get(x.many); got != x.want || r.Left() != x.left || r.Fault() != api.OK {
			t.Errorf("many %d: got %x, %d left, error %d", x.many, got, r.Left(), r.Fault())
		}
	}
	if got := codec.New(bytes.Repeat([]byte{255}, 8)).Get(8); got != math.MaxUint64 {
		t.Errorf("the greatest integer: %x", got)
	}
}

func TestGetsErrors(t *testing.T) {
	for _, x := range []struct {
		bytes, many int
		want        api.Errno
	}{
		{0, -1, api.ErrArg}, {20, -1, api.ErrArg}, {20, lowest, api.ErrArg},
		{0, 9, api.ErrArg}, {20, 9, api.ErrArg}, {20, greatest, api.ErrArg},
		{0, 1, api.ErrShort}, {1, 2, api.ErrShort}, {7, 8, api.ErrShort},
	} {
		r := codec.New(bytes.Repeat([]byte{7}, x.bytes))
		if n := r.Get(x.many); n != 0 || r.Fault() != x.want || r.Left() != x.bytes {
			t.Errorf("%d of %d bytes: got %d, error %d, %d left", x.many, x.bytes, n, r.Fault(), r.Left())
		}
	}
}

func TestTextDecodesAndAdvances(t *testing.T) {
	r := codec.New([]byte("\x00\x00\x00\x02ab\x00\x00\x00\x00\x00\x00\x00\x01\xffrest"))
	if s := r.Text(2); s != "ab" || r.Left() != 13 {
		t.Errorf("got %q, %d left", s, r.Left())
	}
	if s := r.Text(0); s != "" || r.Left() != 9 {
		t.Errorf("got %q, %d left", s, r.Left())
	}
	if s := r.Text(greatest); s != "\xff" || r.Left() != 4 || r.Fault() != api.OK {
		t.Errorf("got %q, %d left, error %d", s, r.Left(), r.Fault())
	}
}

func TestTextsErrors(t *testing.T) {
	for _, x := range []struct {
		b    string
		most int
		want api.Errno
	}{
		{"", 9, api.ErrShort},
		{"\x00\x00\x00", 9, api.ErrShort},
		{"\x00\x00\x00", -1, api.ErrShort},
		{"\x00\x00\x00\x02ab", 1, api.ErrLong},
		{"\x00\x00\x00\x02a", 1, api.ErrLong},
		{"\x00\x00\x00\x01a", 0, api.ErrLong},
		{"\x00\x00\x00\x01a", -1, api.ErrLong},
		{"\x00\x00\x00\x01a", lowest, api.ErrLong},
		{"\x01\x00\x00\x01a", 1, api.ErrLong},
		{"\x00\x00\x00\x02a", 2, api.ErrShort},
		{"\x00\x00\x00\x01", 1, api.ErrShort},
		{"\xff\xff\xff\xffa", greatest, api.ErrShort},
	} {
		r := codec.New([]byte(x.b))
		if s := r.Text(x.most); s != "" || r.Fault() != x.want || r.Left() != len(x.b) {
			t.Errorf("%x, at most %d: got %q, error %d, %d left", x.b, x.most, s, r.Fault(), r.Left())
		}
	}
	for _, most := range []int{0, -1, lowest} {
		r := codec.New([]byte("\x00\x00\x00\x00"))
		if s := r.Text(most); s != "" || r.End() != api.OK {
			t.Errorf("the empty string, at most %d: %q, error %d", most, s, r.End())
		}
	}
}

func TestTheFirstErrorIsKept(t *testing.T) {
	for _, x := range []struct {
		fail func(*codec.Reader)
		want api.Errno
	}{
		{func(r *codec.Reader) { r.Get(-1) }, api.ErrArg},
		{func(r *codec.Reader) { r.Get(8) }, api.ErrShort},
		{func(r *codec.Reader) { r.Text(0) }, api.ErrLong},
		{func(r *codec.Reader) { r.Text(9) }, api.ErrShort},
	} {
		r := codec.New([]byte("\x00\x00\x00\x03ab"))
		for range 2 {
			x.fail(r)
			n, m, s := r.Get(1), r.Get(0), r.Text(9)
			r.Get(9)
			r.Get(99)
			r.Text(0)
			if n != 0 || m != 0 || s != "" || r.Left() != 6 || r.Fault() != x.want || r.End() != x.want {
				t.Errorf("error %d: got %d, %d, %q, %d left, then error %d", x.want, n, m, s, r.Left(), r.Fault())
			}
		}
	}
}

func TestAReaderHasTheBytesAsTheyWere(t *testing.T) {
	memory := []byte("\x00\x00\x00\x02ab\x05more")
	b := memory[:7]
	r, other := codec.New(b), codec.New(b)
	for i := range memory {
		memory[i] = 'z'
	}
	if s := r.Text(2); s != "ab" || r.Get(1) != 5 || r.End() != api.OK {
		t.Errorf("got %q, error %d", s, r.End())
	}
	if string(memory) != "zzzzzzzzzzz" || other.Left() != 7 || other.Text(2) != "ab" {
		t.Error("readers share something")
	}
}

// P1.3

func TestLeftFaultAndEnd(t *testing.T) {
	r := codec.New([]byte{1, 2, 3})
	if r.Left() != 3 || r.Fault() != api.OK || r.End() != api.ErrTail || r.Fault() != api.OK {
		t.Error("at the first byte")
	}
	if r.Get(2) != 258 || r.Left() != 1 || r.End() != api.ErrTail || r.End() != api.ErrTail || r.Fault() != api.OK {
		t.Error("bytes that are left count as an error of the reader")
	}
	if r.Get(1) != 3 || r.Left() != 0 || r.Fault() != api.OK || r.End() != api.OK {
		t.Error("at the end")
	}
	if r.Get(1) != 0 || r.Left() != 0 || r.Fault() != api.ErrShort || r.End() != api.ErrShort {
		t.Error("behind the end")
	}
	r = codec.New([]byte{1})
	r.Get(9)
	if r.Left() != 1 || r.Fault() != api.ErrArg || r.End() != api.ErrArg {
		t.Error("an error goes ahead of bytes that are left")
	}
}

func TestReadersOfNothing(t *testing.T) {
	for _, r := range []*codec.Reader{codec.New(nil), codec.New([]byte{}), {}} {
		if r == nil || r.Left() != 0 || r.Fault() != api.OK || r.End() != api.OK || r.Get(0) != 0 || r.Fault() != api.OK {
			t.Fatal("a reader of no bytes")
		}
		if r.Text(9) != "" || r.Fault() != api.ErrShort || r.End() != api.ErrShort {
			t.Error("a reader of no bytes has a string")
		}
	}
	var r *codec.Reader
	for _, many := range []int{lowest, -1, 0, 1, 8, 9, greatest} {
		if r.Get(many) != 0 || r.Text(many) != "" || r.Left() != 0 || r.Fault() != api.OK || r.End() != api.OK {
			t.Errorf("a nil reader, %d", many)
		}
	}
}

// P1.4 and P1.6

// item is an integer of so many bytes, or a string where many is -1.
type item struct {
	many int
	n    uint64
	s    string
}

func (x item) lay(b []byte) []byte {
	if x.many < 0 {
		return codec.Text(b, x.s)
	}
	return codec.Put(b, x.n, x.many)
}

// take reports whether a reader returns the item.
func (x item) take(r *codec.Reader) bool {
	if x.many < 0 {
		return r.Text(len(x.s)) == x.s
	}
	return r.Get(x.many) == x.n
}

// items makes a list from a number, the same one for the same number.
func items(seed uint64) []item {
	next := func() uint64 {
		seed = seed*6364136223846793005 + 1442695040888963407
		return seed >> 16
	}
	var l []item
	for range next() % 12 {
		many := int(next()%10) - 1
		x := item{many: many}
		if many < 0 {
			x.s = strings.Repeat(string([]byte{byte(next())}), int(next()%300))
		} else {
			x.n = (next()<<32 ^ next()) >> (64 - 8*many)
		}
		l = append(l, x)
	}
	return l
}

func TestWhatWasEncodedIsDecoded(t *testing.T) {
	for seed := range uint64(500) {
		l := items(seed)
		var b []byte
		for _, x := range l {
			b = x.lay(b)
		}
		r := codec.New(b)
		for i, x := range l {
			if !x.take(r) || r.Fault() != api.OK {
				t.Fatalf("list %d: item %d is another one, error %d", seed, i, r.Fault())
			}
		}
		if r.End() != api.OK || r.Left() != 0 {
			t.Fatalf("list %d: %d bytes left, error %d", seed, r.Left(), r.End())
		}
	}
}

func TestATruncatedEncodingIsTooShort(t *testing.T) {
	for seed := range uint64(60) {
		l := items(seed)
		var b []byte
		starts := []int{}
		for _, x := range l {
			starts = append(starts, len(b))
			b = x.lay(b)
		}
		for cut := range len(b) {
			r := codec.New(b[:cut])
			i := 0
			for i < len(l) && l[i].take(r) && r.Fault() == api.OK {
				i++
			}
			if i < len(l) && r.Fault() == api.ErrShort && r.End() == api.ErrShort && r.Left() == cut-starts[i] {
				continue
			}
			t.Fatalf("list %d cut after %d bytes: item %d, error %d, %d left", seed, cut, i, r.Fault(), r.Left())
		}
	}
}

// P1.5

func TestLesserIntegersHaveLesserEncodings(t *testing.T) {
	l := []uint64{0}
	for bit := range 64 {
		n := uint64(1) << bit
		for _, m := range []uint64{n - 1, n, n + 1} {
			if m > l[len(l)-1] {
				l = append(l, m)
			}
		}
	}
	l = append(l, math.MaxUint64)
	for i, n := range l {
		for j, m := range l {
			a, b := codec.Put(nil, n, 8), codec.Put(nil, m, 8)
			if len(a) != 8 || bytes.Compare(a, b) != cmp.Compare(i, j) {
				t.Fatalf("%d and %d: %x and %x", n, m, a, b)
			}
		}
	}
}
