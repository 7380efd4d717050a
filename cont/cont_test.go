package cont_test

import (
	"bytes"
	"fmt"
	"math"
	"slices"
	"strings"
	"testing"

	"cellarage/api"
	"cellarage/cont"
)

// source makes the same numbers for the same seed.
type source uint64

func (s *source) next() uint64 {
	*s = *s*6364136223846793005 + 1442695040888963407
	return uint64(*s >> 16)
}

// below is a number from 0 to n - 1.
func (s *source) below(n int) int { return int(s.next() % uint64(n)) }

// number is any one of 32 bits, often one at the ends, and often one of few bits.
func (s *source) number() uint32 {
	if l := []uint32{0, 1, 255, 256, 1 << 31, math.MaxUint32}; s.below(3) == 0 {
		return l[s.below(len(l))]
	}
	return uint32(s.next()) >> s.below(32)
}

func (s *source) bytes(size int) []byte {
	b := make([]byte, size)
	for i := range b {
		b[i] = byte(s.next())
	}
	return b
}

// key is any one, often with the Sum of another one.
func (s *source) key() api.Key {
	k := api.Key{N: s.number()}
	if s.below(2) == 0 {
		copy(k.Sum[:], s.bytes(32))
	} else {
		k.Sum[s.below(32)] = byte(s.below(3))
	}
	return k
}

// pieces are many of different keys, with up to most bytes each.
func (s *source) pieces(many, most int) []api.Piece {
	var l []api.Piece
	seen := map[api.Key]bool{}
	for len(l) < many {
		k := s.key()
		if !seen[k] {
			seen[k] = true
			l = append(l, api.Piece{Key: k, Data: s.bytes(1 + s.below(most))})
		}
	}
	return l
}

// numbered are many pieces, of size bytes each, whose keys differ in N alone.
func numbered(many, size int) []api.Piece {
	l := make([]api.Piece, many)
	for i := range l {
		l[i] = api.Piece{Key: api.Key{N: uint32(i)}, Data: bytes.Repeat([]byte{byte(i + 1)}, size)}
	}
	return l
}

// greatest are pieces whose container has MaxCont bytes.
func greatest() []api.Piece {
	l := numbered(15, 4096)
	return append(l, api.Piece{Key: api.Key{N: 99}, Data: make([]byte, 65536-10-15*(38+4096)-38)})
}

// right are ids and pieces of which there are containers.
func right() []box {
	l := []box{
		{},
		{id: 7},
		{id: math.MaxUint32},
		{1, []api.Piece{{Data: []byte{0}}}},
		{0, []api.Piece{{Key: api.Key{Sum: api.Sum{31: 255}, N: math.MaxUint32}, Data: []byte("abc")}}},
		{1 << 31, []api.Piece{{Key: api.Key{N: 1}, Data: []byte("same")}, {Data: []byte("same")}}},
		{3, numbered(5, 1)},
		{256, numbered(256, 1)},
		{65536, numbered(1000, 1)},
		{5, numbered(1, 4096)},
		{6, greatest()},
	}
	r := source(1)
	for range 200 {
		l = append(l, box{r.number(), r.pieces(r.below(12), 1+r.below(300))})
	}
	return append(l, box{r.number(), r.pieces(1000, 27)})
}

// box is an id, and pieces.
type box struct {
	id uint32
	l  []api.Piece
}

// few are those of right that have not many bytes.
func few() []box {
	return slices.DeleteFunc(right(), func(x box) bool { return cont.Size(x.l) > 500 })
}

// digits are the bytes of n, the most significant one first.
func digits(n uint64, many int) []byte {
	b := make([]byte, many)
	for i := many - 1; i >= 0; i-- {
		b[i] = byte(n % 256)
		n /= 256
	}
	return b
}

// number is what digits gives the bytes of.
func number(b []byte) int {
	n := 0
	for _, c := range b {
		n = n*256 + int(c)
	}
	return n
}

// slowSum is the checksum of b, bit by bit.
func slowSum(b []byte) uint32 {
	register := uint32(math.MaxUint32)
	for _, c := range b {
		register ^= uint32(c) << 24
		for range 8 {
			out := register >> 31
			register = register<<1 ^ out*0x04C11DB7
		}
	}
	return ^register
}

func sealed(b []byte) []byte {
	return append(bytes.Clone(b), digits(uint64(slowSum(b)), 4)...)
}

// body is a container without its checksum, put together as the chapter tells it,
// whatever the pieces are. Lengths are those that the table tells, from the first
// piece on; those of the Datas of the others.
func body(id uint32, many int, l []api.Piece, lengths ...int) []byte {
	b := append(digits(uint64(id), 4), digits(uint64(many), 2)...)
	for i, p := range l {
		length := len(p.Data)
		if i < len(lengths) {
			length = lengths[i]
		}
		b = append(b, p.Key.Sum[:]...)
		b = append(b, digits(uint64(p.Key.N), 4)...)
		b = append(b, digits(uint64(length), 2)...)
	}
	for _, p := range l {
		b = append(b, p.Data...)
	}
	return b
}

// slowLay is a container, put together as the chapter tells it.
func slowLay(x box) []byte { return sealed(body(x.id, len(x.l), x.l)) }

// slowTake reports what a container is of, looking at it part by part.
func slowTake(b []byte) (box, bool) {
	if len(b) < 10 || len(b) > 65536 || !bytes.Equal(sealed(b[:len(b)-4]), b) {
		return box{}, false
	}
	x, many := box{id: uint32(number(b[:4]))}, number(b[4:6])
	at := 6 + 38*many
	if many > 1000 || at > len(b)-4 {
		return box{}, false
	}
	for i := range many {
		row := b[6+38*i:]
		p := api.Piece{Key: api.Key{Sum: api.Sum(row[:32]), N: uint32(number(row[32:36]))}}
		length := number(row[36:38])
		if length < 1 || length > 4096 || at+length > len(b)-4 {
			return box{}, false
		}
		for _, other := range x.l {
			if other.Key == p.Key {
				return box{}, false
			}
		}
		p.Data = bytes.Clone(b[at : at+length])
		at += length
		x.l = append(x.l, p)
	}
	return x, at == len(b)-4
}

func same(a, b []api.Piece) bool {
	return slices.EqualFunc(a, b, func(p, q api.Piece) bool { return p.Key == q.Key && bytes.Equal(p.Data, q.Data) })
}

func none(p api.Piece) bool { return p.Key == api.Key{} && len(p.Data) == 0 }

func keys(l []api.Piece) []api.Key {
	var k []api.Key
	for _, p := range l {
		k = append(k, p.Key)
	}
	return k
}

// outside are indices of which a container of n pieces has no piece.
func outside(n int) []int {
	return []int{-1, -2, -n - 1, math.MinInt, n, n + 1, n + 256, n + 65536, 1 << 32, math.MaxInt}
}

// check compares what Take, Keys and One return for b with slowTake, and reports
// whether b is a container.
func check(t *testing.T, b []byte) bool {
	t.Helper()
	want, ok := slowTake(b)
	if !ok {
		refused(t, b)
		return false
	}
	if id, l, e := cont.Take(b); e != api.OK || id != want.id || !same(l, want.l) {
		t.Fatalf("%.200x: Take is %d, %.200v, error %d; want %.200v", b, id, l, e, want)
	}
	if id, k, e := cont.Keys(b); e != api.OK || id != want.id || !slices.Equal(k, keys(want.l)) {
		t.Fatalf("%.200x: Keys is %d, %.200v, error %d; want %.200v", b, id, k, e, want)
	}
	step := max(1, len(want.l)/10)
	for at := 0; at < len(want.l); at += step {
		if p, e := cont.One(b, at); e != api.OK || !same([]api.Piece{p}, want.l[at:at+1]) {
			t.Fatalf("%.200x: piece %d is %.200v, error %d", b, at, p, e)
		}
	}
	for _, at := range outside(len(want.l)) {
		if p, e := cont.One(b, at); e != api.ErrNone || !none(p) {
			t.Fatalf("%.200x: piece %d is %.200v, error %d", b, at, p, e)
		}
	}
	return true
}

// refused checks that b is not a container.
func refused(t *testing.T, b []byte) {
	t.Helper()
	if id, l, e := cont.Take(b); e != api.ErrCont || id != 0 || len(l) != 0 {
		t.Fatalf("%d bytes, %.200x: Take is %d, %.200v, error %d", len(b), b, id, l, e)
	}
	if id, k, e := cont.Keys(b); e != api.ErrCont || id != 0 || len(k) != 0 {
		t.Fatalf("%d bytes, %.200x: Keys is %d, %.200v, error %d", len(b), b, id, k, e)
	}
	for _, at := range []int{0, 1, -1, 1000, math.MinInt, math.MaxInt} {
		if p, e := cont.One(b, at); e != api.ErrCont || !none(p) {
			t.Fatalf("%d bytes, %.200x: piece %d is %.200v, error %d", len(b), b, at, p, e)
		}
	}
}

// P11.1

func TestSizeOfKnownPieces(t *testing.T) {
	for _, x := range []struct {
		l    []api.Piece
		want int
	}{
		{nil, 10},
		{[]api.Piece{}, 10},
		{[]api.Piece{{}}, 48},
		{[]api.Piece{{Data: []byte{}}}, 48},
		{[]api.Piece{{Data: []byte("a")}}, 49},
		{[]api.Piece{{Key: api.Key{Sum: api.Sum{9}, N: 9}, Data: []byte("abc")}}, 51},
		{[]api.Piece{{Data: []byte("abc")}, {Data: []byte("abc")}}, 92},
		{[]api.Piece{{}, {Data: make([]byte, 7)}, {}}, 131},
		{[]api.Piece{{Data: make([]byte, 70000)}}, 70048},
		{numbered(1000, 1), 39010},
		{numbered(2000, 0), 76010},
		{greatest(), 65536},
		{[]api.Piece{{Data: make([]byte, 3, 50)}}, 51},
	} {
		if got := cont.Size(x.l); got != x.want {
			t.Errorf("%.100v: got %d, want %d", x.l, got, x.want)
		}
	}
}

func TestSizeOfAnyPieces(t *testing.T) {
	r := source(2)
	for range 300 {
		var l []api.Piece
		want := 10
		for range r.below(30) {
			p := api.Piece{Key: r.key(), Data: make([]byte, r.below(6000))}
			l = append(l, p)
			want += 38 + len(p.Data)
			if got := cont.Size(l); got != want {
				t.Fatalf("%d pieces: got %d, want %d", len(l), got, want)
			}
		}
	}
}

// P11.2

func TestLayOfKnownPieces(t *testing.T) {
	ends := api.Sum{0: 1, 31: 2}
	zeros := strings.Repeat("\x00", 30)
	for _, x := range []struct {
		of   box
		want string // without the checksum
	}{
		{box{}, "\x00\x00\x00\x00\x00\x00"},
		{box{id: 7}, "\x00\x00\x00\x07\x00\x00"},
		{box{id: 0x01020304}, "\x01\x02\x03\x04\x00\x00"},
		{
			box{5, []api.Piece{{Key: api.Key{Sum: ends, N: 0x06070809}, Data: []byte("abc")}}},
			"\x00\x00\x00\x05\x00\x01" + "\x01" + zeros + "\x02" + "\x06\x07\x08\x09" + "\x00\x03" + "abc",
		},
		{
			box{math.MaxUint32, []api.Piece{{Key: api.Key{Sum: ends}, Data: []byte("b")}, {Data: []byte("aa")}}},
			"\xff\xff\xff\xff\x00\x02" + "\x01" + zeros + "\x02" + "\x00\x00\x00\x00" + "\x00\x01" +
				"\x00" + zeros + "\x00" + "\x00\x00\x00\x00" + "\x00\x02" + "b" + "aa",
		},
		{
			box{1, []api.Piece{{Data: bytes.Repeat([]byte("x"), 258)}}},
			"\x00\x00\x00\x01\x00\x01" + strings.Repeat("\x00", 36) + "\x01\x02" + strings.Repeat("x", 258),
		},
	} {
		got, e := cont.Lay(x.of.id, x.of.l)
		if e != api.OK || string(got) != string(sealed([]byte(x.want))) {
			t.Errorf("%v: got %x, error %d", x.of, got, e)
		}
	}
}

// The checksums of these bytes were worked out apart.
func TestLayIsSealed(t *testing.T) {
	for _, x := range []struct {
		of   box
		want uint32
	}{
		{box{}, 0xC585438D},
		{box{id: 7}, 0xC08E0418},
		{box{7, []api.Piece{{Data: []byte("abc")}}}, 0xC77D5E5C},
	} {
		b, e := cont.Lay(x.of.id, x.of.l)
		if e != api.OK || !bytes.HasSuffix(b, digits(uint64(x.want), 4)) {
			t.Errorf("%v: got %x, error %d", x.of, b, e)
		}
	}
	for _, x := range right() {
		b, e := cont.Lay(x.id, x.l)
		if e != api.OK || slowSum(b) != 0x38FB2284 {
			t.Errorf("%.100v: the sum of sealed bytes is %x, error %d", x, slowSum(b), e)
		}
	}
}

func TestLayIsThatOfTheChapter(t *testing.T) {
	for _, x := range right() {
		if got, e := cont.Lay(x.id, x.l); e != api.OK || !bytes.Equal(got, slowLay(x)) {
			t.Errorf("%.100v: error %d, got %.200x", x, e, got)
		}
	}
}

// fault is pieces of which there is no container, and the error.
type fault struct {
	l    []api.Piece
	want api.Errno
}

func wrong() map[string]fault {
	empty, long := api.Piece{Key: api.Key{N: 77777}}, api.Piece{Key: api.Key{N: 88888}, Data: make([]byte, 4097)}
	again := func(l []api.Piece, i int) []api.Piece { return append(slices.Clone(l), l[i]) }
	other := func(l []api.Piece, i int) []api.Piece {
		return append(slices.Clone(l), api.Piece{Key: l[i].Key, Data: []byte("other")})
	}
	with := func(l []api.Piece, p ...api.Piece) []api.Piece { return append(slices.Clone(l), p...) }
	ahead := func(p api.Piece, l []api.Piece) []api.Piece { return append([]api.Piece{p}, l...) }
	one := numbered(1, 1)
	over := greatest()
	over[15].Data = append(over[15].Data, 1)
	return map[string]fault{
		"one without Data":                     {[]api.Piece{empty}, api.ErrArg},
		"one with Data of no bytes":            {[]api.Piece{{Data: []byte{}}}, api.ErrArg},
		"no Data, the last one":                {with(numbered(9, 2), empty), api.ErrArg},
		"no Data, the first one":               {ahead(empty, numbered(9, 2)), api.ErrArg},
		"no Data, behind one too long":         {[]api.Piece{long, empty}, api.ErrArg},
		"no Data, ahead of one too long":       {[]api.Piece{empty, long}, api.ErrArg},
		"no Data, and too many":                {with(numbered(1000, 1), empty), api.ErrArg},
		"no Data, and too many, the first one": {ahead(empty, numbered(1500, 1)), api.ErrArg},
		"no Data, and too many bytes":          {with(greatest(), empty), api.ErrArg},
		"no Data, and the same key":            {[]api.Piece{one[0], one[0], empty}, api.ErrArg},
		"no Data, twice":                       {[]api.Piece{empty, empty}, api.ErrArg},
		"no Data, the key of another one":      {[]api.Piece{one[0], {}}, api.ErrArg},

		"one too many":                       {numbered(1001, 1), api.ErrLong},
		"many too many":                      {numbered(65536, 1), api.ErrLong},
		"too many of the same key":           {alike(1001), api.ErrLong},
		"one too long":                       {[]api.Piece{long}, api.ErrLong},
		"much too long":                      {[]api.Piece{{Data: make([]byte, 65537)}}, api.ErrLong},
		"too long by the lower bytes":        {[]api.Piece{{Data: make([]byte, 65536+5)}}, api.ErrLong},
		"too long, the last one":             {with(numbered(9, 2), long), api.ErrLong},
		"too long, the first one":            {ahead(long, numbered(9, 2)), api.ErrLong},
		"too long, and the same key":         {[]api.Piece{one[0], one[0], long}, api.ErrLong},
		"too long, twice":                    {[]api.Piece{long, long}, api.ErrLong},
		"one byte too many":                  {over, api.ErrLong},
		"too many bytes":                     {numbered(16, 4096), api.ErrLong},
		"too many bytes by the table":        {numbered(1000, 28), api.ErrLong},
		"too many bytes by one more piece":   {with(greatest(), api.Piece{Key: api.Key{N: 7777}, Data: []byte{1}}), api.ErrLong},
		"too many bytes, and the same key":   {again(greatest(), 3), api.ErrLong},
		"too many pieces, and the same key":  {again(numbered(1000, 1), 3), api.ErrLong},
		"too many pieces, and also too long": {with(numbered(1000, 1), long), api.ErrLong},

		"the same piece":                 {[]api.Piece{one[0], one[0]}, api.ErrThere},
		"the same key, other Data":       {other(one, 0), api.ErrThere},
		"the first and the last one":     {other(numbered(999, 1), 0), api.ErrThere},
		"the last two":                   {again(numbered(999, 1), 998), api.ErrThere},
		"two in the midst":               {with(other(numbered(5, 3), 2), numbered(9, 3)[5:]...), api.ErrThere},
		"the same key, of any bytes":     {func() []api.Piece { r := source(3); return other(r.pieces(20, 9), 13) }(), api.ErrThere},
		"three times":                    {[]api.Piece{one[0], one[0], one[0]}, api.ErrThere},
		"the same key in the greatest N": {[]api.Piece{{Key: api.Key{N: math.MaxUint32}, Data: []byte{1}}, {Key: api.Key{N: math.MaxUint32}, Data: []byte{2}}}, api.ErrThere},
	}
}

// alike are many pieces of the same key.
func alike(many int) []api.Piece {
	l := make([]api.Piece, many)
	for i := range l {
		l[i].Data = []byte{1}
	}
	return l
}

func TestLayRefuses(t *testing.T) {
	for what, x := range wrong() {
		for _, id := range []uint32{0, 1, math.MaxUint32} {
			if b, e := cont.Lay(id, x.l); e != x.want || len(b) != 0 {
				t.Errorf("%s: got %d bytes, error %d; want error %d", what, len(b), e, x.want)
			}
		}
	}
}

func TestLayTakesAsMuchAsMayBe(t *testing.T) {
	for what, l := range map[string][]api.Piece{
		"the most pieces":     numbered(1000, 1),
		"the longest piece":   numbered(1, 4096),
		"some longest pieces": numbered(15, 4096),
		"the most bytes":      greatest(),
		"both":                append(numbered(999, 27), api.Piece{Key: api.Key{N: 5555}, Data: make([]byte, 65536-10-999*65-38)}),
	} {
		if b, e := cont.Lay(1, l); e != api.OK || !bytes.Equal(b, slowLay(box{1, l})) {
			t.Errorf("%s: got %d bytes, error %d", what, len(b), e)
		}
	}
}

func TestLayTakesKeysThatDifferALittle(t *testing.T) {
	l := []api.Piece{{Key: api.Key{}, Data: []byte("same")}}
	for bit := range 32 {
		l = append(l, api.Piece{Key: api.Key{N: 1 << bit}, Data: []byte("same")})
	}
	for bit := range 256 {
		k := api.Key{}
		k.Sum[bit/8] = 1 << (bit % 8)
		l = append(l, api.Piece{Key: k, Data: []byte("same")})
	}
	if b, e := cont.Lay(1, l); e != api.OK || !check(t, b) {
		t.Errorf("error %d", e)
	}
}

// P11.3

func TestTakeOfContainers(t *testing.T) {
	for _, x := range right() {
		if !check(t, slowLay(x)) {
			t.Errorf("%.100v is not a container", x)
		}
	}
}

func TestOneHasThePieceOfEachIndex(t *testing.T) {
	for _, l := range [][]api.Piece{numbered(1000, 2), greatest()} {
		b := slowLay(box{3, l})
		for at, want := range l {
			if p, e := cont.One(b, at); e != api.OK || !same([]api.Piece{p}, []api.Piece{want}) {
				t.Fatalf("piece %d is %.100v, error %d", at, p, e)
			}
		}
	}
}

func TestTakeRefusesWhatLayRefuses(t *testing.T) {
	for what, x := range wrong() {
		b := sealed(body(1, len(x.l), x.l)) // of the number and the lengths, two bytes
		if _, ok := slowTake(b); ok {
			t.Errorf("%s: is a container", what)
		}
		refused(t, b)
	}
	// A length of the table has two bytes: here they tell all of it.
	for _, length := range []int{4097, 4098, 5000, 8192, 32768, 65000, 65535} {
		refused(t, sealed(body(1, 1, []api.Piece{{Data: make([]byte, length)}})))
	}
}

func TestTakeRefusesFewBytes(t *testing.T) {
	refused(t, nil)
	refused(t, []byte{})
	for _, c := range []byte{0, 1, 255} {
		for size := range 100 {
			b := bytes.Repeat([]byte{c}, size)
			check(t, b)
			if check(t, sealed(b)) != (c == 0 && size == 6) {
				t.Errorf("%d bytes %d", size, c)
			}
		}
	}
}

func TestTakeRefusesAnotherNumberOfPieces(t *testing.T) {
	for _, l := range [][]api.Piece{nil, numbered(1, 1), numbered(1, 100), numbered(2, 38), numbered(5, 4), numbered(20, 40), numbered(1000, 27)} {
		for _, many := range []int{0, 1, 2, 3, 4, 5, 6, 19, 20, 21, 255, 256, 257, 999, 1000, 1001, 1002, 65535} {
			if check(t, sealed(body(1, many, l))) && many != len(l) {
				t.Errorf("%d pieces are %d", len(l), many)
			}
		}
	}
}

func TestTakeRefusesOtherLengths(t *testing.T) {
	lengths := []int{299, 300, 301, 2999, 3000, 3001, 4095, 4096, 4097, 32767, 32768, 65534, 65535}
	for length := range 20 {
		lengths = append(lengths, length, length<<8, length<<8+1, length<<8+5)
	}
	for _, l := range [][]api.Piece{numbered(1, 1), numbered(1, 300), numbered(2, 5), numbered(3, 3000)} {
		for _, length := range lengths {
			if check(t, sealed(body(1, len(l), l, length))) != (length == len(l[0].Data)) {
				t.Errorf("%d bytes are %d", len(l[0].Data), length)
			}
		}
	}
}

func TestTakeRefusesLengthsThatOnlyAddUp(t *testing.T) {
	for _, x := range []struct {
		sizes, lengths []int
		ok             bool
	}{
		{[]int{2, 2}, []int{2, 2}, true},
		{[]int{2, 2}, []int{3, 1}, true},
		{[]int{2, 2}, []int{4, 0}, false},
		{[]int{2, 2}, []int{0, 4}, false},
		{[]int{2, 2}, []int{1, 2}, false},
		{[]int{2, 2}, []int{2, 1}, false},
		{[]int{2, 2}, []int{3, 2}, false},
		{[]int{2, 2}, []int{5, 65535}, false},
		{[]int{4, 4, 4}, []int{6, 0, 6}, false},
		{[]int{4, 4, 4}, []int{1, 10, 1}, true},
		{[]int{2050, 2050}, []int{4096, 4}, true},
		{[]int{2050, 2050}, []int{4097, 3}, false},
		{[]int{2050, 2050}, []int{4, 4096}, true},
		{[]int{2050, 2050}, []int{3, 4097}, false},
	} {
		var l []api.Piece
		for i, size := range x.sizes {
			l = append(l, api.Piece{Key: api.Key{N: uint32(i)}, Data: make([]byte, size)})
		}
		if check(t, sealed(body(9, len(l), l, x.lengths...))) != x.ok {
			t.Errorf("%v as %v", x.sizes, x.lengths)
		}
	}
}

func TestTakeRefusesBytesThatAreLeft(t *testing.T) {
	for _, x := range few() {
		b := body(x.id, len(x.l), x.l)
		for more := 1; more < 80; more++ {
			refused(t, sealed(append(bytes.Clone(b), make([]byte, more)...)))
			refused(t, append(sealed(b), make([]byte, more)...))
		}
		refused(t, sealed(sealed(b)))
	}
}

func TestTakeRefusesBytesThatAreMissing(t *testing.T) {
	for _, x := range few() {
		b := body(x.id, len(x.l), x.l)
		for size := range b {
			refused(t, sealed(b[:size]))
		}
	}
}

func TestTakeRefusesAnotherChecksum(t *testing.T) {
	for _, x := range few()[:20] {
		b := slowLay(x)
		for bit := range 32 {
			c := bytes.Clone(b)
			c[len(b)-1-bit/8] ^= 1 << (bit % 8)
			refused(t, c)
		}
		copy(b[len(b)-4:], digits(uint64(^slowSum(b[:len(b)-4])), 4))
		refused(t, b)
	}
}

// A change of a container that is sealed again may make another one of it.
func TestTakeOfChangedContainers(t *testing.T) {
	r := source(4)
	many := 0
	for range 20 {
		for _, x := range few()[:60] {
			b := body(x.id, len(x.l), x.l)
			for range 1 + r.below(3) {
				b[r.below(len(b))] = byte(r.below(3))
			}
			if check(t, sealed(b)) {
				many++
			}
		}
	}
	if many < 100 || many > 1100 {
		t.Errorf("%d of 1200 are containers", many)
	}
}

func TestTakeOfAnyBytes(t *testing.T) {
	r := source(5)
	for range 2000 {
		b := r.bytes(r.below(300))
		check(t, b)
		check(t, sealed(b))
		if len(b) > 6 {
			copy(b[4:], digits(uint64(r.below(4)), 2))
			check(t, sealed(b))
		}
	}
}

// P11.4

func TestLayAndTakeAreInverse(t *testing.T) {
	for _, x := range right() {
		b, e := cont.Lay(x.id, x.l)
		if e != api.OK || len(b) != cont.Size(x.l) {
			t.Fatalf("%.100v: %d bytes, error %d", x, len(b), e)
		}
		id, l, e := cont.Take(b)
		if e != api.OK || id != x.id || !same(l, x.l) {
			t.Fatalf("%.100v: got %d, %.100v, error %d", x, id, l, e)
		}
		if again, e := cont.Lay(id, l); e != api.OK || !bytes.Equal(again, b) {
			t.Fatalf("%.100v: laid again it is %.100x, error %d", x, again, e)
		}
	}
}

// P11.5

func TestATruncatedContainerIsNone(t *testing.T) {
	for _, x := range few() {
		b := slowLay(x)
		for size := range b {
			refused(t, b[:size])
		}
	}
	b := slowLay(box{6, greatest()})
	for size := 0; size < len(b); size += 531 {
		refused(t, b[:size])
	}
	for less := 1; less < 20; less++ {
		refused(t, b[:len(b)-less])
	}
}

// Shortened, a container may end in its own checksum: the number of bytes is the
// wrong one then.
func TestATruncatedContainerIsNoneWhateverItsChecksum(t *testing.T) {
	for _, size := range []int{3, 10, 42} {
		data := bytes.Repeat([]byte{5}, size)
		b := body(1, 1, []api.Piece{{Data: append(data, 0, 0, 0, 0)}})
		copy(b[len(b)-4:], digits(uint64(slowSum(b[:len(b)-4])), 4))
		whole := sealed(b)
		check(t, whole)
		if short := whole[:len(b)]; slowSum(short) != 0x38FB2284 {
			t.Fatalf("%x is not sealed", short)
		}
		refused(t, whole[:len(b)])
	}
}

func TestAContainerWithAShortChangeIsNone(t *testing.T) {
	r := source(6)
	for i, x := range few()[:12] {
		b := slowLay(x)
		for from := range len(b) * 8 {
			for range 2 {
				change := uint32(r.next()) | 1
				if i == 0 {
					change = math.MaxUint32
				}
				change >>= r.below(32)
				c := changed(b, from, change)
				if !bytes.Equal(c, b) {
					refused(t, c)
				}
			}
		}
	}
}

func TestAContainerWithAChangedByteIsNone(t *testing.T) {
	b := slowLay(box{9, numbered(2, 3)})
	for at := range b {
		for change := 1; change < 256; change++ {
			c := bytes.Clone(b)
			c[at] ^= byte(change)
			refused(t, c)
		}
	}
}

// changed is b with the bits changed that are 1 in change, the highest one of them
// bit from of b, counted from the most significant one of each byte on.
func changed(b []byte, from int, change uint32) []byte {
	c := bytes.Clone(b)
	for i := range 32 {
		if at := from + i; at < len(c)*8 && change<<i>>31 == 1 {
			c[at/8] ^= 128 >> (at % 8)
		}
	}
	return c
}

func TestExamples(t *testing.T) {
	if b, e := cont.Lay(7, nil); e != api.OK || len(b) != 10 || !bytes.Equal(b[:6], []byte{0, 0, 0, 7, 0, 0}) {
		t.Errorf("got %x, error %d", b, e)
	}
	if _, _, e := cont.Take(nil); e != api.ErrCont {
		t.Errorf("error %d", e)
	}
	if n := cont.Size([]api.Piece{{Data: []byte("abc")}}); n != 51 {
		t.Errorf("got %d", n)
	}
}

// The rules for all calls

// overwrite changes all memory of b, also that behind its length.
func overwrite(b []byte) {
	b = b[:cap(b)]
	for i := range b {
		b[i] ^= 255
	}
}

func TestPiecesAreLeftAlone(t *testing.T) {
	r := source(7)
	for _, most := range []int{1, 50, 4096} {
		memory := r.bytes(20 * most)
		l := r.pieces(12, 9)
		for i := range l {
			l[i].Data = memory[i*most:][:1+r.below(most)] // with memory behind it
		}
		keptMemory, kept := bytes.Clone(memory), slices.Clone(l)
		cont.Size(l[:10])
		b, e := cont.Lay(5, l[:10])
		if e != api.OK || !bytes.Equal(b, slowLay(box{5, kept[:10]})) {
			t.Errorf("error %d", e)
		}
		overwrite(b)
		if !bytes.Equal(memory, keptMemory) || !same(l, kept) {
			t.Error("the pieces became other ones")
		}
	}
}

func TestBytesAreLeftAlone(t *testing.T) {
	r := source(8)
	for _, x := range few() {
		b := append(slowLay(x), r.bytes(50)...)
		kept := bytes.Clone(b)
		for _, size := range []int{0, 5, len(b) - 60, len(b) - 51, len(b) - 50, len(b) - 49, len(b)} {
			_, l, _ := cont.Take(b[:size])
			for _, p := range l {
				overwrite(p.Data)
			}
			cont.Keys(b[:size])
			p, _ := cont.One(b[:size], 0)
			overwrite(p.Data)
			if !bytes.Equal(b, kept) {
				t.Fatalf("%d bytes: the memory became %x", size, b)
			}
		}
		if !check(t, b[:len(b)-50]) {
			t.Fatalf("%x is not a container", b[:len(b)-50])
		}
	}
}

func TestWhatIsTakenDoesNotHangOnTheBytes(t *testing.T) {
	for _, x := range few() {
		b := slowLay(x)
		_, l, _ := cont.Take(b)
		_, k, _ := cont.Keys(b)
		var ones []api.Piece
		for at := range x.l {
			p, _ := cont.One(b, at)
			ones = append(ones, p)
		}
		overwrite(b)
		if !same(l, x.l) || !same(ones, x.l) || !slices.Equal(k, keys(x.l)) {
			t.Fatalf("%v became %v, %v, %v", x.l, l, ones, k)
		}
	}
}

func TestTheDatasOfOneResultShareNoMemory(t *testing.T) {
	for _, x := range few() {
		for at := range x.l {
			_, l, _ := cont.Take(slowLay(x))
			overwrite(l[at].Data)
			l[at].Data = append(l[at].Data[:len(x.l[at].Data)], "more, so that it would reach into what lies behind"...)
			l[at] = x.l[at]
			if !same(l, x.l) {
				t.Fatalf("%v became %v with piece %d", x.l, l, at)
			}
		}
	}
}

func TestResultsShareNoMemory(t *testing.T) {
	for _, x := range few() {
		first, _ := cont.Lay(x.id, x.l)
		second, _ := cont.Lay(x.id, x.l)
		overwrite(first)
		_, l, _ := cont.Take(second)
		_, m, _ := cont.Take(second)
		_, k, _ := cont.Keys(second)
		_, o, _ := cont.Keys(second)
		clear(k)
		for at := range l {
			p, _ := cont.One(second, at)
			q, _ := cont.One(second, at)
			overwrite(p.Data)
			if !same([]api.Piece{q}, x.l[at:at+1]) {
				t.Fatalf("%v: piece %d became %v", x.l, at, q)
			}
			overwrite(l[at].Data)
		}
		clear(l)
		if !bytes.Equal(second, slowLay(x)) || !same(m, x.l) || !slices.Equal(o, keys(x.l)) {
			t.Fatalf("%v: results became %x, %v, %v", x, second, m, o)
		}
	}
}

func TestTheSameCallsReturnTheSame(t *testing.T) {
	var all [2]string
	for i := range all {
		for _, x := range few() {
			b, e := cont.Lay(x.id, x.l)
			id, l, f := cont.Take(b)
			p, g := cont.One(b, 1)
			all[i] += fmt.Sprint(b, e, id, l, f, p, g)
		}
	}
	if all[0] != all[1] {
		t.Error("they do not")
	}
}
