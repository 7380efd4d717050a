package space_test

import (
	"bytes"
	"fmt"
	"math"
	"slices"
	"testing"

	"cellarage/api"
	"cellarage/space"
)

const lowest, greatest = math.MinInt, math.MaxInt

// source makes the same numbers for the same seed.
type source uint64

func (s *source) next() uint64 {
	*s = *s*6364136223846793005 + 1442695040888963407
	return uint64(*s >> 16)
}

// below is a number from 0 to n - 1.
func (s *source) below(n int) int { return int(s.next() % uint64(n)) }

// sizes are numbers of places: all up to some words, and those at the ends.
func sizes() []int {
	l := []int{1000, 4095, 4096, 4097, 16319, 16320, 16321, 16382, 16383, 16384}
	for n := range 200 {
		l = append(l, n)
	}
	return l
}

// noPlaces are numbers of which a space with n places has no place.
func noPlaces(n int) []int {
	return []int{-1, -2, -8, -63, -64, -65, -128, lowest, lowest + 64, n, n + 1, n + 7, n + 8, n + 63, n + 64, n + 128, 16384, 16385, 1 << 32, 1<<32 + 1, greatest - 63, greatest}
}

// overwrite changes all memory of b, also that behind its length.
func overwrite(b []byte) {
	b = b[:cap(b)]
	for i := range b {
		b[i] ^= 255
	}
}

// slow is a space as the chapter tells it: of each place whether it is used.
type slow []bool

func (m slow) there(at int) bool { return at >= 0 && at < len(m) }

func (m slow) take() (int, api.Errno) {
	for at, used := range m {
		if !used {
			m[at] = true
			return at, api.OK
		}
	}
	return 0, api.ErrSpace
}

func (m slow) hold(at int) api.Errno {
	if !m.there(at) {
		return api.ErrArg
	}
	if m[at] {
		return api.ErrThere
	}
	m[at] = true
	return api.OK
}

func (m slow) free(at int) api.Errno {
	if !m.there(at) {
		return api.ErrArg
	}
	if !m[at] {
		return api.ErrNone
	}
	m[at] = false
	return api.OK
}

func (m slow) all() []int {
	var l []int
	for at, used := range m {
		if used {
			l = append(l, at)
		}
	}
	return l
}

func (m slow) bytes() []byte {
	var b []byte
	for at, used := range m {
		if at%8 == 0 {
			b = append(b, 0)
		}
		if used {
			b[len(b)-1] += 1 << (at % 8)
		}
	}
	return b
}

// same tells whether s is as m, in all that can be seen without changing it.
func (m slow) same(t *testing.T, s *space.Space) {
	t.Helper()
	all := m.all()
	if s.Len() != len(m) || s.Taken() != len(all) {
		t.Fatalf("%d of %d places are used, want %d of %d", s.Taken(), s.Len(), len(all), len(m))
	}
	if got := s.All(); !slices.Equal(got, all) {
		t.Fatalf("%d places: got %v, want %v", len(m), got, all)
	}
	if got, want := s.Bytes(), m.bytes(); !bytes.Equal(got, want) {
		t.Fatalf("%d places: got bytes %x, want %x", len(m), got, want)
	}
	for at := range m {
		if s.Has(at) != m[at] {
			t.Fatalf("%d places: has %d: %v", len(m), at, s.Has(at))
		}
	}
	for _, at := range noPlaces(len(m)) {
		if s.Has(at) {
			t.Fatalf("%d places: has %d", len(m), at)
		}
	}
}

// step does the same with a space and a slow one, and tells that it was the same.
func (m slow) step(t *testing.T, r *source, s *space.Space) {
	t.Helper()
	at := r.below(len(m)+2) - 1
	switch r.below(5) {
	case 0, 1:
		got, e := s.Take()
		want, f := m.take()
		if got != want || e != f {
			t.Fatalf("take: error %d, %d; want %d, %d", e, got, f, want)
		}
	case 2:
		if got, want := s.Hold(at), m.hold(at); got != want {
			t.Fatalf("hold of %d: error %d, want %d", at, got, want)
		}
	default:
		if got, want := s.Free(at), m.free(at); got != want {
			t.Fatalf("free of %d: error %d, want %d", at, got, want)
		}
	}
}

func made(t *testing.T, n int) *space.Space {
	t.Helper()
	s, e := space.New(n)
	if e != api.OK || s == nil {
		t.Fatalf("%d places: error %d", n, e)
	}
	return s
}

func loaded(t *testing.T, n int, b []byte) *space.Space {
	t.Helper()
	s, e := space.Load(n, b)
	if e != api.OK || s == nil {
		t.Fatalf("%d places, bytes %x: error %d", n, b, e)
	}
	return s
}

// held is a space with n places, of which these are used.
func held(t *testing.T, n int, used ...int) *space.Space {
	t.Helper()
	s := made(t, n)
	for _, at := range used {
		if e := s.Hold(at); e != api.OK {
			t.Fatalf("%d places: hold of %d: error %d", n, at, e)
		}
	}
	return s
}

func slowHeld(n int, used ...int) slow {
	m := make(slow, n)
	for _, at := range used {
		m[at] = true
	}
	return m
}

// some are places of n, none of them twice, in no order.
func (s *source) some(n int) []int {
	l := make([]int, n)
	for i := range l {
		j := s.below(i + 1)
		l[i], l[j] = l[j], i
	}
	return l[:s.below(n+1)]
}

// P9.1

func TestNewRefuses(t *testing.T) {
	for _, n := range []int{-1, -2, -8, -64, lowest, 16385, 16386, 16384 + 64, 1 << 20, 1 << 32, 1<<32 + 4, greatest} {
		if s, e := space.New(n); s != nil || e != api.ErrArg {
			t.Errorf("%d places: error %d, %v", n, e, s)
		}
	}
}

func TestANewSpaceIsFree(t *testing.T) {
	for _, n := range sizes() {
		make(slow, n).same(t, made(t, n))
	}
}

func TestTakeTakesAllInTheirOrder(t *testing.T) {
	for _, n := range sizes() {
		s, m := made(t, n), make(slow, n)
		for want := range n {
			if at, e := s.Take(); at != want || e != api.OK {
				t.Fatalf("%d places: error %d, %d, want %d", n, e, at, want)
			}
			m[want] = true
			if n < 100 {
				m.same(t, s)
			}
		}
		for range 3 {
			if at, e := s.Take(); at != 0 || e != api.ErrSpace {
				t.Errorf("%d places, all used: error %d, %d", n, e, at)
			}
			m.same(t, s)
		}
	}
}

func TestTakeFindsTheOnlyFreePlace(t *testing.T) {
	for _, n := range []int{1, 2, 8, 63, 64, 65, 127, 128, 129, 200} {
		s, m := made(t, n), make(slow, n)
		for at := range n {
			s.Hold(at)
			m[at] = true
		}
		for want := range n {
			if e := s.Free(want); e != api.OK {
				t.Fatalf("%d places: free of %d: error %d", n, want, e)
			}
			if at, e := s.Take(); at != want || e != api.OK {
				t.Fatalf("%d places: error %d, %d, want %d", n, e, at, want)
			}
			m.same(t, s)
		}
	}
}

func TestHoldTakesAnyPlace(t *testing.T) {
	for _, n := range []int{1, 7, 8, 9, 63, 64, 65, 128, 129} {
		for at := range n {
			s, m := made(t, n), make(slow, n)
			if e := s.Hold(at); e != api.OK {
				t.Fatalf("%d places: hold of %d: error %d", n, at, e)
			}
			m[at] = true
			m.same(t, s)
			for range 2 {
				if e := s.Hold(at); e != api.ErrThere {
					t.Errorf("%d places: second hold of %d: error %d", n, at, e)
				}
				m.same(t, s)
			}
		}
	}
}

func TestHoldOfTakenPlaces(t *testing.T) {
	s := made(t, 130)
	for range 129 {
		s.Take()
	}
	for at := range 129 {
		if e := s.Hold(at); e != api.ErrThere {
			t.Errorf("hold of %d: error %d", at, e)
		}
	}
	if e := s.Hold(129); e != api.OK {
		t.Errorf("hold of the last one: error %d", e)
	}
	if at, e := s.Take(); at != 0 || e != api.ErrSpace {
		t.Errorf("take: error %d, %d", e, at)
	}
}

func TestFreeMakesAnyPlaceFree(t *testing.T) {
	for _, n := range []int{1, 7, 8, 9, 63, 64, 65, 128, 129} {
		for at := range n {
			s, m := made(t, n), make(slow, n)
			for range n {
				s.Take()
				m.take()
			}
			if e := s.Free(at); e != api.OK {
				t.Fatalf("%d places: free of %d: error %d", n, at, e)
			}
			m[at] = false
			m.same(t, s)
			for range 2 {
				if e := s.Free(at); e != api.ErrNone {
					t.Errorf("%d places: second free of %d: error %d", n, at, e)
				}
				m.same(t, s)
			}
		}
	}
}

func TestFreeOfFreePlaces(t *testing.T) {
	s := made(t, 130)
	for at := range 130 {
		if e := s.Free(at); e != api.ErrNone {
			t.Errorf("free of %d: error %d", at, e)
		}
	}
	make(slow, 130).same(t, s)
}

func TestWhereThereIsNoPlace(t *testing.T) {
	for _, n := range sizes() {
		free, full := made(t, n), made(t, n)
		for range n {
			full.Take()
		}
		for _, at := range noPlaces(n) {
			if at >= 0 && at < n {
				continue
			}
			for _, s := range []*space.Space{free, full} {
				if e := s.Hold(at); e != api.ErrArg {
					t.Errorf("%d places: hold of %d: error %d", n, at, e)
				}
				if e := s.Free(at); e != api.ErrArg {
					t.Errorf("%d places: free of %d: error %d", n, at, e)
				}
				if s.Has(at) {
					t.Errorf("%d places: has %d", n, at)
				}
			}
		}
		if free.Taken() != 0 || full.Taken() != n || !bytes.Equal(free.Bytes(), make(slow, n).bytes()) {
			t.Errorf("%d places: these were changed", n)
		}
	}
}

// P9.2

func TestAllSpacesWithFewPlaces(t *testing.T) {
	for n := range 11 {
		for ones := range 1 << n {
			s, m := made(t, n), make(slow, n)
			for at := n - 1; at >= 0; at-- {
				if ones>>at&1 == 1 {
					s.Hold(at)
					m[at] = true
				}
			}
			m.same(t, s)
			m.same(t, loaded(t, n, s.Bytes()))
			got, e := s.Take()
			want, f := m.take()
			if got != want || e != f {
				t.Fatalf("%d places, %b: take: error %d, %d; want %d, %d", n, ones, e, got, f, want)
			}
			m.same(t, s)
		}
	}
}

func TestWhatTheUsedPlacesAre(t *testing.T) {
	r := source(1)
	for _, n := range sizes() {
		used := r.some(n)
		slowHeld(n, used...).same(t, held(t, n, used...))
	}
}

func TestAskingChangesNothing(t *testing.T) {
	s, m := held(t, 130, 0, 1, 63, 64, 129), slowHeld(130, 0, 1, 63, 64, 129)
	for range 3 {
		m.same(t, s)
	}
	if at, e := s.Take(); at != 2 || e != api.OK {
		t.Errorf("error %d, %d", e, at)
	}
}

// P9.3

func TestBytesOfKnownSpaces(t *testing.T) {
	for _, x := range []struct {
		n    int
		used []int
		want string
	}{
		{0, nil, ""},
		{1, nil, "\x00"},
		{1, []int{0}, "\x01"},
		{7, []int{6}, "\x40"},
		{8, []int{7}, "\x80"},
		{8, []int{0, 1, 2, 3, 4, 5, 6, 7}, "\xff"},
		{9, nil, "\x00\x00"},
		{9, []int{8}, "\x00\x01"},
		{10, []int{0, 1, 3}, "\x0b\x00"},
		{16, []int{15, 0}, "\x01\x80"},
		{17, []int{1, 9, 16}, "\x02\x02\x01"},
		{64, []int{63, 56, 8}, "\x00\x01\x00\x00\x00\x00\x00\x81"},
		{65, []int{64, 63, 0}, "\x01\x00\x00\x00\x00\x00\x00\x80\x01"},
		{75, []int{66, 74, 10}, "\x00\x04\x00\x00\x00\x00\x00\x00\x04\x04"},
	} {
		s := held(t, x.n, x.used...)
		if got := s.Bytes(); string(got) != x.want {
			t.Errorf("%d places, %v: got %x, want %x", x.n, x.used, got, x.want)
		}
		if got := loaded(t, x.n, []byte(x.want)).All(); !slices.Equal(got, slices.Sorted(slices.Values(x.used))) {
			t.Errorf("%d places, bytes %x: got %v, want %v", x.n, x.want, got, x.used)
		}
	}
}

func TestBytesOfOnePlace(t *testing.T) {
	for _, n := range []int{1, 9, 64, 65, 100, 16384} {
		for at := range n {
			if n > 1000 && at%41 > 0 && at < n-20 {
				continue // enough of those that take long
			}
			want := make([]byte, (n+7)/8)
			want[at/8] = 1 << (at % 8)
			if got := held(t, n, at).Bytes(); !bytes.Equal(got, want) {
				t.Fatalf("%d places, %d used: got %.64x", n, at, got)
			}
			if got := loaded(t, n, want).All(); !slices.Equal(got, []int{at}) {
				t.Fatalf("%d places, bytes of %d: got %v", n, at, got)
			}
		}
	}
}

func TestLoadRefusesWhatNewRefuses(t *testing.T) {
	for _, n := range []int{-1, -2, -7, -8, -64, lowest, 16385, 16384 + 8, 1 << 20, 1 << 32, 1<<32 + 8, greatest - 7, greatest} {
		for _, size := range []int{0, 1, 2, 2048, 2049} {
			if s, e := space.Load(n, make([]byte, size)); s != nil || e != api.ErrArg {
				t.Errorf("%d places, %d bytes: error %d, %v", n, size, e, s)
			}
		}
	}
}

func TestLoadRefusesAnotherNumberOfBytes(t *testing.T) {
	for _, n := range sizes() {
		need := (n + 7) / 8
		for _, size := range []int{0, 1, need - 2, need - 1, need, need + 1, need + 2, need + 8, 2 * need, 2048, 2049} {
			if size < 0 {
				continue
			}
			s, e := space.Load(n, make([]byte, size))
			if size == need && (s == nil || e != api.OK || s.Len() != n) {
				t.Errorf("%d places, %d bytes: error %d", n, size, e)
			}
			if size != need && (s != nil || e != api.ErrArg) {
				t.Errorf("%d places, %d bytes: error %d, %v", n, size, e, s)
			}
		}
	}
}

func TestLoadRefusesBitsOfNoPlace(t *testing.T) {
	for _, n := range sizes() {
		ones := slices.Repeat([]byte{255}, (n+7)/8)
		for at := range n {
			if n > 200 && at < n-20 {
				continue // enough of those that take long
			}
			b := make([]byte, len(ones))
			b[at/8] = 1 << (at % 8)
			loaded(t, n, b)
		}
		for at := n; at < 8*len(ones); at++ {
			b := make([]byte, len(ones))
			b[at/8] = 1 << (at % 8)
			if s, e := space.Load(n, b); s != nil || e != api.ErrArg {
				t.Errorf("%d places, bytes of %d: error %d, %v", n, at, e, s)
			}
		}
		s, e := space.Load(n, ones)
		if n%8 > 0 && (s != nil || e != api.ErrArg) {
			t.Errorf("%d places, bytes 255: error %d, %v", n, e, s)
		}
		if n%8 == 0 && (e != api.OK || s.Taken() != n) {
			t.Errorf("%d places, bytes 255: error %d", n, e)
		}
	}
}

func TestLoadTakesExactlyTheBytesOfSpaces(t *testing.T) {
	for n := range 17 {
		for ones := range 1 << 16 {
			b := []byte{byte(ones), byte(ones >> 8)}[:max(1, (n+7)/8)]
			if len(b) == 1 && ones > 255 {
				break
			}
			s, e := space.Load(n, b)
			if ones < 1<<n && n > 0 {
				if e != api.OK || s.Len() != n || !bytes.Equal(s.Bytes(), b) {
					t.Fatalf("%d places, bytes %x: error %d", n, b, e)
				}
			} else if s != nil || e != api.ErrArg {
				t.Fatalf("%d places, bytes %x: error %d, %v", n, b, e, s)
			}
		}
	}
}

// The chapter says nothing of a Space that New did not make: it has no places.
func TestASpaceWithoutPlaces(t *testing.T) {
	for _, s := range []*space.Space{made(t, 0), {}, loaded(t, 0, nil), loaded(t, 0, []byte{})} {
		for range 2 {
			slow{}.same(t, s)
			if at, e := s.Take(); at != 0 || e != api.ErrSpace {
				t.Errorf("take: error %d, %d", e, at)
			}
			for _, at := range append(noPlaces(0), 0, 1, 63, 64) {
				if e := s.Hold(at); e != api.ErrArg {
					t.Errorf("hold of %d: error %d", at, e)
				}
				if e := s.Free(at); e != api.ErrArg {
					t.Errorf("free of %d: error %d", at, e)
				}
			}
		}
	}
}

func TestANilSpace(t *testing.T) {
	var s *space.Space
	for range 2 {
		if at, e := s.Take(); at != 0 || e != api.ErrNone {
			t.Errorf("take: error %d, %d", e, at)
		}
		for _, at := range append(noPlaces(0), 0, 1, 63, 64) {
			if e := s.Hold(at); e != api.ErrNone {
				t.Errorf("hold of %d: error %d", at, e)
			}
			if e := s.Free(at); e != api.ErrNone {
				t.Errorf("free of %d: error %d", at, e)
			}
			if s.Has(at) {
				t.Errorf("has %d", at)
			}
		}
		if s.Len() != 0 || s.Taken() != 0 || len(s.All()) > 0 || len(s.Bytes()) > 0 {
			t.Errorf("%d places, %d used, %v, %x", s.Len(), s.Taken(), s.All(), s.Bytes())
		}
	}
}

func TestExamples(t *testing.T) {
	s := made(t, 10)
	for _, want := range []int{0, 1} {
		if at, e := s.Take(); at != want || e != api.OK {
			t.Errorf("take: error %d, %d", e, at)
		}
	}
	if e := s.Free(0); e != api.OK {
		t.Errorf("free: error %d", e)
	}
	if at, e := s.Take(); at != 0 || e != api.OK {
		t.Errorf("take: error %d, %d", e, at)
	}
	if e := s.Hold(3); e != api.OK {
		t.Errorf("hold: error %d", e)
	}
	if e := s.Hold(3); e != api.ErrThere {
		t.Errorf("second hold: error %d", e)
	}
	if b := s.Bytes(); !bytes.Equal(b, []byte{11, 0}) {
		t.Errorf("got %v", b)
	}
	if s, e := space.Load(10, []byte{11, 4}); s != nil || e != api.ErrArg {
		t.Errorf("load: error %d, %v", e, s)
	}
}

// P9.1 to P9.3

func TestASpaceIsThatOfTheChapter(t *testing.T) {
	r := source(2)
	for _, n := range append(sizes()[10:], 1000, 4097) {
		s, m := made(t, n), make(slow, n)
		for range 150 {
			m.step(t, &r, s)
			if r.below(10) == 0 {
				s = loaded(t, n, s.Bytes())
			}
			if n < 200 {
				m.same(t, s)
			}
		}
		m.same(t, s)
	}
}

// P9.4

func TestTakeTakesTheLeastFreePlaceAlone(t *testing.T) {
	r := source(3)
	for range 2000 {
		n := 1 + r.below(200)
		s := held(t, n, r.some(n)...)
		for s.Taken() < n {
			before := s.All()
			at, e := s.Take()
			if e != api.OK || slices.Contains(before, at) {
				t.Fatalf("%d places: error %d, %d behind %v", n, e, at, before)
			}
			for lesser := range at {
				if !slices.Contains(before, lesser) {
					t.Fatalf("%d places: %d, but %d was free", n, at, lesser)
				}
			}
			if got, want := s.All(), slices.Sorted(slices.Values(append(before, at))); !slices.Equal(got, want) {
				t.Fatalf("%d places: take of %d leaves %v, want %v", n, at, got, want)
			}
			if r.below(4) == 0 {
				break
			}
		}
	}
}

func TestTakeInAGreatSpace(t *testing.T) {
	for _, want := range []int{0, 63, 64, 4095, 8000, 16319, 16320, 16383} {
		s := made(t, api.MaxPlaces)
		for range api.MaxPlaces {
			s.Take()
		}
		s.Free(want)
		s.Free(16383)
		for _, want := range slices.Compact([]int{want, 16383}) {
			if at, e := s.Take(); at != want || e != api.OK {
				t.Errorf("error %d, %d, want %d", e, at, want)
			}
		}
		if at, e := s.Take(); at != 0 || e != api.ErrSpace || s.Taken() != api.MaxPlaces {
			t.Errorf("error %d, %d", e, at)
		}
	}
}

// P9.5

func TestLoadOfBytesIsTheSameSpace(t *testing.T) {
	r := source(4)
	for _, n := range sizes() {
		used := r.some(n)
		s, m := held(t, n, used...), slowHeld(n, used...)
		x := loaded(t, n, s.Bytes())
		m.same(t, x)
		for range 20 { // also in what becomes of it
			m.step(t, &r, x)
		}
		m.same(t, x)
		slowHeld(n, used...).same(t, s)
	}
}

func TestEqualSpacesHaveEqualBytes(t *testing.T) {
	r := source(5)
	for _, n := range []int{1, 2, 7, 8, 9, 63, 64, 65, 130, 1000} {
		used := r.some(n)
		s, taken := held(t, n, used...), made(t, n)
		for range n {
			taken.Take()
		}
		for at := range n { // the same space, come to in another way
			if !slices.Contains(used, at) {
				taken.Free(at)
			}
		}
		if !bytes.Equal(s.Bytes(), taken.Bytes()) {
			t.Errorf("%d places, %v: %x and %x", n, used, s.Bytes(), taken.Bytes())
		}
		for at := range n { // any place makes a difference
			other := loaded(t, n, s.Bytes())
			if other.Free(at) == api.ErrNone {
				other.Hold(at)
			}
			if bytes.Equal(s.Bytes(), other.Bytes()) {
				t.Errorf("%d places, %v: other bytes for %d", n, used, at)
			}
		}
	}
}

// The rules for all calls

func TestArgumentsAreLeftAlone(t *testing.T) {
	r := source(6)
	for _, n := range []int{1, 7, 8, 9, 64, 65, 75, 200} {
		need := (n + 7) / 8
		for _, size := range []int{need - 1, need, need + 1} {
			memory := make([]byte, 60)
			for i := range memory {
				memory[i] = byte(r.next())
			}
			copy(memory[:need], held(t, n, r.some(n)...).Bytes())
			kept := bytes.Clone(memory)
			s, e := space.Load(n, memory[:size])
			if !bytes.Equal(memory, kept) {
				t.Errorf("%d places: Load made the memory %x", n, memory)
			}
			if (size == need) != (e == api.OK) {
				t.Errorf("%d places, %d bytes: error %d", n, size, e)
			}
			if e != api.OK {
				continue
			}
			overwrite(memory)
			if !bytes.Equal(s.Bytes(), kept[:need]) {
				t.Errorf("%d places: the space keeps the memory", n)
			}
			overwrite(memory)
			s.Take()
			s.Free(0)
			if !bytes.Equal(memory, kept) {
				t.Errorf("%d places: the memory became %x", n, memory)
			}
		}
	}
}

func TestResultsAreNewMemory(t *testing.T) {
	used := []int{1, 8, 63, 64, 70}
	s, m := held(t, 75, used...), slowHeld(75, used...)
	b, again := s.Bytes(), s.Bytes()
	all, allAgain := s.All(), s.All()
	overwrite(b)
	for i := range all[:cap(all)] {
		all[:cap(all)][i] = -1
	}
	if !bytes.Equal(again, m.bytes()) || !slices.Equal(allAgain, used) {
		t.Errorf("results share memory: %x, %v", again, allAgain)
	}
	m.same(t, s)
	s.Take()
	s.Free(64)
	if !bytes.Equal(again, m.bytes()) || !slices.Equal(allAgain, used) {
		t.Errorf("later calls changed results: %x, %v", again, allAgain)
	}
}

func TestSpacesDoNotDisturbEachOther(t *testing.T) {
	r := source(7)
	var spaces [3]*space.Space
	var models [3]slow
	for i := range spaces {
		spaces[i], models[i] = made(t, 70), make(slow, 70)
	}
	for range 400 {
		i := r.below(3)
		models[i].step(t, &r, spaces[i])
		for i, m := range models {
			m.same(t, spaces[i])
		}
	}
}

func TestTheSameCallsLeaveTheSame(t *testing.T) {
	var all [2]string
	for i := range all {
		r := source(8)
		s, m := made(t, 130), make(slow, 130)
		for range 500 {
			m.step(t, &r, s)
			all[i] += fmt.Sprint(s.Bytes(), s.All(), s.Taken())
		}
	}
	if all[0] != all[1] {
		t.Error("they do not")
	}
}
