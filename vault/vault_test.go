package vault_test

import (
	"bytes"
	"fmt"
	"math"
	"slices"
	"strings"
	"testing"

	"cellarage/api"
	"cellarage/disk"
	"cellarage/vault"
)

const lowest, greatest = math.MinInt, math.MaxInt

// source makes the same numbers for the same seed.
type source uint64

func (s *source) next() uint64 {
	*s = *s*6364136223846793005 + 1442695040888963407
	return uint64(*s >> 16)
}

// below is a number from 0 to n - 1.
func (s *source) below(n int) int { return int(s.next() % uint64(n)) }

// bytes are so many, none of them 0.
func (s *source) bytes(size int) []byte {
	b := make([]byte, size)
	for i := range b {
		b[i] = byte(1 + s.next()%255)
	}
	return b
}

// size is a number of bytes for which there is room, often one at an end, or one
// with which a sector begins to be needed.
func (s *source) size(room int) int {
	switch s.below(4) {
	case 0:
		return s.below(2) * room
	case 1:
		return min(max(s.below(room/128+2)*128-4+s.below(3)-1, 0), room)
	}
	return s.below(room + 1)
}

// shape is the arguments of New behind the disk.
type shape struct{ from, each, n int }

// room is how many bytes a shelf has room for.
func (a shape) room() int { return 128*a.each - 4 }

// made is the vault of that shape.
func made(t *testing.T, d *disk.Disk, a shape) *vault.Vault {
	t.Helper()
	v, e := vault.New(d, a.from, a.each, a.n)
	if e != api.OK || v == nil {
		t.Fatalf("%v for %d sectors: error %d", a, d.Size(), e)
	}
	return v
}

// filled is a disk of n safe sectors, each of other bytes, none of them 0.
func filled(t *testing.T, n int) *disk.Disk {
	t.Helper()
	d, e := disk.New(n)
	if e != api.OK {
		t.Fatalf("%d sectors: error %d", n, e)
	}
	s := source(n)
	for at := range n {
		write(t, d, at, string(s.bytes(128)))
	}
	d.Flush()
	return d
}

func write(t *testing.T, d *disk.Disk, at int, b string) {
	t.Helper()
	if e := d.Write(at, []byte(b)); e != api.OK {
		t.Fatalf("write to sector %d: error %d", at, e)
	}
}

// sectors are all of a disk as they were written last.
func sectors(t *testing.T, d *disk.Disk) []string {
	t.Helper()
	var all []string
	for at := range d.Size() {
		b, e := d.Read(at)
		if e != api.OK {
			t.Fatalf("read of sector %d: error %d", at, e)
		}
		all = append(all, string(b))
	}
	return all
}

// holds tells whether a disk has these sectors.
func holds(t *testing.T, d *disk.Disk, want []string) {
	t.Helper()
	for at, got := range sectors(t, d) {
		if got != want[at] {
			t.Fatalf("sector %d: got %.40q, want %.40q", at, got, want[at])
		}
	}
}

// counts tells what a disk tells of itself.
func counts(t *testing.T, d *disk.Disk, pending, done int, dead bool) {
	t.Helper()
	if d.Pending() != pending || d.Done() != done || d.Dead() != dead {
		t.Fatalf("pending %d, done %d, dead %v; want %d, %d, %v", d.Pending(), d.Done(), d.Dead(), pending, done, dead)
	}
}

func put(t *testing.T, v *vault.Vault, at int, b string) {
	t.Helper()
	if e := v.Put(at, []byte(b)); e != api.OK {
		t.Fatalf("%d bytes to shelf %d: error %d", len(b), at, e)
	}
}

// gets tells whether a shelf has these bytes.
func gets(t *testing.T, v *vault.Vault, at int, want string) {
	t.Helper()
	if got, e := v.Get(at); e != api.OK || string(got) != want {
		t.Fatalf("shelf %d: error %d, %d bytes %.40q; want %d bytes %.40q", at, e, len(got), got, len(want), want)
	}
}

// refuses tells whether Get returns an error, and nothing else.
func refuses(t *testing.T, v *vault.Vault, at int, want api.Errno) {
	t.Helper()
	if got, e := v.Get(at); e != want || len(got) > 0 {
		t.Fatalf("shelf %d: error %d, %.40q; want error %d", at, e, got, want)
	}
}

// number are the four bytes of n, the most significant one first.
func number(n int) string {
	return string([]byte{byte(n >> 24), byte(n >> 16), byte(n >> 8), byte(n)})
}

// needed are the sectors that Put writes for b, as the chapter tells them.
func needed(b string) []string {
	var l []string
	for b = number(len(b)) + b; len(b) > 128; b = b[128:] {
		l = append(l, b[:128])
	}
	return append(l, b+strings.Repeat("\x00", 128-len(b)))
}

// slowPut changes all sectors of a disk as Put of b to a shelf does.
func slowPut(all []string, a shape, at int, b string) {
	copy(all[a.from+at*a.each:], needed(b))
}

// slowGet is the bytes of a shelf, looked up in all sectors of a disk.
func slowGet(all []string, a shape, at int) (string, api.Errno) {
	from := a.from + at*a.each
	shelf := strings.Join(all[from:from+a.each], "")
	for size := range a.room() + 1 {
		if number(size) == shelf[:4] {
			return shelf[4 : 4+size], api.OK
		}
	}
	return "", api.ErrCont
}

// overwrite changes all memory of b, also that behind its length.
func overwrite(b []byte) {
	b = b[:cap(b)]
	for i := range b {
		b[i] ^= 255
	}
}

// outside are numbers of which n shelves have none.
func outside(n int) []int {
	return []int{-1, -2, -n - 1, lowest, lowest + 1, n, n + 1, n + 256, 1 << 32, 1 << 62, 1<<62 + 1, greatest}
}

// P12.1

func TestNewRefuses(t *testing.T) {
	for _, x := range []struct {
		size int
		of   shape
	}{
		{8, shape{-1, 1, 1}}, {8, shape{-1, 1, 0}}, {8, shape{-8, 1, 1}}, {8, shape{lowest, 1, 1}}, {8, shape{lowest, 1, 0}},
		{8, shape{9, 1, 0}}, {8, shape{10, 1, 1}}, {8, shape{greatest, 1, 0}}, {8, shape{1 << 32, 1, 0}}, {0, shape{1, 1, 0}},
		{8, shape{0, 0, 1}}, {8, shape{0, 0, 0}}, {8, shape{0, -1, 1}}, {8, shape{0, -1, 0}}, {8, shape{0, lowest, 0}}, {8, shape{0, lowest, 2}},
		{8, shape{0, 16385, 0}}, {16384, shape{0, 16385, 0}}, {16384, shape{0, 16385, 1}}, {8, shape{0, greatest, 0}}, {8, shape{0, 1 << 32, 0}},
		{8, shape{0, 1, -1}}, {8, shape{8, 1, -1}}, {8, shape{0, 1, lowest}}, {8, shape{0, 8, -8}}, {8, shape{0, -1, -1}}, {8, shape{0, -2, -4}},
		{8, shape{0, 1, 9}}, {8, shape{0, 3, 3}}, {8, shape{0, 9, 1}}, {8, shape{1, 1, 8}}, {8, shape{1, 2, 4}}, {8, shape{2, 7, 1}},
		{8, shape{8, 1, 1}}, {8, shape{7, 2, 1}}, {7, shape{2, 2, 3}}, {0, shape{0, 1, 1}}, {16384, shape{1, 16384, 1}}, {16384, shape{0, 16384, 2}},
		// n times each is 0, 1 or less than 0 modulo 2^32 or 2^64
		{8, shape{0, 16384, 1 << 18}}, {8, shape{0, 16384, 1 << 17}}, {8, shape{0, 16384, 1 << 50}}, {8, shape{0, 16384, 1 << 49}}, {8, shape{0, 2, 1 << 62}},
		{8, shape{0, 4, 1 << 62}}, {8, shape{0, 8, 1 << 61}}, {8, shape{0, 2, greatest}}, {8, shape{0, 1, greatest}}, {8, shape{8, 16384, greatest}},
		{8, shape{0, 3, 0x5555555555555556}}, {8, shape{0, 3, 6148914691236517205}}, {8, shape{0, 1 << 62, 1 << 62}},
	} {
		d := filled(t, x.size)
		if v, e := vault.New(d, x.of.from, x.of.each, x.of.n); v != nil || e != api.ErrArg {
			t.Errorf("%v for %d sectors: error %d, %v", x.of, x.size, e, v)
		}
		counts(t, d, 0, x.size+1, false)
	}
}

func TestNewWithoutADisk(t *testing.T) {
	for _, from := range []int{-1, 0, 1, lowest, greatest} {
		for _, each := range []int{-1, 0, 1, 16384, 16385, lowest, greatest} {
			for _, n := range []int{-1, 0, 1, lowest, greatest} {
				if v, e := vault.New(nil, from, each, n); v != nil || e != api.ErrNone {
					t.Errorf("%d, %d, %d: error %d, %v", from, each, n, e, v)
				}
			}
		}
	}
}

func TestNewAtTheEnds(t *testing.T) {
	for _, x := range []struct {
		size int
		of   shape
	}{
		{0, shape{0, 1, 0}}, {0, shape{0, 16384, 0}}, {8, shape{8, 1, 0}}, {8, shape{8, 16384, 0}}, {8, shape{0, 16384, 0}},
		{8, shape{0, 1, 8}}, {8, shape{0, 8, 1}}, {8, shape{7, 1, 1}}, {8, shape{2, 2, 3}}, {8, shape{1, 2, 3}}, {8, shape{2, 6, 1}},
		{16384, shape{0, 16384, 1}}, {16384, shape{0, 1, 16384}}, {16384, shape{16384, 1, 0}}, {16384, shape{16383, 1, 1}}, {16384, shape{1, 16383, 1}},
	} {
		v := made(t, filled(t, x.size), x.of)
		if v.Room() != x.of.room() || v.Len() != x.of.n {
			t.Errorf("%v for %d sectors: room %d, %d shelves", x.of, x.size, v.Room(), v.Len())
		}
		for at := range v.Len() {
			if at < 2 || at > v.Len()-3 {
				put(t, v, at, strings.Repeat(fmt.Sprint(at%10), v.Room()))
			}
		}
		for at := range v.Len() {
			if at < 2 || at > v.Len()-3 {
				gets(t, v, at, strings.Repeat(fmt.Sprint(at%10), v.Room()))
			}
		}
		for _, at := range outside(v.Len()) {
			refuses(t, v, at, api.ErrArg)
		}
	}
}

func TestNewOfSmallNumbers(t *testing.T) {
	for size := range 7 {
		d := filled(t, size)
		for from := -1; from <= 8; from++ {
			for each := -1; each <= 8; each++ {
				for n := -1; n <= 8; n++ {
					want := api.ErrArg
					if from >= 0 && from <= size && each >= 1 && n >= 0 && from+n*each <= size {
						want = api.OK
					}
					v, e := vault.New(d, from, each, n)
					if e != want || (v != nil) != (want == api.OK) {
						t.Fatalf("%d sectors, %d, %d, %d: error %d, want %d", size, from, each, n, e, want)
					}
					if v != nil && (v.Room() != 128*each-4 || v.Len() != n) {
						t.Fatalf("%d sectors, %d, %d, %d: room %d, %d shelves", size, from, each, n, v.Room(), v.Len())
					}
				}
			}
		}
	}
}

func TestNewReadsAndWritesNothing(t *testing.T) {
	d := filled(t, 8)
	write(t, d, 3, "abc")
	before := sectors(t, d)
	d.Cut(0)
	v := made(t, d, shape{2, 2, 3})
	v.Room()
	v.Len()
	counts(t, d, 1, 10, false)
	holds(t, d, before)
	if e := d.Flush(); e != api.ErrDead {
		t.Fatalf("flush: error %d", e)
	}
	w := made(t, d, shape{1, 3, 2}) // also while the power is off
	if w.Room() != 380 || w.Len() != 2 || v.Room() != 252 || v.Len() != 3 {
		t.Errorf("rooms %d, %d; %d, %d shelves", w.Room(), v.Room(), w.Len(), v.Len())
	}
	if x, e := vault.New(d, 2, 2, 4); x != nil || e != api.ErrArg {
		t.Errorf("error %d, %v", e, x)
	}
	d.Crash([]int{128})
	holds(t, d, before)
}

// P12.2

func TestPutOfKnownBytes(t *testing.T) {
	d := filled(t, 8)
	v := made(t, d, shape{2, 2, 3})
	want := sectors(t, d)
	for _, x := range []struct {
		at     int
		b      string
		sector int
		want   string
	}{
		{1, "abc", 4, "\x00\x00\x00\x03abc" + strings.Repeat("\x00", 121)},
		{2, "", 6, strings.Repeat("\x00", 128)},
		{0, "\xff\x00\x01", 2, "\x00\x00\x00\x03\xff\x00\x01" + strings.Repeat("\x00", 121)},
		{2, strings.Repeat("x", 124), 6, "\x00\x00\x00\x7c" + strings.Repeat("x", 124)},
		{1, "", 4, strings.Repeat("\x00", 128)},
	} {
		put(t, v, x.at, x.b)
		want[x.sector] = x.want
		holds(t, d, want)
		gets(t, v, x.at, x.b)
	}
	counts(t, d, 5, 14, false)
	put(t, v, 0, strings.Repeat("y", 124)+"z")
	want[2], want[3] = "\x00\x00\x00\x7d"+strings.Repeat("y", 124), "z"+strings.Repeat("\x00", 127)
	holds(t, d, want)
	counts(t, d, 7, 16, false)
	put(t, v, 2, strings.Repeat("y", 252))
	want[6], want[7] = "\x00\x00\x00\xfc"+strings.Repeat("y", 124), strings.Repeat("y", 128)
	holds(t, d, want)
	counts(t, d, 9, 18, false)
}

func TestPutOfEverySize(t *testing.T) {
	s := source(1)
	for each := 1; each <= 5; each++ {
		a := shape{1, each, 3}
		d := filled(t, 3*each+2)
		v := made(t, d, a)
		for size := range a.room() + 1 {
			c := d.Copy()
			b := string(s.bytes(size))
			w := made(t, c, a)
			put(t, w, 1, b)
			want := sectors(t, d)
			slowPut(want, a, 1, b)
			holds(t, c, want)
			gets(t, w, 1, b)
		}
		before := sectors(t, d)
		for _, more := range []int{1, 2, 3, 4, 5, 127, 128, 129, 1000, 1 << 17} {
			if e := v.Put(1, s.bytes(a.room()+more)); e != api.ErrLong {
				t.Errorf("each %d, %d more: error %d", each, more, e)
			}
		}
		holds(t, d, before)
		counts(t, d, 0, 3*each+3, false)
	}
}

func TestPutOfGreatSizes(t *testing.T) {
	s := source(2)
	d := filled(t, api.MaxSectors)
	a := shape{0, api.MaxSectors, 1}
	v := made(t, d, a)
	for _, size := range []int{2097148, 65532, 65535, 65536, 65537, 0x10203} {
		b := string(s.bytes(size))
		want := sectors(t, d)
		slowPut(want, a, 0, b)
		put(t, v, 0, b)
		holds(t, d, want)
		gets(t, v, 0, b)
	}
	before, done := sectors(t, d), d.Done()
	if e := v.Put(0, s.bytes(2097149)); e != api.ErrLong {
		t.Errorf("error %d", e)
	}
	holds(t, d, before)
	if d.Done() != done {
		t.Errorf("it wrote")
	}
}

func TestPutRefusesShelves(t *testing.T) {
	for _, a := range []shape{{2, 2, 3}, {8, 1, 0}, {0, 8, 1}, {0, 1, 5}} {
		d := filled(t, 8)
		v := made(t, d, a)
		before := sectors(t, d)
		d.Cut(0) // ErrArg is ahead of ErrDead, and the power does not go off
		for _, at := range outside(a.n) {
			for _, size := range []int{0, 1, a.room(), a.room() + 1, 5000} { // and ahead of ErrLong
				if e := v.Put(at, make([]byte, size)); e != api.ErrArg {
					t.Errorf("%v: %d bytes to shelf %d: error %d", a, size, at, e)
				}
			}
		}
		counts(t, d, 0, 9, false)
		holds(t, d, before)
		for at := range a.n {
			if e := v.Put(at, make([]byte, a.room()+1)); e != api.ErrLong {
				t.Errorf("%v: shelf %d: error %d", a, at, e)
			}
		}
		counts(t, d, 0, 9, false)
		d.Flush()
		for _, at := range outside(a.n) {
			if e := v.Put(at, make([]byte, 5000)); e != api.ErrArg {
				t.Errorf("%v: shelf %d without power: error %d", a, at, e)
			}
		}
		for at := range a.n {
			if e := v.Put(at, make([]byte, a.room()+1)); e != api.ErrLong {
				t.Errorf("%v: shelf %d without power: error %d", a, at, e)
			}
			if e := v.Put(at, make([]byte, a.room())); e != api.ErrDead {
				t.Errorf("%v: shelf %d without power: error %d", a, at, e)
			}
		}
		d.Crash(nil)
		holds(t, d, before)
	}
}

func TestPutFlushesNothing(t *testing.T) {
	s := source(3)
	for _, size := range []int{0, 1, 124, 125, 252, 253, 380} {
		d := filled(t, 10)
		a := shape{2, 3, 2}
		v := made(t, d, a)
		before := sectors(t, d)
		write(t, d, 0, "abc")
		b := string(s.bytes(size))
		put(t, v, 1, b)
		many := len(needed(b))
		counts(t, d, 1+many, 12+many, false)
		d.Crash(nil)
		holds(t, d, before)
	}
}

func TestPutWritesFromTheFirstSectorOn(t *testing.T) {
	s := source(4)
	a := shape{1, 4, 2}
	for _, size := range []int{0, 124, 125, 380, 381, 508} {
		b := string(s.bytes(size))
		for there := range len(needed(b)) + 1 {
			d := filled(t, 10)
			want := sectors(t, d)
			put(t, made(t, d, a), 1, b)
			var fates []int
			for range there {
				fates = append(fates, 128)
			}
			d.Crash(fates)
			copy(want[5:], needed(b)[:there])
			holds(t, d, want)
		}
	}
}

func TestPutEndsWhenThePowerGoesOff(t *testing.T) {
	s := source(5)
	a := shape{1, 4, 2}
	for _, size := range []int{0, 1, 124, 125, 380, 381, 508} {
		b := string(s.bytes(size))
		many := len(needed(b))
		for after := range many + 2 {
			d := filled(t, 10)
			want := sectors(t, d)
			d.Cut(after)
			there, fault := min(after, many), api.OK
			if after < many {
				fault = api.ErrDead
			}
			v := made(t, d, a)
			if e := v.Put(1, []byte(b)); e != fault {
				t.Fatalf("%d bytes, power for %d: error %d, want %d", size, after, e, fault)
			}
			counts(t, d, there, 11+there, after < many)
			if after < many {
				if e := v.Put(0, nil); e != api.ErrDead {
					t.Fatalf("put without power: error %d", e)
				}
				refuses(t, v, 0, api.ErrDead)
			}
			d.Crash([]int{128, 128, 128, 128, 128})
			copy(want[5:], needed(b)[:there])
			holds(t, d, want)
			put(t, v, 1, b) // the power is on again
			gets(t, v, 1, b)
		}
	}
}

func TestPutOfNothing(t *testing.T) {
	for _, b := range [][]byte{nil, {}} {
		d := filled(t, 4)
		want := sectors(t, d)
		v := made(t, d, shape{0, 2, 2})
		if e := v.Put(1, b); e != api.OK {
			t.Errorf("error %d", e)
		}
		want[2] = strings.Repeat("\x00", 128)
		holds(t, d, want)
		counts(t, d, 1, 6, false)
		gets(t, v, 1, "")
	}
}

func TestPutNeitherChangesNorKeepsItsArgument(t *testing.T) {
	s := source(6)
	for _, size := range []int{0, 3, 124, 125, 252} {
		all := s.bytes(400)
		before := bytes.Clone(all)
		d := filled(t, 6)
		v := made(t, d, shape{1, 2, 2})
		b := all[20 : 20+size]
		if e := v.Put(1, b); e != api.OK {
			t.Fatalf("%d bytes: error %d", size, e)
		}
		if !bytes.Equal(all, before) {
			t.Errorf("%d bytes: changed", size)
		}
		overwrite(b)
		gets(t, v, 1, string(before[20:20+size])) // what lies behind b was not read, nor kept
	}
}

// P12.3

func TestGetRefuses(t *testing.T) {
	for _, a := range []shape{{2, 2, 3}, {8, 1, 0}, {0, 8, 1}, {0, 1, 5}} {
		d := filled(t, 8) // no shelf has a length that may be
		v := made(t, d, a)
		for _, at := range outside(a.n) {
			refuses(t, v, at, api.ErrArg)
		}
		for at := range a.n {
			refuses(t, v, at, api.ErrCont)
		}
		d.Cut(0)
		d.Flush()
		for _, at := range outside(a.n) {
			refuses(t, v, at, api.ErrArg) // ahead of ErrDead
		}
		for at := range a.n {
			refuses(t, v, at, api.ErrDead) // ahead of ErrCont
		}
		d.Crash(nil)
		for at := range a.n {
			put(t, v, at, "abc")
			gets(t, v, at, "abc")
		}
	}
}

func TestGetOfEveryLength(t *testing.T) {
	s := source(7)
	for each := 1; each <= 3; each++ {
		a := shape{1, each, 3}
		d := filled(t, 3*each+2)
		v := made(t, d, a)
		behind := string(s.bytes(124))
		for size := range a.room() + 400 {
			write(t, d, 1+each, number(size)+behind)
			want, fault := slowGet(sectors(t, d), a, 1)
			if got, e := v.Get(1); e != fault || string(got) != want {
				t.Fatalf("each %d, length %d: error %d, %d bytes; want %d, %d bytes", each, size, e, len(got), fault, len(want))
			}
		}
		for _, size := range []int{a.room() + 1, 65536, 1 << 24, 1<<24 + 1, 1 << 31, 1<<31 - 1, 1<<32 - 1, 1<<32 - 4, 1<<32 - 3, 1<<32 - 128} {
			write(t, d, 1+each, number(size)+behind)
			refuses(t, v, 1, api.ErrCont)
			write(t, d, 1+each, number(size))
			refuses(t, v, 1, api.ErrCont)
		}
	}
}

func TestGetOfShelvesThatWereNotWritten(t *testing.T) {
	d, _ := disk.New(8)
	v := made(t, d, shape{2, 2, 3})
	for at := range 3 {
		gets(t, v, at, "")
	}
}

func TestGetChangesNothing(t *testing.T) {
	s := source(8)
	d := filled(t, 8)
	v := made(t, d, shape{2, 2, 3})
	b := string(s.bytes(252))
	put(t, v, 0, b)
	put(t, v, 2, "abc")
	d.Flush()
	write(t, d, 0, "x")
	before, done := sectors(t, d), d.Done()
	d.Cut(0)
	for range 3 {
		gets(t, v, 0, b)
		refuses(t, v, 1, api.ErrCont)
		gets(t, v, 2, "abc")
		refuses(t, v, 3, api.ErrArg)
		counts(t, d, 1, done, false)
	}
	holds(t, d, before)
}

func TestGetReturnsNewMemory(t *testing.T) {
	s := source(9)
	for _, size := range []int{1, 3, 100, 124, 125, 253, 380} {
		d := filled(t, 8)
		v := made(t, d, shape{1, 3, 2})
		b := string(s.bytes(size))
		put(t, v, 1, b)
		before := sectors(t, d)
		first, e := v.Get(1)
		second, f := v.Get(1)
		if e != api.OK || f != api.OK || string(first) != b {
			t.Fatalf("%d bytes: errors %d, %d", size, e, f)
		}
		overwrite(first)
		if string(second) != b {
			t.Errorf("%d bytes: results share memory", size)
		}
		holds(t, d, before)
		gets(t, v, 1, b)
		put(t, v, 1, string(s.bytes(380)))
		if string(second) != b {
			t.Errorf("%d bytes: a later call changed a result", size)
		}
	}
}

func TestWithoutAVault(t *testing.T) {
	for _, v := range []*vault.Vault{nil, {}} { // the chapter says nothing of a Vault that New did not make
		if v.Room() != 0 || v.Len() != 0 {
			t.Errorf("room %d, %d shelves", v.Room(), v.Len())
		}
		for _, at := range []int{-1, 0, 1, lowest, greatest} {
			for _, b := range [][]byte{nil, {1}, make([]byte, 5000)} {
				if e := v.Put(at, b); e != api.ErrNone {
					t.Errorf("%d bytes to shelf %d: error %d", len(b), at, e)
				}
			}
			refuses(t, v, at, api.ErrNone)
		}
	}
}

// P12.4

// step takes a step on a disk with the vaults of these shapes, and on all its
// sectors as they should be: now, and behind a crash.
func step(t *testing.T, s *source, d *disk.Disk, l []shape, now, safe []string) {
	t.Helper()
	a := l[s.below(len(l))]
	v := made(t, d, a)
	switch at := s.below(a.n); s.below(10) {
	case 0:
		sector := s.below(len(now))
		b := string(s.bytes(128))
		if s.below(2) == 0 {
			b = number(s.below(400)) + b[4:]
		}
		write(t, d, sector, b)
		now[sector] = b
	case 1:
		d.Flush()
		copy(safe, now)
	case 2:
		d.Crash(nil)
		copy(now, safe)
	default:
		b := string(s.bytes(s.size(a.room())))
		put(t, v, at, b)
		slowPut(now, a, at, b)
		gets(t, v, at, b)
	}
}

func TestNothingElseIsChanged(t *testing.T) {
	s := source(10)
	l := []shape{{1, 2, 3}, {7, 3, 4}, {20, 1, 6}, {26, 5, 1}} // beside each other, with a sector ahead of them and others behind
	d := filled(t, 34)
	now, safe := sectors(t, d), sectors(t, d)
	for range 2000 {
		step(t, &s, d, l, now, safe)
		holds(t, d, now)
		for _, a := range l {
			v := made(t, d, a)
			for at := range a.n {
				want, fault := slowGet(now, a, at)
				if got, e := v.Get(at); e != fault || string(got) != want {
					t.Fatalf("%v, shelf %d: error %d, %.40q; want %d, %.40q", a, at, e, got, fault, want)
				}
			}
		}
	}
}

func TestAllShelvesKeepWhatWasPut(t *testing.T) {
	s := source(11)
	for _, a := range []shape{{2, 3, 6}, {0, 1, 20}, {3, 2, 8}, {0, 20, 1}, {1, 19, 1}} {
		d := filled(t, 20)
		v := made(t, d, a)
		want := make([]string, a.n)
		for at := range a.n {
			want[at] = string(s.bytes(s.size(a.room())))
			put(t, v, at, want[at])
		}
		for range 200 {
			at := s.below(a.n)
			want[at] = string(s.bytes(s.size(a.room())))
			put(t, v, at, want[at])
			for i, b := range want {
				gets(t, v, i, b)
			}
		}
		d.Flush()
		d.Crash(nil)
		w := made(t, d, a) // another vault has the same shelves
		for i, b := range want {
			gets(t, v, i, b)
			gets(t, w, i, b)
		}
	}
}

func TestTheSameCallsLeaveTheSame(t *testing.T) {
	var all [2][]string
	for i := range all {
		s := source(12)
		d := filled(t, 20)
		now, safe := sectors(t, d), sectors(t, d)
		for range 300 {
			step(t, &s, d, []shape{{1, 2, 4}, {9, 3, 3}}, now, safe)
			all[i] = append(all[i], strings.Join(sectors(t, d), "")+fmt.Sprint(d.Pending(), d.Done()))
		}
	}
	if !slices.Equal(all[0], all[1]) {
		t.Error("they do not")
	}
}

// P12.5

func TestPutWritesAsManySectorsAsAreNeeded(t *testing.T) {
	for each := 1; each <= 6; each++ {
		a := shape{2, each, 2}
		d := filled(t, 15)
		v := made(t, d, a)
		for size := range a.room() + 1 {
			want := (size + 4) / 128
			if (size+4)%128 > 0 {
				want++
			}
			done := d.Done()
			if e := v.Put(size%2, make([]byte, size)); e != api.OK || d.Done() != done+want || d.Pending() != want {
				t.Fatalf("each %d, %d bytes: error %d, %d writes, want %d", each, size, e, d.Done()-done, want)
			}
			d.Flush()
		}
	}
}
