package disk_test

import (
	"bytes"
	"fmt"
	"math"
	"slices"
	"strings"
	"testing"

	"cellarage/api"
	"cellarage/disk"
)

const lowest, greatest = math.MinInt, math.MaxInt

// source makes the same numbers for the same seed.
type source uint64

func (s *source) next() uint64 {
	*s = *s*6364136223846793005 + 1442695040888963407
	return uint64(*s >> 16)
}

// below is a number from 0 to n - 1.
func (s *source) below(n int) int { return int(s.next() % uint64(n)) }

// bytes are so many, none of them 0.
func (s *source) bytes(size int) []byte {
	b := make([]byte, size)
	for i := range b {
		b[i] = byte(1 + s.next()%255)
	}
	return b
}

// size is a number of bytes that a sector has room for, often one at the ends.
func (s *source) size() int {
	if l := []int{0, 1, 2, 126, 127, 128}; s.below(3) == 0 {
		return l[s.below(len(l))]
	}
	return s.below(129)
}

// fate is any number, often one at the ends of what makes a difference.
func (s *source) fate() int {
	if l := []int{lowest, -128, -1, 0, 1, 127, 128, 129, greatest}; s.below(2) == 0 {
		return l[s.below(len(l))]
	}
	return s.below(129)
}

func (s *source) fates(many int) []int {
	l := make([]int, many)
	for i := range l {
		l[i] = s.fate()
	}
	return l
}

// padded is b with bytes 0 behind it, as many as a sector has room for.
func padded(b string) string { return b + strings.Repeat("\x00", 128-len(b)) }

// torn is a sector of which the first fate bytes are those of new.
func torn(old, new string, fate int) string {
	switch {
	case fate <= 0:
		return old
	case fate >= 128:
		return new
	}
	return new[:fate] + old[fate:]
}

func made(t *testing.T, n int) *disk.Disk {
	t.Helper()
	d, e := disk.New(n)
	if e != api.OK || d == nil {
		t.Fatalf("%d sectors: error %d", n, e)
	}
	return d
}

func write(t *testing.T, d *disk.Disk, at int, b string) {
	t.Helper()
	if e := d.Write(at, []byte(b)); e != api.OK {
		t.Fatalf("write of %q to sector %d: error %d", b, at, e)
	}
}

func flush(t *testing.T, d *disk.Disk) {
	t.Helper()
	if e := d.Flush(); e != api.OK {
		t.Fatalf("flush: error %d", e)
	}
}

func read(t *testing.T, d *disk.Disk, at int) string {
	t.Helper()
	b, e := d.Read(at)
	if e != api.OK || len(b) != 128 {
		t.Fatalf("read of sector %d: error %d, %d bytes", at, e, len(b))
	}
	return string(b)
}

// holds tells of each sector what it is, without the bytes 0 behind it.
func holds(t *testing.T, d *disk.Disk, want ...string) {
	t.Helper()
	if d.Size() != len(want) {
		t.Fatalf("%d sectors, want %d", d.Size(), len(want))
	}
	for at, w := range want {
		if got := read(t, d, at); got != padded(w) {
			t.Errorf("sector %d: got %q, want %q", at, strings.TrimRight(got, "\x00"), w)
		}
	}
}

// counts tells what a disk tells of itself.
func counts(t *testing.T, d *disk.Disk, pending, done int, dead bool) {
	t.Helper()
	if d.Pending() != pending || d.Done() != done || d.Dead() != dead {
		t.Errorf("pending %d, done %d, dead %v; want %d, %d, %v", d.Pending(), d.Done(), d.Dead(), pending, done, dead)
	}
}

// overwrite changes all memory of b, also that behind its length.
func overwrite(b []byte) {
	b = b[:cap(b)]
	for i := range b {
		b[i] ^= 255
	}
}

// slow is a disk as the chapter tells it, which keeps only what is safe, and in
// which order the rest was written.
type slow struct {
	safe    []string
	at      []int
	written []string
	dead    bool
	until   int // how many operations will have been done when the power goes off; -1 if it does not
	done    int
}

func slowNew(n int) *slow {
	m := &slow{until: -1}
	for range n {
		m.safe = append(m.safe, padded(""))
	}
	return m
}

// after is the sectors behind a crash with these fates.
func (m *slow) after(fates []int) []string {
	all := slices.Clone(m.safe)
	for i, at := range m.at {
		fate := 0
		if i < len(fates) {
			fate = fates[i]
		}
		all[at] = torn(all[at], m.written[i], fate)
	}
	return all
}

func (m *slow) whole() []string {
	var fates []int
	for range m.at {
		fates = append(fates, 128)
	}
	return m.after(fates)
}

func (m *slow) operate() api.Errno {
	m.dead = m.dead || m.until == m.done
	if m.dead {
		return api.ErrDead
	}
	m.done++
	return api.OK
}

func (m *slow) write(at int, b []byte) api.Errno {
	if at < 0 || at >= len(m.safe) || len(b) > 128 {
		return api.ErrArg
	}
	e := m.operate()
	if e == api.OK {
		m.at, m.written = append(m.at, at), append(m.written, padded(string(b)))
	}
	return e
}

func (m *slow) flush() api.Errno {
	e := m.operate()
	if e == api.OK {
		m.safe, m.at, m.written = m.whole(), nil, nil
	}
	return e
}

func (m *slow) read(at int) (string, api.Errno) {
	if at < 0 || at >= len(m.safe) {
		return "", api.ErrArg
	}
	if m.dead {
		return "", api.ErrDead
	}
	return m.whole()[at], api.OK
}

func (m *slow) cut(after int) {
	if m.dead {
		return
	}
	m.until = -1
	if after >= 0 {
		m.until = m.done + after
	}
}

func (m *slow) crash(fates []int) {
	m.safe, m.at, m.written = m.after(fates), nil, nil
	m.dead, m.until = false, -1
}

func (m *slow) copy() *slow {
	c := *m
	c.safe, c.at, c.written = slices.Clone(m.safe), slices.Clone(m.at), slices.Clone(m.written)
	return &c
}

// same tells whether d is as m, as far as can be seen now.
func (m *slow) same(t *testing.T, d *disk.Disk) {
	t.Helper()
	counts(t, d, len(m.at), m.done, m.dead)
	if d.Size() != len(m.safe) {
		t.Fatalf("%d sectors, want %d", d.Size(), len(m.safe))
	}
	for at := -1; at <= len(m.safe); at++ {
		b, got := d.Read(at)
		s, want := m.read(at)
		if got != want || string(b) != s {
			t.Fatalf("read of sector %d: error %d, %q; want %d, %q", at, got, b, want, s)
		}
	}
}

// P8.1

func TestNewRefuses(t *testing.T) {
	for _, n := range []int{-1, -2, -128, lowest, 16385, 16386, 1 << 20, 1 << 32, 1<<32 + 4, greatest} {
		if d, e := disk.New(n); d != nil || e != api.ErrArg {
			t.Errorf("%d sectors: error %d, %v", n, e, d)
		}
	}
}

func TestANewDiskIsOfBytesZero(t *testing.T) {
	for _, n := range []int{0, 1, 2, 3, 100, 16383, 16384} {
		d := made(t, n)
		counts(t, d, 0, 0, false)
		holds(t, d, make([]string, n)...)
		d.Crash([]int{128, 1}) // all is safe
		holds(t, d, make([]string, n)...)
		counts(t, d, 0, 0, false)
		if n > 0 {
			write(t, d, n-1, "abc")
			write(t, d, 0, "de")
			flush(t, d)
			counts(t, d, 0, 3, false)
		}
	}
}

func TestADiskWithoutSectors(t *testing.T) {
	for _, d := range []*disk.Disk{made(t, 0), {}} { // the chapter says nothing of a Disk that New did not make
		for range 2 {
			for _, at := range []int{-1, 0, 1} {
				if b, e := d.Read(at); len(b) > 0 || e != api.ErrArg {
					t.Errorf("read of sector %d: error %d, %q", at, e, b)
				}
				if e := d.Write(at, nil); e != api.ErrArg {
					t.Errorf("write to sector %d: error %d", at, e)
				}
			}
			flush(t, d)
			c := d.Copy()
			c.Cut(0)
			if e := c.Flush(); e != api.ErrDead || !c.Dead() || d.Dead() {
				t.Errorf("flush behind a cut: error %d", e)
			}
			d.Crash([]int{1})
			flush(t, d)
		}
		counts(t, d, 0, 4, false)
	}
}

func TestWriteRefuses(t *testing.T) {
	d := made(t, 3)
	write(t, d, 0, "abc")
	for _, at := range []int{-1, -3, lowest, 3, 4, 128, 1 << 32, greatest} {
		for _, size := range []int{0, 1, 128, 129, 1000} {
			if e := d.Write(at, make([]byte, size)); e != api.ErrArg {
				t.Errorf("%d bytes to sector %d: error %d", size, at, e)
			}
		}
	}
	for at := range 3 {
		for _, size := range []int{129, 130, 256, 1 << 16} {
			if e := d.Write(at, bytes.Repeat([]byte{7}, size)); e != api.ErrArg {
				t.Errorf("%d bytes to sector %d: error %d", size, at, e)
			}
		}
	}
	counts(t, d, 1, 1, false)
	holds(t, d, "abc", "", "")
	d.Crash([]int{128, 128, 128})
	holds(t, d, "abc", "", "")
}

func TestWritePadsWithBytesZero(t *testing.T) {
	s := source(1)
	full := string(s.bytes(128))
	for size := range 129 {
		b := string(s.bytes(size))
		for _, before := range []string{"", full} {
			d := made(t, 3)
			for at := range 3 {
				write(t, d, at, before)
			}
			write(t, d, 1, b)
			holds(t, d, before, b, before)
			c := d.Copy()
			flush(t, d)
			holds(t, d, before, b, before)
			d.Crash(nil)
			holds(t, d, before, b, before)
			c.Crash([]int{128, 128, 128, 128})
			holds(t, c, before, b, before)
		}
	}
}

func TestAWriteOfNothingIsOne(t *testing.T) {
	for _, b := range [][]byte{nil, {}} {
		d := made(t, 2)
		write(t, d, 1, "abc")
		if e := d.Write(1, b); e != api.OK {
			t.Errorf("error %d", e)
		}
		counts(t, d, 2, 2, false)
		holds(t, d, "", "")
		c := d.Copy()
		c.Crash([]int{128, 1})
		holds(t, c, "", "\x00bc")
		flush(t, d)
		d.Crash(nil)
		holds(t, d, "", "")
	}
}

func TestFlushMakesAllWritesSafe(t *testing.T) {
	d := made(t, 4)
	flush(t, d) // of nothing
	write(t, d, 0, "a")
	write(t, d, 2, "b")
	write(t, d, 0, "cd")
	write(t, d, 2, "")
	write(t, d, 2, "e")
	counts(t, d, 5, 6, false)
	flush(t, d)
	counts(t, d, 0, 7, false)
	write(t, d, 0, "fgh")
	write(t, d, 3, "ijk")
	holds(t, d, "fgh", "", "e", "ijk")
	d.Crash(nil)
	holds(t, d, "cd", "", "e", "")
	flush(t, d)
	flush(t, d)
	counts(t, d, 0, 11, false)
	holds(t, d, "cd", "", "e", "")
}

func TestFlushMakesAsManySafeAsThereAre(t *testing.T) {
	d := made(t, api.MaxSectors)
	want := make([]string, api.MaxSectors)
	for at := range want {
		write(t, d, at, fmt.Sprint(at))
		want[at] = fmt.Sprint(at)
	}
	for at := range 1000 {
		want[5*at] = fmt.Sprint(-at)
		write(t, d, 5*at, want[5*at])
	}
	counts(t, d, api.MaxSectors+1000, api.MaxSectors+1000, false)
	holds(t, d, want...)
	flush(t, d)
	d.Crash(nil)
	holds(t, d, want...)
}

// P8.2

func TestReadRefuses(t *testing.T) {
	d := made(t, 3)
	for range 2 {
		for _, at := range []int{-1, -3, lowest, 3, 4, 128, 1 << 32, greatest} {
			if b, e := d.Read(at); len(b) > 0 || e != api.ErrArg {
				t.Errorf("dead %v: sector %d: error %d, %q", d.Dead(), at, e, b)
			}
		}
		d.Cut(0)
		d.Flush()
	}
	for at := range 3 {
		if b, e := d.Read(at); len(b) > 0 || e != api.ErrDead {
			t.Errorf("sector %d: error %d, %q", at, e, b)
		}
	}
}

func TestReadIsWhatWasWrittenLast(t *testing.T) {
	d := made(t, 2)
	s := source(2)
	for range 200 {
		b := string(s.bytes(s.size()))
		write(t, d, 1, b)
		if s.below(4) == 0 {
			flush(t, d)
		}
		holds(t, d, "", b)
		holds(t, d, "", b) // again, and nothing was changed
	}
}

func TestPendingCountsEachWrite(t *testing.T) {
	d := made(t, 2)
	for i := range 50 {
		write(t, d, i%3%2, "abc")
		counts(t, d, i+1, i+1, false)
	}
	d.Write(2, nil)
	counts(t, d, 50, 50, false)
	d.Cut(0)
	d.Flush()
	counts(t, d, 50, 50, true) // also while the power is off
	d.Write(0, nil)
	counts(t, d, 50, 50, true)
	d.Crash(nil)
	counts(t, d, 0, 50, false)
	write(t, d, 1, "")
	counts(t, d, 1, 51, false)
}

// P8.3

func TestCutLetsSoManyOperationsBeDone(t *testing.T) {
	for after := range 12 {
		d := made(t, 2)
		write(t, d, 0, "a")
		flush(t, d)
		d.Cut(after)
		for i := range after {
			if i%3 == 2 {
				flush(t, d)
			} else {
				write(t, d, i%2, "b")
			}
			counts(t, d, (i+1)%3, 3+i, false)
			read(t, d, 1)
			d.Pending()
			d.Size()
		}
		pending := d.Pending()
		for range 3 { // none of these is an operation that returns OK
			if e := d.Write(2, nil); e != api.ErrArg {
				t.Errorf("cut %d: error %d", after, e)
			}
			if e := d.Write(0, make([]byte, 129)); e != api.ErrArg {
				t.Errorf("cut %d: error %d", after, e)
			}
			read(t, d, 0)
			d.Copy()
			counts(t, d, pending, 2+after, false)
		}
		c := d.Copy()
		if e := d.Flush(); e != api.ErrDead {
			t.Errorf("cut %d, flush: error %d", after, e)
		}
		if e := c.Write(0, nil); e != api.ErrDead {
			t.Errorf("cut %d, write: error %d", after, e)
		}
		counts(t, d, pending, 2+after, true)
		counts(t, c, pending, 2+after, true)
	}
}

func TestWithoutPower(t *testing.T) {
	d := made(t, 2)
	write(t, d, 0, "abc")
	d.Cut(0)
	counts(t, d, 1, 1, false)
	holds(t, d, "abc", "") // it is on until an operation is called
	if e := d.Write(1, nil); e != api.ErrDead {
		t.Errorf("write: error %d", e)
	}
	for _, after := range []int{-1, 5, 0, lowest, greatest} {
		d.Cut(after)
		counts(t, d, 1, 1, true)
		if e := d.Write(1, []byte("x")); e != api.ErrDead {
			t.Errorf("write: error %d", e)
		}
		if e := d.Flush(); e != api.ErrDead {
			t.Errorf("flush: error %d", e)
		}
		if b, e := d.Read(0); len(b) > 0 || e != api.ErrDead {
			t.Errorf("read: error %d, %q", e, b)
		}
		for _, at := range []int{-1, 2} {
			if e := d.Write(at, nil); e != api.ErrArg {
				t.Errorf("write to sector %d: error %d", at, e)
			}
		}
		if e := d.Write(0, make([]byte, 129)); e != api.ErrArg {
			t.Errorf("write of 129 bytes: error %d", e)
		}
		if d.Size() != 2 {
			t.Errorf("%d sectors", d.Size())
		}
	}
	counts(t, d, 1, 1, true)
	d.Crash([]int{128, 128})
	counts(t, d, 0, 1, false)
	holds(t, d, "abc", "")
}

func TestALaterCutReplacesAnEarlierOne(t *testing.T) {
	for _, x := range []struct {
		cuts []int
		many int // operations that are done; -1 if the power stays on
	}{
		{nil, -1}, {[]int{-1}, -1}, {[]int{lowest}, -1}, {[]int{greatest}, -1}, {[]int{0}, 0}, {[]int{7}, 7},
		{[]int{0, -1}, -1}, {[]int{0, lowest}, -1}, {[]int{2, -3}, -1}, {[]int{5, 2}, 2}, {[]int{2, 5}, 5}, {[]int{0, 3}, 3}, {[]int{-1, 3}, 3}, {[]int{3, 3}, 3}, {[]int{greatest, 1}, 1}, {[]int{-1, 0}, 0},
	} {
		d := made(t, 1)
		for _, after := range x.cuts {
			d.Cut(after)
		}
		many := 0
		for many < 20 && d.Write(0, nil) == api.OK {
			many++
		}
		if want := x.many; want >= 0 && many != want || want < 0 && many != 20 {
			t.Errorf("cuts %v: %d operations", x.cuts, many)
		}
		if d.Dead() != (x.many >= 0) {
			t.Errorf("cuts %v: dead %v", x.cuts, d.Dead())
		}
	}
}

func TestACutCountsFromItsCall(t *testing.T) {
	d := made(t, 1)
	d.Cut(5)
	for range 3 {
		write(t, d, 0, "a")
	}
	d.Cut(3)
	for range 3 {
		flush(t, d)
	}
	if e := d.Flush(); e != api.ErrDead {
		t.Errorf("error %d", e)
	}
}

func TestACrashEndsACut(t *testing.T) {
	for _, after := range []int{0, 1, 2, 3, 10} {
		d := made(t, 1)
		d.Cut(after)
		for range 2 {
			d.Write(0, []byte("a"))
		}
		if d.Dead() != (after < 2) {
			t.Errorf("cut %d: dead %v", after, d.Dead())
		}
		d.Crash(nil)
		for range 20 {
			write(t, d, 0, "b")
			flush(t, d)
		}
		d.Cut(1) // and another one holds again
		write(t, d, 0, "c")
		if e := d.Write(0, nil); e != api.ErrDead {
			t.Errorf("cut %d: error %d", after, e)
		}
	}
}

func TestExamples(t *testing.T) {
	d := made(t, 2)
	write(t, d, 1, "xyz")
	d.Crash(nil)
	holds(t, d, "", "")
	write(t, d, 1, "xyz")
	d.Crash([]int{2})
	holds(t, d, "", "xy")
	if e := d.Write(2, []byte("x")); e != api.ErrArg {
		t.Errorf("error %d", e)
	}
}

func TestFatesOfOneWrite(t *testing.T) {
	s := source(3)
	old, new := string(s.bytes(128)), string(s.bytes(100))
	for _, dead := range []bool{false, true} {
		for fate := -3; fate < 140; fate++ {
			d := made(t, 3)
			for at := range 3 {
				write(t, d, at, old)
			}
			flush(t, d)
			write(t, d, 1, new)
			if dead {
				d.Cut(0)
				d.Flush()
			}
			d.Crash([]int{fate})
			holds(t, d, old, torn(old, padded(new), fate), old)
			counts(t, d, 0, 5, false)
		}
	}
	for _, fate := range []int{lowest, -1 << 32, -1<<32 + 5, 1 << 32, 1<<32 + 5, greatest} {
		d := made(t, 1)
		write(t, d, 0, new)
		d.Crash([]int{fate})
		holds(t, d, torn(padded(""), padded(new), fate))
	}
}

func TestFatesAreThoseOfTheWritesInTheirOrder(t *testing.T) {
	for _, x := range []struct {
		fates []int
		want  [3]string
	}{
		{nil, [3]string{"aaaa", "bbbb", "cccc"}},
		{[]int{}, [3]string{"aaaa", "bbbb", "cccc"}},
		{[]int{128}, [3]string{"1111", "bbbb", "cccc"}},
		{[]int{0, 128}, [3]string{"aaaa", "bbbb", "2222"}},
		{[]int{-1, 2, 129}, [3]string{"3333", "bbbb", "22cc"}},
		{[]int{1, 0, 0, 2}, [3]string{"1aaa", "bbbb", "44cc"}},
		{[]int{128, 128, 2, 3}, [3]string{"3311", "bbbb", "4442"}},
		{[]int{3, 1, 1, 2}, [3]string{"311a", "bbbb", "44cc"}},
		{[]int{1, 3, 3, 1}, [3]string{"333a", "bbbb", "422c"}},
		{[]int{0, 0, 0, 0, 128, 128}, [3]string{"aaaa", "bbbb", "cccc"}},
		{[]int{128, 128, 128, 128, 2}, [3]string{"3333", "bbbb", "4444"}},
		{[]int{0, 0, 128, 128, 0, 1, 2}, [3]string{"3333", "bbbb", "4444"}},
	} {
		d := made(t, 3)
		for at, b := range []string{"aaaa", "bbbb", "cccc"} {
			write(t, d, at, b)
		}
		flush(t, d)
		write(t, d, 0, "1111")
		write(t, d, 2, "2222")
		write(t, d, 0, "3333")
		write(t, d, 2, "4444")
		d.Crash(x.fates)
		holds(t, d, x.want[:]...)
		d.Crash([]int{128, 128, 128, 128}) // all is safe
		holds(t, d, x.want[:]...)
		flush(t, d)
		holds(t, d, x.want[:]...)
		counts(t, d, 0, 9, false)
	}
}

func TestBehindACrashEverythingIsSafe(t *testing.T) {
	d := made(t, 2)
	write(t, d, 0, "abc")
	write(t, d, 1, "def")
	d.Crash([]int{2, 128})
	write(t, d, 0, "ghi")
	d.Crash([]int{0, 128, 128})
	holds(t, d, "ab", "def")
	write(t, d, 1, "jkl")
	d.Crash([]int{1, 128})
	holds(t, d, "ab", "jef")
}

func TestTwoWritesOfASectorWithAllFates(t *testing.T) {
	s := source(4)
	old, one, two := string(s.bytes(128)), string(s.bytes(128)), string(s.bytes(90))
	before := made(t, 1)
	write(t, before, 0, old)
	flush(t, before)
	write(t, before, 0, one)
	write(t, before, 0, two)
	for a := -1; a <= 129; a++ {
		for b := -1; b <= 129; b++ {
			d := before.Copy()
			d.Crash([]int{a, b})
			if got := read(t, d, 0); got != torn(torn(old, one, a), padded(two), b) {
				t.Fatalf("fates %d, %d: got %q", a, b, got)
			}
		}
	}
}

// P8.4

func TestACopyIsTheSame(t *testing.T) {
	d := made(t, 3)
	write(t, d, 0, "abc")
	flush(t, d)
	write(t, d, 0, "def")
	write(t, d, 1, "ghi")
	d.Cut(2)
	write(t, d, 0, "jkl")
	for range 3 {
		c := d.Copy()
		counts(t, c, 3, 5, false)
		holds(t, c, "jkl", "ghi", "")
		c.Crash([]int{2, 1, 1})
		holds(t, c, "jec", "g", "")

		c = d.Copy().Copy()
		write(t, c, 2, "mno") // the cut is there, too
		if e := c.Flush(); e != api.ErrDead {
			t.Errorf("error %d", e)
		}
		again := c.Copy()
		counts(t, again, 4, 6, true)
		if e := again.Flush(); e != api.ErrDead {
			t.Errorf("a copy without power: error %d", e)
		}
		if b, e := again.Read(0); len(b) > 0 || e != api.ErrDead {
			t.Errorf("a copy without power: error %d, %q", e, b)
		}
		again.Crash([]int{128, 128, 0, 1})
		holds(t, again, "def", "ghi", "m")
		counts(t, c, 4, 6, true)
	}
	counts(t, d, 3, 5, false)
	holds(t, d, "jkl", "ghi", "")
}

func TestACopyIsIndependent(t *testing.T) {
	d := made(t, 2)
	write(t, d, 0, "abc")
	flush(t, d)
	for range 3 { // the list of writes has room left in some copies
		write(t, d, 1, "def")
	}
	c := d.Copy()
	write(t, d, 1, "ghi")
	write(t, c, 1, "jkl")
	holds(t, d, "abc", "ghi")
	holds(t, c, "abc", "jkl")
	crashed, flushed := d.Copy(), d.Copy()
	crashed.Crash([]int{0, 0, 0, 128})
	holds(t, crashed, "abc", "ghi")
	flush(t, flushed)
	write(t, flushed, 0, "mno")
	holds(t, flushed, "mno", "ghi")
	counts(t, d, 4, 6, false)
	counts(t, c, 4, 6, false)
	counts(t, crashed, 0, 6, false)
	counts(t, flushed, 1, 8, false)
	c.Cut(0)
	c.Flush()
	counts(t, d, 4, 6, false)
	flush(t, d)
	d.Crash(nil)
	holds(t, d, "abc", "ghi")
	c.Crash(nil)
	holds(t, c, "abc", "")
	d.Cut(0)
	flush(t, c)
	flush(t, flushed)
	flushed.Crash(nil)
	holds(t, flushed, "mno", "ghi")
}

func TestANilDisk(t *testing.T) {
	var d *disk.Disk
	for range 2 {
		for _, at := range []int{-1, 0, 1, lowest, greatest} {
			for _, size := range []int{0, 1, 128, 129} {
				if e := d.Write(at, make([]byte, size)); e != api.ErrNone {
					t.Errorf("%d bytes to sector %d: error %d", size, at, e)
				}
			}
			if b, e := d.Read(at); len(b) > 0 || e != api.ErrNone {
				t.Errorf("read of sector %d: error %d, %q", at, e, b)
			}
		}
		if e := d.Flush(); e != api.ErrNone {
			t.Errorf("flush: error %d", e)
		}
		counts(t, d, 0, 0, false)
		if d.Size() != 0 || d.Copy() != nil {
			t.Errorf("%d sectors, copy %v", d.Size(), d.Copy())
		}
		d.Cut(0)
		d.Cut(-1)
		d.Crash(nil)
		d.Crash([]int{1, 128})
	}
}

// P8.1 to P8.4

// step does the same with a disk and a slow one, and tells that it was the same.
func (m *slow) step(t *testing.T, s *source, d *disk.Disk) {
	t.Helper()
	switch kind := s.below(20); {
	case kind < 11:
		at := s.below(len(m.safe)+2) - 1
		b := s.bytes(s.size())
		if s.below(10) == 0 {
			b = s.bytes(129 + s.below(3))
		}
		if got, want := d.Write(at, b), m.write(at, b); got != want {
			t.Fatalf("%d bytes to sector %d: error %d, want %d", len(b), at, got, want)
		}
	case kind < 14:
		if got, want := d.Flush(), m.flush(); got != want {
			t.Fatalf("flush: error %d, want %d", got, want)
		}
	case kind < 17:
		after := s.below(9) - 2
		d.Cut(after)
		m.cut(after)
	default:
		fates := s.fates(s.below(len(m.at) + 3))
		d.Crash(fates)
		m.crash(fates)
	}
}

func TestADiskIsThatOfTheChapter(t *testing.T) {
	s := source(5)
	for round := range 300 {
		n := 1 + round%4
		d, m := made(t, n), slowNew(n)
		for range 60 {
			if s.below(6) == 0 {
				old, was := d, m.copy()
				d = d.Copy()
				for range s.below(5) { // what becomes of the one disk is nothing to the other one
					m.step(t, &s, d)
				}
				was.same(t, old)
				was.step(t, &s, old)
				was.same(t, old)
			}
			m.step(t, &s, d)
			m.same(t, d)
		}
	}
}

// P8.5

func TestASectorThatWasNotWrittenIsUnchanged(t *testing.T) {
	s := source(6)
	for range 300 {
		d := made(t, 8)
		for range s.below(20) {
			write(t, d, s.below(8), string(s.bytes(s.size())))
		}
		flush(t, d)
		var want [8]string
		for at := range want {
			want[at] = read(t, d, at)
		}
		written := map[int]bool{}
		for range s.below(12) {
			at := s.below(8)
			written[at] = true
			write(t, d, at, string(s.bytes(s.size())))
		}
		if s.below(2) == 0 {
			d.Cut(0)
			d.Flush()
		}
		d.Crash(s.fates(s.below(14)))
		for at := range want {
			if got := read(t, d, at); !written[at] && got != want[at] {
				t.Errorf("sector %d: got %q, want %q", at, got, want[at])
			}
		}
	}
}

// P8.6

func TestAnOperationThatIsRefusedChangesNothing(t *testing.T) {
	s := source(7)
	for range 300 {
		d, m := made(t, 3), slowNew(3)
		for range s.below(20) {
			at, b := s.below(3), s.bytes(s.size())
			d.Write(at, b)
			m.write(at, b)
			if s.below(5) == 0 {
				d.Flush()
				m.flush()
			}
		}
		d.Cut(0)
		for range 1 + s.below(5) {
			b := s.bytes(s.below(130))
			if e := d.Write(s.below(3), b); e != api.ErrDead && len(b) <= 128 || e != api.ErrArg && len(b) > 128 {
				t.Fatalf("write of %d bytes: error %d", len(b), e)
			}
			if e := d.Write(3, b); e != api.ErrArg {
				t.Fatalf("write to sector 3: error %d", e)
			}
			if e := d.Flush(); e != api.ErrDead {
				t.Fatalf("flush: error %d", e)
			}
		}
		counts(t, d, len(m.at), m.done, true)
		fates := s.fates(len(m.at) + 2)
		d.Crash(fates)
		m.crash(fates)
		m.same(t, d)
	}
}

func TestAfterACutExactlySoManyOperationsAreDone(t *testing.T) {
	s := source(8)
	for n := range 60 {
		d := made(t, 2)
		for range s.below(4) {
			d.Write(s.below(3), nil)
		}
		d.Cut(n)
		before, good := d.Done(), 0
		for range n + 40 {
			var e api.Errno
			switch s.below(3) {
			case 0:
				e = d.Flush()
			case 1:
				e = d.Write(s.below(2), nil)
			default:
				if e = d.Write(2, nil); e != api.ErrArg {
					t.Errorf("error %d", e)
				}
			}
			if e == api.OK {
				good++
			}
		}
		if good > n || d.Done()-before != good || d.Dead() && good < n {
			t.Errorf("cut %d: %d operations, done %d", n, good, d.Done()-before)
		}
		for range n + 1 {
			if d.Flush() == api.OK {
				good++
			}
		}
		if good != n || d.Done()-before != n || !d.Dead() {
			t.Errorf("cut %d: %d operations, done %d", n, good, d.Done()-before)
		}
	}
}

// P8.7

func TestATornSectorHasAPrefixOfWhatWasWritten(t *testing.T) {
	s := source(9)
	seen := map[int]bool{}
	for range 2000 {
		d := made(t, 2)
		write(t, d, 1, string(s.bytes(128)))
		flush(t, d)
		old := read(t, d, 1)
		write(t, d, 0, string(s.bytes(128)))
		write(t, d, 1, string(s.bytes(s.size())))
		new := read(t, d, 1)
		d.Crash(s.fates(2))
		got := read(t, d, 1)
		size := 0
		for size < 128 && got[size] == new[size] {
			size++
		}
		if got[size:] != old[size:] {
			t.Fatalf("got %q of %q, before it %q", got, new, old)
		}
		seen[size] = true
	}
	if len(seen) < 100 || !seen[0] || !seen[128] {
		t.Errorf("%d lengths of prefixes", len(seen))
	}
}

// The rules for all calls

func TestArgumentsAreLeftAlone(t *testing.T) {
	s := source(10)
	for _, size := range []int{0, 1, 7, 100, 128, 129} {
		memory := s.bytes(200)
		kept := bytes.Clone(memory)
		d := made(t, 2)
		d.Write(1, memory[:size])
		want := read(t, d, 1)
		if size <= 128 && want != padded(string(kept[:size])) {
			t.Errorf("%d bytes: got %q", size, want)
		}
		overwrite(memory)
		if read(t, d, 1) != want {
			t.Errorf("%d bytes: the disk keeps the memory", size)
		}
		flush(t, d)
		overwrite(memory)
		if read(t, d, 1) != want {
			t.Errorf("%d bytes: the disk keeps the memory behind Flush", size)
		}
		d.Write(1, []byte("other"))
		d.Crash([]int{4})
		if !bytes.Equal(memory, kept) {
			t.Errorf("%d bytes: the memory became %x", size, memory)
		}
	}
}

func TestFatesAreLeftAlone(t *testing.T) {
	memory := []int{-5, 1, 200, 128, 7, 0, 3}
	kept := slices.Clone(memory)
	for many := range len(memory) + 1 {
		d, m := made(t, 2), slowNew(2)
		for i := range 5 {
			b := []byte(strings.Repeat(fmt.Sprint(i), 100))
			d.Write(i%2, b)
			m.write(i%2, b)
		}
		d.Crash(memory[:many]) // what lies behind is not read
		m.crash(slices.Clone(kept[:many]))
		m.same(t, d)
		if !slices.Equal(memory, kept) {
			t.Errorf("%d fates: they became %v", many, memory)
		}
		write(t, d, 0, "abc")
		m.write(0, []byte("abc"))
		d.Crash(nil)
		m.crash(nil)
		m.same(t, d)
	}
}

func TestResultsAreNewMemory(t *testing.T) {
	d := made(t, 2)
	write(t, d, 0, "abc")
	flush(t, d)
	write(t, d, 1, "def")
	for range 3 {
		first, _ := d.Read(1)
		second, _ := d.Read(1)
		other, _ := d.Read(0)
		overwrite(first)
		overwrite(other)
		if string(second) != padded("def") {
			t.Errorf("results share memory: %q", second)
		}
		holds(t, d, "abc", "def")
		d.Copy().Write(1, []byte("x"))
		c := d.Copy()
		c.Write(1, []byte("ghi"))
		c.Flush()
		c.Crash(nil)
		if string(second) != padded("def") {
			t.Errorf("a copy changed a result: %q", second)
		}
		overwrite(second)
	}
	kept, _ := d.Read(1)
	d.Write(1, []byte("jkl"))
	d.Flush()
	d.Crash(nil)
	if string(kept) != padded("def") {
		t.Errorf("later calls changed a result: %q", kept)
	}
	holds(t, d, "abc", "jkl")
}

func TestDisksDoNotDisturbEachOther(t *testing.T) {
	s := source(11)
	var disks [3]*disk.Disk
	var models [3]*slow
	for i := range disks {
		disks[i], models[i] = made(t, 3), slowNew(3)
	}
	for range 400 {
		i := s.below(3)
		models[i].step(t, &s, disks[i])
		for i, m := range models {
			m.same(t, disks[i])
		}
	}
}

func TestTheSameCallsLeaveTheSame(t *testing.T) {
	var all [2]string
	for i := range all {
		s := source(12)
		d, m := made(t, 4), slowNew(4)
		for range 500 {
			m.step(t, &s, d)
			for at := range 4 {
				b, e := d.Read(at)
				all[i] += string(b) + fmt.Sprint(e)
			}
			all[i] += fmt.Sprint(d.Pending(), d.Done(), d.Dead())
		}
	}
	if all[0] != all[1] {
		t.Error("they do not")
	}
}
