package names_test

import (
	"slices"
	"strings"
	"testing"

	"cellarage/api"
	"cellarage/names"
)

// taken tells that bytes are those of m, and of a namespace on which steps can be done.
func taken(t *testing.T, b []byte, m *slow) {
	t.Helper()
	n, e := names.Take(b)
	if e != api.OK || n == nil {
		t.Fatalf("Take(%q): %d", b, e)
	}
	check(t, n, m, []string{"/", "/x"}, []string{"x"})
	m = m.clone()
	for _, s := range []step{mkdir("/taken"), put("/taken/f", nil), snap("taken"), rename("/taken", "/more"), remove("/more/f"), unsnap("taken")} {
		do(t, n, m, s)
	}
}

// notTaken tells that bytes are not those of a namespace.
func notTaken(t *testing.T, b string) {
	t.Helper()
	if n, e := names.Take([]byte(b)); n != nil || e != api.ErrNames {
		t.Fatalf("Take(%q): %v, %d", b, n, e)
	}
}

// cut takes the first n bytes from b.
func cut(b *string, n int) (string, bool) {
	if n > len(*b) {
		return "", false
	}
	s := (*b)[:n]
	*b = (*b)[n:]
	return s, true
}

// number takes a number of so many bytes.
func number(b *string, many int) (int, bool) {
	s, is := cut(b, many)
	n := 0
	for _, c := range []byte(s) {
		n = n*256 + int(c)
	}
	return n, is
}

// word takes a string behind its length.
func word(b *string) (string, bool) {
	n, is := number(b, 4)
	if !is {
		return "", false
	}
	return cut(b, n)
}

// slowList is the contents whose bytes those are.
func slowList(b string) ([]api.Extent, bool) {
	n, is := number(&b, 4)
	if !is || len(b) != n*40 {
		return nil, false
	}
	var l []api.Extent
	for range n {
		var x api.Extent
		d, _ := cut(&b, 32)
		copy(x.Key.Sum[:], d)
		k, _ := number(&b, 4)
		x.Key.N = uint32(k)
		x.Off, _ = number(&b, 2)
		x.Len, _ = number(&b, 2)
		l = append(l, x)
	}
	return l, slowRight(l)
}

// slowTable takes a table, and tells whether it is one.
func slowTable(b *string) (state, bool) {
	n, is := number(b, 4)
	if !is || n > 4096 {
		return nil, false
	}
	x, last := state{}, "/"
	for range n {
		p, is := word(b)
		v, also := word(b)
		if !is || !also || !isPath(p) || p <= last {
			return nil, false
		}
		if above, there := x.get(parent(p)); !there || !above.dir {
			return nil, false
		}
		if v == "d" {
			x[p] = thing{dir: true}
		} else if l, is := slowList(strings.TrimPrefix(v, "f")); is && strings.HasPrefix(v, "f") {
			x[p] = thing{list: l}
		} else {
			return nil, false
		}
		last = p
	}
	return x, true
}

// slowTake tells what bytes are, and whether they are a namespace, part by part.
func slowTake(b string) (*slow, bool) {
	n, is := number(&b, 2)
	if !is || n > 64 {
		return nil, false
	}
	m, last := newSlow(), ""
	for range n {
		s, is := word(&b)
		if !is || !slowName(s) || s <= last {
			return nil, false
		}
		x, is := slowTable(&b)
		if !is {
			return nil, false
		}
		m.snaps[s], last = x, s
	}
	m.now, is = slowTable(&b)
	return m, is && b == ""
}

// checkTake holds Take against slowTake, and tells whether b is a namespace.
func checkTake(t *testing.T, b string) bool {
	t.Helper()
	m, is := slowTake(b)
	if !is {
		notTaken(t, b)
		return false
	}
	if m.lay() != b {
		t.Fatalf("of %q the slow one makes %q", b, m.lay())
	}
	n, e := names.Take([]byte(b))
	if e != api.OK || string(n.Lay()) != b || n.Len() != len(m.now) || len(n.Snaps()) != len(m.snaps) {
		t.Fatalf("Take(%q): %d", b, e)
	}
	return true
}

// samples are namespaces with and without snapshots.
func samples(t *testing.T) []*slow {
	t.Helper()
	l := lists()
	_, none := made(t)
	_, one := made(t, put("/f", l[1]))
	_, dirs := made(t, mkdir("/a"), mkdir("/a/b"), put("/a/b/c", nil), put("/a!", nil))
	_, snaps := made(t, snap("e"), mkdir("/d"), put("/d/f", l[2]), snap("s"), remove("/d/f"), snap("é"), remove("/d"))
	_, both := made(t, put("/f", l[1]), mkdir("/g"), snap("a"), snap("b"), rename("/f", "/g/f"))
	return []*slow{none, one, dirs, snaps, both}
}

// P19.5

func TestLayByHand(t *testing.T) {
	n, _ := made(t, mkdir("/d"), snap("s"), put("/d/f", []api.Extent{part(api.Key{Sum: api.Sum{7}, N: 258}, 3, 4)}), put("/e", nil))
	row := "\x07" + strings.Repeat("\x00", 31) + "\x00\x00\x01\x02" + "\x00\x03" + "\x00\x04"
	want := "\x00\x01" +
		"\x00\x00\x00\x01s" + "\x00\x00\x00\x01" + "\x00\x00\x00\x02/d" + "\x00\x00\x00\x01d" +
		"\x00\x00\x00\x03" + "\x00\x00\x00\x02/d" + "\x00\x00\x00\x01d" +
		"\x00\x00\x00\x04/d/f" + "\x00\x00\x00\x2df" + "\x00\x00\x00\x01" + row +
		"\x00\x00\x00\x02/e" + "\x00\x00\x00\x05f\x00\x00\x00\x00"
	if b := string(n.Lay()); b != want {
		t.Errorf("%q, want %q", b, want)
	}
	if _, e := names.Take([]byte(want)); e != api.OK {
		t.Error(e)
	}
}

func TestTakeSamples(t *testing.T) {
	for _, m := range samples(t) {
		taken(t, []byte(m.lay()), m)
		if !checkTake(t, m.lay()) {
			t.Errorf("%q is no namespace", m.lay())
		}
	}
	notTaken(t, "")
	if n, e := names.Take(nil); n != nil || e != api.ErrNames {
		t.Errorf("%v, %d", n, e)
	}
}

// Bytes that end too early, that go on, that are doubled, or that lack one.
func TestTakeOtherLengths(t *testing.T) {
	for _, m := range samples(t) {
		b := m.lay()
		for i := range b {
			notTaken(t, b[:i])
			checkTake(t, b[:i]+b[i+1:])
			checkTake(t, b[:i]+b[i:i+1]+b[i:])
			checkTake(t, b[i:])
		}
		for c := range 256 {
			notTaken(t, b+string([]byte{byte(c)}))
		}
		notTaken(t, b+b)
		notTaken(t, b+strings.Repeat("\x00", 4))
	}
}

func TestTakeChangedBytes(t *testing.T) {
	others := 0
	for _, m := range samples(t) {
		b := []byte(m.lay())
		for i, was := range b {
			for c := range 256 {
				b[i] = byte(c)
				if checkTake(t, string(b)) {
					others++
				}
			}
			b[i] = was
		}
	}
	if others < 1000 { // other names, keys, numbers, which are namespaces too
		t.Errorf("%d are namespaces", others)
	}
}

// rows is a table of any number, and any rows.
func rows(many int, pairs ...string) string {
	b := digits(many, 4)
	for _, s := range pairs {
		b += text(s)
	}
	return b
}

// file is the value of a file.
func file(l ...api.Extent) string { return laidList(l) }

func TestTakeTables(t *testing.T) {
	f := file()
	right := []string{
		rows(0), rows(1, "/a", "d"), rows(1, "/a", f), rows(2, "/a", "d", "/b", f), rows(2, "/a", "d", "/a/b", f),
		rows(3, "/a", "d", "/a!", f, "/a/b", f), rows(1, "/a", file(part(keyA, 0, 1))), rows(1, "/a", file(part(keyA, 0, 1), part(keyA, 1, 1))),
		rows(1, "/"+strings.Repeat("n", 100), f), rows(2, "/\xef\xbf\xbf", f, "/\xf0\x90\x80\x80", f),
	}
	wrong := []string{
		rows(2, "/b", f, "/a", "d"), rows(2, "/a", f, "/a", f), rows(2, "/a", "d", "/a", "d"), rows(2, "/a", "d", "/a", f), rows(2, "/a", f, "/a", "d"),
		rows(3, "/a", "d", "/a/b", f, "/a!", f), rows(2, "/a/b", f, "/a", "d"), rows(1, "/a/b", f), rows(2, "/a", f, "/a/b", f), rows(2, "/a", "d", "/a/b/c", f),
		rows(1, "/", "d"), rows(1, "/", f), rows(2, "/", "d", "/a", f), rows(1, "", "d"), rows(1, "a", f), rows(1, "/a/", f), rows(1, "/.", f), rows(1, "/a\x00", f), rows(1, "/\xff", "d"), rows(1, "/"+strings.Repeat("n", 101), f),
		rows(1, "/a", ""), rows(1, "/a", "D"), rows(1, "/a", "dd"), rows(1, "/a", "d\x00"), rows(1, "/a", "f"), rows(1, "/a", f[:4]), rows(1, "/a", f+"\x00"), rows(1, "/a", f[1:]), rows(1, "/a", "x"+f[1:]), rows(1, "/a", "d"+f[1:]), rows(1, "/a", "\x00"),
		rows(1, "/a", file(part(keyA, 0, 0))), rows(1, "/a", file(part(keyA, 4096, 1))), rows(1, "/a", file(part(keyA, 0, 4097))), rows(1, "/a", file(part(keyA, 0, 1))+"\x00"), rows(1, "/a", "f"+digits(2, 4)+file(part(keyA, 0, 1))[5:]),
		rows(1), rows(1, "/a"), rows(2, "/a", "d"), rows(0, "/a", "d"), rows(1<<32-1, "/a", "d"), rows(1 << 31), rows(1<<24, "/a", f),
		rows(1, "/a", file(faulty()[len(faulty())-1]...)), rows(1, strings.Repeat("/a", 17), "d"),
	}
	for i, b := range right {
		if !checkTake(t, "\x00\x00"+b) || !checkTake(t, "\x00\x01"+text("s")+b+rows(0)) || !checkTake(t, "\x00\x02"+text("r")+rows(1, "/x", "d")+text("s")+b+b) {
			t.Errorf("%d: it is no namespace", i)
		}
	}
	for i, b := range wrong {
		if checkTake(t, "\x00\x00"+b) || checkTake(t, "\x00\x01"+text("s")+b+rows(0)) || checkTake(t, "\x00\x02"+text("r")+rows(1, "/x", "d")+text("s")+b+rows(0)) {
			t.Errorf("%d: it is a namespace", i)
		}
	}
}

// snapshots is the bytes of that many snapshots with these names, all without files.
func snapshots(many int, names ...string) string {
	b := digits(many, 2)
	for _, s := range names {
		b += text(s) + rows(0)
	}
	return b + rows(0)
}

func TestTakeSnapshots(t *testing.T) {
	var many []string
	for i := range 65 {
		many = append(many, "s"+string([]byte{byte('0' + i)}))
	}
	for i, b := range []string{snapshots(0), snapshots(1, "s"), snapshots(2, "r", "s"), snapshots(2, "s", "s!"), snapshots(3, "A", "a", "é"), snapshots(1, strings.Repeat("n", 100)), snapshots(64, many[:64]...), snapshots(63, many[1:64]...)} {
		if !checkTake(t, b) {
			t.Errorf("%d: it is no namespace", i)
		}
	}
	wrong := []string{snapshots(2, "s", "r"), snapshots(2, "s", "s"), snapshots(3, "r", "t", "s"), snapshots(65, many...), snapshots(64, many...), snapshots(65, many[:64]...), snapshots(1), snapshots(0, "s"), snapshots(1, "r", "s"), snapshots(2, "s"), snapshots(1<<16-1, "s"), snapshots(256, many...)}
	for _, s := range wrongNames() {
		wrong = append(wrong, snapshots(1, s), snapshots(2, s, "~~"))
	}
	for i, b := range wrong {
		if checkTake(t, b) {
			t.Errorf("%d: it is a namespace", i)
		}
	}
}

func TestTakeMaxFiles(t *testing.T) {
	var pairs []string
	for i := range 4097 {
		pairs = append(pairs, "/"+digits('0'+i/64%64, 1)+digits('0'+i%64, 1)+strings.Repeat("~", i/4096), "d")
	}
	// The last one, which is one too many, stands behind the path of the first.
	more := slices.Concat(pairs[:2], pairs[2*4096:], pairs[2:2*4096])
	for _, n := range []int{4095, 4096, 4097} {
		b := rows(n, more[:2*n]...)
		if checkTake(t, "\x00\x00"+b) != (n < 4097) || checkTake(t, "\x00\x01"+text("s")+b+rows(0)) != (n < 4097) {
			t.Errorf("%d files", n)
		}
	}
}

// P19.9

func TestTakeOfLayAtRandom(t *testing.T) {
	for seed := range 30 {
		s := source(seed + 100)
		n, m := names.New(), newSlow()
		for range 20 + s.below(200) {
			x := s.any(1 + seed%5)
			x.on(n)
			x.on(m)
		}
		b := n.Lay()
		taken(t, b, m)
		x, _ := names.Take(b)
		for range 50 { // and goes on in the same way
			next := s.any(1 + seed%5)
			if e, f := next.on(n), next.on(x); e != f {
				t.Fatalf("%v: %d, %d", next, e, f)
			}
			if string(n.Lay()) != string(x.Lay()) {
				t.Fatalf("%v: %q, %q", next, n.Lay(), x.Lay())
			}
			next.on(m)
		}
		check(t, x, m, nil, nil)
	}
}
