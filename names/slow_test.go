package names_test

import (
	"maps"
	"slices"
	"strconv"
	"strings"
	"testing"
	"unicode/utf8"

	"cellarage/api"
	"cellarage/names"
)

// source makes the same numbers for the same seed.
type source uint64

func (s *source) next() uint64 {
	*s = *s*6364136223846793005 + 1442695040888963407
	return uint64(*s >> 16)
}

// below is a number from 0 to n - 1.
func (s *source) below(n int) int { return int(s.next() % uint64(n)) }

// of is one of some texts.
func (s *source) of(l []string) string { return l[s.below(len(l))] }

// thing is a directory, or a file with its contents.
type thing struct {
	dir  bool
	list []api.Extent
}

// state is things by their paths; the root is not among them.
type state map[string]thing

// slow is a namespace as the chapter tells it: each snapshot is a copy of everything.
type slow struct {
	now   state
	snaps map[string]state
}

func newSlow() *slow { return &slow{state{}, map[string]state{}} }

func (m *slow) clone() *slow {
	c := &slow{maps.Clone(m.now), map[string]state{}}
	for s, x := range m.snaps {
		c.snaps[s] = maps.Clone(x)
	}
	return c
}

// slowName is Name of layer 17.
func slowName(s string) bool {
	if len(s) < 1 || len(s) > 100 || s == "." || s == ".." || !utf8.ValidString(s) {
		return false
	}
	for _, c := range []byte(s) {
		if c == '/' || c < 32 || c == 127 {
			return false
		}
	}
	return true
}

// split is the names of a path, and whether it is one.
func split(p string) ([]string, bool) {
	if p == "/" {
		return nil, true
	}
	l := strings.Split(p, "/")
	if l[0] != "" || len(l) > 17 || len(l) < 2 {
		return nil, false
	}
	for _, s := range l[1:] {
		if !slowName(s) {
			return nil, false
		}
	}
	return l[1:], true
}

// joined is the path of names.
func joined(l []string) string { return "/" + strings.Join(l, "/") }

func isPath(p string) bool {
	_, is := split(p)
	return is
}

// parent is the path above another one, which is not the root.
func parent(p string) string {
	l, _ := split(p)
	return joined(l[:len(l)-1])
}

// within tells whether p is dir, or in it, or in what is in it, and so on.
func within(p, dir string) bool {
	for p != dir && p != "/" {
		p = parent(p)
	}
	return p == dir
}

// slowRight is Right of layer 16.
func slowRight(l []api.Extent) bool {
	for _, x := range l {
		if x.Off < 0 || x.Off > 4096 || x.Len < 1 || x.Len > 4096 || x.Off+x.Len > 4096 {
			return false
		}
	}
	return len(l) <= 16384
}

// get is what is at a path, and whether there is anything.
func (x state) get(p string) (thing, bool) {
	if p == "/" {
		return thing{dir: true}, true
	}
	what, there := x[p]
	return what, there
}

// aboveError is the error of the parent of a path.
func (x state) aboveError(p string) api.Errno {
	what, there := x.get(parent(p))
	switch {
	case !there:
		return api.ErrNone
	case !what.dir:
		return api.ErrFile
	}
	return api.OK
}

// sorted is the paths, each greater than the one before.
func (x state) sorted() []string { return slices.Sorted(maps.Keys(x)) }

// list is the names of what is directly in a directory.
func (x state) list(dir string) []string {
	var l []string
	for p := range x {
		if parent(p) == dir {
			all, _ := split(p)
			l = append(l, all[len(all)-1])
		}
	}
	slices.Sort(l)
	return l
}

func (m *slow) Mkdir(p string) api.Errno {
	if !isPath(p) {
		return api.ErrPath
	}
	if p == "/" {
		return api.ErrThere
	}
	if e := m.now.aboveError(p); e != api.OK {
		return e
	}
	if _, there := m.now[p]; there {
		return api.ErrThere
	}
	if len(m.now) >= 4096 {
		return api.ErrLong
	}
	m.now[p] = thing{dir: true}
	return api.OK
}

func (m *slow) Put(p string, l []api.Extent) api.Errno {
	if !isPath(p) {
		return api.ErrPath
	}
	if p == "/" {
		return api.ErrDir
	}
	if !slowRight(l) {
		return api.ErrArg
	}
	if e := m.now.aboveError(p); e != api.OK {
		return e
	}
	what, there := m.now[p]
	if there && what.dir {
		return api.ErrDir
	}
	if !there && len(m.now) >= 4096 {
		return api.ErrLong
	}
	m.now[p] = thing{list: slices.Clone(l)}
	return api.OK
}

func (m *slow) Remove(p string) api.Errno {
	if !isPath(p) {
		return api.ErrPath
	}
	if p == "/" {
		return api.ErrDir
	}
	what, there := m.now[p]
	if !there {
		return api.ErrNone
	}
	if what.dir && len(m.now.list(p)) > 0 {
		return api.ErrFull
	}
	delete(m.now, p)
	return api.OK
}

func (m *slow) Rename(from, to string) api.Errno {
	if !isPath(from) || !isPath(to) {
		return api.ErrPath
	}
	if from == "/" || to == "/" {
		return api.ErrDir
	}
	what, there := m.now[from]
	if !there {
		return api.ErrNone
	}
	if from == to {
		return api.OK
	}
	if within(to, from) {
		return api.ErrArg
	}
	if e := m.now.aboveError(to); e != api.OK {
		return e
	}
	if old, there := m.now[to]; there && (old.dir || what.dir) {
		return api.ErrThere
	}
	was, _ := split(from)
	is, _ := split(to)
	after := state{}
	for p, x := range m.now {
		l, _ := split(p)
		if within(p, from) {
			l = append(slices.Clone(is), l[len(was):]...)
		} else if p == to {
			continue
		}
		if len(l) > 16 {
			return api.ErrLong
		}
		after[joined(l)] = x
	}
	m.now = after
	return api.OK
}

func (m *slow) Snap(s string) api.Errno {
	if !slowName(s) {
		return api.ErrArg
	}
	if _, there := m.snaps[s]; there {
		return api.ErrThere
	}
	if len(m.snaps) >= 64 {
		return api.ErrLong
	}
	m.snaps[s] = maps.Clone(m.now)
	return api.OK
}

func (m *slow) Unsnap(s string) api.Errno {
	if _, there := m.snaps[s]; !there {
		return api.ErrNone
	}
	delete(m.snaps, s)
	return api.OK
}

// lesser tells the order of keys byte by byte.
func lesser(a, b api.Key) bool {
	for i := range a.Sum {
		if a.Sum[i] != b.Sum[i] {
			return a.Sum[i] < b.Sum[i]
		}
	}
	return a.N < b.N
}

// keys are those of all states, in order.
func (m *slow) keys() []api.Key {
	all := slices.Collect(maps.Values(m.snaps))
	met := map[api.Key]bool{}
	for _, x := range append(all, m.now) {
		for _, what := range x {
			for _, part := range what.list {
				met[part.Key] = true
			}
		}
	}
	l := slices.Collect(maps.Keys(met))
	slices.SortFunc(l, func(a, b api.Key) int {
		if lesser(a, b) {
			return -1
		}
		return 1
	})
	return l
}

// digits are the bytes of n, the most significant one first.
func digits(n, many int) string {
	d := make([]byte, many)
	for i := many - 1; i >= 0; i-- {
		d[i] = byte(n % 256)
		n /= 256
	}
	return string(d)
}

// text is a string behind its length.
func text(s string) string { return digits(len(s), 4) + s }

// laidList is f, and the bytes of any extents.
func laidList(l []api.Extent) string {
	var b strings.Builder
	b.WriteString("f" + digits(len(l), 4))
	for _, x := range l {
		b.Write(x.Key.Sum[:])
		b.WriteString(digits(int(x.Key.N), 4) + digits(x.Off, 2) + digits(x.Len, 2))
	}
	return b.String()
}

// table is the bytes of a state.
func (x state) table() string {
	var b strings.Builder
	b.WriteString(digits(len(x), 4))
	for _, p := range x.sorted() {
		b.WriteString(text(p))
		if x[p].dir {
			b.WriteString(text("d"))
		} else {
			b.WriteString(text(laidList(x[p].list)))
		}
	}
	return b.String()
}

// lay is the bytes of everything.
func (m *slow) lay() string {
	var b strings.Builder
	b.WriteString(digits(len(m.snaps), 2))
	for _, s := range slices.Sorted(maps.Keys(m.snaps)) {
		b.WriteString(text(s) + m.snaps[s].table())
	}
	b.WriteString(m.now.table())
	return b.String()
}

// step is a call that may change something.
type step struct {
	verb, a, b string
	list       []api.Extent
}

func (s step) String() string {
	return s.verb + " " + strconv.Quote(s.a) + " " + strconv.Quote(s.b) + " " + strconv.Itoa(len(s.list))
}

// changed is what steps are done on: a namespace, or a slow one.
type changed interface {
	Mkdir(p string) api.Errno
	Put(p string, l []api.Extent) api.Errno
	Remove(p string) api.Errno
	Rename(from, to string) api.Errno
	Snap(s string) api.Errno
	Unsnap(s string) api.Errno
}

func (s step) on(n changed) api.Errno {
	switch s.verb {
	case "mkdir":
		return n.Mkdir(s.a)
	case "put":
		return n.Put(s.a, s.list)
	case "remove":
		return n.Remove(s.a)
	case "rename":
		return n.Rename(s.a, s.b)
	case "snap":
		return n.Snap(s.a)
	}
	return n.Unsnap(s.a)
}

// do does a step on both, and holds the errors and the bytes against each other.
func do(t *testing.T, n *names.Names, m *slow, s step) api.Errno {
	t.Helper()
	before := string(n.Lay())
	e, want := s.on(n), s.on(m)
	after := string(n.Lay())
	if e != want {
		t.Fatalf("%v of %q: %d, want %d", s, before, e, want)
	}
	if e != api.OK && after != before {
		t.Fatalf("%v of %q: %d, and it is %q", s, before, e, after)
	}
	if all := m.lay(); after != all {
		t.Fatalf("%v of %q: %q, want %q", s, before, after, all)
	}
	return e
}

// checkPath holds what is told of one path against the state.
func checkPath(t *testing.T, n *names.Names, x state, p string) {
	t.Helper()
	what, there := x.get(p)
	total := 0
	for _, part := range what.list {
		total += part.Len
	}
	var of, list, file api.Errno
	switch {
	case !isPath(p):
		of, list, file = api.ErrPath, api.ErrPath, api.ErrPath
	case !there:
		of, list, file = api.ErrNone, api.ErrNone, api.ErrNone
	case what.dir:
		file = api.ErrDir
	default:
		list = api.ErrFile
	}
	if s, e := n.Stat(p); e != of || s != (api.Stat{Dir: what.dir, Size: total}) {
		t.Fatalf("Stat(%q) is %v, %d", p, s, e)
	}
	if l, e := n.File(p); e != file || !slices.Equal(l, what.list) {
		t.Fatalf("File(%q) is %d extents, %d", p, len(l), e)
	}
	var in []string
	if list == api.OK {
		in = x.list(p)
	}
	if l, e := n.List(p); e != list || !slices.Equal(l, in) {
		t.Fatalf("List(%q) is %q, %d", p, l, e)
	}
}

// check holds all calls that change nothing against m, of these paths and snapshots, and
// of those that there are.
func check(t *testing.T, n *names.Names, m *slow, paths, snaps []string) {
	t.Helper()
	if n.Len() != len(m.now) {
		t.Fatalf("Len is %d of %d", n.Len(), len(m.now))
	}
	for _, p := range append(m.now.sorted(), paths...) {
		checkPath(t, n, m.now, p)
	}
	if l := n.Keys(); !slices.Equal(l, m.keys()) {
		t.Fatalf("Keys is %v, want %v", l, m.keys())
	}
	there := slices.Sorted(maps.Keys(m.snaps))
	if l := n.Snaps(); !slices.Equal(l, there) {
		t.Fatalf("Snaps is %q, want %q", l, there)
	}
	for _, s := range append(there, snaps...) {
		was, is := m.snaps[s]
		x, e := n.At(s)
		if !is {
			if x != nil || e != api.ErrNone {
				t.Fatalf("At(%q) is %v, %d", s, x, e)
			}
			continue
		}
		if e != api.OK {
			t.Fatalf("At(%q): %d", s, e)
		}
		check(t, x, &slow{now: was}, paths, nil)
	}
	if string(n.Lay()) != m.lay() {
		t.Fatalf("Lay is %q, want %q", n.Lay(), m.lay())
	}
}
