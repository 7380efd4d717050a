package names_test

import (
	"math"
	"slices"
	"strconv"
	"strings"
	"testing"

	"cellarage/api"
	"cellarage/names"
)

var (
	keyA = api.Key{Sum: api.Sum{1}}
	keyB = api.Key{Sum: api.Sum{1}, N: 1}
	keyC = api.Key{Sum: api.Sum{0, 2}, N: math.MaxUint32}
)

// part is an extent of a chunk.
func part(k api.Key, off, n int) api.Extent { return api.Extent{Key: k, Off: off, Len: n} }

// lists are valid contents.
func lists() [][]api.Extent {
	return [][]api.Extent{nil, {part(keyA, 0, 5)}, {part(keyB, 2, 7), part(keyA, 4095, 1)}, {part(keyC, 0, 4096), part(keyA, 1, 2), part(keyA, 3, 1)}}
}

// faulty are contents that are not valid.
func faulty() [][]api.Extent {
	return [][]api.Extent{
		{{}}, {part(keyA, -1, 2)}, {part(keyA, 0, 0)}, {part(keyA, 0, -1)}, {part(keyA, 0, 4097)}, {part(keyA, 4096, 1)},
		{part(keyA, 0, 1), part(keyA, 0, 0)}, {part(keyA, math.MaxInt, 1)}, {part(keyA, 1, math.MaxInt)}, {part(keyA, math.MinInt, math.MinInt)},
		slices.Repeat([]api.Extent{part(keyA, 0, 1)}, 16385),
	}
}

// wrong are texts that are no paths.
func wrong() []string {
	return []string{"", "a", "//", "/a/", "/a//b", "a/b", "/.", "/..", "/a/..", "/a/./b", "/\x00", "/a\n", "/\x1f", "/\x7f", "/\xff", "/a/\xc3", "/" + strings.Repeat("n", 101), strings.Repeat("/d", 17), strings.Repeat("/", 20)}
}

// wrongNames are texts that are no names.
func wrongNames() []string {
	return []string{"", ".", "..", "/", "a/b", "/a", "\x00", "a\x1f", "\x7f", "\xff", "\xc3", strings.Repeat("n", 101)}
}

// made is what these steps make; each of them must be OK.
func made(t *testing.T, steps ...step) (*names.Names, *slow) {
	t.Helper()
	n, m := names.New(), newSlow()
	for _, s := range steps {
		if e := do(t, n, m, s); e != api.OK {
			t.Fatalf("%v: %d", s, e)
		}
	}
	return n, m
}

func mkdir(p string) step               { return step{verb: "mkdir", a: p} }
func put(p string, l []api.Extent) step { return step{verb: "put", a: p, list: l} }
func remove(p string) step              { return step{verb: "remove", a: p} }
func rename(from, to string) step       { return step{verb: "rename", a: from, b: to} }
func snap(s string) step                { return step{verb: "snap", a: s} }
func unsnap(s string) step              { return step{verb: "unsnap", a: s} }

// refused tells that a step has this error, and changes nothing.
func refused(t *testing.T, n *names.Names, m *slow, s step, want api.Errno) {
	t.Helper()
	if e := do(t, n, m, s); e != want || want == api.OK {
		t.Errorf("%v: %d, want %d", s, e, want)
	}
}

// some is a namespace with files and directories at several depths.
func some(t *testing.T) (*names.Names, *slow) {
	t.Helper()
	l := lists()
	return made(t, mkdir("/a"), put("/a!", l[1]), mkdir("/a/b"), put("/a/b/c", l[2]), put("/a/c", l[1]), mkdir("/a/e"), put("/f", nil), mkdir("/g"), put("/é", l[3]))
}

func TestExamples(t *testing.T) {
	n := names.New()
	if l := n.Lay(); string(l) != "\x00\x00\x00\x00\x00\x00" {
		t.Errorf("%v", l)
	}
	for i, e := range []api.Errno{n.Mkdir("/a"), n.Put("/a/b", lists()[1]), n.Rename("/a", "/c")} {
		if e != api.OK {
			t.Errorf("%d: %d", i, e)
		}
	}
	if l, e := n.List("/"); e != api.OK || !slices.Equal(l, []string{"c"}) {
		t.Errorf("%q, %d", l, e)
	}
	if l, e := n.List("/c"); e != api.OK || !slices.Equal(l, []string{"b"}) {
		t.Errorf("%q, %d", l, e)
	}
	if e := n.Remove("/c"); e != api.ErrFull {
		t.Error(e)
	}
	if e := n.Rename("/c", "/c/d"); e != api.ErrArg {
		t.Error(e)
	}
}

// P19.1

func TestNew(t *testing.T) {
	check(t, names.New(), newSlow(), append(wrong(), "/", "/a", "/a/b"), append(wrongNames(), "s"))
	if names.New() == nil {
		t.Error("New is nil")
	}
	n, other := names.New(), names.New()
	n.Mkdir("/a")
	n.Snap("s")
	check(t, other, newSlow(), []string{"/", "/a"}, []string{"s"})
	check(t, new(names.Names), newSlow(), []string{"/", "/a"}, []string{"s"})
	zero, m := new(names.Names), newSlow()
	for _, s := range []step{mkdir("/a"), put("/a/b", lists()[1]), snap("s"), rename("/a", "/c"), remove("/c/b"), unsnap("s"), unsnap("s")} {
		do(t, zero, m, s)
	}
}

func TestMkdirErrors(t *testing.T) {
	n, m := some(t)
	for _, p := range wrong() {
		refused(t, n, m, mkdir(p), api.ErrPath)
	}
	refused(t, n, m, mkdir("/"), api.ErrThere)
	for _, p := range []string{"/x/y", "/x/y/z", "/a/x/y", "/f/x/y", "/a/b/x/y"} {
		refused(t, n, m, mkdir(p), api.ErrNone)
	}
	for _, p := range []string{"/f/x", "/a/b/c/x", "/a!/a", "/é/é"} {
		refused(t, n, m, mkdir(p), api.ErrFile)
	}
	for _, p := range []string{"/a", "/a/b", "/a/b/c", "/f", "/a!", "/é"} {
		refused(t, n, m, mkdir(p), api.ErrThere)
	}
	for _, p := range []string{"/A", "/a/f", "/a/b/d", "/a/b/d/e", "/b", "/g/g", "/ ", "/...", "/" + strings.Repeat("n", 100)} {
		if e := do(t, n, m, mkdir(p)); e != api.OK {
			t.Errorf("%q: %d", p, e)
		}
	}
	check(t, n, m, []string{"/", "/h", "/a/h"}, nil)
}

func TestPutErrors(t *testing.T) {
	n, m := some(t)
	all := append(faulty(), lists()...)
	for _, l := range append(all[:2], all[len(all)-2:]...) {
		for _, p := range wrong() {
			refused(t, n, m, put(p, l), api.ErrPath)
		}
		refused(t, n, m, put("/", l), api.ErrDir)
	}
	for _, l := range faulty() {
		for _, p := range []string{"/a", "/f", "/new", "/x/y", "/f/x", "/a/b/c"} {
			refused(t, n, m, put(p, l), api.ErrArg)
		}
	}
	for _, l := range lists() {
		for _, p := range []string{"/x/y", "/x/y/z", "/a/x/y", "/f/x/y"} {
			refused(t, n, m, put(p, l), api.ErrNone)
		}
		for _, p := range []string{"/f/x", "/a/b/c/x", "/a!/a"} {
			refused(t, n, m, put(p, l), api.ErrFile)
		}
		for _, p := range []string{"/a", "/a/b", "/a/e", "/g"} {
			refused(t, n, m, put(p, l), api.ErrDir)
		}
		for _, p := range []string{"/new", "/f", "/a/b/c", "/a/b/d", "/a!", "/g/" + strings.Repeat("é", 50)} {
			if e := do(t, n, m, put(p, l)); e != api.OK {
				t.Errorf("%q: %d", p, e)
			}
		}
		check(t, n, m, nil, nil)
	}
}

func TestLongestContents(t *testing.T) {
	l := slices.Repeat([]api.Extent{part(keyA, 0, 4096), part(keyB, 1, 4095)}, 8192)
	n, m := made(t, put("/f", l), snap("s"), put("/f", l[:16383]), mkdir("/d"), put("/d/f", l))
	check(t, n, m, nil, nil)
	if s, e := n.Stat("/d/f"); s.Size != 8192*(4096+4095) || e != api.OK {
		t.Errorf("%v, %d", s, e)
	}
	taken(t, n.Lay(), m)
	refused(t, n, m, put("/f", append(l, part(keyA, 0, 1))), api.ErrArg)
}

// filled is as many directories and files as there may be: a directory of 64, each of
// which has as many files, and one of them one less.
func filled(t *testing.T) (*names.Names, *slow) {
	t.Helper()
	n, m := names.New(), newSlow()
	for i := range 63 {
		dir := "/" + strconv.Itoa(i)
		if e, f := n.Mkdir(dir), m.Mkdir(dir); e != api.OK || f != api.OK {
			t.Fatal(i, e, f)
		}
		for j := range 64 {
			p := dir + "/" + strconv.Itoa(j)
			if e, f := n.Put(p, lists()[j%4]), m.Put(p, lists()[j%4]); e != api.OK || f != api.OK {
				t.Fatal(i, j, e, f)
			}
		}
	}
	if n.Len() != 4095 {
		t.Fatal(n.Len())
	}
	return n, m
}

func TestMaxFiles(t *testing.T) {
	n, m := filled(t)
	for _, last := range []step{mkdir("/last"), put("/last", nil), put("/0/last", lists()[1]), mkdir("/62/last")} {
		do(t, n, m, last)
		refused(t, n, m, mkdir("/x"), api.ErrLong)
		refused(t, n, m, mkdir("/0/x"), api.ErrLong)
		refused(t, n, m, put("/x", nil), api.ErrLong)
		refused(t, n, m, put("/5/x", lists()[2]), api.ErrLong)
		refused(t, n, m, mkdir("x"), api.ErrPath) // what comes ahead of ErrLong
		refused(t, n, m, mkdir("/"), api.ErrThere)
		refused(t, n, m, mkdir("/0"), api.ErrThere)
		refused(t, n, m, mkdir("/0/0"), api.ErrThere)
		refused(t, n, m, mkdir("/x/y"), api.ErrNone)
		refused(t, n, m, mkdir("/0/0/y"), api.ErrFile)
		refused(t, n, m, put("x", nil), api.ErrPath)
		refused(t, n, m, put("/", nil), api.ErrDir)
		refused(t, n, m, put("/x", faulty()[0]), api.ErrArg)
		refused(t, n, m, put("/x/y", nil), api.ErrNone)
		refused(t, n, m, put("/0/0/y", nil), api.ErrFile)
		refused(t, n, m, put("/0", nil), api.ErrDir)
		for _, s := range []step{put("/0/0", lists()[3]), rename("/0", "/x"), rename("/x", "/1/x"), rename("/1/x", "/0"), snap("s"), unsnap("s"), put("/0/0", nil), remove(last.a)} {
			if e := do(t, n, m, s); e != api.OK {
				t.Fatalf("%v: %d", s, e)
			}
		}
	}
	do(t, n, m, rename("/0/0", "/0/1")) // one less
	for _, s := range []step{mkdir("/x"), put("/y", nil)} {
		if e := do(t, n, m, s); e != api.OK {
			t.Fatalf("%v: %d", s, e)
		}
	}
	refused(t, n, m, mkdir("/z"), api.ErrLong)
	check(t, n, m, nil, nil)
}

// P19.2

func TestRemove(t *testing.T) {
	n, m := some(t)
	for _, p := range wrong() {
		refused(t, n, m, remove(p), api.ErrPath)
	}
	for _, p := range []string{"/x", "/x/y", "/f/x", "/a/x", "/a/b/c/d", "/A", "/a/"[:2] + "b"} {
		refused(t, n, m, remove(p), api.ErrNone)
	}
	refused(t, n, m, remove("/"), api.ErrDir)
	refused(t, n, m, remove("/a"), api.ErrFull)
	refused(t, n, m, remove("/a/b"), api.ErrFull)
	for _, p := range []string{"/a/e", "/g", "/a/b/c", "/a/b", "/f", "/a/c", "/a", "/a!", "/é"} {
		if e := do(t, n, m, remove(p)); e != api.OK {
			t.Errorf("%q: %d", p, e)
		}
		check(t, n, m, []string{"/", p}, nil)
		refused(t, n, m, remove(p), api.ErrNone)
	}
	refused(t, n, m, remove("/"), api.ErrDir) // though it is empty
}

// What only looks as if it were in a directory: names that go on where its name ends.
func TestRemoveBesideOthers(t *testing.T) {
	n, m := made(t, mkdir("/a"), mkdir("/a!"), put("/a!/x", nil), put("/a0", nil), put("/aa", nil), put("/b", nil), put("/a\u00e9", nil), put("/A", nil))
	if e := do(t, n, m, remove("/a")); e != api.OK {
		t.Error(e)
	}
	refused(t, n, m, remove("/a!"), api.ErrFull)
	check(t, n, m, []string{"/", "/a"}, nil)
}

func TestRenameErrors(t *testing.T) {
	n, m := some(t)
	for _, p := range wrong() {
		for _, q := range []string{"/", "/x", "/a", "/f", p} {
			refused(t, n, m, rename(p, q), api.ErrPath)
			refused(t, n, m, rename(q, p), api.ErrPath)
		}
	}
	for _, p := range []string{"/", "/x", "/a", "/f", "/x/y", "/f/x"} {
		refused(t, n, m, rename("/", p), api.ErrDir)
		refused(t, n, m, rename(p, "/"), api.ErrDir)
	}
	for _, p := range []string{"/x", "/x/y", "/f/x", "/a/x"} {
		for _, q := range []string{p, p + "/z", "/a", "/f", "/y", "/y/z", "/f/z"} {
			refused(t, n, m, rename(p, q), api.ErrNone)
		}
	}
	for _, p := range []string{"/a", "/a/b", "/a/b/c", "/f", "/g"} {
		if e := do(t, n, m, rename(p, p)); e != api.OK {
			t.Errorf("%q: %d", p, e)
		}
		refused(t, n, m, rename(p, p+"/x"), api.ErrArg)
		refused(t, n, m, rename(p, p+"/x/y"), api.ErrArg)
		refused(t, n, m, rename(p, "/x/y"), api.ErrNone)
		refused(t, n, m, rename(p, "/é/y"), api.ErrFile)
		refused(t, n, m, rename(p, "/é/y/z"), api.ErrNone)
	}
	refused(t, n, m, rename("/a", "/a/b"), api.ErrArg) // and it is there
	refused(t, n, m, rename("/a", "/a/b/c"), api.ErrArg)
	refused(t, n, m, rename("/a", "/a/b/c/d"), api.ErrArg)
	for _, p := range [][2]string{{"/a", "/f"}, {"/a", "/g"}, {"/g", "/a"}, {"/g", "/f"}, {"/f", "/g"}, {"/f", "/a"}, {"/a/b/c", "/a/b"}, {"/a/b/c", "/a"}, {"/a/b", "/a"}, {"/a/b", "/a/c"}} {
		refused(t, n, m, rename(p[0], p[1]), api.ErrThere)
	}
	check(t, n, m, wrong(), nil)
}

func TestRename(t *testing.T) {
	for _, r := range [][2]string{
		{"/a", "/b"}, {"/a", "/a0"}, {"/a", "/A"}, {"/a", "/g/a"}, {"/a", "/g/a!"}, {"/a", "/aa"}, {"/a", "/a "}, {"/a", "/é!"}, {"/a", "/" + strings.Repeat("n", 100)},
		{"/a/b", "/b"}, {"/a/b", "/a/b0"}, {"/a/b", "/a/e/b"}, {"/a/b", "/g/b"}, {"/a/b/c", "/x"}, {"/a/b/c", "/f"}, {"/a/b/c", "/a/c"}, {"/a/c", "/a/b/c"},
		{"/f", "/a!"}, {"/a!", "/f"}, {"/é", "/a/é"}, {"/f", "/a/b/c"}, {"/g", "/a/g"}, {"/a/e", "/e"}, {"/f", "/a/f"},
	} {
		n, m := some(t)
		snapped(t, n, m)
		if e := do(t, n, m, rename(r[0], r[1])); e != api.OK {
			t.Errorf("%q: %d", r, e)
		}
		check(t, n, m, []string{"/", r[0], r[0] + "/b", r[1] + "/x"}, nil)
		if e := do(t, n, m, rename(r[1], r[0])); e != api.OK {
			t.Errorf("%q: %d", r, e)
		}
		check(t, n, m, []string{"/", r[1], r[1] + "/b"}, nil)
	}
}

// snapped keeps everything as it is.
func snapped(t *testing.T, n *names.Names, m *slow) {
	t.Helper()
	if e := do(t, n, m, snap("before")); e != api.OK {
		t.Fatal(e)
	}
}

// As deep as it may be, and deeper by one, in what comes first there, or last.
func TestRenameDeep(t *testing.T) {
	for depth := 1; depth <= 16; depth++ { // of what is moved, with /m
		for _, deepest := range []string{"!", "x", "~"} {
			var steps []step
			steps = append(steps, mkdir("/m"))
			for i := 2; i <= depth; i++ {
				steps = append(steps, mkdir("/m"+strings.Repeat("/"+deepest, i-1)))
			}
			if depth > 2 {
				steps = append(steps, put("/m/r", nil), put("/m/"+deepest+"/s", lists()[1]))
			}
			to := ""
			for range 15 {
				to += "/t"
				steps = append(steps, mkdir(to))
			}
			n, m := made(t, steps...)
			for above := 0; above <= 15; above++ {
				p := strings.Repeat("/t", above) + "/new"
				if above+depth > 16 {
					refused(t, n, m, rename("/m", p), api.ErrLong)
					check(t, n, m, []string{"/", "/m", p}, nil)
					continue
				}
				if do(t, n, m, rename("/m", p)) != api.OK || do(t, n, m, rename(p, "/m")) != api.OK {
					t.Fatalf("%d below %d", depth, above)
				}
			}
		}
	}
}

func TestRenameErrorsAheadOfLong(t *testing.T) {
	deep := strings.Repeat("/d", 15)
	var steps []step
	for i := range 15 {
		steps = append(steps, mkdir(deep[:2*i+2]))
	}
	n, m := made(t, append(steps, put(deep+"/x", nil), mkdir("/q"), mkdir("/q/there"), put("/q/f", nil))...)
	refused(t, n, m, rename("/d", "/q/there"), api.ErrThere)
	refused(t, n, m, rename("/d", "/q/f"), api.ErrThere)
	refused(t, n, m, rename("/d", "/q/x/y"), api.ErrNone)
	refused(t, n, m, rename("/d", "/q/f/y"), api.ErrFile)
	refused(t, n, m, rename("/d", "/d/d/d"), api.ErrArg)
	refused(t, n, m, rename("/d", "/q/new"), api.ErrLong)
	refused(t, n, m, rename("/d/d", "/q/there/new"), api.ErrLong)
	refused(t, n, m, rename("/q", deep+"/q"), api.ErrLong) // by what is in it
	if e := do(t, n, m, rename("/q/f", deep+"/q")); e != api.OK {
		t.Error(e)
	}
	refused(t, n, m, rename("/q", deep+"/q"), api.ErrThere)
	refused(t, n, m, mkdir(deep+"/q/r"), api.ErrPath)
	check(t, n, m, nil, nil)
}

// P19.3

func TestTold(t *testing.T) {
	n, m := some(t)
	check(t, n, m, append(wrong(), "/", "/x", "/x/y", "/a/x", "/f/x", "/a/b/c/d", "/A", "/a/B"), nil)
	if s, e := n.Stat("/"); s != (api.Stat{Dir: true}) || e != api.OK {
		t.Errorf("%v, %d", s, e)
	}
	if s, e := n.Stat("/a/b/c"); s != (api.Stat{Size: 8}) || e != api.OK {
		t.Errorf("%v, %d", s, e)
	}
	if l, e := n.List("/"); !slices.Equal(l, []string{"a", "a!", "f", "g", "é"}) || e != api.OK {
		t.Errorf("%q, %d", l, e)
	}
	if l, e := n.List("/a"); !slices.Equal(l, []string{"b", "c", "e"}) || e != api.OK {
		t.Errorf("%q, %d", l, e)
	}
	if l, e := n.List("/g"); len(l) != 0 || e != api.OK {
		t.Errorf("%q, %d", l, e)
	}
	if _, e := n.List("/f"); e != api.ErrFile {
		t.Error(e)
	}
	if _, e := n.File("/"); e != api.ErrDir {
		t.Error(e)
	}
	if n.Len() != 9 {
		t.Error(n.Len())
	}
}

// Names around the / in the order of bytes, each with something in it.
func TestListInOrder(t *testing.T) {
	all := []string{"!", " ", "-", "...", "0", "a", "a ", "a!", "a-", "a.", "a.b", "a0", "aa", "A", "~", "é", "e", "\u0080", "\ufffd", "\U0010ffff", "a\u0080", "z"}
	for _, dir := range []string{"", "/a", "/a/a"} {
		var steps []step
		for i := 2; i <= len(dir); i += 2 {
			steps = append(steps, mkdir(dir[:i]))
		}
		n, m := made(t, steps...)
		s := source(1)
		for _, name := range all {
			do(t, n, m, mkdir(dir+"/"+name))
			do(t, n, m, put(dir+"/"+name+"/"+s.of(all), nil))
			do(t, n, m, mkdir(dir+"/"+name+"/"+s.of(all)))
		}
		check(t, n, m, []string{"/"}, nil)
		l, e := n.List(dir + "/a")
		if e != api.OK || len(l) == 0 {
			t.Errorf("%q, %d", l, e)
		}
	}
}

func TestListOfMany(t *testing.T) {
	n, m := filled(t)
	check(t, n, m, []string{"/"}, nil)
	l, e := n.List("/")
	if len(l) != 63 || e != api.OK {
		t.Errorf("%d, %d", len(l), e)
	}
	do(t, n, m, mkdir("/63"))
	flat, slowFlat := names.New(), newSlow()
	for i := range 4096 {
		p := "/" + strconv.Itoa(i*2741%4096)
		flat.Put(p, lists()[i%4])
		slowFlat.Put(p, lists()[i%4])
	}
	l, e = flat.List("/")
	if len(l) != 4096 || e != api.OK || !slices.Equal(l, slowFlat.now.list("/")) {
		t.Errorf("%d, %d", len(l), e)
	}
	check(t, flat, slowFlat, nil, nil)
}

// P19.4

func TestSnapErrors(t *testing.T) {
	n, m := some(t)
	for _, s := range wrongNames() {
		refused(t, n, m, snap(s), api.ErrArg)
		refused(t, n, m, unsnap(s), api.ErrNone)
	}
	refused(t, n, m, unsnap("s"), api.ErrNone)
	for i := range 64 {
		s := "s" + strconv.Itoa(i*37%64)
		if e := do(t, n, m, snap(s)); e != api.OK {
			t.Fatalf("%q: %d", s, e)
		}
		refused(t, n, m, snap(s), api.ErrThere)
		do(t, n, m, put("/g/n", []api.Extent{part(api.Key{N: uint32(i)}, 0, 1)}))
	}
	refused(t, n, m, snap("more"), api.ErrLong)
	refused(t, n, m, snap("s9"), api.ErrThere) // which comes ahead of ErrLong
	refused(t, n, m, snap(""), api.ErrArg)
	check(t, n, m, []string{"/", "/x"}, []string{"more", "", "s64", "s"})
	for i := range 64 {
		s := "s" + strconv.Itoa(i*11%64)
		if e := do(t, n, m, unsnap(s)); e != api.OK {
			t.Fatalf("%q: %d", s, e)
		}
		refused(t, n, m, unsnap(s), api.ErrNone)
		if e := do(t, n, m, snap("t"+s)); e != api.OK {
			t.Fatalf("%q: %d", s, e)
		}
		refused(t, n, m, snap("more"), api.ErrLong)
	}
	check(t, n, m, []string{"/", "/x"}, []string{"s0"})
}

func TestSnapsInOrder(t *testing.T) {
	all := []string{"b", "a", "", "a0", "a!", "~", "A", "é", "aa", "\U0010ffff", "\ufffd", "...", " ", "a b", strings.Repeat("n", 100), "a", "z"}
	n, m := made(t)
	for i, s := range all {
		do(t, n, m, snap(s))
		do(t, n, m, put("/"+strconv.Itoa(i), lists()[i%4]))
		check(t, n, m, []string{"/"}, all)
	}
	for i := range all {
		do(t, n, m, unsnap(all[(i*5+3)%len(all)]))
		check(t, n, m, []string{"/"}, all)
	}
}

func TestKeys(t *testing.T) {
	var l []api.Extent
	for i := range 32 {
		for _, c := range []byte{0, 1, 127, 128, 255} {
			for _, k := range []uint32{0, 1, 255, 256, 1 << 31, math.MaxUint32} {
				var d api.Sum
				d[i] = c
				l = append(l, part(api.Key{Sum: d, N: k}, int(c), 1+i))
			}
		}
	}
	s := source(2)
	n, m := names.New(), newSlow()
	for i := range 60 {
		var some []api.Extent
		for range s.below(9) {
			some = append(some, l[s.below(len(l))])
		}
		p := "/" + strconv.Itoa(i%40)
		do(t, n, m, put(p, some))
		if i%7 == 0 {
			do(t, n, m, snap(strconv.Itoa(i)))
		}
		if keys := n.Keys(); !slices.Equal(keys, m.keys()) {
			t.Fatalf("%d: %v", i, keys)
		}
	}
	for i := range 60 {
		do(t, n, m, unsnap(strconv.Itoa(i)))
		do(t, n, m, remove("/"+strconv.Itoa(i%40)))
		if keys := n.Keys(); !slices.Equal(keys, m.keys()) {
			t.Fatalf("%d: %v", i, keys)
		}
	}
	if len(n.Keys()) != 0 {
		t.Error("keys of nothing")
	}
	n.Put("/all", l)
	n.Snap("all")
	n.Remove("/all")
	if keys := n.Keys(); len(keys) != (32*4+1)*6 { // c is 0 at all i alike
		t.Error(len(keys))
	}
}

// P19.5 is in take_test.go, but for a nil Names.

func TestNil(t *testing.T) {
	var n *names.Names
	for _, p := range append(wrong(), "/", "/a") {
		for _, l := range append(faulty(), lists()...) {
			if e := n.Put(p, l); e != api.ErrNone {
				t.Errorf("Put(%q): %d", p, e)
			}
		}
		for _, s := range []step{mkdir(p), remove(p), rename(p, p), rename(p, "/b"), rename("/b", p), snap(p), unsnap(p)} {
			if e := s.on(n); e != api.ErrNone {
				t.Errorf("%v: %d", s, e)
			}
		}
		if s, e := n.Stat(p); s != (api.Stat{}) || e != api.ErrNone {
			t.Errorf("Stat(%q): %v, %d", p, s, e)
		}
		if l, e := n.File(p); l != nil || e != api.ErrNone {
			t.Errorf("File(%q): %v, %d", p, l, e)
		}
		if l, e := n.List(p); l != nil || e != api.ErrNone {
			t.Errorf("List(%q): %q, %d", p, l, e)
		}
		if x, e := n.At(p); x != nil || e != api.ErrNone {
			t.Errorf("At(%q): %v, %d", p, x, e)
		}
	}
	if n.Snap("s") != api.ErrNone || n.Unsnap("s") != api.ErrNone {
		t.Error("a snapshot of nothing")
	}
	if n.Snaps() != nil || n.Keys() != nil || n.Len() != 0 || len(n.Lay()) != 0 {
		t.Error(n.Snaps(), n.Keys(), n.Len(), n.Lay())
	}
}

// All that few steps make: from each state that they reach, each step is done.

// fewSteps are all steps with a few paths.
func fewSteps(paths []string, files ...[]api.Extent) []step {
	var l []step
	for _, p := range paths {
		l = append(l, mkdir(p), remove(p))
		for _, f := range files {
			l = append(l, put(p, f))
		}
		for _, q := range paths {
			l = append(l, rename(p, q))
		}
	}
	return l
}

func allFrom(t *testing.T, steps []step, depth int, paths, snaps []string) int {
	t.Helper()
	met := map[string]bool{newSlow().lay(): true}
	ways := [][]step{nil} // to the states that were reached last
	for range depth {
		var more [][]step
		for _, way := range ways {
			for _, s := range steps {
				n, m := names.New(), newSlow()
				for _, x := range way {
					x.on(n)
					x.on(m)
				}
				do(t, n, m, s)
				if is := m.lay(); !met[is] {
					met[is] = true
					check(t, n, m, paths, snaps)
					taken(t, n.Lay(), m)
					more = append(more, append(slices.Clone(way), s))
				}
			}
		}
		ways = more
	}
	return len(met)
}

func TestAllFewSteps(t *testing.T) {
	paths := []string{"/", "/a", "/a/a", "/a/b", "/b", "/a!", "a"}
	if n := allFrom(t, fewSteps(paths, lists()[1], faulty()[0]), 7, append(paths, "/b/a", "/a/a/a", "/b/b"), nil); n < 700 {
		t.Errorf("%d states", n)
	}
}

func TestAllFewStepsWithSnapshots(t *testing.T) {
	steps := append(fewSteps([]string{"/a", "/a/a", "/b"}, lists()[1]), snap("s"), unsnap("s"), snap("r"), snap("/"))
	if n := allFrom(t, steps, 7, []string{"/", "/a", "/a/a", "/b", "/b/a"}, []string{"r", "s", "/", ""}); n < 3000 {
		t.Errorf("%d states", n)
	}
}

// any is any step, with paths up to so deep.
func (s *source) any(deep int) step {
	letters := []string{"a", "b", "a!", "a0", "é"}
	p := func() string {
		out := ""
		for range 1 + s.below(deep) {
			out += "/" + s.of(letters)
		}
		return out
	}
	switch s.below(12) {
	case 0:
		return remove(p())
	case 1, 2, 3:
		return rename(p(), p())
	case 4, 5, 6:
		return put(p(), lists()[s.below(4)])
	case 7:
		return snap(s.of(letters))
	case 8:
		if s.below(3) == 0 {
			return unsnap(s.of(letters))
		}
	}
	return mkdir(p())
}

// P19.6 to P19.8 hold of all that random steps make.
func TestAtRandom(t *testing.T) {
	for seed := range 6 {
		s := source(seed + 10)
		n, m := names.New(), newSlow()
		kept := map[string]string{} // the bytes of each snapshot when it was created
		for i := range 1500 {
			x := s.any(2 + seed)
			if e := do(t, n, m, x); e == api.OK && x.verb == "snap" {
				kept[x.a] = string(n.Lay()[len(n.Lay())-len(m.now.table()):])
			} else if e == api.OK && x.verb == "unsnap" {
				delete(kept, x.a)
			}
			if i%20 == 0 {
				check(t, n, m, []string{"/", "/a", "/a/b/a", "/x", "a"}, []string{"a", "x"})
				checkTree(t, n)
				checkKept(t, n, kept)
			}
		}
		taken(t, n.Lay(), m)
	}
}

// checkTree tells that whatever is listed from the root on is all that exists, and
// that each is listed once.
func checkTree(t *testing.T, n *names.Names) {
	t.Helper()
	met := map[string]bool{}
	var visit func(dir string)
	visit = func(dir string) {
		l, e := n.List(dir)
		if e != api.OK || !slices.IsSorted(l) {
			t.Fatalf("List(%q) is %q, %d", dir, l, e)
		}
		for _, name := range l {
			p := strings.TrimSuffix(dir, "/") + "/" + name
			if s, e := n.Stat(p); e != api.OK || met[p] {
				t.Fatalf("Stat(%q): %d; it was listed: %v", p, e, met[p])
			} else if s.Dir {
				visit(p)
			}
			met[p] = true
		}
	}
	visit("/")
	if len(met) != n.Len() {
		t.Fatalf("%d are listed of %d", len(met), n.Len())
	}
}

// checkKept tells that the snapshots are as they were.
func checkKept(t *testing.T, n *names.Names, kept map[string]string) {
	t.Helper()
	if len(n.Snaps()) != len(kept) {
		t.Fatalf("%q of %d", n.Snaps(), len(kept))
	}
	for s, was := range kept {
		x, e := n.At(s)
		if e != api.OK || string(x.Lay()) != "\x00\x00"+was {
			t.Fatalf("snapshot %q has changed, or is not there: %d", s, e)
		}
	}
}

// P19.7

func TestRenamedBack(t *testing.T) {
	paths := []string{"/a", "/a!", "/a/b", "/a/b/c", "/a/c", "/a/e", "/f", "/g", "/é", "/a/e/x", "/g/x", "/x", "/a/x", "/a/b/x"}
	done := 0
	for _, from := range paths {
		for _, to := range paths {
			n, m := some(t)
			before := string(n.Lay())
			_, replaced := m.now[to]
			was := m.clone()
			if do(t, n, m, rename(from, to)) != api.OK {
				continue
			}
			done++
			for p, x := range was.now { // what was renamed, and nothing else
				q := p
				if within(p, from) {
					q = to + p[len(from):]
				} else if p == to {
					continue
				}
				if s, e := n.Stat(q); e != api.OK || s.Dir != x.dir {
					t.Fatalf("%q to %q: Stat(%q) is %v, %d", from, to, q, s, e)
				}
				if l, e := n.File(q); !x.dir && (e != api.OK || !slices.Equal(l, x.list)) {
					t.Fatalf("%q to %q: File(%q) is %v, %d", from, to, q, l, e)
				}
			}
			if e := do(t, n, m, rename(to, from)); e != api.OK || !replaced && string(n.Lay()) != before {
				t.Fatalf("%q to %q and back: %d", from, to, e)
			}
		}
	}
	if done < 40 {
		t.Errorf("%d were renamed", done)
	}
}

// P19.8

func TestSnapshotsAreIndependent(t *testing.T) {
	n, m := some(t)
	do(t, n, m, snap("s"))
	want := m.clone()
	was := &slow{now: want.snaps["s"], snaps: map[string]state{}}
	x, _ := n.At("s")
	y, _ := n.At("s")
	if x == y || x == n {
		t.Error("At is not new")
	}
	mx := was.clone()
	for i, s := range []step{remove("/f"), rename("/a", "/b"), put("/b/c", nil), snap("s"), snap("t"), mkdir("/new"), remove("/é"), unsnap("t")} {
		if e := do(t, x, mx, s); e != api.OK {
			t.Fatalf("%v: %d", s, e)
		}
		check(t, n, want, nil, []string{"t"})
		check(t, y, was, nil, []string{"s", "t"})
		if i == 5 {
			check(t, x, mx, []string{"/"}, nil)
		}
	}
	for _, s := range []step{remove("/f"), rename("/a", "/c"), put("/é", lists()[1]), unsnap("s"), snap("s"), mkdir("/c/b/d")} {
		if e := do(t, n, m, s); e != api.OK {
			t.Fatalf("%v: %d", s, e)
		}
		check(t, y, was, nil, nil)
		check(t, x, mx, nil, nil)
	}
}

// Rules 4 and 5

// scribble changes a list, and what lies beyond its length.
func scribble[T any](l []T, x T) {
	l = l[:cap(l)]
	for i := range l {
		l[i] = x
	}
}

func TestArgumentsAreNotKept(t *testing.T) {
	room := []api.Extent{part(keyA, 0, 5), part(keyB, 1, 6), part(keyC, 2, 7), part(keyA, -9, -9)}
	l := slices.Clone(room)
	n, m := names.New(), newSlow()
	do(t, n, m, put("/f", l[:2]))
	do(t, n, m, put("/g", l[1:3]))
	if !slices.Equal(l, room) {
		t.Errorf("%v", l)
	}
	scribble(l, part(keyC, 9, 9))
	check(t, n, m, nil, nil)

	b := append(n.Lay(), 1, 2, 3)
	old := slices.Clone(b)
	x, e := names.Take(b[:len(b)-3])
	if e != api.OK || !slices.Equal(b, old) {
		t.Fatalf("%v, %d", b, e)
	}
	scribble(b, 7)
	check(t, x, m, nil, nil)
}

func TestResultsAreNew(t *testing.T) {
	n, m := some(t)
	do(t, n, m, snap("s"))
	do(t, n, m, snap("r"))
	for range 2 {
		list, _ := n.List("/")
		file, _ := n.File("/é")
		again, _ := n.File("/é")
		snaps, keys, b := n.Snaps(), n.Keys(), n.Lay()
		scribble(list, "x")
		scribble(file, part(keyA, 7, 7))
		scribble(snaps, "x")
		scribble(keys, api.Key{N: 9})
		scribble(b, 9)
		if !slices.Equal(again, lists()[3]) {
			t.Errorf("%v", again)
		}
		check(t, n, m, nil, nil)
	}
}
