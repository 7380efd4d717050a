package path_test

import (
	"slices"
	"strings"
	"testing"

	"cellarage/api"
	"cellarage/path"
)

// source makes the same numbers for the same seed.
type source uint64

func (s *source) next() uint64 {
	*s = *s*6364136223846793005 + 1442695040888963407
	return uint64(*s >> 16)
}

// below is a number from 0 to n - 1.
func (s *source) below(n int) int { return int(s.next() % uint64(n)) }

// of is up to most of some texts, one behind the other.
func (s *source) of(most int, texts ...string) string {
	out := ""
	for range s.below(most + 1) {
		out += texts[s.below(len(texts))]
	}
	return out
}

// encoded is the bytes of a number as UTF-8 has them, in so many bytes, whether or not
// they are too many and the number is a code point.
func encoded(c, many int) string {
	if many == 1 {
		return string([]byte{byte(c)})
	}
	b := make([]byte, many)
	for i := many - 1; i > 0; i-- {
		b[i] = byte(0x80 | c&0x3f)
		c >>= 6
	}
	b[0] = byte([]int{0, 0, 0xc0, 0xe0, 0xf0}[many] | c)
	return string(b)
}

// fewest is how many bytes UTF-8 has for a number, and whether that is a code point.
func fewest(c int) (int, bool) {
	switch {
	case c < 0 || c > 0x10ffff || c >= 0xd800 && c <= 0xdfff:
		return 0, false
	case c < 0x80:
		return 1, true
	case c < 0x800:
		return 2, true
	case c < 0x10000:
		return 3, true
	}
	return 4, true
}

// points are the code points of s, and whether it is valid UTF-8.
func points(s string) ([]int, bool) {
	var l []int
	for i := 0; i < len(s); {
		many, c := 0, int(s[i])
		switch {
		case c < 0x80:
			many = 1
		case c >= 0xc0 && c < 0xe0:
			many, c = 2, c&0x1f
		case c >= 0xe0 && c < 0xf0:
			many, c = 3, c&0x0f
		case c >= 0xf0 && c < 0xf8:
			many, c = 4, c&0x07
		}
		if many == 0 || i+many > len(s) {
			return nil, false
		}
		for _, b := range []byte(s[i+1 : i+many]) {
			if b&0xc0 != 0x80 {
				return nil, false
			}
			c = c<<6 | int(b&0x3f)
		}
		if n, is := fewest(c); !is || n != many {
			return nil, false
		}
		l = append(l, c)
		i += many
	}
	return l, true
}

// slowName is Name as P17.1 tells it.
func slowName(s string) bool {
	l, valid := points(s)
	if len(s) < 1 || len(s) > 100 || s == "." || s == ".." || !valid {
		return false
	}
	for _, c := range l {
		if c == 47 || c < 32 || c == 127 {
			return false
		}
	}
	return true
}

// slowParse tells the names of s, and whether it is a path, as P17.1 tells it: of each
// part between a / and the next one.
func slowParse(s string) ([]string, bool) {
	if s == "/" {
		return nil, true
	}
	if s == "" || s[0] != '/' {
		return nil, false
	}
	var l []string
	part := ""
	for i := 1; i <= len(s); i++ {
		if i < len(s) && s[i] != '/' {
			part += s[i : i+1]
			continue
		}
		if !slowName(part) {
			return nil, false
		}
		l, part = append(l, part), ""
	}
	return l, len(l) <= 16
}

// slowText is the path of names.
func slowText(l []string) string {
	if len(l) == 0 {
		return "/"
	}
	s := ""
	for _, n := range l {
		s += "/" + n
	}
	return s
}

// slowBehind tells the names of s behind those of dir, and whether it is within that.
func slowBehind(s, dir string) ([]string, bool) {
	l, is := slowParse(s)
	m, also := slowParse(dir)
	if !is || !also || len(m) > len(l) {
		return nil, false
	}
	for i := range m {
		if l[i] != m[i] {
			return nil, false
		}
	}
	return l[len(m):], true
}

func checkName(t *testing.T, s string) {
	t.Helper()
	if got := path.Name(s); got != slowName(s) {
		t.Fatalf("Name(%q) is %v", s, got)
	}
}

// checkOne holds the calls with one text against what the chapter tells.
func checkOne(t *testing.T, s string) {
	t.Helper()
	checkName(t, s)
	want, is := slowParse(s)
	l, e := path.Parse(s)
	parent, name, f := path.Parent(s)
	if !is {
		if e != api.ErrPath || len(l) != 0 {
			t.Fatalf("Parse(%q) is %q, %d", s, l, e)
		}
		if f != api.ErrPath || parent != "" || name != "" {
			t.Fatalf("Parent(%q) is %q, %q, %d", s, parent, name, f)
		}
		return
	}
	if e != api.OK || !slices.Equal(l, want) {
		t.Fatalf("Parse(%q) is %q, %d", s, l, e)
	}
	if len(want) == 0 {
		if f != api.ErrNone || parent != "" || name != "" {
			t.Fatalf("Parent(%q) is %q, %q, %d", s, parent, name, f)
		}
		return
	}
	last := len(want) - 1
	if f != api.OK || parent != slowText(want[:last]) || name != want[last] {
		t.Fatalf("Parent(%q) is %q, %q, %d", s, parent, name, f)
	}
}

// checkTwo holds the calls with two texts against what the chapter tells.
func checkTwo(t *testing.T, s, dir string) {
	t.Helper()
	l, is := slowBehind(s, dir)
	if got := path.Within(s, dir); got != is {
		t.Fatalf("Within(%q, %q) is %v", s, dir, got)
	}
	want := ""
	if len(l) > 0 {
		want = l[0]
	}
	if got, ok := path.Child(s, dir); got != want || ok != (len(l) > 0) {
		t.Fatalf("Child(%q, %q) is %q, %v", s, dir, got, ok)
	}
}

// checkText holds Text against what the chapter tells.
func checkText(t *testing.T, l []string) {
	t.Helper()
	right := len(l) <= 16
	for _, n := range l {
		right = right && slowName(n)
	}
	s, e := path.Text(l)
	if !right && (e != api.ErrArg || s != "") || right && (e != api.OK || s != slowText(l)) {
		t.Fatalf("Text(%q) is %q, %d", l, s, e)
	}
}

// texts are all texts of up to n of the letters.
func texts(n int, letters ...string) []string {
	all, last := []string{""}, []string{""}
	for range n {
		var longer []string
		for _, s := range last {
			for _, x := range letters {
				longer = append(longer, s+x)
			}
		}
		all, last = append(all, longer...), longer
	}
	return all
}

// many is a name, or what is no name, so many times.
func many(s string, n int) []string { return slices.Repeat([]string{s}, n) }

// P17.1

func TestNames(t *testing.T) {
	n100 := strings.Repeat("n", 100)
	for _, s := range []string{"a", "/a"[1:], "bc", "a b", " ", "~", "!", "...", "..a", ".a", "a.", "a..", ". ", ". .", "é", "\\", "-", "\u0080", "\u009f", "\ufffd", "a\ufffdb", "\U0010ffff", "\ue000", "\ud7ff", n100, strings.Repeat("é", 50), strings.Repeat("語", 33) + "x", strings.Repeat("\U0001f600", 25)} {
		if !path.Name(s) {
			t.Errorf("%q is no name", s)
		}
		checkName(t, s)
	}
	for _, s := range []string{"", ".", "..", "/", "a/", "/a", "a/b", "\x00", "a\x00", "\x1f", "a\x1fb", "\n", "\t", "\x7f", "a\x7f", "\xff", "a\xff", "\xc3", "a\xc3", "\xa9", "\xc0\xaf", "\xc1\xbf", "\xe0\x80\xaf", "\xe0\x9f\xbf", "\xed\xa0\x80", "\xed\xbf\xbf", "\xf0\x8f\xbf\xbf", "\xf4\x90\x80\x80", "\xf8\x88\x80\x80\x80", "\xef\xbf", "\ufffd\xff", n100 + "n", strings.Repeat("é", 51), strings.Repeat("語", 34), strings.Repeat("é", 50) + "x", strings.Repeat(".", 101)} {
		if path.Name(s) {
			t.Errorf("%q is a name", s)
		}
		checkName(t, s)
	}
}

func TestNamesOfCodePoints(t *testing.T) {
	for c := 0; c < 1<<21; c++ {
		n, is := fewest(c)
		if !is { // so many it would have
			n = 3 + min(c>>16, 1)
		}
		s := encoded(c, n)
		checkName(t, s)
		if got, want := path.Name("a"+s), is && c != 47 && c >= 32 && c != 127; got != want {
			t.Fatalf("Name of a and %d is %v", c, got)
		}
	}
	for c := range 1 << 16 { // more bytes than a code point needs
		if n, _ := fewest(c); path.Name(encoded(c, 4)) || n < 3 && path.Name(encoded(c, 3)) || n < 2 && path.Name(encoded(c, 2)) {
			t.Fatalf("%d is in a name", c)
		}
	}
}

func TestNamesOfBytes(t *testing.T) {
	for i := range 1 << 16 {
		checkName(t, string([]byte{byte(i)}))
		checkName(t, string([]byte{byte(i >> 8), byte(i)}))
	}
	edges := []string{"\x00", "\x1f", " ", "-", ".", "/", "0", "a", "~", "\x7f", "\x80", "\x8f", "\x90", "\x9f", "\xa0", "\xbf", "\xc0", "\xc1", "\xc2", "\xdf", "\xe0", "\xe1", "\xec", "\xed", "\xee", "\xef", "\xf0", "\xf1", "\xf3", "\xf4", "\xf5", "\xf7", "\xf8", "\xff"}
	for _, s := range texts(3, edges...) {
		checkName(t, s)
		checkName(t, "\xf0"+s)
		checkName(t, "\xf4"+s)
	}
}

// A byte, wherever it is in a name, and with as much around it as may be.
func TestNamesOfEachByteAnywhere(t *testing.T) {
	for i := range 256 {
		for _, ahead := range []int{0, 1, 50, 98, 99, 100} {
			for _, behind := range []int{0, 1, 99 - ahead, 100 - ahead} {
				if behind >= 0 {
					checkName(t, strings.Repeat("n", ahead)+string([]byte{byte(i)})+strings.Repeat("n", behind))
				}
			}
		}
	}
}

func TestNamesAtRandom(t *testing.T) {
	s := source(1)
	for range 100000 {
		checkName(t, s.of(4, "a", ".", "é", "語", "\U0001f600", "\ufffd", " ", "/", "\x1f", "\x7f", "\xff", "\x80", "\xc3"))
		checkName(t, s.of(110, "a", "é"))
	}
}

// P17.2

func TestParseOfAllShortTexts(t *testing.T) {
	for _, s := range texts(8, "/", "a", ".", "\xff") {
		checkOne(t, s)
		checkOne(t, "/"+s)
	}
	for _, s := range texts(5, "/", "a", "b c", ".", "é", "\x00", "\xc3") {
		checkOne(t, s)
	}
}

func TestParseAtTheLimits(t *testing.T) {
	n100 := strings.Repeat("n", 100)
	for _, n := range []int{1, 2, 15, 16, 17, 18, 19, 32, 33, 1000} {
		for _, name := range []string{"a", "é", n100, n100 + "n", ".", "..", "...", "", "\xff"} {
			s := strings.Repeat("/"+name, n)
			checkOne(t, s)
			checkOne(t, s+"/")
			checkOne(t, "/"+s)
			checkOne(t, s[1:])
		}
	}
	l, e := path.Parse(strings.Repeat("/"+n100, 16))
	if e != api.OK || !slices.Equal(l, many(n100, 16)) {
		t.Errorf("the longest path: %q, %d", l, e)
	}
	if l, e := path.Parse(strings.Repeat("/a", 17)); e != api.ErrPath || len(l) != 0 {
		t.Errorf("a path too deep: %q, %d", l, e)
	}
	for i := range 16 { // one name that is none, at each place
		for _, bad := range []string{"", ".", "..", "\x00", "\x7f", "\xff", n100 + "n"} {
			l := many("a", 16)
			l[i] = bad
			checkOne(t, slowText(l))
			if _, e := path.Parse(slowText(l)); e != api.ErrPath {
				t.Errorf("%q: %d", l, e)
			}
			checkText(t, l)
		}
	}
}

func TestTextOfAllShortLists(t *testing.T) {
	checkText(t, nil)
	checkText(t, []string{})
	names := []string{"", "a", "b", "é", ".", "..", "...", "/", "a/b", "/a", "a/", "\x00", "\x7f", "\xff"}
	for _, a := range names {
		checkText(t, []string{a})
		for _, b := range names {
			checkText(t, []string{a, b})
			for _, c := range names {
				checkText(t, []string{a, b, c})
			}
		}
	}
}

func TestTextAtTheLimits(t *testing.T) {
	n100 := strings.Repeat("n", 100)
	for _, n := range []int{0, 1, 2, 15, 16, 17, 18, 100, 1 << 16} {
		for _, name := range []string{"a", n100, n100 + "n", ".", "", "a/b"} {
			checkText(t, many(name, n))
		}
	}
	if s, e := path.Text(many(n100, 16)); e != api.OK || len(s) != 16*101 {
		t.Errorf("the longest path: %q, %d", s, e)
	}
	if s, e := path.Text(many("a", 17)); e != api.ErrArg || s != "" {
		t.Errorf("a path too deep: %q, %d", s, e)
	}
	if s, e := path.Text([]string{"a/b"}); e != api.ErrArg || s != "" {
		t.Errorf("a name with a /: %q, %d", s, e)
	}
}

// P17.3

func TestParent(t *testing.T) {
	for _, x := range [][3]string{{"/a", "/", "a"}, {"/a/b", "/a", "b"}, {"/a/a", "/a", "a"}, {"/a/b c/é", "/a/b c", "é"}, {strings.Repeat("/a", 16), strings.Repeat("/a", 15), "a"}} {
		if p, n, e := path.Parent(x[0]); p != x[1] || n != x[2] || e != api.OK {
			t.Errorf("%q: %q, %q, %d", x[0], p, n, e)
		}
	}
	if p, n, e := path.Parent("/"); p != "" || n != "" || e != api.ErrNone {
		t.Errorf("of /: %q, %q, %d", p, n, e)
	}
	for _, s := range []string{"", "a", "//", "/a/", "/.", "/a/..", "/a/\xff", "/\xff/a", strings.Repeat("/a", 17)} {
		if p, n, e := path.Parent(s); p != "" || n != "" || e != api.ErrPath {
			t.Errorf("%q: %q, %q, %d", s, p, n, e)
		}
	}
}

func TestWithinOfAllShortTexts(t *testing.T) {
	all := texts(5, "/", "a", "b")
	all = append(all, texts(3, "/", "a", ".", "\xff")...)
	for _, s := range all {
		for _, dir := range all {
			checkTwo(t, s, dir)
		}
	}
}

func TestWithinAtTheLimits(t *testing.T) {
	a := func(n int) string { return strings.Repeat("/a", n) }
	for n := range 19 {
		for m := range 19 {
			checkTwo(t, a(n), a(m))
			checkTwo(t, a(n)+"/", a(m))
			checkTwo(t, a(n), a(m)+"/")
			checkTwo(t, a(n)+"/b", a(m))
			checkTwo(t, a(n), a(m)+"/b")
			checkTwo(t, a(n)+"/b", a(m)+"/b")
			checkTwo(t, a(n)+"b", a(m))
			checkTwo(t, a(n), a(m)+"b")
			checkTwo(t, "/b"+a(n), a(m))
		}
	}
	if path.Within(a(17), a(16)) || path.Within(a(17), a(17)) || path.Within("", "") || path.Within("a", "a") {
		t.Error("what is no path is within another one")
	}
	if n, ok := path.Child(a(17), a(16)); ok || n != "" {
		t.Errorf("the child of what is no path: %q, %v", n, ok)
	}
	if n, ok := path.Child(a(16), a(15)); !ok || n != "a" {
		t.Errorf("the deepest child: %q, %v", n, ok)
	}
}

// somePaths are paths that have much in common, and texts that are none.
func somePaths(s *source, n int) []string {
	var l []string
	for range n {
		p := s.of(17, "/a", "/b", "/ab", "/é", "/...")
		if s.below(8) == 0 {
			p += s.of(2, "/", "/.", "x", "\xff", "/\x7f")
		}
		l = append(l, p, p+s.of(3, "/a", "/b", "a"), p[:s.below(len(p)+1)])
	}
	return append(l, "/", "")
}

func TestWithinAtRandom(t *testing.T) {
	s := source(2)
	for range 60 {
		l := somePaths(&s, 15)
		for _, a := range l {
			checkOne(t, a)
			for _, b := range l {
				checkTwo(t, a, b)
			}
		}
	}
}

// P17.4

func TestThereAndBack(t *testing.T) {
	s := source(3)
	paths := 0
	for range 20000 {
		p := "/" + strings.TrimPrefix(s.of(17, "/a", "/b c", "/é", "/..", "/...", "/\ufffd"), "/")
		l, e := path.Parse(p)
		if e != api.OK {
			continue
		}
		paths++
		if again, f := path.Text(l); f != api.OK || again != p {
			t.Fatalf("Text of the names of %q is %q, %d", p, again, f)
		}
	}
	if paths < 2000 {
		t.Errorf("only %d paths", paths)
	}
	for range 20000 {
		l := make([]string, s.below(17))
		for i := range l {
			l[i] = "x" + s.of(49, "a", "é", ".", " ")
		}
		p, e := path.Text(l)
		again, f := path.Parse(p)
		if e != api.OK || f != api.OK || !slices.Equal(again, l) {
			t.Fatalf("Parse of the path %q of %q is %q, %d, %d", p, l, again, e, f)
		}
	}
}

// P17.5

func TestWithinIsAnOrder(t *testing.T) {
	all := append(texts(5, "/", "a", "b"), strings.Repeat("/a", 16), strings.Repeat("/a", 15), strings.Repeat("/a", 17))
	for _, a := range all {
		if _, e := path.Parse(a); path.Within(a, a) != (e == api.OK) {
			t.Errorf("%q is within itself: %v", a, path.Within(a, a))
		}
		for _, b := range all {
			if !path.Within(a, b) {
				continue
			}
			if a != b && path.Within(b, a) {
				t.Errorf("%q and %q are within one another", a, b)
			}
			for _, c := range all {
				if path.Within(b, c) && !path.Within(a, c) {
					t.Errorf("%q is within %q, and that within %q", a, b, c)
				}
			}
		}
	}
}

// P17.6

func TestWithinTheParent(t *testing.T) {
	s := source(4)
	paths := 0
	for _, p := range append(somePaths(&s, 2000), texts(6, "/", "a", "b")...) {
		dir, name, e := path.Parent(p)
		if e != api.OK {
			continue
		}
		paths++
		if !path.Within(p, dir) || path.Within(dir, p) {
			t.Fatalf("%q is not within its parent %q, or that within it", p, dir)
		}
		if child, ok := path.Child(p, dir); !ok || child != name {
			t.Fatalf("the child of %q in %q is %q, %v, not %q", p, dir, child, ok, name)
		}
		if child, ok := path.Child(dir, p); ok || child != "" {
			t.Fatalf("the child of the parent %q in %q is %q, %v", dir, p, child, ok)
		}
	}
	if paths < 1000 {
		t.Errorf("only %d paths", paths)
	}
}

// The chapter's examples

func TestExamples(t *testing.T) {
	if l, e := path.Parse("/a/bc"); e != api.OK || !slices.Equal(l, []string{"a", "bc"}) {
		t.Errorf("/a/bc: %q, %d", l, e)
	}
	for _, s := range []string{"/a/", ""} {
		if l, e := path.Parse(s); e != api.ErrPath || len(l) != 0 {
			t.Errorf("%q: %q, %d", s, l, e)
		}
	}
	if p, n, e := path.Parent("/a/bc"); p != "/a" || n != "bc" || e != api.OK {
		t.Errorf("the parent of /a/bc: %q, %q, %d", p, n, e)
	}
	if !path.Within("/a/b", "/a") || path.Within("/ab", "/a") {
		t.Errorf("within /a: %v, %v", path.Within("/a/b", "/a"), path.Within("/ab", "/a"))
	}
}

// The rules for all calls

func TestArgumentsAreLeftAlone(t *testing.T) {
	for _, bad := range []string{"", "b", "/"} {
		whole := []string{"left", "a", bad, "é", "more", "than that"}
		was := slices.Clone(whole)
		path.Text(whole[1:4])
		path.Text(whole[1:1])
		if !slices.Equal(whole, was) {
			t.Errorf("%q was %q", whole, was)
		}
	}
}

// What lies behind a list is not read: it would be no path with that.
func TestNothingIsReadBehindAList(t *testing.T) {
	whole := []string{"a", "b", "/", "."}
	if s, e := path.Text(whole[:2]); s != "/a/b" || e != api.OK {
		t.Errorf("%q, %d", s, e)
	}
}

func TestResultsAreNewMemory(t *testing.T) {
	s := "/a/b/c"
	l, _ := path.Parse(s)
	m, _ := path.Parse(s)
	for i := range l {
		l[i] = "x"
	}
	for i := range l[:cap(l)] {
		l[:cap(l)][i] = "y"
	}
	if !slices.Equal(m, []string{"a", "b", "c"}) {
		t.Errorf("after the other was altered: %q", m)
	}
	if again, _ := path.Parse(s); !slices.Equal(again, m) {
		t.Errorf("parsed again: %q", again)
	}
	text, _ := path.Text(m)
	clear(m)
	if text != "/a/b/c" {
		t.Errorf("after its names were altered: %q", text)
	}
}

func TestTheSameCallsReturnTheSame(t *testing.T) {
	s := source(5)
	l := somePaths(&s, 100)
	for range 2 {
		for i, p := range l {
			checkOne(t, p)
			checkTwo(t, p, l[len(l)-1-i])
			checkText(t, strings.Split(p, "/"))
		}
	}
}

// No call panics, nor takes long, for texts and lists much longer than may be.
func TestTextsMuchTooLong(t *testing.T) {
	const n = 1 << 22
	for _, s := range []string{strings.Repeat("/", n), strings.Repeat("a", n), "/" + strings.Repeat("a", n), strings.Repeat("/a", n), strings.Repeat("\xff", n), "/a/b/" + strings.Repeat("é", n)} {
		if l, e := path.Parse(s); e != api.ErrPath || len(l) != 0 {
			t.Errorf("a text of %d bytes: %d names, %d", len(s), len(l), e)
		}
		if p, name, e := path.Parent(s); e != api.ErrPath || p != "" || name != "" {
			t.Errorf("the parent of a text of %d bytes: %d", len(s), e)
		}
		if name, ok := path.Child(s, "/"); ok || name != "" || path.Within(s, "/") || path.Within("/", s) || path.Name(s) {
			t.Errorf("a text of %d bytes is a path or a name", len(s))
		}
	}
	if s, e := path.Text(many("a", n)); e != api.ErrArg || s != "" {
		t.Errorf("%d names: %d", n, e)
	}
}
