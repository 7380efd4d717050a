package tree_test

import (
	"math"
	"slices"
	"strconv"
	"strings"
	"sync"
	"testing"

	"cellarage/api"
	"cellarage/tree"
)

// source makes the same numbers for the same seed.
type source uint64

func (s *source) next() uint64 {
	*s = *s*6364136223846793005 + 1442695040888963407
	return uint64(*s >> 16)
}

// below is a number from 0 to n - 1.
func (s *source) below(n int) int { return int(s.next() % uint64(n)) }

// order is the numbers from 0 to n - 1, in any order.
func (s *source) order(n int) []int {
	l := make([]int, n)
	for i := range l {
		j := s.below(i + 1)
		l[i], l[j] = l[j], i
	}
	return l
}

// slow is a map as the chapter tells it: pairs in any order, each key once.
type slow []api.Pair

func (m slow) get(key string) (string, bool) {
	for _, p := range m {
		if p.Key == key {
			return p.Value, true
		}
	}
	return "", false
}

func (m slow) drop(key string) slow {
	var out slow
	for _, p := range m {
		if p.Key != key {
			out = append(out, p)
		}
	}
	return out
}

func (m slow) put(key, value string) slow {
	return append(m.drop(key), api.Pair{Key: key, Value: value})
}

func (m slow) from(key string, n int) []api.Pair {
	var all []api.Pair
	for _, p := range m {
		at := 0
		for at < len(all) && lesser(all[at].Key, p.Key) {
			at++
		}
		if !lesser(p.Key, key) {
			all = slices.Insert(all, at, p)
		}
	}
	return all[:max(0, min(n, len(all)))]
}

// lesser holds two keys against each other byte by byte.
func lesser(a, b string) bool {
	for i := 0; i < len(a) && i < len(b); i++ {
		if a[i] != b[i] {
			return a[i] < b[i]
		}
	}
	return len(a) < len(b)
}

// number is a key of so many digits, in the order of the numbers.
func number(i int) string {
	s := strconv.Itoa(i)
	return strings.Repeat("0", 6-len(s)) + s
}

// built is what the keys were put into, one after the other.
func built(keys ...string) *tree.Tree {
	var x *tree.Tree
	for _, k := range keys {
		x = x.Put(k, "v"+k)
	}
	return x
}

// checkHeight holds the height of x against the number of its pairs.
func checkHeight(t *testing.T, x *tree.Tree) {
	t.Helper()
	n, h := uint64(x.Len()), x.Height()
	if h < 0 || h > 40 || uint64(1)<<h > (n+1)*(n+1) || n > 1<<h-1 {
		t.Fatalf("%d pairs: the height is %d", n, h)
	}
}

// checkFresh holds the nodes that y has and x has not against the height of x, from
// which y comes by one Put or Drop.
func checkFresh(t *testing.T, y, x *tree.Tree) {
	t.Helper()
	if n := y.Fresh(x); n < 0 || n > 3*(x.Height()+2) || n > y.Len() {
		t.Fatalf("%d pairs, height %d: %d nodes are fresh", x.Len(), x.Height(), n)
	}
}

// check holds x against m: all calls, with these keys and numbers.
func check(t *testing.T, x *tree.Tree, m slow, keys []string, nums []int) {
	t.Helper()
	if x.Len() != len(m) {
		t.Fatalf("of %q: Len is %d", m, x.Len())
	}
	checkHeight(t, x)
	for _, k := range keys {
		v, is := x.Get(k)
		if w, there := m.get(k); v != w || is != there {
			t.Fatalf("of %q: Get(%q) is %q, %v", m, k, v, is)
		}
		for _, n := range nums {
			if l := x.From(k, n); !slices.Equal(l, m.from(k, n)) {
				t.Fatalf("of %q: From(%q, %d) is %q", m, k, n, l)
			}
		}
	}
}

// checkNext holds what one Put and one Drop of a key make of x, which is m, against
// what they make of m, and x against what it was.
func checkNext(t *testing.T, x *tree.Tree, m slow, key, value string, keys []string, nums []int) (*tree.Tree, *tree.Tree) {
	t.Helper()
	put := x.Put(key, value)
	check(t, put, m.put(key, value), keys, nums)
	checkFresh(t, put, x)
	dropped, was := x.Drop(key)
	if _, there := m.get(key); was != there {
		t.Fatalf("of %q: Drop(%q) is %v", m, key, was)
	}
	check(t, dropped, m.drop(key), keys, nums)
	checkFresh(t, dropped, x)
	check(t, x, m, keys, nums)
	return put, dropped
}

var (
	few  = []int{-1, 0, 1, 2, 3, 9}
	many = []int{math.MinInt, -1, 0, 1, 2, 7, 100, math.MaxInt32, math.MaxInt}
)

// P18.1

func TestExamples(t *testing.T) {
	var x *tree.Tree
	if x.Len() != 0 || x.Height() != 0 {
		t.Errorf("of the empty map: %d, %d", x.Len(), x.Height())
	}
	y := x.Put("b", "1").Put("a", "2")
	if l := y.From("", 9); !slices.Equal(l, []api.Pair{{Key: "a", Value: "2"}, {Key: "b", Value: "1"}}) {
		t.Errorf("%q", l)
	}
}

func TestEmpty(t *testing.T) {
	emptied, _ := built("a").Drop("a")
	zero := new(tree.Tree)
	still, was := zero.Drop("a")
	if was {
		t.Error("a was in a zero tree")
	}
	for i, x := range []*tree.Tree{nil, emptied, zero, still} {
		check(t, x, nil, []string{"", "a", "\xff"}, many)
		if x.Len() != 0 || x.Height() != 0 || x.From("", 9) != nil {
			t.Errorf("%d: %d, %d, %q", i, x.Len(), x.Height(), x.From("", 9))
		}
		if v, is := x.Get(""); v != "" || is {
			t.Errorf("%d: %q, %v", i, v, is)
		}
		if y, was := x.Drop(""); was || y.Len() != 0 || y.Fresh(x) != 0 {
			t.Errorf("%d: %v, %d", i, was, y.Len())
		}
		y := x.Put("", "")
		check(t, y, slow{{}}, []string{"", "a"}, many)
		if y.Height() != 1 || y.Fresh(x) != 1 || x.Fresh(y) != 0 || x.Fresh(nil) != 0 || x.Fresh(x) != 0 {
			t.Errorf("%d: %d, %d, %d", i, y.Height(), y.Fresh(x), x.Fresh(y))
		}
		if z, was := y.Drop(""); !was || z.Len() != 0 || z.Height() != 0 {
			t.Errorf("%d: %v, %d", i, was, z.Len())
		}
	}
}

// All maps that a few steps with four keys make; and none of them is changed by what
// is made of it later (P18.3).
func TestAllShortSteps(t *testing.T) {
	keys := []string{"", "a", "ab", "b"}
	asked := append([]string{"\x00", "aa", "a\xff", "c"}, keys...)
	var goOn func(x *tree.Tree, m slow, steps int)
	goOn = func(x *tree.Tree, m slow, steps int) {
		for _, k := range keys {
			for _, v := range []string{"", "1"} {
				put, dropped := checkNext(t, x, m, k, v, asked, few)
				if steps > 1 {
					goOn(put, m.put(k, v), steps-1)
					goOn(dropped, m.drop(k), steps-1)
				}
			}
		}
		check(t, x, m, asked, few)
	}
	goOn(nil, nil, 3)
}

// Keys that differ in their last byte, in their length, and in bytes from 128 on.
func TestKeysOfAnyBytes(t *testing.T) {
	keys := []string{"", "\x00", "\x00\x00", "\x00\xff", "a", "a\x00", "a\x00\x00", "a\x01", "aa", "ab", "b", "\x7f", "\x80", "é", "\xc3", "\xc3\xa9\x00", "\ufffd", "\xff", "\xff\x00", "\xff\xff", strings.Repeat("a", 1<<16), strings.Repeat("a", 1<<16) + "a", strings.Repeat("\xff", 1<<16)}
	s := source(1)
	for range 20 {
		var x *tree.Tree
		var m slow
		for _, i := range s.order(len(keys)) {
			x, m = x.Put(keys[i], keys[len(keys)-1-i]), m.put(keys[i], keys[len(keys)-1-i])
		}
		check(t, x, m, keys, many)
		for _, i := range s.order(len(keys)) {
			y, was := x.Drop(keys[i])
			if !was {
				t.Fatalf("%q was not there", keys[i])
			}
			x, m = y, m.drop(keys[i])
			check(t, x, m, keys, few)
		}
	}
	var x *tree.Tree
	for i := range 256 {
		x = x.Put(string([]byte{byte(i * 7)}), "")
	}
	l := x.From("", 999)
	for i, p := range l {
		if p.Key != string([]byte{byte(i)}) {
			t.Fatalf("%d: %q", i, p.Key)
		}
	}
	if len(l) != 256 || len(x.From("\x80", 999)) != 128 || len(x.From("\xff\x00", 999)) != 0 {
		t.Errorf("%d keys", len(l))
	}
}

func TestFrom(t *testing.T) {
	var x *tree.Tree
	var m slow
	for i := range 40 {
		k := number(i * 7 % 40 * 2)
		x, m = x.Put(k, "v"+k), m.put(k, "v"+k)
	}
	for i := range 82 { // at each key, and between two
		for n := -2; n < 44; n++ {
			if l := x.From(number(i), n); !slices.Equal(l, m.from(number(i), n)) {
				t.Fatalf("From(%d, %d) is %q", i, n, l)
			}
		}
		for _, n := range many {
			if l := x.From(number(i), n); !slices.Equal(l, m.from(number(i), n)) {
				t.Fatalf("From(%d, %d) is %q", i, n, l)
			}
		}
	}
	if l := x.From("", math.MinInt); len(l) != 0 {
		t.Errorf("%q", l)
	}
}

// A list that was returned may be changed, and what lies beyond its length, too.
func TestFromIsNew(t *testing.T) {
	x := built("a", "b", "c", "d", "e")
	l, more := x.From("b", 3), x.From("b", 3)
	for i := range l[:cap(l)] {
		l[:cap(l)][i] = api.Pair{Key: "x", Value: "y"}
	}
	want := []api.Pair{{Key: "b", Value: "vb"}, {Key: "c", Value: "vc"}, {Key: "d", Value: "vd"}}
	if !slices.Equal(more, want) || !slices.Equal(x.From("b", 3), want) || x.Len() != 5 {
		t.Errorf("%q, %q", more, x.From("b", 3))
	}
}

func TestPutAgain(t *testing.T) {
	x := built("a", "b", "c", "d", "e", "f", "g")
	for _, k := range []string{"a", "b", "c", "d", "e", "f", "g"} {
		for _, v := range []string{"", "new", "v" + k} {
			y := x.Put(k, v)
			if got, is := y.Get(k); got != v || !is || y.Len() != 7 {
				t.Errorf("%q: %q, %v, %d", k, got, is, y.Len())
			}
			if y.Height() != x.Height() {
				t.Errorf("%q: the height is %d", k, y.Height())
			}
			checkFresh(t, y, x)
		}
	}
}

func TestAtRandom(t *testing.T) {
	s := source(2)
	for _, size := range []int{3, 8, 20, 60} {
		var keys []string
		for i := range size {
			keys = append(keys, number(i))
		}
		var x *tree.Tree
		var m slow
		for i := range 500 {
			checkNext(t, x, m, keys[s.below(size)], strconv.Itoa(i), keys[:2], []int{3})
			k := keys[s.below(size)]
			if s.below(size*2) > x.Len() {
				x, m = x.Put(k, strconv.Itoa(i)), m.put(k, strconv.Itoa(i))
			} else {
				x, _ = x.Drop(k)
				m = m.drop(k)
			}
			if i%25 == 0 {
				check(t, x, m, keys, []int{1, 5, size})
			}
		}
	}
}

// P18.2

// orders are the numbers from 0 to n - 1, one behind the other in different ways.
func orders(n int) map[string][]int {
	var up, down, inward, outward, halves, far []int
	for i := range n {
		up, down = append(up, i), append(down, n-1-i)
		if i%2 == 0 {
			inward = append(inward, i/2)
		} else {
			inward = append(inward, n-1-i/2)
		}
		far = append(far, i*7919%n)
	}
	for i := range n {
		outward = append(outward, inward[n-1-i])
	}
	for step := 1 << 20; step > 0; step /= 2 { // the middle ones first
		for i := step; i <= n; i += 2 * step {
			halves = append(halves, i-1)
		}
	}
	s := source(3)
	return map[string][]int{"up": up, "down": down, "inward": inward, "outward": outward, "halves": halves, "far": far, "any": s.order(n)}
}

func TestHeightAndFreshInManyOrders(t *testing.T) {
	const n = 2000
	all := orders(n)
	for name, in := range all {
		var x *tree.Tree
		for _, i := range in {
			y := x.Put(number(i), "v")
			if y.Len() != x.Len()+1 {
				t.Fatalf("%s: Len is %d", name, y.Len())
			}
			checkHeight(t, y)
			checkFresh(t, y, x)
			x = y
		}
		for also, out := range all {
			y := x
			for _, i := range out {
				z, was := y.Drop(number(i))
				if !was || z.Len() != y.Len()-1 {
					t.Fatalf("%s, %s: %v, Len is %d", name, also, was, z.Len())
				}
				checkHeight(t, z)
				checkFresh(t, z, y)
				y = z
			}
			if y.Len() != 0 || y.Height() != 0 {
				t.Fatalf("%s, %s: %d are left", name, also, y.Len())
			}
		}
		if l := x.From("", n+1); len(l) != n || l[0].Key != number(0) || l[n-1].Key != number(n-1) {
			t.Fatalf("%s: %d are there", name, len(l))
		}
	}
}

func TestHeightOfMany(t *testing.T) {
	const n = 1 << 16
	for _, step := range []int{1, n - 1, 40503} {
		var x *tree.Tree
		for i := range n {
			x = x.Put(number(i*step%n), "")
			checkHeight(t, x)
		}
		if x.Len() != n || x.Height() > 32 {
			t.Errorf("%d: %d, %d", step, x.Len(), x.Height())
		}
		for i := range n - 9 {
			y, _ := x.Drop(number(i * 3 * step % n))
			checkHeight(t, y)
			checkFresh(t, y, x)
			x = y
		}
		if x.Len() != 9 || x.Height() > 6 {
			t.Errorf("%d: %d, %d", step, x.Len(), x.Height())
		}
	}
}

// sparse puts into levels the keys of a tree that has as few as it may have for its
// height, where heights side by side may differ by lean: it is lower on the right of
// each node, so that a Drop there has most to mend.
func sparse(levels [][]int, depth, first, height, lean int) int {
	if height < 1 {
		return first
	}
	at := sparse(levels, depth+1, first, height-1, lean)
	levels[depth] = append(levels[depth], at)
	return sparse(levels, depth+1, at+1, height-1-lean, lean)
}

// checkAround holds all maps that one Put or Drop makes of x, which has the keys of
// the numbers below n, against the bounds.
func checkAround(t *testing.T, x *tree.Tree, n int) {
	t.Helper()
	for i := range n {
		y, was := x.Drop(number(i))
		if !was || y.Len() != n-1 {
			t.Fatalf("%d of %d: %v, %d", i, n, was, y.Len())
		}
		checkHeight(t, y)
		checkFresh(t, y, x)
		z := x.Put(number(i)+"!", "")
		checkHeight(t, z)
		checkFresh(t, z, x)
	}
}

func TestHeightAndFreshOfSparseTrees(t *testing.T) {
	for _, lean := range []int{1, 2, 3, 4} {
		for h := range 14 + lean {
			levels := make([][]int, h)
			n := sparse(levels, 0, 0, h, lean)
			for _, mirror := range []bool{false, true} {
				var x *tree.Tree
				for _, l := range levels { // from the top, which takes no mending if that much may be
					for _, i := range l {
						if mirror {
							i = n - 1 - i
						}
						x = x.Put(number(i), "")
						checkHeight(t, x)
					}
				}
				checkAround(t, x, n)
			}
		}
	}
}

func TestFresh(t *testing.T) {
	x := built("a", "b", "c", "d", "e", "f", "g", "h")
	same := built("a", "b", "c", "d", "e", "f", "g", "h")
	if x.Fresh(x) != 0 || x.Fresh(nil) != 8 || (*tree.Tree)(nil).Fresh(x) != 0 {
		t.Errorf("%d, %d", x.Fresh(x), x.Fresh(nil))
	}
	if x.Fresh(same) != 8 || same.Fresh(x) != 8 { // the same pairs, of other nodes
		t.Errorf("%d, %d", x.Fresh(same), same.Fresh(x))
	}
	y := x.Put("i", "")
	if n := y.Fresh(x); n < 1 || n > 8 {
		t.Errorf("%d nodes are fresh", n)
	}
	if n := y.Fresh(same); n != 9 {
		t.Errorf("%d nodes are fresh", n)
	}
	if y, was := x.Drop("x"); was || y.Fresh(x) != 0 || x.Fresh(y) != 0 {
		t.Errorf("a Drop of nothing: %v, %d", was, y.Fresh(x))
	}
	if n := x.Put("a", "new").Fresh(x); n < 1 {
		t.Errorf("another value: %d nodes are fresh", n)
	}
}

// P18.3

func TestAllVersionsRemain(t *testing.T) {
	type version struct {
		x      *tree.Tree
		pairs  []api.Pair
		height int
	}
	const size = 120
	s := source(4)
	var all []version
	m := map[string]string{}
	var x *tree.Tree
	for i := range 1000 {
		all = append(all, version{x, x.From("", size), x.Height()})
		k := number(s.below(size))
		if v := strconv.Itoa(i); s.below(3) > 0 {
			x, m[k] = x.Put(k, v), v
		} else {
			x, _ = x.Drop(k)
			delete(m, k)
		}
		if x.Len() != len(m) {
			t.Fatalf("step %d: %d pairs", i, x.Len())
		}
	}
	for range 1000 { // and what is made of any of them
		v := all[s.below(len(all))]
		v.x.Put(number(s.below(size)), "other")
		v.x.Drop(number(s.below(size)))
		v.x.Fresh(all[s.below(len(all))].x)
	}
	for i, v := range all {
		if !slices.Equal(v.x.From("", size), v.pairs) || v.x.Len() != len(v.pairs) || v.x.Height() != v.height {
			t.Fatalf("version %d has changed", i)
		}
		for _, p := range v.pairs {
			if w, is := v.x.Get(p.Key); w != p.Value || !is {
				t.Fatalf("version %d: Get(%q) is %q, %v", i, p.Key, w, is)
			}
		}
	}
}

func TestManyAtATime(t *testing.T) {
	const n = 500
	var x *tree.Tree
	for i := range n {
		x = x.Put(number(i*2), "v")
	}
	before := x.From("", n)
	var all sync.WaitGroup
	made := make([]*tree.Tree, 8)
	for g := range made {
		all.Go(func() {
			y := x
			for i := range n {
				y = y.Put(number(i*2+1), strconv.Itoa(g))
				y, _ = y.Drop(number((i*7 + g) % n * 2))
				y.Get(number(i))
				y.From(number(i), 3)
				y.Fresh(x)
			}
			made[g] = y
		})
	}
	all.Wait()
	if !slices.Equal(x.From("", n), before) {
		t.Error("the map has changed")
	}
	for g, y := range made {
		l := y.From("", 2*n)
		if len(l) != n || y.Len() != n {
			t.Fatalf("%d pairs", len(l))
		}
		for i, p := range l {
			if p.Key != number(i*2+1) || p.Value != strconv.Itoa(g) {
				t.Fatalf("%d: %q", g, p)
			}
		}
	}
}

// P18.4

// permute calls f with all orders of l, which it changes on its way.
func permute(l []string, n int, f func()) {
	if n < 2 {
		f()
		return
	}
	for i := range n {
		l[i], l[n-1] = l[n-1], l[i]
		permute(l, n-1, f)
		l[i], l[n-1] = l[n-1], l[i]
	}
}

func TestAllOrdersOfFewKeys(t *testing.T) {
	keys := []string{"", "a", "aa", "b", "c\xff", "d", "z"}
	for n := range len(keys) + 1 {
		want := built(keys[:n]...).From("", 9)
		if len(want) != n {
			t.Fatalf("%q", want)
		}
		l := slices.Clone(keys[:n])
		permute(l, n, func() {
			x := built(l...)
			checkHeight(t, x)
			if !slices.Equal(x.From("", 9), want) {
				t.Fatalf("of %q: %q", l, x.From("", 9))
			}
			for i := range l { // away in the same order
				y, was := x.Drop(l[i])
				if !was || y.Len() != n-1-i {
					t.Fatalf("of %q: %v, %d", l, was, y.Len())
				}
				checkHeight(t, y)
				checkFresh(t, y, x)
				x = y
			}
		})
	}
}

func TestOrdersOfManyKeys(t *testing.T) {
	const n = 700
	var want []api.Pair
	for i := range n {
		want = append(want, api.Pair{Key: number(i), Value: "v" + number(i)})
	}
	for name, in := range orders(n) {
		var x, y *tree.Tree
		for _, i := range in {
			x = x.Put(number(i), "v"+number(i))
			y = y.Put(number(i), "old").Put(number(i)+"+", "old") // and more on the way
		}
		for _, i := range in {
			y = y.Put(number(n-1-i), "v"+number(n-1-i))
			y, _ = y.Drop(number(i) + "+")
		}
		if !slices.Equal(x.From("", n+1), want) || !slices.Equal(y.From("", n+1), want) {
			t.Errorf("%s: the contents differ", name)
		}
	}
}
