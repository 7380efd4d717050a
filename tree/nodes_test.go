package tree

import (
	"strconv"
	"testing"

	"cellarage/api"
)

// count is the nodes from n on, and how many stand one above the other, whatever they
// say themselves; each goes into met.
func count(n *node, met map[*node]api.Pair) (int, int) {
	if n == nil {
		return 0, 0
	}
	met[n] = n.Pair
	a, h := count(n.left, met)
	b, i := count(n.right, met)
	return a + b + 1, max(h, i) + 1
}

// nodes are those of x, with their pairs; Len and Height are held against them.
func nodes(t *testing.T, x *Tree) map[*node]api.Pair {
	t.Helper()
	met := map[*node]api.Pair{}
	n, h := count(x.top(), met)
	if x.Len() != n || x.Height() != h || len(met) != n {
		t.Fatalf("%d nodes of height %d: Len is %d, Height %d", n, h, x.Len(), x.Height())
	}
	return met
}

// checkFresh holds Fresh of x and y against their nodes, one by one.
func checkFresh(t *testing.T, x, y *Tree) {
	t.Helper()
	have, want := nodes(t, y), 0
	for n := range nodes(t, x) {
		if _, is := have[n]; !is {
			want++
		}
	}
	if got := x.Fresh(y); got != want {
		t.Fatalf("Fresh is %d, but %d nodes are", got, want)
	}
}

// P18.2: what Height and Fresh tell is what the nodes are.
func TestHeightAndFreshOfNodes(t *testing.T) {
	var versions []*Tree
	var x *Tree
	state := uint64(1)
	for i := range 300 {
		versions = append(versions, x)
		state = state*6364136223846793005 + 1442695040888963407
		k := strconv.Itoa(int(state>>33) % 60)
		if y, was := x.Drop(k); was && state>>20&1 == 0 {
			x = y
		} else {
			x = x.Put(k, strconv.Itoa(i))
		}
	}
	for i, x := range versions {
		for j := max(0, i-20); j < min(i+20, len(versions)); j++ {
			checkFresh(t, x, versions[j])
		}
		checkFresh(t, x, versions[i*7%300])
		checkFresh(t, x, nil)
		checkFresh(t, nil, x)
	}
}

// P18.3: no node of a map is modified, whatever is derived from it.
func TestNodesRemain(t *testing.T) {
	var x *Tree
	for i := range 200 {
		x = x.Put(strconv.Itoa(i*7%200), "v")
	}
	before := map[*node]node{}
	for n := range nodes(t, x) {
		before[n] = *n
	}
	for i := range 200 {
		k := strconv.Itoa(i)
		x.Put(k, "new")
		x.Put(k+"!", "new")
		y, _ := x.Drop(k)
		y.Put(k, "new")
		y.From(k, 9)
		y.Fresh(x)
	}
	for n, was := range before {
		if *n != was {
			t.Fatalf("the node of %q is modified", was.Key)
		}
	}
}
