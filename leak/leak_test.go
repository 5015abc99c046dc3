package leak_test

import (
	"math"
	"math/rand"
	"slices"
	"testing"

	"simulcast/leak"
)

// same compares lists; a nil one is equal to an empty one.
func same[T comparable](t *testing.T, what string, got []T, wanted ...T) {
	t.Helper()
	if !slices.Equal(got, wanted) {
		t.Errorf("%s: %v, wanted %v", what, got, wanted)
	}
}

// farNumbers are numbers of no node and of no block.
var farNumbers = []int{math.MinInt, math.MinInt + 1, -1 << 32, -64, -1, 1 << 32, 1<<32 + 1, math.MaxInt - 1, math.MaxInt}

// spread returns a copy of a list with spare capacity behind it, and that list with its spare capacity.
func spread(l []int) (short, whole []int) {
	whole = append(slices.Clone(l), 77, 78, 79)
	return whole[:len(l)], whole
}

// expectReach checks the reachable nodes, and that Reach leaves its arguments with their spare capacity as they are.
func expectReach(t *testing.T, what string, roots []int, next [][]int, wanted ...int) {
	t.Helper()
	from, fromWhole := spread(roots)
	nodes := make([][]int, len(next), len(next)+1)
	wholes := make([][]int, len(next))
	for i, l := range next {
		nodes[i], wholes[i] = spread(l)
	}
	same(t, what, leak.Reach(from, nodes), wanted...)
	same(t, what+": the roots", fromWhole, append(slices.Clone(roots), 77, 78, 79)...)
	for i, l := range next {
		same(t, what+": the nodes", nodes[i], l...)
		same(t, what+": behind the nodes", wholes[i], append(slices.Clone(l), 77, 78, 79)...)
	}
	if behind := nodes[:len(next)+1][len(next)]; behind != nil {
		t.Errorf("%s: behind the list of nodes: %v", what, behind)
	}
}

// Example 1.
func TestExample(t *testing.T) {
	expectReach(t, "the example", []int{0}, [][]int{{1, 2}, {3}, nil, {1}, {0}}, 0, 1, 2, 3)
	used, reach := []int{1, 3, 4, 5}, []int{0, 1, 2, 3}
	same(t, "Lost", leak.Lost(used, reach), 4, 5)
	same(t, "Wild", leak.Wild(used, reach), 0, 2)
}

// P16.1: the shapes of graphs.
func TestReach(t *testing.T) {
	next := [][]int{0: {1, 2}, 1: {3}, 2: nil, 3: {1}, 4: {0}, 5: {5}, 6: {}, 7: {6, 5}}
	expectReach(t, "a node without successors", []int{2}, next, 2)
	expectReach(t, "an empty list of successors", []int{6}, next, 6)
	expectReach(t, "a cycle", []int{3}, next, 1, 3)
	expectReach(t, "the way into a cycle", []int{4}, next, 0, 1, 2, 3, 4)
	expectReach(t, "a node that points to itself", []int{5}, next, 5)
	expectReach(t, "several roots", []int{7, 3}, next, 1, 3, 5, 6, 7)
	expectReach(t, "a root that is reachable from another one", []int{3, 4, 1}, next, 0, 1, 2, 3, 4)
	expectReach(t, "all", []int{7, 6, 5, 4, 3, 2, 1, 0}, next, 0, 1, 2, 3, 4, 5, 6, 7)
	expectReach(t, "no edges", []int{2, 0}, make([][]int, 4), 0, 2)
	expectReach(t, "one node that points to itself", []int{0}, [][]int{{0}}, 0)
}

// P16.1: numbers that are no nodes are ignored, as roots and as successors.
func TestReachOutside(t *testing.T) {
	next := [][]int{{1, 9}, {-1, 3, 2}, {math.MaxInt, math.MinInt}, {2, 4}}
	expectReach(t, "successors outside", []int{0}, next, 0, 1, 2, 3)
	expectReach(t, "only successors outside", []int{2}, next, 2)
	expectReach(t, "roots outside", []int{-1, 4, 5}, next)
	expectReach(t, "roots inside and outside", []int{-1, 3, 4}, next, 2, 3)
	expectReach(t, "far roots", farNumbers, next)
	expectReach(t, "far roots and a near one", append(slices.Clone(farNumbers), 3), next, 2, 3)
	expectReach(t, "far successors", []int{1}, [][]int{nil, farNumbers, {0}}, 1)
	expectReach(t, "a successor that is the first number behind the nodes", []int{0}, [][]int{{1}}, 0)
	expectReach(t, "a root that is the first number behind the nodes", []int{1}, [][]int{{0}})
	expectReach(t, "the last node", []int{3}, next, 2, 3)
}

// P16.1: roots and successors that occur several times.
func TestReachRepeated(t *testing.T) {
	next := [][]int{{2, 2, 0, 2}, {2, 0}, {2, 2}, {0}}
	expectReach(t, "a root", []int{0, 0, 0}, next, 0, 2)
	expectReach(t, "roots", []int{2, 1, 2, 1, 1}, next, 0, 1, 2)
	expectReach(t, "roots outside", []int{-1, 9, -1, 9, 3}, next, 0, 2, 3)
}

// P16.1: without roots or without nodes nothing is reachable.
func TestReachOfNothing(t *testing.T) {
	next := [][]int{{1}, {0}}
	expectReach(t, "nil roots", nil, next)
	expectReach(t, "no roots", []int{}, next)
	expectReach(t, "nil nodes", []int{0, 1, -1}, nil)
	expectReach(t, "no nodes", []int{0, 1, -1}, [][]int{})
	expectReach(t, "nothing at all", nil, nil)
}

// P16.1, P1: chains through very many nodes, in both directions and as a ring.
func TestLongChains(t *testing.T) {
	const size = 1 << 18
	all := make([]int, size)
	up, down, ring := make([][]int, size), make([][]int, size), make([][]int, size)
	for i := range size {
		all[i] = i
		up[i], down[i], ring[i] = []int{i + 1}, []int{i - 1}, []int{(i + 7) % size}
	}
	for what, got := range map[string][]int{
		"up": leak.Reach([]int{0}, up), "down": leak.Reach([]int{size - 1}, down), "the ring": leak.Reach([]int{100}, ring),
	} {
		if !slices.Equal(got, all) {
			t.Errorf("%s: %d nodes of %d", what, len(got), size)
		}
	}
	same(t, "the end of the chain", leak.Reach([]int{size - 2}, up), size-2, size-1)
}

// randomGraph returns nodes whose successors are now and then none.
func randomGraph(r *rand.Rand) [][]int {
	next := make([][]int, r.Intn(12))
	for i := range next {
		next[i] = randomNumbers(r, len(next), 3)
	}
	return next
}

// randomNumbers returns numbers below size, and now and then others.
func randomNumbers(r *rand.Rand, size, most int) []int {
	var l []int
	for range r.Intn(most + 1) {
		n := r.Intn(size+3) - 1
		if r.Intn(15) == 0 {
			n = farNumbers[r.Intn(len(farNumbers))]
		}
		l = append(l, n)
	}
	return l
}

// plainReach applies the chapter's definition until nothing changes any more.
func plainReach(roots []int, next [][]int) []int {
	var reach []int
	for changed := true; changed; {
		changed = false
		for n := range next {
			isSuccessor := slices.ContainsFunc(reach, func(from int) bool { return slices.Contains(next[from], n) })
			if (isSuccessor || slices.Contains(roots, n)) && !slices.Contains(reach, n) {
				reach = append(reach, n)
				changed = true
			}
		}
	}
	slices.Sort(reach)
	return reach
}

// P16.1: random graphs, against the chapter's definition.
func TestRandomReach(t *testing.T) {
	r := rand.New(rand.NewSource(1))
	sizes := map[int]int{}
	for range 3000 {
		next := randomGraph(r)
		roots := randomNumbers(r, len(next), 4)
		wanted := plainReach(roots, next)
		expectReach(t, "a random graph", roots, next, wanted...)
		sizes[len(wanted)]++
	}
	for size := range 8 {
		if sizes[size] < 20 {
			t.Errorf("%d nodes were reachable in only %d graphs", size, sizes[size])
		}
	}
}

// P16.3: more roots never make a node unreachable, and every root in range is reachable.
func TestReachIsMonotonic(t *testing.T) {
	r := rand.New(rand.NewSource(2))
	for range 2000 {
		next := randomGraph(r)
		few := randomNumbers(r, len(next), 3)
		many := append(randomNumbers(r, len(next), 3), few...)
		less, more := leak.Reach(few, next), leak.Reach(many, next)
		for _, n := range less {
			if !slices.Contains(more, n) {
				t.Fatalf("%v: node %d is reachable from %v, not from %v", next, n, few, many)
			}
		}
		for _, n := range many {
			if n >= 0 && n < len(next) && !slices.Contains(more, n) {
				t.Fatalf("%v: the root %d of %v is not reachable", next, n, many)
			}
		}
	}
}

// expectLost checks Lost and Wild, and that both leave their arguments with their spare capacity as they are.
func expectLost(t *testing.T, what string, used, reach, lost, wild []int) {
	t.Helper()
	u, usedWhole := spread(used)
	r, reachWhole := spread(reach)
	same(t, what+": Lost", leak.Lost(u, r), lost...)
	same(t, what+": Wild", leak.Wild(u, r), wild...)
	same(t, what+": the used blocks", usedWhole, append(slices.Clone(used), 77, 78, 79)...)
	same(t, what+": the reachable blocks", reachWhole, append(slices.Clone(reach), 77, 78, 79)...)
}

// P16.1: Lost and Wild, of sorted numbers and of others.
func TestLostAndWild(t *testing.T) {
	for _, x := range []struct {
		what                    string
		used, reach, lost, wild []int
	}{
		{"nothing", nil, nil, nil, nil},
		{"empty lists", []int{}, []int{}, nil, nil},
		{"nothing used", nil, []int{2, 5}, nil, []int{2, 5}},
		{"an empty list of used ones", []int{}, []int{5, 2, 5}, nil, []int{2, 5}},
		{"nothing reachable", []int{0, 63}, nil, []int{0, 63}, nil},
		{"an empty list of reachable ones", []int{63, 0, 63}, []int{}, []int{0, 63}, nil},
		{"the same", []int{1, 2, 3}, []int{1, 2, 3}, nil, nil},
		{"the same in another order", []int{3, 1, 2, 1}, []int{2, 2, 3, 1}, nil, nil},
		{"nothing in common", []int{1, 3}, []int{0, 2}, []int{1, 3}, []int{0, 2}},
		{"both overlap", []int{1, 2, 3}, []int{2, 3, 4}, []int{1}, []int{4}},
		{"unsorted", []int{9, 3, 7, 1, 5}, []int{8, 5, 2, 9, 0}, []int{1, 3, 7}, []int{0, 2, 8}},
		{"repeated", []int{7, 7, 1, 7, 4, 1, 4}, []int{4, 9, 9, 4, 0, 9}, []int{1, 7}, []int{0, 9}},
		{"descending", []int{5, 4, 3, 2, 1, 0}, []int{2}, []int{0, 1, 3, 4, 5}, nil},
		{"more than the greatest block", []int{64, 100, 63}, []int{65, 63}, []int{64, 100}, []int{65}},
		{"far numbers", []int{math.MaxInt, math.MinInt, -1}, []int{-1, math.MinInt + 1}, []int{math.MinInt, math.MaxInt}, []int{math.MinInt + 1}},
	} {
		expectLost(t, x.what, x.used, x.reach, x.lost, x.wild)
		expectLost(t, x.what+", the other way round", x.reach, x.used, x.wild, x.lost)
	}
}

// plainLost goes through the numbers upwards.
func plainLost(used, reach []int) []int {
	var lost []int
	for n := -70; n < 140; n++ {
		if slices.Contains(used, n) && !slices.Contains(reach, n) {
			lost = append(lost, n)
		}
	}
	return lost
}

// P16.1: random lists, against the chapter's definition.
func TestRandomLostAndWild(t *testing.T) {
	r := rand.New(rand.NewSource(3))
	for range 2000 {
		var used, reach []int
		top := 1 + r.Intn(70)
		for range r.Intn(40) {
			used = append(used, r.Intn(top+3)-2)
		}
		for range r.Intn(40) {
			reach = append(reach, r.Intn(top+3)-2)
		}
		expectLost(t, "random lists", used, reach, plainLost(used, reach), plainLost(reach, used))
	}
}

// The rule 'Memory': a caller may change what it got.
func TestResultsAreApart(t *testing.T) {
	used, reach := []int{1, 2, 3}, []int{5, 6}
	next := [][]int{{0, 1}, {1}}
	roots := []int{0, 1}
	for range 2 {
		got := [][]int{leak.Lost(used, nil), leak.Wild(nil, used), leak.Lost(used, reach), leak.Wild(reach, used), leak.Reach(roots, next)}
		for i, l := range got {
			if i < 4 {
				same(t, "the blocks", l, 1, 2, 3)
			} else {
				same(t, "the nodes", l, 0, 1)
			}
			clear(l[:cap(l)])
		}
		same(t, "the used blocks", used, 1, 2, 3)
		same(t, "the reachable blocks", reach, 5, 6)
		same(t, "the roots", roots, 0, 1)
		same(t, "node 0", next[0], 0, 1)
		same(t, "node 1", next[1], 1)
	}
}
