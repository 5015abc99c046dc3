package reclaim_test

import (
	"math"
	"math/rand"
	"slices"
	"testing"

	"simulcast/api"
	"simulcast/era"
	"simulcast/hazard"
	"simulcast/layout"
	"simulcast/machine"
	"simulcast/reclaim"
	"simulcast/task"
)

// farNumbers are eras and hazard pointers that are far from all others.
var farNumbers = []int64{math.MinInt64, math.MinInt64 + 1, -1 << 32, 1 << 32, 1<<32 + 10, math.MaxInt64 - 1, math.MaxInt64}

// P15.2: eras at both ends of a lifetime, between them and just outside.
func TestEras(t *testing.T) {
	i := item(9, 4, 7)
	for e, kept := range map[int64]bool{-7: false, -4: false, -1: false, 0: false, 1: false, 3: false, 4: true, 5: true, 6: true, 7: true, 8: false, 9: false, 10: false} {
		expectOne(t, i, []int64{e}, nil, kept)
		expectOne(t, i, []int64{e, e, 0, e}, nil, kept)
		expectOne(t, i, []int64{1, 9, e}, nil, kept)
		expectOne(t, i, []int64{e, 9, 1}, nil, kept)
	}
	for _, e := range farNumbers {
		expectOne(t, i, []int64{e}, nil, false)
		expectOne(t, item(9, 1, math.MaxInt64), []int64{e}, nil, e > 0)
	}
	expectOne(t, item(9, 5, 5), []int64{5}, nil, true)
	expectOne(t, item(9, 5, 5), []int64{4, 6}, nil, false)
	expectOne(t, item(9, math.MaxInt64, math.MaxInt64), []int64{math.MaxInt64}, nil, true)
	expectOne(t, item(9, math.MaxInt64, math.MaxInt64), []int64{math.MaxInt64 - 1, math.MinInt64, -1}, nil, false)
}

// expectOne sweeps a bag of one item.
func expectOne(t *testing.T, i reclaim.Item, announced, held []int64, kept bool) {
	t.Helper()
	b, freed := bagOf(t, i).Sweep(announced, held)
	if kept != (b.Len() == 1) || kept != (len(freed) == 0) {
		t.Errorf("%v with eras %v and pointers %v: kept %v, freed %v", i, announced, held, b.Items(), freed)
	}
}

// P15.2: an announced 0 protects nothing, not even what was born in era 0.
func TestEraZero(t *testing.T) {
	for _, i := range []reclaim.Item{item(9, 0, 0), item(9, 0, 5), item(0, 0, math.MaxInt64)} {
		expectOne(t, i, []int64{0}, nil, false)
		expectOne(t, i, []int64{0, 0, 0, 0}, nil, false)
		expectOne(t, i, []int64{-1, 0}, nil, false)
	}
	expectOne(t, item(9, 0, 1), []int64{0, 1}, nil, true)
	want(t, "Bound", reclaim.Bound([]int64{0, 0}, nil, item(9, 0, 0), item(3, 0, 5)), 0)
	want(t, "Bound with an invalid item", reclaim.Bound([]int64{0}, nil, item(9, -5, 5)), 0)
}

// P15.2: a hazard pointer protects the block before it, and neither its own number nor the one behind it.
func TestPointers(t *testing.T) {
	for _, block := range []int{0, 1, 9, 31, 32, 62, 63} {
		i, n := item(block, 4, 7), int64(block)
		expectOne(t, i, nil, []int64{0}, false)
		expectOne(t, i, nil, []int64{n}, false)
		expectOne(t, i, nil, []int64{n + 1}, true)
		expectOne(t, i, nil, []int64{n + 2}, false)
		expectOne(t, i, nil, []int64{-n, -n - 1, -n - 2, n - 1}, false)
		expectOne(t, i, nil, []int64{n + 1, n + 1, 0}, true)
		expectOne(t, i, nil, []int64{n, n + 2, 0, n + 1}, true)
		expectOne(t, i, nil, []int64{n + 1 + 1<<32, n + 1 - 1<<32, n + 1 + 1<<8}, false)
		expectOne(t, i, nil, farNumbers, false)
		expectOne(t, i, []int64{n + 1000}, []int64{5000}, false)
	}
	expectOne(t, item(9, 4, 7), []int64{10}, []int64{5}, false)
}

// P15.2: one list may protect what the other one does not.
func TestEitherProtects(t *testing.T) {
	i := item(9, 4, 7)
	expectOne(t, i, []int64{5}, []int64{10}, true)
	expectOne(t, i, []int64{5}, []int64{3}, true)
	expectOne(t, i, []int64{3}, []int64{10}, true)
	expectOne(t, i, []int64{3}, []int64{3}, false)
}

// P15.2: freed blocks are in ascending order and kept items in their own one, whatever the order of retirement is.
func TestOrders(t *testing.T) {
	r := rand.New(rand.NewSource(1))
	for range 200 {
		var all, kept []reclaim.Item
		var freed []int
		for _, block := range r.Perm(64)[:r.Intn(65)] {
			i := item(block, 10, 20)
			if r.Intn(2) == 0 {
				i = item(block, 30, 40)
				kept = append(kept, i)
			} else {
				freed = append(freed, block)
			}
			all = append(all, i)
		}
		slices.Sort(freed)
		expectSweep(t, "a random order", bagOf(t, all...), []int64{35}, nil, kept, freed...)
	}
}

// P15.2: bags without items, and sweeps without eras and pointers.
func TestSweepOfNothing(t *testing.T) {
	expectSweep(t, "the zero bag", reclaim.Bag{}, []int64{1, 2}, []int64{1, 2}, nil)
	expectSweep(t, "the zero bag with nothing", reclaim.Bag{}, nil, nil, nil)
	l := []reclaim.Item{item(7, 1, 1), item(3, 2, 2), item(5, 0, 9)}
	expectSweep(t, "no era, no pointer", bagOf(t, l...), nil, nil, nil, 3, 5, 7)
	expectSweep(t, "empty lists", bagOf(t, l...), []int64{}, []int64{}, nil, 3, 5, 7)
	expectSweep(t, "only zeros", bagOf(t, l...), []int64{0, 0}, []int64{0, 0}, nil, 3, 5, 7)
}

// P15.3: each distinct era counts each item that lives in it; each distinct hazard pointer counts once.
func TestBound(t *testing.T) {
	l := []reclaim.Item{item(9, 2, 4), item(3, 0, 1), item(1, 3, 3)}
	for _, x := range []struct {
		what            string
		announced, held []int64
		bound           int
	}{
		{"nothing", nil, nil, 0},
		{"zeros", []int64{0, 0}, []int64{0, 0}, 0},
		{"an era of two", []int64{3}, nil, 2},
		{"an era three times", []int64{3, 3, 0, 3}, nil, 2},
		{"two eras", []int64{3, 2}, nil, 3},
		{"both ends of a lifetime", []int64{2, 4}, nil, 2},
		{"outside", []int64{-1, 5, math.MaxInt64, math.MinInt64}, nil, 0},
		{"three pointers", nil, []int64{4, 10, 50}, 2},
		{"pointers several times", nil, []int64{4, 10, 10, 4, 4}, 2},
		{"pointers that are blocks", nil, []int64{9, 3, 1}, 0},
		{"both lists", []int64{3, 3, 0}, []int64{4, 10, 50}, 4},
		{"an era and a pointer of one item", []int64{1}, []int64{4}, 2},
		{"far numbers", farNumbers, farNumbers, 0},
	} {
		want(t, x.what, reclaim.Bound(x.announced, x.held, l...), x.bound)
	}
}

// P15.3: items that occur several times count for each of their places with eras, but not with pointers.
func TestBoundOfRepeatedItems(t *testing.T) {
	i := item(9, 2, 4)
	want(t, "eras", reclaim.Bound([]int64{3}, nil, i, i, i), 3)
	want(t, "two eras", reclaim.Bound([]int64{3, 4, 5}, nil, i, i, i), 6)
	want(t, "pointers", reclaim.Bound(nil, []int64{10}, i, i, i), 1)
	want(t, "one block, several lifetimes", reclaim.Bound([]int64{3, 7}, []int64{10, 10}, i, item(9, 6, 8), item(9, 3, 7)), 5)
}

// P15.3: without items the bound is 0.
func TestBoundOfNoItems(t *testing.T) {
	want(t, "none", reclaim.Bound([]int64{1, 2, 3}, []int64{1, 2, 3}), 0)
	want(t, "an empty list", reclaim.Bound([]int64{1, 2, 3}, []int64{1, 2, 3}, []reclaim.Item{}...), 0)
	want(t, "nothing at all", reclaim.Bound(nil, nil), 0)
}

// P15.3: the bound takes the items as they are, also those that no bag accepts.
func TestBoundOfInvalidItems(t *testing.T) {
	want(t, "a negative birth", reclaim.Bound([]int64{-3, -2, 0, 2}, nil, item(9, -3, 1)), 2)
	want(t, "a lifetime without eras", reclaim.Bound([]int64{3, 4, 5, 6, 7}, nil, item(9, 6, 4)), 0)
	want(t, "the longest lifetime", reclaim.Bound(farNumbers, nil, item(9, math.MinInt64, math.MaxInt64)), len(farNumbers))
	want(t, "block 64", reclaim.Bound(nil, []int64{64, 65, 66}, item(64, 1, 1)), 1)
	want(t, "block -1", reclaim.Bound(nil, []int64{-1, 0, 0, 1}, item(-1, 1, 1)), 1)
	want(t, "block -5", reclaim.Bound(nil, []int64{-6, -5, -4, 5}, item(-5, 1, 1)), 1)
	want(t, "the least block", reclaim.Bound(nil, []int64{math.MinInt64}, item(math.MinInt, 1, 1)), 0)
	want(t, "the pointer to the least block", reclaim.Bound(nil, []int64{math.MinInt64 + 1}, item(math.MinInt, 1, 1)), 1)
	want(t, "the greatest block, to which nothing points", reclaim.Bound(nil, []int64{math.MinInt64, math.MaxInt64, 0}, item(math.MaxInt, 1, 1)), 0)
	want(t, "the greatest block but one", reclaim.Bound(nil, []int64{math.MaxInt64}, item(math.MaxInt-1, 1, 1)), 1)
	want(t, "the greatest pointer", reclaim.Bound(nil, []int64{math.MaxInt64}, item(math.MinInt, 1, 1)), 0)
}

// numbers returns some eras or hazard pointers, now and then far ones.
func numbers(r *rand.Rand, most int) []int64 {
	var l []int64
	for range r.Intn(6) {
		n := int64(r.Intn(most+4)) - 2
		if r.Intn(12) == 0 {
			n = farNumbers[r.Intn(len(farNumbers))]
		}
		l = append(l, n)
		if r.Intn(3) == 0 {
			l = append(l, n)
		}
	}
	return l
}

func randomItems(r *rand.Rand, most int) []reclaim.Item {
	var l []reclaim.Item
	for _, block := range r.Perm(most)[:r.Intn(most+1)] {
		birth := int64(r.Intn(12))
		l = append(l, item(block, birth, birth+int64(r.Intn(6))*int64(r.Intn(2))))
	}
	return l
}

// plainProtected is the chapter's definition.
func plainProtected(i reclaim.Item, announced, held []int64) bool {
	inLifetime := func(e int64) bool { return e != 0 && !(e < i.Birth) && !(e > i.Retired) }
	return slices.ContainsFunc(announced, inLifetime) || slices.Contains(held, int64(i.Block+1))
}

// plainBound counts the pairs of an era and an item, and the pointers, each where it occurs first.
func plainBound(announced, held []int64, l []reclaim.Item) int {
	n := 0
	for at, e := range announced {
		for _, i := range l {
			if e != 0 && slices.Index(announced, e) == at && i.Birth <= e && e <= i.Retired {
				n++
			}
		}
	}
	for at, h := range held {
		if slices.Index(held, h) == at && slices.ContainsFunc(l, func(i reclaim.Item) bool { return int64(i.Block)+1 == h }) {
			n++
		}
	}
	return n
}

// P15.2 to P15.4: random bags, against the chapter's definitions.
func TestRandomSweeps(t *testing.T) {
	r := rand.New(rand.NewSource(2))
	for range 3000 {
		l := randomItems(r, 1+r.Intn(64))
		announced, held := numbers(r, 17), numbers(r, 65)
		var kept []reclaim.Item
		var freed []int
		for _, i := range l {
			if plainProtected(i, announced, held) {
				kept = append(kept, i)
			} else {
				freed = append(freed, i.Block)
			}
		}
		slices.Sort(freed)
		b := bagOf(t, l...)
		expectSweep(t, "a random bag", b, announced, held, kept, freed...)
		bound := reclaim.Bound(announced, held, l...)
		want(t, "Bound", bound, plainBound(announced, held, l))
		if bound < len(kept) {
			t.Fatalf("%d items are kept, the bound is %d", len(kept), bound)
		}
	}
}

// P15.4: every item is either kept or freed, and a second sweep frees nothing more.
func TestSweepTwice(t *testing.T) {
	r := rand.New(rand.NewSource(3))
	for range 1000 {
		l := randomItems(r, 40)
		announced, held := numbers(r, 17), numbers(r, 41)
		b, freed := bagOf(t, l...).Sweep(announced, held)
		want(t, "kept and freed", b.Len()+len(freed), len(l))
		for _, i := range l {
			if slices.Contains(b.Items(), i) == slices.Contains(freed, i.Block) {
				t.Fatalf("%v is both kept and freed, or neither", i)
			}
		}
		expectSweep(t, "the second sweep", b, announced, held, b.Items())
	}
}

// P15.4: with more eras and pointers nothing is freed that was kept.
func TestMoreProtect(t *testing.T) {
	r := rand.New(rand.NewSource(4))
	for range 1000 {
		b := bagOf(t, randomItems(r, 40)...)
		announced, held := numbers(r, 17), numbers(r, 41)
		_, few := b.Sweep(append(slices.Clone(announced), numbers(r, 17)...), append(numbers(r, 41), held...))
		_, many := b.Sweep(announced, held)
		for _, block := range few {
			if !slices.Contains(many, block) {
				t.Fatalf("block %d is freed only with additional eras or pointers", block)
			}
		}
	}
}

// P15.4: a bound that is reached, by eras and by pointers.
func TestBoundIsReached(t *testing.T) {
	l := []reclaim.Item{item(1, 1, 1), item(2, 2, 3), item(5, 3, 4), item(7, 9, 9)}
	b, _ := bagOf(t, l...).Sweep([]int64{3, 0}, []int64{8, 50})
	want(t, "kept", b.Len(), 3)
	want(t, "Bound", reclaim.Bound([]int64{3, 0}, []int64{8, 50}, l...), 3)
}

// The item's lifetime is the one of layer 13: without hazard pointers, a block is freed if it is safe to reuse.
func TestSafe(t *testing.T) {
	r := rand.New(rand.NewSource(5))
	for range 1000 {
		l := randomItems(r, 20)
		announced := numbers(r, 17)
		_, freed := bagOf(t, l...).Sweep(announced, nil)
		for _, i := range l {
			want(t, "freed", slices.Contains(freed, i.Block), era.Safe(i.Birth, i.Retired, announced))
		}
	}
}

func world(t *testing.T, w []api.Word, codes ...task.Code) task.World {
	t.Helper()
	m, e := machine.New(len(codes), w...)
	if e != api.OK {
		t.Fatal("New:", e)
	}
	x, e := task.Make(m, codes...)
	if e != api.OK {
		t.Fatal("Make:", e)
	}
	return x
}

// The eras and hazards that threads publish by layers 13 and 14 protect what they are about to read.
func TestWithReaders(t *testing.T) {
	l := layout.Layout{Threads: 3, Cells: 1, Blocks: 8}
	first := l.First()
	first[l.Era()].Val = 5
	first[l.Cell(0)].Val = 3 // a pointer to block 2
	enter, _ := era.Enter(l, 1)
	protect, _ := hazard.Protect(l, 2, l.Cell(0))
	scan, _ := hazard.Scan(l)
	x := world(t, first, enter, protect, scan)
	for thread := 1; thread <= 3; thread++ {
		next, done := x.Alone(thread, 20)
		want(t, "done", done, true)
		x = next
	}
	held, _ := hazard.Held(x.Tasks[2].Code())
	announced := era.Announced(l, x.M.Words())
	b := bagOf(t, item(7, 1, 4), item(2, 1, 4), item(6, 5, 6), item(3, 6, 6), item(1, 2, 5))
	expectSweep(t, "with readers", b, announced, held, []reclaim.Item{item(2, 1, 4), item(6, 5, 6), item(1, 2, 5)}, 3, 7)
	want(t, "Bound", reclaim.Bound(announced, held, b.Items()...), 3)
}
