package reclaim_test

import (
	"math"
	"slices"
	"testing"

	"simulcast/api"
	"simulcast/reclaim"
)

func item(block int, birth, retired int64) reclaim.Item {
	return reclaim.Item{Block: block, Birth: birth, Retired: retired}
}

func want[T comparable](t *testing.T, what string, got, wanted T) {
	t.Helper()
	if got != wanted {
		t.Errorf("%s: %v, wanted %v", what, got, wanted)
	}
}

// same compares lists; a nil one is equal to an empty one.
func same[T comparable](t *testing.T, what string, got []T, wanted ...T) {
	t.Helper()
	if !slices.Equal(got, wanted) {
		t.Errorf("%s: %v, wanted %v", what, got, wanted)
	}
}

// bagOf returns the bag of the items, which must be valid.
func bagOf(t *testing.T, l ...reclaim.Item) reclaim.Bag {
	t.Helper()
	var b reclaim.Bag
	for _, i := range l {
		next, e := b.Retire(i)
		if e != api.OK {
			t.Fatalf("Retire of %v: %d", i, e)
		}
		b = next
	}
	return b
}

func expectBag(t *testing.T, what string, b reclaim.Bag, wanted ...reclaim.Item) {
	t.Helper()
	same(t, what+": Items", b.Items(), wanted...)
	want(t, what+": Len", b.Len(), len(wanted))
}

// expectSweep checks a sweep, and that it leaves the bag and both lists as they are.
func expectSweep(t *testing.T, what string, b reclaim.Bag, announced, held []int64, kept []reclaim.Item, freed ...int) {
	t.Helper()
	before, eras, pointers := b.Items(), slices.Clone(announced), slices.Clone(held)
	rest, gone := b.Sweep(announced, held)
	expectBag(t, what+": the kept ones", rest, kept...)
	same(t, what+": the freed ones", gone, freed...)
	expectBag(t, what+": the swept bag", b, before...)
	same(t, what+": the announced eras", announced, eras...)
	same(t, what+": the hazard pointers", held, pointers...)
}

// Example 1.
func TestExample(t *testing.T) {
	l := []reclaim.Item{item(4, 1, 3), item(5, 2, 6), item(6, 5, 5)}
	expectSweep(t, "the example", bagOf(t, l...), []int64{4}, []int64{7}, l[1:], 4)
	want(t, "Bound", reclaim.Bound([]int64{4}, []int64{7}, l...), 2)
}

// P15.1: items are appended in the order of retirement, whatever their blocks and eras are.
func TestRetire(t *testing.T) {
	var b reclaim.Bag
	expectBag(t, "the zero bag", b)
	l := []reclaim.Item{
		item(63, 7, 7), item(0, 0, 0), item(9, 0, math.MaxInt64), item(8, math.MaxInt64, math.MaxInt64), item(31, 3, 4), item(32, 3, 4), item(1, 1, 2),
	}
	for n, i := range l {
		next, e := b.Retire(i)
		want(t, "Retire", e, api.OK)
		expectBag(t, "the bag before", b, l[:n]...)
		expectBag(t, "the bag", next, l[:n+1]...)
		b = next
	}
}

// P15.1: a bag has room for all 64 blocks, and rejects each of them from then on.
func TestAllBlocks(t *testing.T) {
	var b reclaim.Bag
	var l []reclaim.Item
	for n := range 64 {
		i := item(n*37%64, int64(n), int64(2*n))
		next, e := b.Retire(i)
		want(t, "Retire", e, api.OK)
		l = append(l, i)
		expectBag(t, "the bag", next, l...)
		b = next
	}
	for block := range 64 {
		expectRejected(t, b, item(block, 1, 1), api.ErrTwice)
	}
	freed := make([]int, 64)
	for block := range freed {
		freed[block] = block
	}
	expectSweep(t, "all of them", b, nil, nil, nil, freed...)
	expectSweep(t, "none of them", b, []int64{63, 20, 1, 5, 10, 40, 2}, []int64{1}, l)
}

// expectRejected checks that the item is not retired, and that the bag beside the error is the unchanged one.
func expectRejected(t *testing.T, b reclaim.Bag, i reclaim.Item, wanted api.Errno) {
	t.Helper()
	before := b.Items()
	got, e := b.Retire(i)
	if e != wanted {
		t.Errorf("Retire of %v: %d, wanted %d", i, e, wanted)
	}
	expectBag(t, "the bag beside an error", got, before...)
	expectBag(t, "the bag before", b, before...)
}

var (
	badBlocks  = []int{math.MinInt, math.MinInt + 1, -1 << 32, -64, -63, -1, 64, 65, 127, 1 << 32, 1<<32 + 9, math.MaxInt - 1, math.MaxInt}
	badOrders  = [][2]int64{{-1, -1}, {-1, 0}, {-1, 5}, {1, 0}, {5, 4}, {0, -1}, {5, -5}, {-5, -6}, {math.MinInt64, math.MaxInt64}, {math.MaxInt64, math.MinInt64}, {math.MinInt64, math.MinInt64}, {math.MaxInt64, math.MaxInt64 - 1}, {math.MaxInt64, 0}, {1 << 33, 1}}
	goodOrders = [][2]int64{{0, 0}, {0, 1}, {1, 1}, {7, 7}, {7, 8}, {0, math.MaxInt64}, {math.MaxInt64, math.MaxInt64}, {math.MaxInt64 - 1, math.MaxInt64}, {1, 1 << 33}}
)

// P15.1: each error of Retire alone.
func TestRetireErrors(t *testing.T) {
	for _, b := range []reclaim.Bag{{}, bagOf(t, item(9, 2, 4)), bagOf(t, item(9, 2, 4), item(0, 0, 0), item(63, 5, 9))} {
		for _, block := range badBlocks {
			expectRejected(t, b, item(block, 1, 1), api.ErrRange)
		}
		for _, o := range badOrders {
			expectRejected(t, b, item(5, o[0], o[1]), api.ErrOrder)
		}
		for _, i := range b.Items() {
			expectRejected(t, b, i, api.ErrTwice)
			for _, o := range goodOrders {
				expectRejected(t, b, item(i.Block, o[0], o[1]), api.ErrTwice)
			}
		}
		for _, o := range goodOrders {
			next, e := b.Retire(item(5, o[0], o[1]))
			want(t, "Retire", e, api.OK)
			expectBag(t, "the bag", next, append(b.Items(), item(5, o[0], o[1]))...)
		}
	}
}

// P15.1: which error of Retire comes first.
func TestFirstError(t *testing.T) {
	for _, block := range badBlocks {
		for _, o := range badOrders {
			expectRejected(t, reclaim.Bag{}, item(block, o[0], o[1]), api.ErrRange)
		}
	}
	for _, block := range []int{0, 9, 63} {
		b := bagOf(t, item(block, 2, 4))
		for _, o := range badOrders {
			expectRejected(t, b, item(block, o[0], o[1]), api.ErrOrder)
		}
	}
}

// P15.1: the blocks at both ends of the range and next to them.
func TestBlockRange(t *testing.T) {
	for block, wanted := range map[int]api.Errno{-1: api.ErrRange, 0: api.OK, 63: api.OK, 64: api.ErrRange} {
		if _, e := (reclaim.Bag{}).Retire(item(block, 1, 1)); e != wanted {
			t.Errorf("Retire of block %d: %d, wanted %d", block, e, wanted)
		}
	}
}

// P15.1: after a sweep, freed blocks may be retired again, and kept ones may not.
func TestRetireAfterSweep(t *testing.T) {
	b, freed := bagOf(t, item(1, 1, 1), item(2, 2, 2), item(3, 3, 3)).Sweep([]int64{2}, nil)
	same(t, "freed", freed, 1, 3)
	expectRejected(t, b, item(2, 9, 9), api.ErrTwice)
	b, e := b.Retire(item(3, 4, 5))
	want(t, "Retire", e, api.OK)
	b, e = b.Retire(item(1, 4, 6))
	want(t, "Retire", e, api.OK)
	expectBag(t, "the bag", b, item(2, 2, 2), item(3, 4, 5), item(1, 4, 6))
}

// The rule 'Values': a bag that is retired into twice, swept twice, or both.
func TestBagsAreValues(t *testing.T) {
	for size := range 20 {
		var l []reclaim.Item
		for n := range size {
			l = append(l, item(n, int64(n), int64(n)))
		}
		b := bagOf(t, l...)
		one, _ := b.Retire(item(40, 1, 2))
		two, _ := b.Retire(item(50, 3, 4))
		kept, _ := b.Sweep([]int64{5}, []int64{1})
		none, _ := b.Sweep(nil, nil)
		three, _ := none.Retire(item(60, 5, 6))
		four, _ := kept.Retire(item(61, 7, 8))
		expectBag(t, "the first", one, append(slices.Clone(l), item(40, 1, 2))...)
		expectBag(t, "the second", two, append(slices.Clone(l), item(50, 3, 4))...)
		expectBag(t, "the bag", b, l...)
		expectBag(t, "the empty one", none)
		expectBag(t, "the third", three, item(60, 5, 6))
		var rest []reclaim.Item
		for _, i := range l {
			if i.Block == 0 || i.Block == 5 {
				rest = append(rest, i)
			}
		}
		expectBag(t, "the kept ones", kept, rest...)
		expectBag(t, "the fourth", four, append(rest, item(61, 7, 8))...)
	}
}

// The rule 'Memory': a caller may change what Items and Sweep return.
func TestResultsAreApart(t *testing.T) {
	l := []reclaim.Item{item(7, 1, 1), item(3, 2, 2), item(5, 3, 3)}
	b := bagOf(t, l...)
	first, second := b.Items(), b.Items()
	first[0], first[1] = item(60, 9, 9), item(61, 9, 9)
	_ = append(first[:1], item(62, 9, 9))
	same(t, "other Items", second, l...)
	expectBag(t, "the bag", b, l...)

	kept, freed := b.Sweep([]int64{2}, nil)
	again, freedAgain := b.Sweep([]int64{2}, nil)
	freed[0], freed[1] = 60, 61
	_ = append(freed[:0], 62)
	items := kept.Items()
	items[0] = item(63, 9, 9)
	expectBag(t, "the kept ones", kept, l[1])
	expectBag(t, "the ones kept again", again, l[1])
	same(t, "the ones freed again", freedAgain, 5, 7)
	expectBag(t, "the bag", b, l...)
}

// The rule 'Memory': a caller may change what it has passed, and its spare capacity stays as it is.
func TestArgumentsAreApart(t *testing.T) {
	i := item(7, 1, 4)
	b, _ := reclaim.Bag{}.Retire(i)
	i.Block, i.Birth, i.Retired = 8, 0, 9
	expectBag(t, "the bag", b, item(7, 1, 4))

	room := []int64{9, 3, 3, 0, 1, 77, 78}
	eras := room[:4]
	pointers := slices.Clone(room)[:5]
	kept, freed := b.Sweep(eras, pointers)
	l := []reclaim.Item{item(7, 1, 4), item(7, 1, 4), item(2, 5, 6), item(1, 1, 1)}
	reclaim.Bound(eras, pointers, l[:3]...)
	same(t, "the eras", room, 9, 3, 3, 0, 1, 77, 78)
	same(t, "the pointers", pointers[:7], 9, 3, 3, 0, 1, 77, 78)
	same(t, "the items", l, item(7, 1, 4), item(7, 1, 4), item(2, 5, 6), item(1, 1, 1))
	clear(room)
	clear(pointers)
	expectBag(t, "the kept ones", kept, item(7, 1, 4))
	same(t, "the freed ones", freed)

	items := b.Items()
	again, _ := reclaim.Bag{}.Retire(items[0])
	items[0].Block = 1
	expectBag(t, "a bag of an item of another one", again, item(7, 1, 4))
}
