package leak_test

import (
	"math"
	"math/rand"
	"slices"
	"testing"

	"simulcast/api"
	"simulcast/arena"
	"simulcast/layout"
	"simulcast/leak"
	"simulcast/machine"
	"simulcast/task"
)

func blocks(n int) layout.Layout { return layout.Layout{Threads: 2, Cells: 3, Blocks: n} }

// bitmapAt is where the bitmaps of these layouts begin, by the chapter of layout.
const bitmapAt = 8 + 2*8 + 2*8 + 8 + 2*104

// numbers of blocks around the borders of the bitmap words.
var numbers = []int{0, 1, 2, 31, 32, 33, 34, 40, 63, 64}

// image returns a memory image with random words everywhere, also where bits belong to no block.
func image(r *rand.Rand, size int) []api.Word {
	w := make([]api.Word, size)
	for i := range w {
		w[i] = api.Word{Val: int64(r.Uint64()), Ver: r.Uint32(), Ref: r.Uint32()}
	}
	return w
}

// anyBlocks returns numbers of blocks in no order, some of them several times.
func anyBlocks(r *rand.Rand, n int) []int {
	if n == 0 {
		return nil
	}
	var l []int
	for range r.Intn(2*n + 1) {
		l = append(l, r.Intn(n))
	}
	return l
}

// plainMend writes the bits of the reachable blocks into the bitmap words, and returns the image and the lost blocks.
func plainMend(n int, w []api.Word, reach []int) ([]api.Word, []int) {
	mended := slices.Clone(w)
	var lost []int
	for i := range n {
		at := bitmapAt + i/32
		if i%32 == 0 {
			mended[at].Val = 0
		}
		if slices.Contains(reach, i) {
			mended[at].Val += 1 << (i % 32)
		} else if uint64(w[at].Val)>>(i%32)%2 == 1 {
			lost = append(lost, i)
		}
	}
	return mended, lost
}

// expectMend checks what Mend returns, and that it leaves its arguments with their spare capacity as they are.
func expectMend(t *testing.T, l layout.Layout, w []api.Word, reach []int, wanted []api.Word, lost []int, err api.Errno) []api.Word {
	t.Helper()
	long := append(slices.Clone(w), api.Word{Val: 123}, api.Word{Ver: 456})
	numbers, whole := spread(reach)
	mended, gone, e := leak.Mend(l, long[:len(w)], numbers)
	if e != err {
		t.Fatalf("%+v, %d words, Mend with %v: %d, wanted %d", l, len(w), reach, e, err)
	}
	if !slices.Equal(mended, wanted) {
		t.Fatalf("%+v, Mend with %v: the image differs from what is wanted", l, reach)
	}
	same(t, "the lost blocks", gone, lost...)
	result := slices.Clone(mended)
	for _, words := range [][]api.Word{mended, mended[:cap(mended)]} {
		for i := range words {
			words[i].Val++
		}
	}
	if !slices.Equal(long, append(slices.Clone(w), api.Word{Val: 123}, api.Word{Ver: 456})) {
		t.Fatalf("%+v, Mend with %v: the image that was passed has changed", l, reach)
	}
	same(t, "the reachable blocks", whole, append(slices.Clone(reach), 77, 78, 79)...)
	return result
}

// P16.2: images with random words, with repeated numbers in any order, and images that are longer than the layout.
func TestMend(t *testing.T) {
	r := rand.New(rand.NewSource(1))
	for _, n := range numbers {
		l := blocks(n)
		for range 40 {
			w := image(r, l.Size()+r.Intn(3))
			reach := anyBlocks(r, n)
			wanted, lost := plainMend(n, w, reach)
			expectMend(t, l, w, reach, wanted, lost, api.OK)
		}
	}
}

// P16.2: a single block at each place, used or not, reachable or not.
func TestMendOfOneBlock(t *testing.T) {
	for _, n := range numbers[1:] {
		l := blocks(n)
		for i := range n {
			at, bit := l.Bits(i)
			free := l.First()
			used := l.First()
			used[at].Val = bit
			expectMend(t, l, used, []int{i}, used, nil, api.OK)
			expectMend(t, l, used, nil, free, []int{i}, api.OK)
			expectMend(t, l, free, []int{i, i}, used, nil, api.OK)
			expectMend(t, l, free, []int{}, free, nil, api.OK)
			other := (i + 1) % n
			if at, bit := l.Bits(other); other != i {
				wanted := l.First()
				wanted[at].Val = bit
				expectMend(t, l, used, []int{other}, wanted, []int{i}, api.OK)
			}
		}
	}
}

// P16.2: all blocks lost, all wild, and all both used and reachable.
func TestMendOfAll(t *testing.T) {
	for _, n := range numbers {
		l := blocks(n)
		all := make([]int, n)
		for i := range all {
			all[i] = i
		}
		free := l.First()
		full, e := arena.Mark(l, free, all...)
		if e != api.OK {
			t.Fatal("Mark:", e)
		}
		expectMend(t, l, full, nil, free, all, api.OK)
		expectMend(t, l, free, all, full, nil, api.OK)
		expectMend(t, l, full, all, full, nil, api.OK)
		slices.Reverse(all)
		expectMend(t, l, free, all, full, nil, api.OK)
	}
}

// P16.2: the bitmap words keep their Ver and Ref, and lose bits that belong to no block.
func TestMendOfBitmapWords(t *testing.T) {
	l := blocks(33)
	w := l.First()
	w[bitmapAt] = api.Word{Val: 1<<40 | 1<<31 | 1<<3 | 1, Ver: 7, Ref: 5}
	w[bitmapAt+1] = api.Word{Val: math.MinInt64 | 1<<32 | 1<<1 | 1, Ver: math.MaxUint32, Ref: 1 << 31}
	w[bitmapAt+2] = api.Word{Val: 1, Ver: 2, Ref: 3}
	wanted := slices.Clone(w)
	wanted[bitmapAt].Val = 1<<31 | 1<<5
	wanted[bitmapAt+1].Val = 0
	expectMend(t, l, w, []int{31, 5, 31}, wanted, []int{0, 3, 32}, api.OK)
	wanted[bitmapAt].Val = 0
	wanted[bitmapAt+1].Val = 1
	expectMend(t, l, w, []int{32}, wanted, []int{0, 3, 31}, api.OK)
}

// P16.2: a layout without blocks has nothing to mend, and no block is reachable.
func TestMendWithoutBlocks(t *testing.T) {
	l := blocks(0)
	w := image(rand.New(rand.NewSource(2)), l.Size()+40)
	expectMend(t, l, w, nil, w, nil, api.OK)
	expectMend(t, l, w, []int{0}, w, nil, api.ErrRange)
	expectMend(t, l, w[:l.Size()], []int{}, w[:l.Size()], nil, api.OK)
	expectMend(t, l, w[:l.Size()-1], nil, w[:l.Size()-1], nil, api.ErrArg)
}

var badLayouts = []layout.Layout{
	{}, {Threads: 0, Cells: 1, Blocks: 8}, {Threads: 9, Cells: 1, Blocks: 8}, {Threads: 1, Cells: 0, Blocks: 8}, {Threads: 1, Cells: 2049, Blocks: 8},
	{Threads: 1, Cells: 1, Blocks: -1}, {Threads: 1, Cells: 1, Blocks: 65}, {Threads: 8, Cells: 2048, Blocks: 64},
	{Threads: math.MaxInt, Cells: math.MaxInt, Blocks: math.MaxInt}, {Threads: 1, Cells: 1, Blocks: math.MinInt},
}

// P16.2: an invalid layout comes ahead of every block; the image comes back as it is, and no block is lost.
func TestMendOfInvalidLayouts(t *testing.T) {
	long := image(rand.New(rand.NewSource(3)), api.MaxLocs)
	for _, l := range badLayouts {
		for _, reach := range [][]int{nil, {0}, {-1}, {99}, {0, -1, 99}, farNumbers} {
			expectMend(t, l, long, reach, long, nil, api.ErrArg)
			expectMend(t, l, nil, reach, nil, nil, api.ErrArg)
		}
	}
}

// P16.2: an image with too few words comes ahead of every block, too.
func TestMendOfShortImages(t *testing.T) {
	long := image(rand.New(rand.NewSource(4)), api.MaxLocs)
	for _, n := range numbers {
		l := blocks(n)
		for _, size := range []int{0, 1, bitmapAt, bitmapAt + 2, l.Size() - 8, l.Size() - 1} {
			if size >= l.Size() {
				continue
			}
			for _, reach := range [][]int{nil, {0}, {n - 1}, {n}, {-1}, farNumbers} {
				expectMend(t, l, long[:size], reach, long[:size], nil, api.ErrArg)
			}
		}
		wanted, lost := plainMend(n, long[:l.Size()], nil)
		expectMend(t, l, long[:l.Size()], nil, wanted, lost, api.OK)
	}
}

// P16.2: a number that is not that of a block is an error at every place of the list.
func TestMendOfInvalidBlocks(t *testing.T) {
	long := image(rand.New(rand.NewSource(5)), api.MaxLocs)
	for _, n := range numbers {
		l := blocks(n)
		for _, i := range append([]int{n, n + 1, 64, 65}, farNumbers...) {
			if i < n && i >= 0 {
				continue
			}
			for _, w := range [][]api.Word{long, long[:l.Size()]} {
				expectMend(t, l, w, []int{i}, w, nil, api.ErrRange)
				expectMend(t, l, w, []int{i, i}, w, nil, api.ErrRange)
				if n > 0 {
					expectMend(t, l, w, []int{0, i}, w, nil, api.ErrRange)
					expectMend(t, l, w, []int{i, n - 1}, w, nil, api.ErrRange)
					expectMend(t, l, w, []int{n - 1, 0, i, 0}, w, nil, api.ErrRange)
				}
			}
		}
	}
}

// P16.3: after Mend no block is lost or wild, and a second Mend changes nothing.
func TestMendTwice(t *testing.T) {
	r := rand.New(rand.NewSource(6))
	for _, n := range numbers {
		l := blocks(n)
		for range 20 {
			w := image(r, l.Size())
			reach := anyBlocks(r, n)
			wanted, lost := plainMend(n, w, reach)
			mended := expectMend(t, l, w, reach, wanted, lost, api.OK)
			used := arena.Used(l, mended)
			same(t, "Lost", leak.Lost(used, reach))
			same(t, "Wild", leak.Wild(used, reach))
			expectMend(t, l, mended, reach, mended, nil, api.OK)
			same(t, "lost ahead of it", lost, leak.Lost(arena.Used(l, w), reach)...)
		}
	}
}

// world returns a world with one code per thread on these words.
func world(t *testing.T, w []api.Word, codes ...task.Code) task.World {
	t.Helper()
	m, e := machine.New(len(codes), w...)
	if e != api.OK {
		t.Fatal("New:", e)
	}
	x, e := task.Make(m, codes...)
	if e != api.OK {
		t.Fatal("Make:", e)
	}
	return x
}

// takeAll runs a Take from block 0 on in each of two threads, and returns the blocks and the memory behind it.
func takeAll(t *testing.T, l layout.Layout, w []api.Word) ([]int, []api.Word) {
	t.Helper()
	take, _ := arena.Take(l, 0)
	x := world(t, w, take, take)
	var taken []int
	for thread := 1; thread <= 2; thread++ {
		x, _ = x.Alone(thread, 9)
		block, e, done := arena.Block(x.Tasks[thread-1].Code())
		if e != api.OK || !done {
			t.Fatalf("thread %d: Block %d, %d, %v", thread, block, e, done)
		}
		taken = append(taken, block)
	}
	return taken, x.M.Words()
}

// A block that a thread took and never linked is found, and can be taken again.
func TestRepair(t *testing.T) {
	l := blocks(5)
	taken, w := takeAll(t, l, l.First())
	same(t, "taken", taken, 0, 1)
	next := make([][]int, l.Blocks)
	next[1] = []int{3} // block 3 is linked, but its bit did not survive
	reach := leak.Reach([]int{1}, next)
	same(t, "reachable", reach, 1, 3)
	used := arena.Used(l, w)
	same(t, "Lost", leak.Lost(used, reach), 0)
	same(t, "Wild", leak.Wild(used, reach), 3)
	mended, lost, e := leak.Mend(l, w, reach)
	if e != api.OK {
		t.Fatal("Mend:", e)
	}
	same(t, "lost", lost, 0)
	same(t, "used", arena.Used(l, mended), 1, 3)
	again, _ := takeAll(t, l, mended)
	same(t, "taken again", again, 0, 2)
}
