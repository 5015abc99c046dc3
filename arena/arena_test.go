package arena_test

import (
	"math"
	"math/rand"
	"slices"
	"testing"

	"simulcast/api"
	"simulcast/arena"
	"simulcast/atom"
	"simulcast/layout"
	"simulcast/task"
)

func blocks(n int) layout.Layout { return layout.Layout{Threads: 2, Cells: 3, Blocks: n} }

var (
	// Numbers of blocks around the borders of the bitmap words.
	numbers = []int{1, 2, 31, 32, 33, 34, 40, 63, 64}

	badLayouts = []layout.Layout{
		{}, {Threads: 0, Cells: 1, Blocks: 8}, {Threads: 9, Cells: 1, Blocks: 8}, {Threads: 1, Cells: 0, Blocks: 8}, {Threads: 1, Cells: 2049, Blocks: 8},
		{Threads: 1, Cells: 1, Blocks: -1}, {Threads: 1, Cells: 1, Blocks: 65}, {Threads: 8, Cells: 2048, Blocks: 64},
		{Threads: math.MaxInt, Cells: math.MaxInt, Blocks: math.MaxInt}, {Threads: 1, Cells: 1, Blocks: math.MinInt},
	}
	far = []int{math.MinInt, math.MinInt + 1, -1 << 32, -33, -32, -1, 64, 65, 96, 1 << 32, math.MaxInt - 1, math.MaxInt}
)

// expectNoCode checks that Take and Give reject a block with the same error.
func expectNoCode(t *testing.T, l layout.Layout, block int, wanted api.Errno) {
	t.Helper()
	if c, e := arena.Take(l, block); c != nil || e != wanted {
		t.Errorf("Take(%+v, %d): %v, %d, wanted %d", l, block, c, e, wanted)
	}
	if c, e := arena.Give(l, block); c != nil || e != wanted {
		t.Errorf("Give(%+v, %d): %v, %d, wanted %d", l, block, c, e, wanted)
	}
}

// P12.1: the errors of Take and Give, and which comes first.
func TestNoCode(t *testing.T) {
	for _, l := range badLayouts {
		for _, block := range append([]int{0, 1, 7, l.Blocks - 1, l.Blocks}, far...) {
			expectNoCode(t, l, block, api.ErrArg)
		}
	}
	for _, n := range append([]int{0}, numbers...) {
		for _, block := range append([]int{n, n + 1}, far...) {
			expectNoCode(t, blocks(n), block, api.ErrRange)
		}
		for block := range n {
			if c, e := arena.Take(blocks(n), block); c == nil || e != api.OK {
				t.Errorf("Take from %d of %d: %v, %d", block, n, c, e)
			}
			if c, e := arena.Give(blocks(n), block); c == nil || e != api.OK {
				t.Errorf("Give of %d of %d: %v, %d", block, n, c, e)
			}
		}
	}
	expectNoCode(t, blocks(0), 0, api.ErrRange)
}

// foreign is a code of another package.
type foreign struct{ finished bool }

func (f foreign) Next(api.Got) (task.Code, api.Act, bool) { return f, api.Act{}, f.finished }

type pointed struct{ finished bool }

func (p *pointed) Next(api.Got) (task.Code, api.Act, bool) { return p, api.Act{}, p.finished }

// wrapper is a code of another package with one of package arena inside.
type wrapper struct{ task.Code }

func expectUnfinished(t *testing.T, what string, c task.Code) {
	t.Helper()
	if block, e, ok := arena.Block(c); block != 0 || e != api.OK || ok {
		t.Errorf("%s: Block %d, %d, %v", what, block, e, ok)
	}
}

func expectBlock(t *testing.T, what string, c task.Code, wanted int, err api.Errno) {
	t.Helper()
	if block, e, ok := arena.Block(c); block != wanted || e != err || !ok {
		t.Errorf("%s: Block %d, %d, %v, wanted %d, %d", what, block, e, ok, wanted, err)
	}
}

// P12.2: Block of codes that are not of this package.
func TestOtherCodes(t *testing.T) {
	l := blocks(3)
	c, _ := arena.Take(l, 1)
	done, _, _ := run(t, l, l.First(), c)
	expectBlock(t, "a finished code", done, 1, api.OK)
	other, _ := atom.New(atom.Op{Kind: atom.Add})
	ended := task.Start(other).Give(api.Got{OK: true}).Code()
	var none *pointed
	for what, x := range map[string]task.Code{
		"nil": nil, "foreign": foreign{}, "foreign, finished": foreign{true}, "pointer": &pointed{true}, "nil pointer": none, "of atom": other,
		"of atom, finished": ended, "fresh, inside another": wrapper{c}, "finished, inside another": wrapper{done}, "nothing inside another": wrapper{},
	} {
		expectUnfinished(t, what, x)
	}
}

// image returns a memory image with random words everywhere.
func image(r *rand.Rand, size int) []api.Word {
	w := make([]api.Word, size)
	for i := range w {
		w[i] = api.Word{Val: int64(r.Uint64()), Ver: r.Uint32(), Ref: r.Uint32()}
	}
	return w
}

// plainUsed lists the used blocks by the chapter's definition.
func plainUsed(l layout.Layout, w []api.Word) []int {
	var used []int
	first := 8 + 16*l.Threads + (l.Cells+7)/8*8 + 104*l.Threads
	for i := range l.Blocks {
		if uint64(w[first+i/32].Val)>>(i%32)%2 == 1 {
			used = append(used, i)
		}
	}
	return used
}

// P12.3: Used of images with random words, whose bitmap words have bits that belong to no block, and of longer ones.
func TestUsed(t *testing.T) {
	r := rand.New(rand.NewSource(2))
	for _, n := range append([]int{0}, numbers...) {
		l := blocks(n)
		for range 30 {
			w := image(r, l.Size()+r.Intn(3))
			kept := slices.Clone(w)
			if used := arena.Used(l, w); !slices.Equal(used, plainUsed(l, w)) {
				t.Fatalf("%d blocks: Used %v, wanted %v", n, used, plainUsed(l, w))
			}
			if !slices.Equal(w, kept) {
				t.Fatal("Used has changed the image")
			}
		}
		if used := arena.Used(l, l.First()); len(used) != 0 {
			t.Errorf("%d blocks: %v are used at first", n, used)
		}
	}
}

// P12.3: Used of an invalid layout or an image that is too short.
func TestUsedOfNothing(t *testing.T) {
	r := rand.New(rand.NewSource(3))
	long := image(r, api.MaxLocs)
	for _, l := range badLayouts {
		if used := arena.Used(l, long); used != nil {
			t.Errorf("%+v: %v", l, used)
		}
	}
	for _, n := range append([]int{0}, numbers...) {
		l := blocks(n)
		at, _ := l.Bits(0)
		for _, size := range []int{0, 1, max(0, int(at)), int(at) + 2, l.Size() - 1} {
			if used := arena.Used(l, long[:size]); used != nil {
				t.Errorf("%d blocks, %d words of %d: %v", n, size, l.Size(), used)
			}
		}
	}
}

// expectMarked checks an image that Mark has returned, word by word.
func expectMarked(t *testing.T, l layout.Layout, before, after []api.Word, used []int) {
	t.Helper()
	wanted := slices.Clone(before)
	values := map[api.Loc]int64{}
	for i := range l.Blocks {
		at, bit := l.Bits(i)
		if slices.Contains(used, i) {
			values[at] += bit
		} else {
			values[at] += 0
		}
	}
	for at, v := range values {
		wanted[at].Val = v
	}
	if !slices.Equal(after, wanted) {
		t.Fatalf("%d blocks, Mark of %v: the image differs from what is wanted", l.Blocks, used)
	}
}

// P12.3: Mark of images with random words, with repeated numbers in any order, and what Used says of it.
func TestMark(t *testing.T) {
	r := rand.New(rand.NewSource(4))
	for _, n := range append([]int{0}, numbers...) {
		l := blocks(n)
		for round := range 30 {
			w := image(r, l.Size()+r.Intn(3))
			kept := slices.Clone(w)
			var used []int
			for range min(n, 1) * r.Intn(2*n+1) * (round % 3) {
				used = append(used, r.Intn(n))
			}
			given := slices.Clone(used)
			marked, e := arena.Mark(l, w, used...)
			if e != api.OK {
				t.Fatalf("%d blocks, Mark of %v: %d", n, used, e)
			}
			expectMarked(t, l, kept, marked, used)
			if !slices.Equal(w, kept) || !slices.Equal(used, given) {
				t.Fatal("Mark has changed an argument")
			}
			slices.Sort(given)
			if got := arena.Used(l, marked); !slices.Equal(got, slices.Compact(given)) {
				t.Fatalf("%d blocks, Mark of %v: Used %v", n, used, got)
			}
			expectApart(t, w, marked, kept)
		}
	}
}

// expectApart checks that an image that was returned shares no memory with the one that was passed.
func expectApart(t *testing.T, passed, returned, kept []api.Word) {
	t.Helper()
	for i := range returned {
		returned[i].Val++
	}
	if !slices.Equal(passed, kept) {
		t.Fatal("the images share memory")
	}
}

// P12.3: the errors of Mark, which comes first, and that it returns the image then.
func TestMarkErrors(t *testing.T) {
	r := rand.New(rand.NewSource(5))
	long := image(r, api.MaxLocs)
	expect := func(l layout.Layout, w []api.Word, e api.Errno, used ...int) {
		t.Helper()
		kept := slices.Clone(w)
		got, err := arena.Mark(l, w, used...)
		if err != e || !slices.Equal(got, w) {
			t.Errorf("%+v, %d words, Mark of %v: %d, wanted %d; same words: %v", l, len(w), used, err, e, slices.Equal(got, w))
		}
		expectApart(t, w, got, kept)
	}
	for _, l := range badLayouts {
		expect(l, long, api.ErrArg)
		expect(l, long, api.ErrArg, 0)
		expect(l, long, api.ErrArg, -1, 99)
		expect(l, nil, api.ErrArg)
	}
	for _, n := range append([]int{0}, numbers...) {
		l := blocks(n)
		for _, size := range []int{0, 1, l.Size() - 8, l.Size() - 1} {
			expect(l, long[:size], api.ErrArg)
			expect(l, long[:size], api.ErrArg, 0)
			expect(l, long[:size], api.ErrArg, n)
		}
		for _, i := range append([]int{n, n + 1}, far...) {
			expect(l, long[:l.Size()], api.ErrRange, i)
			expect(l, long, api.ErrRange, i, i)
			if n > 0 {
				expect(l, long[:l.Size()], api.ErrRange, 0, i)
				expect(l, long[:l.Size()], api.ErrRange, n-1, i, 0)
			}
		}
	}
	expect(blocks(4), nil, api.ErrArg, 0)
}

// 'Memory': an image with spare capacity behind its words keeps it.
func TestSpareCapacity(t *testing.T) {
	l := blocks(5)
	long := image(rand.New(rand.NewSource(6)), l.Size()+20)
	kept := slices.Clone(long)
	marked, _ := arena.Mark(l, long[:l.Size()], 1, 2)
	marked = append(marked, api.Word{Val: 5})
	marked[0].Val++
	if !slices.Equal(long, kept) {
		t.Error("Mark writes behind the image")
	}
	numbers := []int{3, 1, 4, 2}
	arena.Mark(l, long, numbers[:2]...)
	if !slices.Equal(numbers, []int{3, 1, 4, 2}) {
		t.Errorf("Mark changes its numbers to %v", numbers)
	}
}
