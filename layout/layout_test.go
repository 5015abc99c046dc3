package layout_test

import (
	"math"
	"slices"
	"testing"

	"simulcast/api"
	"simulcast/layout"
)

func of(threads, cells, blocks int) layout.Layout {
	return layout.Layout{Threads: threads, Cells: cells, Blocks: blocks}
}

func want[T comparable](t *testing.T, what string, got, wanted T) {
	t.Helper()
	if got != wanted {
		t.Errorf("%s: %v, wanted %v", what, got, wanted)
	}
}

var (
	badThreads = []int{math.MinInt, math.MinInt + 1, -8, -1, 0, 9, 10, 1 << 32, 1<<32 + 1, 1 << 61, math.MaxInt/104 + 2, math.MaxInt - 1, math.MaxInt}
	badCells   = []int{math.MinInt, math.MinInt + 1, -2048, -1, 0, 2049, 2050, 1 << 32, 1<<32 + 8, 1 << 61, math.MaxInt - 7, math.MaxInt - 1, math.MaxInt}
	badBlocks  = []int{math.MinInt, math.MinInt + 1, -64, -1, 65, 66, 1 << 32, 1<<32 + 1, 1 << 59, math.MaxInt/32 + 1, math.MaxInt - 1, math.MaxInt}

	// Layouts with numbers in range that need more than 4096 locations.
	great = []layout.Layout{of(8, 2048, 64), of(1, 1913, 64), of(2, 1793, 64), of(8, 1073, 64), of(8, 2048, 34), of(1, 2048, 60), of(4, 1553, 64)}

	// Arguments that are far from every thread, cell, block and location.
	far = []int{math.MinInt, math.MinInt + 1, math.MinInt + 8, math.MinInt + 9, math.MinInt + 10, -1 << 33, -4096, -9, -2, -1,
		4096, 4097, 1 << 32, 1<<32 + 1, 1<<32 + 9, 1 << 59, 1 << 61, math.MaxInt - 9, math.MaxInt - 1, math.MaxInt}
)

// invalid returns layouts of every kind that Check rejects, with its error.
func invalid() map[layout.Layout]api.Errno {
	all := map[layout.Layout]api.Errno{{}: api.ErrRange}
	for _, good := range []layout.Layout{of(1, 1, 0), of(8, 2048, 0), of(8, 2048, 64), of(3, 9, 33)} {
		for _, n := range badThreads {
			all[of(n, good.Cells, good.Blocks)] = api.ErrRange
		}
		for _, n := range badCells {
			all[of(good.Threads, n, good.Blocks)] = api.ErrRange
		}
		for _, n := range badBlocks {
			all[of(good.Threads, good.Cells, n)] = api.ErrRange
		}
	}
	for _, threads := range badThreads {
		for _, cells := range badCells {
			for _, blocks := range badBlocks {
				all[of(threads, cells, blocks)] = api.ErrRange
			}
		}
	}
	for _, l := range great {
		all[l] = api.ErrSize
	}
	return all
}

// P11.1: the errors, and which comes first.
func TestInvalid(t *testing.T) {
	for l, e := range invalid() {
		if got := l.Check(); got != e {
			t.Errorf("Check of %+v: %d, wanted %d", l, got, e)
		}
	}
}

// The remark ahead of P11.1: every function of an invalid layout, whatever its argument.
func TestFunctionsOfInvalidLayouts(t *testing.T) {
	arguments := slices.Clone(far)
	for i := -1; i < 80; i++ {
		arguments = append(arguments, i)
	}
	for l := range invalid() {
		if l.Size() != 0 || l.Clock() != -1 || l.Era() != -1 || l.First() != nil {
			t.Errorf("%+v: Size %d, Clock %d, Era %d, First %v", l, l.Size(), l.Clock(), l.Era(), l.First())
		}
		for _, i := range arguments {
			for what, at := range map[string]api.Loc{
				"Announce": l.Announce(i), "Hazard": l.Hazard(i), "Record": l.Record(i), "Cell": l.Cell(i), "Slot": l.Slot(i), "Block": l.Block(i),
			} {
				if at != -1 {
					t.Fatalf("%+v: %s(%d) is %d", l, what, i, at)
				}
			}
			if at, bit := l.Bits(i); at != -1 || bit != 0 {
				t.Fatalf("%+v: Bits(%d) is %d, %d", l, i, at, bit)
			}
			if at, most := l.Place(i); at != -1 || most != 0 {
				t.Fatalf("%+v: Place(%d) is %d, %d", l, i, at, most)
			}
			if l.May(api.Loc(i)) {
				t.Fatalf("%+v: May(%d)", l, i)
			}
		}
	}
}

// P11.1: Check and Size of all layouts with numbers in range, against the sum of the chapter's lines.
func TestSizeOfAll(t *testing.T) {
	for threads := 1; threads <= 8; threads++ {
		for cells := 1; cells <= 2048; cells++ {
			for blocks := 0; blocks <= 64; blocks++ {
				lines := 1 + threads + threads + cells/8 + 13*threads + 4*blocks
				if cells%8 > 0 {
					lines++
				}
				if blocks > 0 {
					lines++
				}
				l := of(threads, cells, blocks)
				e, size := api.OK, 8*lines
				if size > 4096 {
					e, size = api.ErrSize, 0
				}
				if l.Check() != e || l.Size() != size {
					t.Fatalf("%+v: Check %d, Size %d, wanted %d, %d", l, l.Check(), l.Size(), e, size)
				}
			}
		}
	}
}

// P11.1: a layout of exactly MaxLocs locations, and those next to it.
func TestMostLocations(t *testing.T) {
	for _, l := range []layout.Layout{of(1, 1912, 64), of(2, 1792, 64), of(8, 1072, 64), of(1, 1905, 64), of(8, 2048, 33)} {
		want(t, "Check", l.Check(), api.OK)
		if l.Blocks == 64 {
			want(t, "Size", l.Size(), 4096)
			want(t, "the end of the last block", l.Block(63)+layout.BlockSize, 4096)
		}
		want(t, "First", len(l.First()), l.Size())
	}
	want(t, "one cell more", of(1, 1913, 64).Check(), api.ErrSize)
	want(t, "one thread more", of(2, 1912, 64).Check(), api.ErrSize)
	want(t, "one block more", of(8, 2048, 34).Check(), api.ErrSize)
	want(t, "one cell less", of(1, 1904, 64).Size(), 4088)
}

// Example 1.
func TestExample(t *testing.T) {
	l := of(2, 3, 0)
	want(t, "Check", l.Check(), api.OK)
	want(t, "Clock", l.Clock(), 0)
	want(t, "Era", l.Era(), 1)
	want(t, "Announce", [2]api.Loc{l.Announce(1), l.Announce(2)}, [2]api.Loc{8, 16})
	want(t, "Hazard", [2]api.Loc{l.Hazard(1), l.Hazard(2)}, [2]api.Loc{9, 17})
	want(t, "Record", [2]api.Loc{l.Record(1), l.Record(2)}, [2]api.Loc{24, 32})
	want(t, "Cell", [3]api.Loc{l.Cell(0), l.Cell(1), l.Cell(2)}, [3]api.Loc{40, 41, 42})
	want(t, "Slot", [2]api.Loc{l.Slot(1), l.Slot(2)}, [2]api.Loc{48, 152})
	want(t, "Size", l.Size(), 256)
	l.Blocks = 1
	at, bit := l.Bits(0)
	want(t, "the bitmap", at, 256)
	want(t, "the bit", bit, 1)
	want(t, "Block", l.Block(0), 264)
	want(t, "Size", l.Size(), 296)
	want(t, "constants", [3]int{layout.SlotSize, layout.BlockSize, layout.BlockEntries}, [3]int{104, 32, 10})
}

// P11.2: the bits next to the border between the bitmap words, and layouts that end there.
func TestBits(t *testing.T) {
	for blocks, last := range map[int]int64{1: 1, 31: 1 << 30, 32: 1 << 31, 33: 1, 34: 2, 63: 1 << 30, 64: 1 << 31} {
		l := of(1, 8, blocks)
		first, bit := l.Bits(0)
		want(t, "the first bit", bit, 1)
		at, bit := l.Bits(blocks - 1)
		want(t, "the last bit", bit, last)
		want(t, "its word", at, first+api.Loc((blocks-1)/32))
		want(t, "the first block", l.Block(0), first+8)
		at, bit = l.Bits(blocks)
		want(t, "no word", at, -1)
		want(t, "no bit", bit, 0)
	}
	l := of(1, 8, 64)
	low, bit := l.Bits(31)
	want(t, "bit 31", bit, 1<<31)
	high, bit := l.Bits(32)
	want(t, "bit 32", bit, 1)
	want(t, "the next word", high, low+1)
}

// P11.4 and 'Memory': First is new memory each time.
func TestFirstIsNew(t *testing.T) {
	l := of(2, 3, 2)
	a := l.First()
	wanted := slices.Clone(a)
	clear(a)
	if b := l.First(); !slices.Equal(b, wanted) {
		t.Errorf("First again: %v, wanted %v", b, wanted)
	}
}
