package swap_test

import (
	"fmt"
	"math"
	"slices"
	"testing"

	"simulcast/api"
	"simulcast/layout"
	"simulcast/machine"
	"simulcast/swap"
	"simulcast/task"
)

// of is the layout of most tests: its records begin at 32, 40 and 48, its cells at 56, its slots at 96, 200 and 304, its
// blocks at 416 and 448.
var of = layout.Layout{Threads: 3, Cells: 40, Blocks: 2}

var (
	goodLayouts = []layout.Layout{of, {Threads: 1, Cells: 1}, {Threads: 8, Cells: 2048}, {Threads: 8, Cells: 40, Blocks: 64}}
	badLayouts  = []layout.Layout{
		{}, {Threads: 9, Cells: 8}, {Threads: -1, Cells: 8}, {Threads: 1, Cells: 0}, {Threads: 1, Cells: 2049}, {Threads: 1, Cells: 1, Blocks: -1},
		{Threads: 1, Cells: 1, Blocks: 65}, {Threads: 8, Cells: 2048, Blocks: 64}, {Threads: math.MaxInt, Cells: math.MaxInt, Blocks: math.MaxInt},
	}
)

// expectNew checks what New returns for these arguments, durable or not.
func expectNew(t *testing.T, l layout.Layout, thread, seq int, list []api.Entry, wanted api.Errno) {
	t.Helper()
	for _, durable := range []bool{false, true} {
		c, e := swap.New(l, thread, seq, durable, list...)
		if e != wanted || (c == nil) != (e != api.OK) {
			t.Errorf("New of %d, %d, %+v in %+v: %v, %d, wanted %d", thread, seq, list, l, c, e, wanted)
		}
		expectAnswer(t, "behind New", c, false, false)
	}
}

// expectSimple checks what Simple returns for these arguments, durable or not.
func expectSimple(t *testing.T, l layout.Layout, x api.Entry, wanted api.Errno) {
	t.Helper()
	for _, durable := range []bool{false, true} {
		c, e := swap.Simple(l, durable, x)
		if e != wanted || (c == nil) != (e != api.OK) {
			t.Errorf("Simple of %+v in %+v: %v, %d, wanted %d", x, l, c, e, wanted)
		}
		expectAnswer(t, "behind Simple", c, false, false)
	}
}

var (
	anyThreads = []int{math.MinInt, -1, 0, 1, 2, 3, 4, 7, 8, 9, 10, 11, 72, 73, 1<<32 + 1, math.MaxInt}
	anySeqs    = []int{math.MinInt, -1, 0, 1, 2, api.MaxSeq - 1, api.MaxSeq, api.MaxSeq + 1, 1<<32 + 1, math.MaxInt}
)

// P21.1: invalid layouts, threads and sequence numbers. They come ahead of what is wrong with the entries.
func TestNewArguments(t *testing.T) {
	bad := [][]api.Entry{nil, {written(0, 1, 1, 2)}, {{At: -1, Old: api.Word{Ref: 1}, New: 3}}}
	for _, l := range goodLayouts {
		good := []api.Entry{written(l.Cell(0), 1, 1, 2)}
		for _, thread := range anyThreads {
			for _, seq := range anySeqs {
				if thread >= 1 && thread <= l.Threads && seq >= 1 && seq <= api.MaxSeq {
					expectNew(t, l, thread, seq, good, api.OK)
					continue
				}
				for _, list := range append(bad, good) {
					expectNew(t, l, thread, seq, list, api.ErrRange)
				}
			}
		}
	}
	for _, l := range badLayouts {
		for _, thread := range anyThreads {
			for _, seq := range anySeqs {
				for _, list := range append(bad, []api.Entry{written(25, 1, 1, 2)}) {
					expectNew(t, l, thread, seq, list, api.ErrArg)
				}
			}
		}
	}
}

// entryFaults are the ways in which an entry can be invalid, and their errors.
func entryFaults() map[string]fault {
	return map[string]fault{
		"location -1":          {func(e *api.Entry) { e.At = -1 }, api.ErrRange},
		"location 4096":        {func(e *api.Entry) { e.At = 4096 }, api.ErrRange},
		"far location":         {func(e *api.Entry) { e.At += 1 << 32 }, api.ErrRange},
		"held":                 {func(e *api.Entry) { e.Old.Ref = ref(1, 1) }, api.ErrState},
		"malformed":            {func(e *api.Entry) { e.Old.Ref = 1 }, api.ErrState},
		"last version":         {func(e *api.Entry) { e.Old.Ver, e.Write = math.MaxUint32, true }, api.ErrFull},
		"changed, not written": {func(e *api.Entry) { e.New, e.Write = e.Old.Val+1, false }, api.ErrValue},
	}
}

// fault is a change that makes an entry wrong.
type fault struct {
	make func(e *api.Entry)
	err  api.Errno
}

// placeFaults are locations that are not permitted in the layout of.
var placeFaults = []api.Loc{0, 1, 7, 8, 9, 35, 39, 43, 51, 55, 96, 97, 199, 200, 304, 407, 408, 416, 479, 480, 4095}

// P21.1: the errors of entries, each at every place of a list; all entries are asked one condition after the other.
func TestNewEntries(t *testing.T) {
	expectNew(t, of, 2, 5, nil, api.ErrEmpty)
	for _, n := range []int{1, 2, 3, 32} {
		expectNew(t, of, 2, 5, list(of, n, 9), api.OK)
		for i := range n {
			for _, f := range entryFaults() {
				x := list(of, n, 9)
				f.make(&x[i])
				expectNew(t, of, 2, 5, x, f.err)
				for j := range n {
					y := slices.Clone(x) // a fault that is asked for later, wherever it is
					if j != i {
						y[j].At = 0
						expectNew(t, of, 2, 5, y, f.err)
					}
				}
				if n > 2 {
					y := slices.Clone(x)
					j, k := (i+1)%n, (i+2)%n
					y[j], y[k] = y[k], y[j]
					expectNew(t, of, 2, 5, y, f.err)
				}
			}
			for j := range i {
				x := list(of, n, 9)
				x[i].At = x[j].At
				expectNew(t, of, 2, 5, x, api.ErrTwice)
				x = list(of, n, 9)
				x[i].At, x[j].At = x[j].At, x[i].At
				expectNew(t, of, 2, 5, x, api.ErrOrder)
				for k := range n {
					if k != i && k != j {
						x[k].At = placeFaults[k%len(placeFaults)]
						expectNew(t, of, 2, 5, x, orderOf(x))
					}
				}
			}
		}
	}
	many := append(list(of, 33, 9), list(of, 1, 0)...)
	expectNew(t, of, 2, 5, many[:33], api.ErrMany)
	many[0].At, many[5].Old.Ref = -1, 1
	expectNew(t, of, 2, 5, many, api.ErrMany)
	expectNew(t, of, 2, 5, many[33:], api.OK)
}

// orderOf returns the error of a list that is valid, but neither in order nor permitted, unless one location occurs twice.
func orderOf(list []api.Entry) api.Errno {
	seen := map[api.Loc]bool{}
	for _, e := range list {
		if seen[e.At] {
			return api.ErrTwice
		}
		seen[e.At] = true
	}
	return api.ErrOrder
}

// P21.1: every location, permitted or not, alone and among others.
func TestNewPlaces(t *testing.T) {
	for _, l := range []layout.Layout{of, {Threads: 1, Cells: 1}, {Threads: 8, Cells: 9, Blocks: 33}} {
		may := places(l)
		for at := range api.Loc(4096) {
			wanted := api.ErrNone
			if slices.Contains(may, at) {
				wanted = api.OK
			}
			expectNew(t, l, 1, 1, []api.Entry{written(at, 1, 1, 2)}, wanted)
			expectNew(t, l, 1, 1, []api.Entry{unwritten(at, 1, math.MaxUint32)}, wanted)
			expectSimple(t, l, written(at, 1, 1, 2), wanted)
			if at > may[0] {
				expectNew(t, l, 1, 1, []api.Entry{written(may[0], 1, 1, 2), unwritten(at, 1, 1)}, wanted)
			}
		}
	}
	for _, at := range placeFaults {
		x := list(of, 5, 9)
		x[3].At = at
		slices.SortFunc(x, func(a, b api.Entry) int { return int(a.At - b.At) })
		expectNew(t, of, 3, 5, x, api.ErrNone)
	}
}

// P21.1: the errors of Simple, and which comes first.
func TestSimpleErrors(t *testing.T) {
	for _, l := range goodLayouts {
		for _, at := range []api.Loc{l.Record(1), l.Record(l.Threads) + 2, l.Cell(0), l.Cell(l.Cells - 1)} {
			for _, e := range []api.Entry{written(at, 0, 0, 0), written(at, 5, math.MaxUint32-1, 5), written(at, math.MinInt64, 1, math.MaxInt64)} {
				expectSimple(t, l, e, api.OK)
			}
			expectSimple(t, l, unwritten(at, 1, math.MaxUint32), api.ErrKind)
			for _, f := range entryFaults() {
				for _, e := range []api.Entry{written(at, 1, 1, 2), unwritten(at, 1, 1)} {
					f.make(&e)
					expectSimple(t, l, e, f.err)
				}
			}
		}
		for _, at := range []api.Loc{0, 1, 8, l.Record(1) + 3, l.Slot(1), 4095} {
			expectSimple(t, l, written(at, 1, 1, 2), api.ErrNone)
			expectSimple(t, l, unwritten(at, 1, 1), api.ErrKind)
			expectSimple(t, l, written(at, 1, math.MaxUint32, 2), api.ErrFull)
		}
	}
	for _, l := range badLayouts {
		for _, e := range []api.Entry{{}, written(25, 1, 1, 2), written(-1, 1, 1, 2), unwritten(0, 1, 1), written(40, 1, math.MaxUint32, 2)} {
			expectSimple(t, l, e, api.ErrArg)
		}
	}
}

// 'Memory': the entries are unchanged, with their spare capacity, and what becomes of them later has no effect.
func TestEntriesAreKeptApart(t *testing.T) {
	for n := 1; n <= 32; n++ {
		given := list(of, n, 9)
		spare := append(slices.Clone(given), written(0, 7, 7, 7), written(0, 8, 8, 8), written(0, 9, 9, 9))
		before := slices.Clone(spare)
		m := scene(of, given...)
		c := newSwap(t, of, 1, 1, false, spare[:n]...)
		d := newSwap(t, of, 1, 1, false, given...)
		if !slices.Equal(spare, before) {
			t.Fatalf("New has changed its arguments to %+v", spare)
		}
		clear(spare)
		m.run(t, "the entries cleared", of, false, c, swapping(1, 1, given...))
		for _, e := range given {
			want(t, "a word", m[e.At], after(e))
		}
		m = scene(of, given...)
		m.run(t, "again", of, false, d, swapping(1, 1, given...))
	}
}

// world returns a world of codes on a machine with these words.
func world(t *testing.T, words []api.Word, codes ...task.Code) task.World {
	t.Helper()
	m, e := machine.New(max(1, len(codes)), words...)
	if e != api.OK {
		t.Fatal("New:", e)
	}
	w, e := task.Make(m, codes...)
	if e != api.OK {
		t.Fatal("Make:", e)
	}
	return w
}

// alone lets a thread finish alone, and returns what its code answers.
func alone(t *testing.T, w task.World, thread int) (task.World, bool) {
	t.Helper()
	w, ok := w.Alone(thread, 5000)
	if !ok {
		t.Fatalf("thread %d has not finished alone", thread)
	}
	answer, ok := swap.Answer(w.Tasks[thread-1].Code())
	want(t, "there is an answer", ok, true)
	return w, answer
}

// Example 1, and the example of DOC.md.
func TestExample(t *testing.T) {
	l := layout.Layout{Threads: 2, Cells: 2}
	a, b := l.Cell(0), l.Cell(1)
	m := l.First()
	m[a].Val = 5
	entries := []api.Entry{written(a, 5, 0, 4), written(b, 0, 0, 1)}
	w, answer := alone(t, world(t, m, newSwap(t, l, 1, 1, false, entries...)), 1)
	want(t, "the swap succeeds", answer, true)
	x, _ := w.M.Word(a)
	y, _ := w.M.Word(b)
	want(t, "cell 0", x, api.Word{Val: 4, Ver: 1})
	want(t, "cell 1", y, api.Word{Val: 1, Ver: 1})
	w, answer = alone(t, world(t, w.M.Words(), newSwap(t, l, 1, 2, false, entries...)), 1)
	want(t, "the same swap again", answer, false)

	for n := range 80 {
		w := world(t, m, newSwap(t, l, 1, 1, false, entries...), newSwap(t, l, 2, 1, false, entries...))
		for range n {
			w, _ = w.Step(api.Pick{Thread: 1})
		}
		w, second := alone(t, w, 2)
		w, first := alone(t, w, 1)
		want(t, fmt.Sprintf("exactly one succeeds, the second behind act %d", n), first != second, true)
		x, _ := w.M.Word(a)
		y, _ := w.M.Word(b)
		want(t, "cell 0", x, api.Word{Val: 4, Ver: 1})
		want(t, "cell 1", y, api.Word{Val: 1, Ver: 1})
	}
}

// P21.5: a swap that has succeeded and wrote something fails with a larger number; one that only reads succeeds again.
func TestRepeated(t *testing.T) {
	for n := 1; n <= 32; n++ {
		for _, reads := range []bool{false, true} {
			entries := list(of, n, 9)
			for i, e := range entries {
				if reads {
					entries[i] = unwritten(e.At, e.Old.Val, e.Old.Ver)
				}
			}
			m := scene(of, entries...)
			seq := 1
			for range 4 {
				x := m.run(t, "repeated", of, n%2 == 0, newSwap(t, of, 2, seq, n%2 == 0, entries...), swapping(2, seq, entries...))
				want(t, fmt.Sprintf("%d entries, number %d, only reading %v", n, seq, reads), x.answer, seq == 1 || reads)
				seq = 3*seq + 1
			}
		}
	}
	m := scene(of, written(60, 5, 2, 5))
	for i := range 3 {
		x := m.run(t, "Simple repeated", of, false, newSimple(t, of, false, written(60, 5, 2, 5)), simply(written(60, 5, 2, 5)))
		want(t, "Simple succeeds", x.answer, i == 0)
	}
	want(t, "the word", m[60], api.Word{Val: 5, Ver: 3})
}
