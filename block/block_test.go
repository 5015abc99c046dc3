package block_test

import (
	"math"
	"slices"
	"testing"

	"simulcast/api"
	"simulcast/arena"
	"simulcast/atom"
	"simulcast/block"
	"simulcast/help"
	"simulcast/layout"
	"simulcast/machine"
	"simulcast/swap"
	"simulcast/task"
)

// of is the layout of most tests: its records begin at 32, 40 and 48, its cells at 56, its slots at 96, 200 and 304, its
// bitmap at 408, its blocks at 416 and 448.
var of = layout.Layout{Threads: 3, Cells: 40, Blocks: 2}

var (
	goodLayouts = []layout.Layout{of, {Threads: 1, Cells: 1, Blocks: 1}, {Threads: 8, Cells: 1000, Blocks: 33}, {Threads: 8, Cells: 40, Blocks: 64}}
	blockless   = []layout.Layout{{Threads: 3, Cells: 40}, {Threads: 1, Cells: 1}, {Threads: 8, Cells: 2048}}
	badLayouts  = []layout.Layout{
		{}, {Threads: 9, Cells: 8, Blocks: 1}, {Threads: -1, Cells: 8, Blocks: 1}, {Threads: 1, Cells: 0, Blocks: 1}, {Threads: 1, Cells: 2049, Blocks: 1},
		{Threads: 1, Cells: 1, Blocks: -1}, {Threads: 1, Cells: 1, Blocks: 65}, {Threads: 8, Cells: 2048, Blocks: 64}, {Threads: 8, Cells: 2049},
		{Threads: math.MaxInt, Cells: math.MaxInt, Blocks: math.MaxInt},
	}
)

// expectNew checks what New returns for these arguments, durable or not.
func expectNew(t *testing.T, l layout.Layout, list []api.Entry, wanted api.Errno) {
	t.Helper()
	for _, durable := range []bool{false, true} {
		c, e := block.New(l, durable, list...)
		if e != wanted || (c == nil) != (e != api.OK) {
			t.Errorf("New of %+v in %+v: %v, %d, wanted %d", list, l, c, e, wanted)
		}
		expectOutcome(t, "behind New", c, outcome{})
	}
}

// P23.1: layouts, with and without blocks, and invalid ones, with valid lists and others.
func TestNewLayouts(t *testing.T) {
	bad := []struct {
		list []api.Entry
		err  api.Errno
	}{
		{nil, api.ErrEmpty}, {[]api.Entry{{At: -1, Old: api.Word{Ref: 1}, New: 3}}, api.ErrRange}, {[]api.Entry{written(0, 1, 1, 2)}, api.ErrNone},
		{make([]api.Entry, 33), api.ErrMany},
	}
	for _, l := range goodLayouts {
		expectNew(t, l, list(l, 3, 0), api.OK)
		expectNew(t, l, []api.Entry{written(l.Cell(0), 1, 1, 2)}, api.OK)
		for _, x := range bad {
			expectNew(t, l, x.list, x.err)
		}
	}
	for _, l := range blockless {
		expectNew(t, l, list(l, 3, 0), api.ErrFull)
		expectNew(t, l, []api.Entry{written(l.Cell(0), 1, 1, 2)}, api.ErrFull)
		for _, x := range bad {
			expectNew(t, l, x.list, x.err)
		}
	}
	for _, l := range badLayouts {
		expectNew(t, l, []api.Entry{written(25, 1, 1, 2)}, api.ErrArg)
		for _, x := range bad {
			expectNew(t, l, x.list, api.ErrArg)
		}
	}
}

// fault makes arguments of New invalid.
type fault struct {
	what string
	err  api.Errno
	make func(l *layout.Layout, list []api.Entry) []api.Entry
}

// entryFault is a fault of the entry at one place of a list.
func entryFault(what string, err api.Errno, at int, make func(e *api.Entry)) fault {
	return fault{what, err, func(_ *layout.Layout, list []api.Entry) []api.Entry {
		make(&list[at])
		return list
	}}
}

// entryFaults are the ways in which an entry at one place of a list can be invalid.
func entryFaults(at int) []fault {
	return []fault{
		entryFault("location -1", api.ErrRange, at, func(e *api.Entry) { e.At = -1 }),
		entryFault("location 4096", api.ErrRange, at, func(e *api.Entry) { e.At = 4096 }),
		entryFault("far location", api.ErrRange, at, func(e *api.Entry) { e.At += 1 << 32 }),
		entryFault("held", api.ErrState, at, func(e *api.Entry) { e.Old.Ref = ref(1, 1) }),
		entryFault("malformed", api.ErrState, at, func(e *api.Entry) { e.Old.Ref = 1 }),
		entryFault("last version", api.ErrFull, at, func(e *api.Entry) { e.Old.Ver, e.Write = math.MaxUint32, true }),
		entryFault("changed, not written", api.ErrValue, at, func(e *api.Entry) { e.New, e.Write = e.Old.Val+1, false }),
	}
}

// listFaults are those of whole lists of at least nine entries, in the order in which the chapter lists their errors.
func listFaults() []fault {
	return []fault{
		{"twice", api.ErrTwice, func(_ *layout.Layout, list []api.Entry) []api.Entry {
			list[len(list)-1].At = list[1].At
			return list
		}},
		{"many", api.ErrMany, func(l *layout.Layout, x []api.Entry) []api.Entry {
			return append(x, list(*l, 2, 45)...)
		}},
		{"out of order", api.ErrOrder, func(_ *layout.Layout, list []api.Entry) []api.Entry {
			list[6], list[7] = list[7], list[6]
			return list
		}},
		entryFault("not permitted", api.ErrNone, 0, func(e *api.Entry) { e.At = 31 }), // ahead of all that are
		{"no blocks", api.ErrFull, func(l *layout.Layout, list []api.Entry) []api.Entry {
			l.Blocks = 0
			return list
		}},
	}
}

// P23.1: each error alone, an entry's one at every place of a list, and of any two the one that the chapter lists first:
// all entries are asked one condition after the other.
func TestNewErrors(t *testing.T) {
	for _, n := range []int{1, 2, 3, 9, 10, 11, 32} {
		for i := range n {
			for _, f := range entryFaults(i) {
				l := of
				expectNew(t, l, f.make(&l, list(of, n, 9)), f.err)
			}
		}
	}
	for _, n := range []int{9, 10} {
		for i, f := range listFaults() {
			l := of
			expectNew(t, l, f.make(&l, list(of, n, 9)), f.err)
			all := f.make(&l, list(of, n, 9))
			for _, g := range listFaults()[i+1:] {
				l := of
				expectNew(t, l, g.make(&l, f.make(&l, list(of, n, 9))), f.err)
				all = g.make(&l, all)
				expectNew(t, l, all, f.err)
			}
			for at := range n {
				for _, g := range entryFaults(at) {
					l := of
					x := f.make(&l, list(of, n, 9))
					expectNew(t, l, g.make(&l, x), g.err)
				}
			}
		}
	}
}

// P23.1: lists of no to 33 entries: within what a block has room for, within what a swap may have, and beyond both.
func TestNewLists(t *testing.T) {
	expectNew(t, of, nil, api.ErrEmpty)
	expectNew(t, of, []api.Entry{}, api.ErrEmpty)
	for n := 1; n <= 10; n++ {
		expectNew(t, of, list(of, n, 9), api.OK)
	}
	for n := 11; n <= 33; n++ {
		x := list(of, n, 9)
		expectNew(t, of, x, api.ErrMany)
		x[n-1], x[n-2] = x[n-2], x[n-1]
		x[3].At = 0
		expectNew(t, of, x, api.ErrMany)
		x[n-1].Old.Ref = 1
		wanted := api.ErrState
		if n == 33 {
			wanted = api.ErrMany
		}
		expectNew(t, of, x, wanted)
	}
	for n := 2; n <= 10; n++ {
		for i := 1; i < n; i++ {
			x := list(of, n, 9)
			x[i-1], x[i] = x[i], x[i-1]
			expectNew(t, of, x, api.ErrOrder)
			x[n-1].At = 0
			expectNew(t, of, x, api.ErrOrder)
			x = list(of, n, 9)
			x[i].At = x[i-1].At
			expectNew(t, of, x, api.ErrTwice)
		}
		x := list(of, n, 9)
		slices.Reverse(x)
		expectNew(t, of, x, api.ErrOrder)
	}
}

// P23.1: every location, permitted or not, alone and among others.
func TestNewPlaces(t *testing.T) {
	for _, l := range []layout.Layout{of, {Threads: 1, Cells: 1, Blocks: 1}, {Threads: 8, Cells: 9, Blocks: 33}} {
		may := places(l)
		for at := range api.Loc(4096) {
			wanted := api.ErrNone
			if slices.Contains(may, at) {
				wanted = api.OK
			}
			expectNew(t, l, []api.Entry{written(at, 1, 1, 2)}, wanted)
			expectNew(t, l, []api.Entry{unwritten(at, 1, math.MaxUint32)}, wanted)
			if at > may[0] {
				expectNew(t, l, []api.Entry{written(may[0], 1, 1, 2), unwritten(at, 1, 1)}, wanted)
			}
		}
	}
	for _, at := range []api.Loc{0, 1, 7, 8, 9, 35, 39, 43, 51, 55, 96, 97, 199, 200, 304, 407, 408, 416, 479, 480, 4095} {
		x := list(of, 5, 9)
		x[3].At = at
		slices.SortFunc(x, func(a, b api.Entry) int { return int(a.At - b.At) })
		expectNew(t, of, x, api.ErrNone)
	}
}

// 'Memory': the entries are unchanged, with their spare capacity, and what becomes of them later has no effect.
func TestEntriesAreKeptApart(t *testing.T) {
	for n := 1; n <= 10; n++ {
		given := list(of, n, 9)
		spare := append(slices.Clone(given), written(0, 7, 7, 7), written(0, 8, 8, 8), written(0, 9, 9, 9))
		before := slices.Clone(spare)
		c := newSwap(t, of, n%2 == 0, spare[:n]...)
		if !slices.Equal(spare, before) {
			t.Fatalf("New has changed its arguments to %+v", spare)
		}
		clear(spare)
		w, o := alone(t, world(t, scene(of, given...), c), 1)
		want(t, "the entries cleared", o, outcome{true, api.OK, true, 0})
		for _, e := range given {
			x, _ := w.M.Word(e.At)
			want(t, "a word", x, after(e))
		}
	}
}

// world returns a world of codes on a machine with these words.
func world(t *testing.T, words []api.Word, codes ...task.Code) task.World {
	t.Helper()
	m, e := machine.New(max(1, len(codes)), words...)
	if e != api.OK {
		t.Fatal("New:", e)
	}
	w, e := task.Make(m, codes...)
	if e != api.OK {
		t.Fatal("Make:", e)
	}
	return w
}

// alone lets a thread finish alone, and returns what is told of its code.
func alone(t *testing.T, w task.World, thread int) (task.World, outcome) {
	t.Helper()
	w, ok := w.Alone(thread, 5000)
	if !ok {
		t.Fatalf("thread %d has not finished alone", thread)
	}
	return w, outcomeOf(w.Tasks[thread-1].Code())
}

// Example 1.
func TestExample(t *testing.T) {
	l := layout.Layout{Threads: 1, Cells: 2, Blocks: 2}
	a, b := l.Cell(0), l.Cell(1)
	m := l.First()
	m[a].Val = 5
	entries := []api.Entry{written(a, 5, 0, 4), written(b, 0, 0, 1)}
	for _, durable := range []bool{false, true} {
		w, o := alone(t, world(t, m, newSwap(t, l, durable, entries...)), 1)
		want(t, "the swap is done", o, outcome{true, api.OK, true, 0})
		words := w.M.Words()
		want(t, "cell 0", words[a], api.Word{Val: 4, Ver: 1})
		want(t, "cell 1", words[b], api.Word{Val: 1, Ver: 1})
		want(t, "the first word of block 0", words[l.Block(0)], api.Word{Val: done, Ver: 1})
		want(t, "the first word of block 1", words[l.Block(1)], api.Word{Val: failed})
		want(t, "allocated blocks", len(arena.Used(l, words)), 0)
		w, o = alone(t, world(t, words, newSwap(t, l, durable, entries...)), 1)
		want(t, "the same swap again", o, outcome{false, api.OK, true, 0})
		words = w.M.Words()
		want(t, "the first word of block 0", words[l.Block(0)], api.Word{Val: failed, Ver: 2})
		want(t, "allocated blocks", len(arena.Used(l, words)), 0)
	}
}

// other is a code of no layer.
type other struct{ done bool }

func (o *other) Next(api.Got) (task.Code, api.Act, bool) { return o, api.Act{}, true }

// wrapper is a code of no layer with another one inside.
type wrapper struct{ task.Code }

// P23.1: Answer and Who of no code, and of codes of other packages, finished or not.
func TestOtherCodes(t *testing.T) {
	none := outcome{}
	expectOutcome(t, "no code", nil, none)
	expectOutcome(t, "a code of nobody", &other{true}, none)
	expectOutcome(t, "a code of nobody, nil", (*other)(nil), none)
	expectOutcome(t, "the code of the zero task", task.Task{}.Code(), none)
	add, _ := atom.New(atom.Op{Kind: atom.Add, N: 1})
	take, _ := arena.Take(of, 0)
	give, _ := arena.Give(of, 0)
	one, _ := help.New(of, ref(9, 1), true)
	slot, _ := swap.New(of, 1, 1, false, list(of, 1, 9)...)
	single, _ := swap.Simple(of, false, list(of, 1, 9)[0])
	for _, c := range []task.Code{add, take, give, one, slot, single} {
		w := world(t, scene(of, list(of, 1, 9)...), c)
		for !w.Done() {
			expectOutcome(t, "a code of another layer", w.Tasks[0].Code(), none)
			w, _ = w.Step(api.Pick{Thread: 1})
		}
		expectOutcome(t, "a code of another layer, finished", w.Tasks[0].Code(), none)
	}
	w := world(t, scene(of, list(of, 1, 9)...), newSwap(t, of, false, list(of, 1, 9)...))
	for !w.Done() {
		expectOutcome(t, "inside another", wrapper{w.Tasks[0].Code()}, none)
		w, _ = w.Step(api.Pick{Thread: 1})
	}
	expectOutcome(t, "finished", w.Tasks[0].Code(), outcome{true, api.OK, true, 0})
	expectOutcome(t, "finished, inside another", wrapper{w.Tasks[0].Code()}, none)
	expectOutcome(t, "nothing inside another", wrapper{}, none)
}
