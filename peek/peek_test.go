package peek_test

import (
	"math"
	"slices"
	"testing"

	"simulcast/api"
	"simulcast/layout"
	"simulcast/machine"
	"simulcast/peek"
	"simulcast/task"
)

// of is the layout of most tests: its records begin at 32, 40 and 48, its cells at 56, its slots at 96, 200 and 304, its
// blocks at 416 and 448.
var of = layout.Layout{Threads: 3, Cells: 40, Blocks: 2}

// wide has more permitted addresses than a code may have.
var wide = layout.Layout{Threads: 2, Cells: 300}

// expectNew checks what New and Together return for these addresses, durable or not.
func expectNew(t *testing.T, l layout.Layout, at []api.Loc, wanted api.Errno) {
	t.Helper()
	for _, make := range []func(layout.Layout, bool, ...api.Loc) (task.Code, api.Errno){peek.New, peek.Together} {
		for _, durable := range []bool{false, true} {
			c, e := make(l, durable, at...)
			if e != wanted || (c == nil) != (e != api.OK) {
				t.Errorf("%v in %+v: %v, %d, wanted %d", at, l, c, e, wanted)
			}
			expectState(t, "behind New", c, nil, false, 0)
		}
	}
}

// P22.1: invalid layouts, and how many addresses there are. That comes ahead of what is wrong with them.
func TestArguments(t *testing.T) {
	all := places(wide)
	for _, l := range []layout.Layout{
		{}, {Threads: 9, Cells: 8}, {Threads: -1, Cells: 8}, {Threads: 1, Cells: 0}, {Threads: 1, Cells: 2049}, {Threads: 1, Cells: 1, Blocks: -1},
		{Threads: 1, Cells: 1, Blocks: 65}, {Threads: 8, Cells: 2048, Blocks: 64}, {Threads: math.MaxInt, Cells: math.MaxInt, Blocks: math.MaxInt},
	} {
		for _, at := range [][]api.Loc{nil, {0}, {40}, {40, 40}, all[:256], all[:257], make([]api.Loc, 300)} {
			expectNew(t, l, at, api.ErrArg)
		}
	}
	expectNew(t, wide, nil, api.ErrEmpty)
	expectNew(t, wide, []api.Loc{}, api.ErrEmpty)
	for n := 1; n <= 256; n++ {
		expectNew(t, wide, all[:n], api.OK)
	}
	for n := 257; n <= len(all); n++ {
		expectNew(t, wide, all[:n], api.ErrMany)
	}
	expectNew(t, wide, make([]api.Loc, 257), api.ErrMany)
	expectNew(t, wide, make([]api.Loc, 256), api.ErrNone)
	expectNew(t, wide, slices.Repeat([]api.Loc{40}, 257), api.ErrMany)
	expectNew(t, wide, slices.Repeat([]api.Loc{40}, 256), api.ErrTwice)
	expectNew(t, wide, slices.Repeat([]api.Loc{-1}, 1000), api.ErrMany)
}

// P22.1: every address, permitted or not, alone and behind others.
func TestPlaces(t *testing.T) {
	for _, l := range []layout.Layout{of, {Threads: 1, Cells: 1}, {Threads: 8, Cells: 9, Blocks: 33}} {
		may := places(l)
		for at := range api.Loc(4096) {
			wanted := api.ErrNone
			if slices.Contains(may, at) {
				wanted = api.OK
			}
			expectNew(t, l, []api.Loc{at}, wanted)
			if at != may[1] {
				expectNew(t, l, []api.Loc{may[1], at}, wanted)
				expectNew(t, l, []api.Loc{at, may[1]}, wanted)
			}
		}
		for _, at := range []api.Loc{math.MinInt, -1, 4096, may[0] + 1<<32, math.MaxInt} {
			expectNew(t, l, []api.Loc{may[0], at}, api.ErrNone)
		}
	}
}

// P22.1: of several faults, the first address with one decides.
func TestFirstFault(t *testing.T) {
	for _, n := range []int{3, 7, 30} {
		for i := range n {
			at := slices.Clone(places(wide)[:n])
			slices.Reverse(at[1:]) // they need no order
			expectNew(t, wide, at, api.OK)
			at[i] = 0
			expectNew(t, wide, at, api.ErrNone)
			for j := range n {
				x := slices.Clone(at)
				if j == i {
					continue
				}
				if x[j] = at[(j+1)%n]; x[j] == 0 {
					x[j] = at[(j+2)%n]
				}
				wanted := api.ErrNone
				if second(x) < i {
					wanted = api.ErrTwice
				}
				expectNew(t, wide, x, wanted)
			}
		}
		at := slices.Clone(places(wide)[:n])
		at[n-1] = at[0]
		expectNew(t, wide, at, api.ErrTwice)
	}
	expectNew(t, wide, []api.Loc{0, 0}, api.ErrNone)
	expectNew(t, wide, []api.Loc{40, 40, 0}, api.ErrTwice)
	expectNew(t, wide, []api.Loc{40, 0, 40}, api.ErrNone)
}

// second returns the first index of an address that has occurred before.
func second(at []api.Loc) int {
	for i, a := range at {
		if slices.Contains(at[:i], a) {
			return i
		}
	}
	return len(at)
}

// 'Memory': the addresses are unchanged, with their spare capacity, and what becomes of them later has no effect; nor has
// what becomes of the words that Words returns.
func TestArgumentsAreKeptApart(t *testing.T) {
	for n := 1; n <= 40; n++ {
		for _, together := range []bool{false, true} {
			given := places(of)[:n]
			spare := append(slices.Clone(given), 7, 8, 9)
			before := slices.Clone(spare)
			c := newCode(t, of, true, together, spare[:n]...)
			if !slices.Equal(spare, before) {
				t.Fatalf("the arguments have changed to %v", spare)
			}
			clear(spare)
			m := scene(of)
			var wanted []api.Word
			for i, at := range given {
				m[at] = api.Word{Val: int64(i), Ver: 3}
				wanted = append(wanted, m[at])
			}
			w := world(t, m, c)
			w, ok := w.Alone(1, 1000)
			want(t, "done", ok, true)
			end := w.Tasks[0].Code()
			words, _ := peek.Words(end)
			again, _ := peek.Words(end)
			clear(words)
			words = append(words[:0], api.Word{Val: 99})
			if !slices.Equal(again, wanted) {
				t.Fatalf("the words are %v, wanted %v", again, wanted)
			}
			expectState(t, "the words once more", end, wanted, true, map[bool]int{false: 1, true: 2}[together])
		}
	}
}

// world returns a world of codes on a machine with these words.
func world(t *testing.T, words []api.Word, codes ...task.Code) task.World {
	t.Helper()
	m, e := machine.New(max(1, len(codes)), words...)
	if e != api.OK {
		t.Fatal("New:", e)
	}
	w, e := task.Make(m, codes...)
	if e != api.OK {
		t.Fatal("Make:", e)
	}
	return w
}

// Example 1.
func TestExample(t *testing.T) {
	l := layout.Layout{Threads: 2, Cells: 8}
	a, b, slot := l.Cell(0), l.Cell(1), l.Slot(2)
	o := op(2, 1, open, written(b, 7, 0, 8))
	m := scene(l, o.Entries...)
	m[a].Val = 5
	m.put(t, l, o, 1)
	held, r := api.Word{Val: 7, Ref: refOf(o)}, slices.Clone(m)
	acts := []api.Act{
		{Op: api.Look, At: a}, {Op: api.Look, At: b},
		{Op: api.Look, At: slot}, {Op: api.Load, At: slot + 1}, {Op: api.Load, At: slot + 2}, {Op: api.Load, At: slot + 3}, {Op: api.Load, At: slot + 4}, {Op: api.Look, At: slot},
		{Op: api.Swap, At: b, Old: api.Word{Val: 7}, New: held}, {Op: api.Swap, At: slot, Old: api.Word{Val: open, Ver: 1}, New: api.Word{Val: done, Ver: 1}},
		{Op: api.Look, At: slot}, {Op: api.Look, At: b}, {Op: api.Swap, At: b, Old: held, New: api.Word{Val: 8, Ver: 1}},
		{Op: api.Look, At: b},
	}
	x := m.run(t, "the example", l, false, false, a, b)
	want(t, "14 acts", len(x.acts), 14)
	if !slices.Equal(x.acts, acts) {
		t.Errorf("the acts are %+v", x.acts)
	}
	if !slices.Equal(x.words, []api.Word{{Val: 5}, {Val: 8, Ver: 1}}) {
		t.Errorf("the words are %v", x.words)
	}

	w := world(t, r, nil, newCode(t, l, false, false, a, b))
	w, ok := w.Alone(2, 14)
	want(t, "done within 14 steps", ok, true)
	want(t, "steps", w.Tasks[1].Steps(), 14)
	expectState(t, "on a machine", w.Tasks[1].Code(), []api.Word{{Val: 5}, {Val: 8, Ver: 1}}, true, 1)
}
