package hazard_test

import (
	"math"
	"testing"

	"simulcast/api"
	"simulcast/arena"
	"simulcast/atom"
	"simulcast/era"
	"simulcast/hazard"
	"simulcast/layout"
	"simulcast/task"
)

var (
	layouts = []layout.Layout{
		{Threads: 1, Cells: 1}, {Threads: 2, Cells: 2}, {Threads: 3, Cells: 9, Blocks: 1}, {Threads: 7, Cells: 100, Blocks: 64}, {Threads: 8, Cells: 2048},
	}
	badLayouts = []layout.Layout{
		{}, {Threads: 0, Cells: 1}, {Threads: 9, Cells: 1}, {Threads: -1, Cells: 1}, {Threads: 1, Cells: 0}, {Threads: 1, Cells: 2049}, {Threads: 2, Cells: 1, Blocks: -1},
		{Threads: 2, Cells: 1, Blocks: 65}, {Threads: 8, Cells: 2048, Blocks: 64}, {Threads: math.MaxInt, Cells: math.MaxInt, Blocks: math.MaxInt}, {Threads: 2, Cells: 1, Blocks: math.MinInt},
	}
	noThreads = []int{math.MinInt, math.MinInt + 1, -1 << 32, -8, -1, 0, 9, 10, 64, 1 << 32, 1<<32 + 1, math.MaxInt - 1, math.MaxInt}
	noPlaces  = []api.Loc{math.MinInt, math.MinInt + 1, -1 << 32, -8, -1, api.MaxLocs, api.MaxLocs + 1, 1 << 32, math.MaxInt - 1, math.MaxInt}
)

// hazardAt is the location of a thread's hazard, by the chapter of layout.
func hazardAt(thread int) api.Loc { return api.Loc(8*thread + 1) }

func protect(t *testing.T, l layout.Layout, thread int, at api.Loc) task.Code {
	t.Helper()
	c, e := hazard.Protect(l, thread, at)
	if c == nil || e != api.OK {
		t.Fatalf("Protect(%+v, %d, %d): %v, %d", l, thread, at, c, e)
	}
	return c
}

func clearCode(t *testing.T, l layout.Layout, thread int) task.Code {
	t.Helper()
	c, e := hazard.Clear(l, thread)
	if c == nil || e != api.OK {
		t.Fatalf("Clear(%+v, %d): %v, %d", l, thread, c, e)
	}
	return c
}

func scan(t *testing.T, l layout.Layout) task.Code {
	t.Helper()
	c, e := hazard.Scan(l)
	if c == nil || e != api.OK {
		t.Fatalf("Scan(%+v): %v, %d", l, c, e)
	}
	return c
}

func expectNoProtect(t *testing.T, l layout.Layout, thread int, at api.Loc, wanted api.Errno) {
	t.Helper()
	if c, e := hazard.Protect(l, thread, at); c != nil || e != wanted {
		t.Errorf("Protect(%+v, %d, %d): %v, %d, wanted %d", l, thread, at, c, e, wanted)
	}
}

func expectNoClear(t *testing.T, l layout.Layout, thread int, wanted api.Errno) {
	t.Helper()
	if c, e := hazard.Clear(l, thread); c != nil || e != wanted {
		t.Errorf("Clear(%+v, %d): %v, %d, wanted %d", l, thread, c, e, wanted)
	}
}

// P14.1, P14.2: an invalid layout comes before an invalid thread and an invalid location.
func TestInvalidLayout(t *testing.T) {
	for _, l := range badLayouts {
		for _, thread := range append([]int{1, 2, l.Threads, l.Threads + 1}, noThreads...) {
			expectNoClear(t, l, thread, api.ErrArg)
			for _, at := range append([]api.Loc{0, 1, 100}, noPlaces...) {
				expectNoProtect(t, l, thread, at, api.ErrArg)
			}
		}
		if c, e := hazard.Scan(l); c != nil || e != api.ErrArg {
			t.Errorf("Scan(%+v): %v, %d", l, c, e)
		}
	}
}

// P14.1, P14.2: threads that do not exist, locations just outside, and that everything inside has a code.
func TestRange(t *testing.T) {
	for _, l := range layouts {
		size := api.Loc(l.Size())
		outside := append([]api.Loc{size, size + 1}, noPlaces...)
		for _, thread := range append([]int{l.Threads + 1, l.Threads + 8}, noThreads...) {
			expectNoClear(t, l, thread, api.ErrRange)
			for _, at := range append([]api.Loc{0, size - 1}, outside...) {
				expectNoProtect(t, l, thread, at, api.ErrRange)
			}
		}
		for thread := 1; thread <= l.Threads; thread++ {
			for _, at := range outside {
				expectNoProtect(t, l, thread, at, api.ErrRange)
			}
			for at := range size {
				protect(t, l, thread, at)
			}
			clearCode(t, l, thread)
		}
		scan(t, l)
	}
}

func expectNoWord(t *testing.T, what string, c task.Code) {
	t.Helper()
	if w, ok := hazard.Word(c); w != (api.Word{}) || ok {
		t.Errorf("%s: Word %+v, %v", what, w, ok)
	}
}

func expectNothingHeld(t *testing.T, what string, c task.Code) {
	t.Helper()
	if held, ok := hazard.Held(c); len(held) != 0 || ok {
		t.Errorf("%s: Held %v, %v", what, held, ok)
	}
}

// foreign is a code of another package.
type foreign struct{ finished bool }

func (f foreign) Next(api.Got) (task.Code, api.Act, bool) { return f, api.Act{}, f.finished }

type pointed struct{ finished bool }

func (p *pointed) Next(api.Got) (task.Code, api.Act, bool) { return p, api.Act{}, p.finished }

// wrapper is a code of another package with one of package hazard inside.
type wrapper struct{ task.Code }

// finish gives a code the same result until it has finished.
func finish(t *testing.T, c task.Code, g api.Got) task.Code {
	t.Helper()
	x := task.Start(c)
	for range 40 {
		x = x.Give(g)
	}
	if !x.Done() {
		t.Fatalf("%+v has not finished", c)
	}
	return x.Code()
}

// P14.1, P14.2: Word and Held of a nil code, of fresh codes, of the other kinds of code, and of codes of other packages.
func TestOtherCodes(t *testing.T) {
	l := layout.Layout{Threads: 2, Cells: 1, Blocks: 1}
	same := api.Got{Word: api.Word{Val: 7, Ver: 1}, OK: true}
	protected, cleared, scanned := finish(t, protect(t, l, 1, 0), same), finish(t, clearCode(t, l, 1), same), finish(t, scan(t, l), same)
	if w, ok := hazard.Word(protected); w != same.Word || !ok {
		t.Errorf("Word of a finished Protect: %+v, %v", w, ok)
	}
	if held, ok := hazard.Held(scanned); len(held) != 2 || !ok {
		t.Errorf("Held of a finished Scan: %v, %v", held, ok)
	}
	add, _ := atom.New(atom.Op{Kind: atom.Add})
	take, _ := arena.Take(l, 0)
	enter, _ := era.Enter(l, 1)
	var none *pointed
	others := map[string]task.Code{
		"nil": nil, "foreign": foreign{}, "foreign, finished": foreign{true}, "pointer": &pointed{true}, "nil pointer": none, "nothing inside another": wrapper{},
		"of atom": add, "of arena": take, "of era": enter, "of atom, finished": finish(t, add, same), "of era, finished": finish(t, enter, same), "of arena, finished": finish(t, take, api.Got{OK: true}),
		"Protect, fresh": protect(t, l, 1, 0), "Clear, fresh": clearCode(t, l, 1), "Scan, fresh": scan(t, l), "Clear, finished": cleared,
		"Protect inside another": wrapper{protected}, "Scan inside another": wrapper{scanned}, "pointer to another": &wrapper{protected},
	}
	for what, c := range others {
		expectNoWord(t, what, c)
		expectNothingHeld(t, what, c)
	}
	expectNothingHeld(t, "a finished Protect", protected)
	expectNoWord(t, "a finished Scan", scanned)
}
