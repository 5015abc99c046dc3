package machine_test

import (
	"math"
	"slices"
	"testing"

	"simulcast/api"
	"simulcast/history"
	"simulcast/line"
	"simulcast/machine"
	"simulcast/memory"
	"simulcast/view"
)

func val(v int64) api.Word { return api.Word{Val: v} }

// fresh returns a machine with locations whose initial values are 0.
func fresh(t *testing.T, threads, places int) machine.Machine {
	t.Helper()
	m, e := machine.New(threads, make([]api.Word, places)...)
	if e != api.OK {
		t.Fatal("New:", e)
	}
	return m
}

func do(t *testing.T, m machine.Machine, thread int, a api.Act, choice int) (machine.Machine, api.Got) {
	t.Helper()
	n, got, e := m.Do(thread, a, choice)
	if e != api.OK {
		t.Fatalf("%+v by %d: %d", a, thread, e)
	}
	return n, got
}

// after runs actions of one thread, with choice 0.
func after(t *testing.T, m machine.Machine, thread int, acts ...api.Act) machine.Machine {
	t.Helper()
	for _, a := range acts {
		m, _ = do(t, m, thread, a, 0)
	}
	return m
}

func store(at api.Loc, v int64) api.Act   { return api.Act{Op: api.Store, At: at, New: val(v)} }
func release(at api.Loc, v int64) api.Act { return api.Act{Op: api.Release, At: at, New: val(v)} }
func swap(at api.Loc, old, new int64) api.Act {
	return api.Act{Op: api.Swap, At: at, Old: val(old), New: val(new)}
}
func act(op int, at api.Loc) api.Act { return api.Act{Op: op, At: at} }

func sameHistories(a, b history.History) bool {
	if a.Len() != b.Len() {
		return false
	}
	for i := range a.Len() {
		x, _ := a.At(i)
		y, _ := b.At(i)
		if x.Word != y.Word || x.Thread != y.Thread || !view.Same(x.View, y.View) {
			return false
		}
	}
	return true
}

// sameMemory reports whether two memories have the same threads, views, locations and messages.
func sameMemory(a, b memory.Memory) bool {
	threads, places := a.Size()
	if n, k := b.Size(); n != threads || k != places {
		return false
	}
	for i := range threads {
		if !view.Same(a.Seen(i+1), b.Seen(i+1)) {
			return false
		}
	}
	for i := range places {
		x, _ := a.History(api.Loc(i))
		y, _ := b.History(api.Loc(i))
		if !sameHistories(x, y) {
			return false
		}
	}
	return true
}

// sameLines reports whether two lines show the same, and would after a Sync by any thread.
func sameLines(a, b line.Lines, places int) bool {
	for choice := -3; choice < 8; choice++ {
		if !slices.Equal(a.Crash(choice), b.Crash(choice)) {
			return false
		}
	}
	for thread := range 9 {
		x, _ := a.Sync(thread)
		y, _ := b.Sync(thread)
		for i := range places/8 + 1 {
			k, n := x.Kept(i)
			if kept, length := y.Kept(i); k != kept || n != length {
				return false
			}
		}
	}
	return slices.Equal(a.Least(), b.Least())
}

// same reports whether two machines show the same.
func same(a, b machine.Machine) bool {
	_, places := a.Size()
	for thread := range 9 {
		if a.Steps(thread) != b.Steps(thread) {
			return false
		}
	}
	return a.Crashes() == b.Crashes() && sameMemory(a.Memory(), b.Memory()) && sameLines(a.Lines(), b.Lines(), places)
}

func expectVals(t *testing.T, what string, words []api.Word, wanted ...int64) {
	t.Helper()
	var list []api.Word
	for _, v := range wanted {
		list = append(list, val(v))
	}
	if !slices.Equal(words, list) {
		t.Errorf("%s: %v, wanted %v", what, words, wanted)
	}
}

// P6.1, P6.3: the parts of a new machine.
func TestNew(t *testing.T) {
	words := []api.Word{{Val: 3, Ver: 4, Ref: 5}, {Val: math.MinInt64, Ver: math.MaxUint32, Ref: math.MaxUint32}, {}}
	given := slices.Clone(words)
	m, e := machine.New(3, given...)
	if threads, places := m.Size(); e != api.OK || threads != 3 || places != 3 {
		t.Fatalf("New: %d threads, %d locations, error %d", threads, places, e)
	}
	given[0] = val(99)
	wanted, _ := memory.New(3, words...)
	if !sameMemory(m.Memory(), wanted) {
		t.Error("another memory than memory.New's")
	}
	l, _ := line.New(words...)
	if !sameLines(m.Lines(), l, 3) {
		t.Error("other lines than line.New's")
	}
	if !slices.Equal(m.Words(), words) || !slices.Equal(m.Least(), words) {
		t.Errorf("Words %v, Least %v", m.Words(), m.Least())
	}
	for thread := range 5 {
		if m.Steps(thread) != 0 {
			t.Errorf("Steps(%d) = %d", thread, m.Steps(thread))
		}
	}
	if m.Crashes() != 0 {
		t.Errorf("Crashes() = %d", m.Crashes())
	}
}

// P6.1: the errors of New are those of memory.New, which come first.
func TestNewErrors(t *testing.T) {
	for _, x := range []struct {
		threads, places int
		e               api.Errno
	}{
		{math.MinInt, 1, api.ErrRange}, {-1, 1, api.ErrRange}, {0, 1, api.ErrRange}, {0, 0, api.ErrRange},
		{9, 1, api.ErrRange}, {9, 4097, api.ErrRange}, {math.MaxInt, 0, api.ErrRange},
		{1, 0, api.ErrEmpty}, {8, 0, api.ErrEmpty},
		{1, 4097, api.ErrMany}, {8, 5000, api.ErrMany},
		{1, 1, api.OK}, {8, 4096, api.OK},
	} {
		m, e := machine.New(x.threads, make([]api.Word, x.places)...)
		if e != x.e {
			t.Errorf("New of %d threads and %d words: %d, wanted %d", x.threads, x.places, e, x.e)
		}
		if threads, places := m.Size(); e == api.OK && (threads != x.threads || places != x.places) {
			t.Errorf("%d threads and %d locations, wanted %d and %d", threads, places, x.threads, x.places)
		}
		if e != api.OK && !same(m, machine.Machine{}) {
			t.Errorf("error %d: not the zero Machine", e)
		}
	}
}

// P6.2: the errors of Do in their order; the machine is unchanged and the result is zero.
func TestDoErrors(t *testing.T) {
	m := after(t, fresh(t, 2, 3), 1, store(0, 4), act(api.Flush, 0), release(1, 5))
	fails := func(m machine.Machine, thread int, a api.Act, wanted api.Errno) {
		t.Helper()
		n, got, e := m.Do(thread, a, 0)
		if e != wanted || got != (api.Got{}) || !same(m, n) {
			t.Errorf("%+v by %d: %+v, error %d, wanted %d", a, thread, got, e, wanted)
		}
	}
	ops := []int{math.MinInt, -1, 0, 1, 2, 3, 4, 5, 6, 7, 8, 9, math.MaxInt}
	places := []api.Loc{math.MinInt, -1, 3, 8, 4096, math.MaxInt}
	for _, op := range ops {
		for _, thread := range []int{math.MinInt, -1, 0, 3, 8, 9, math.MaxInt} {
			fails(m, thread, act(op, 0), api.ErrRange)
			fails(m, thread, act(op, 3), api.ErrRange)
		}
		fails(machine.Machine{}, 0, act(op, 0), api.ErrRange)
		fails(machine.Machine{}, 1, act(op, 0), api.ErrRange)
		for _, at := range append(places, 0) {
			if op < 0 || op > 8 {
				fails(m, 1, act(op, at), api.ErrKind)
			}
		}
	}
	for op := api.Load; op <= api.Flush; op++ {
		for _, at := range places {
			fails(m, 2, act(op, at), api.ErrArg)
		}
	}
}

// P6.2: Rest and Sync have no location, so any will do.
func TestRestAndSyncIgnoreTheLocation(t *testing.T) {
	start := after(t, fresh(t, 2, 2), 1, store(0, 4), act(api.Flush, 0))
	for _, at := range []api.Loc{math.MinInt, -1, 0, 2, 4096, math.MaxInt} {
		a := api.Act{At: at, Old: val(1), New: val(2)}
		a.Op = api.Rest
		m, got := do(t, start, 1, a, 3)
		if got != (api.Got{OK: true}) || m.Steps(1) != 3 || m.Steps(2) != 0 {
			t.Errorf("Rest: %+v, %d steps", got, m.Steps(1))
		}
		if !sameMemory(m.Memory(), start.Memory()) || !sameLines(m.Lines(), start.Lines(), 2) {
			t.Error("Rest has an effect")
		}
		a.Op = api.Sync
		m, got = do(t, start, 1, a, 3)
		wanted, _ := start.Lines().Sync(1)
		if got != (api.Got{OK: true}) || m.Steps(1) != 3 {
			t.Errorf("Sync: %+v, %d steps", got, m.Steps(1))
		}
		if !sameMemory(m.Memory(), start.Memory()) || !sameLines(m.Lines(), wanted, 2) {
			t.Error("Sync has another effect")
		}
		expectVals(t, "Sync", m.Least(), 4, 0)
	}
}

// P6.2: what a swap tells and whether it reaches the log, when it compares all three fields.
func TestSwap(t *testing.T) {
	word := api.Word{Val: 5, Ver: 6, Ref: 7}
	m, _ := machine.New(2, word)
	next := api.Word{Val: 8, Ver: 9, Ref: 1}
	for _, old := range []api.Word{{Val: 4, Ver: 6, Ref: 7}, {Val: 5, Ver: 5, Ref: 7}, {Val: 5, Ver: 6, Ref: 8}, {}} {
		n, got := do(t, m, 1, api.Act{Op: api.Swap, Old: old, New: next}, 0)
		if got != (api.Got{Word: word}) || n.Steps(1) != 1 {
			t.Errorf("Swap of %v: %+v", old, got)
		}
		if _, length := n.Lines().Kept(0); length != 0 || n.Words()[0] != word || n.Crash(-2).Words()[0] != word {
			t.Errorf("Swap of %v wrote %v", old, n.Words()[0])
		}
	}
	n, got := do(t, m, 1, api.Act{Op: api.Swap, Old: word, New: next}, 0)
	if got != (api.Got{Word: word, OK: true}) {
		t.Errorf("Swap: %+v", got)
	}
	if _, length := n.Lines().Kept(0); length != 1 || n.Words()[0] != next || n.Crash(-2).Words()[0] != next {
		t.Errorf("Swap wrote %v", n.Words()[0])
	}
	n, got = do(t, n, 2, api.Act{Op: api.Swap, Old: next, New: next}, 0)
	if _, length := n.Lines().Kept(0); length != 2 || got != (api.Got{Word: next, OK: true}) {
		t.Errorf("Swap for the same word: %+v, a log of %d", got, length)
	}
}

// P6.2: Acquire and Release synchronize; Load and Store do not.
func TestReleaseAndAcquire(t *testing.T) {
	for _, x := range []struct {
		write api.Act
		read  int
		fresh bool
	}{
		{store(1, 1), api.Load, false}, {store(1, 1), api.Acquire, false}, {release(1, 1), api.Load, false},
		{release(1, 1), api.Acquire, true}, {release(1, 1), api.Look, true}, {store(1, 1), api.Look, false},
		{swap(1, 0, 1), api.Acquire, true},
	} {
		m := after(t, fresh(t, 2, 2), 1, store(0, 7), x.write)
		m, got := do(t, m, 2, act(x.read, 1), 0)
		if got != (api.Got{Word: val(1), OK: true}) {
			t.Errorf("%+v is read as %+v", x.write, got)
		}
		_, got = do(t, m, 2, act(api.Load, 0), 1)
		wanted := map[bool]int64{true: 7}[x.fresh]
		if got != (api.Got{Word: val(wanted), OK: true}) {
			t.Errorf("%+v, read by %d: the other location is %+v", x.write, x.read, got)
		}
	}
}

// P6.2: the choice is the load's; a Look always reads the last message.
func TestChoice(t *testing.T) {
	m := after(t, fresh(t, 2, 1), 1, store(0, 1), store(0, 2))
	for _, op := range []int{api.Load, api.Acquire} {
		for choice, wanted := range map[int]int64{math.MinInt: 2, -1: 2, 0: 2, 1: 1, 2: 0, 3: 2, math.MaxInt: 2 - math.MaxInt%3} {
			if _, got := do(t, m, 2, act(op, 0), choice); got.Word.Val != wanted || !got.OK {
				t.Errorf("op %d, choice %d reads %+v, wanted %d", op, choice, got, wanted)
			}
		}
	}
	for _, choice := range []int{-2, 0, 1, 2, math.MaxInt} {
		if _, got := do(t, m, 2, act(api.Look, 0), choice); got != (api.Got{Word: val(2), OK: true}) {
			t.Errorf("Look with choice %d reads %+v", choice, got)
		}
		if _, got := do(t, m, 2, swap(0, 2, 9), choice); got != (api.Got{Word: val(2), OK: true}) {
			t.Errorf("Swap with choice %d reads %+v", choice, got)
		}
	}
}

// P6.2: each thread has a counter of its own, which every action increments, failed swaps too.
func TestSteps(t *testing.T) {
	m := fresh(t, 3, 1)
	for op := api.Rest; op <= api.Sync; op++ {
		m, _ = do(t, m, 2, api.Act{Op: op, Old: val(77)}, 0)
		m, _ = do(t, m, 3, act(api.Rest, 0), 0)
		if m.Steps(1) != 0 || m.Steps(2) != op+1 || m.Steps(3) != op+1 {
			t.Fatalf("after op %d: %d, %d, %d steps", op, m.Steps(1), m.Steps(2), m.Steps(3))
		}
	}
	for _, thread := range []int{math.MinInt, -1, 0, 4, 8, math.MaxInt} {
		if m.Steps(thread) != 0 {
			t.Errorf("Steps(%d) = %d", thread, m.Steps(thread))
		}
	}
}

// P6.2
func TestChanges(t *testing.T) {
	for _, op := range []int{math.MinInt, -1, 0, 1, 2, 3, 4, 5, 6, 7, 8, 9, math.MaxInt} {
		wanted := op == 3 || op == 4 || op == 6
		for _, a := range []api.Act{{Op: op}, {Op: op, At: -1, Old: val(1), New: val(1)}} {
			if machine.Changes(a) != wanted {
				t.Errorf("Changes(%+v) is %v", a, !wanted)
			}
		}
	}
}

// P6.3: the last messages, also where a thread may still read older ones, and new memory each time.
func TestWords(t *testing.T) {
	m := after(t, fresh(t, 2, 3), 1, store(0, 1), store(0, 2), release(2, 3))
	expectVals(t, "Words", m.Words(), 2, 0, 3)
	expectVals(t, "Least", m.Least(), 0, 0, 0)
	for at, wanted := range []int64{2, 0, 3} {
		if w, ok := m.Word(api.Loc(at)); !ok || w != val(wanted) {
			t.Errorf("Word(%d) = %v, %v", at, w, ok)
		}
	}
	for _, at := range []api.Loc{math.MinInt, -1, 3, 4096, math.MaxInt} {
		if w, ok := m.Word(at); ok || w != (api.Word{}) {
			t.Errorf("Word(%d) = %v, %v", at, w, ok)
		}
	}
	m.Words()[0] = val(9)
	m.Least()[0] = val(9)
	expectVals(t, "Words after a change of a result", m.Words(), 2, 0, 3)
	expectVals(t, "Least after a change of a result", m.Least(), 0, 0, 0)
}

// P6.4: a crash leaves initial messages, zero views, no requests and empty logs.
func TestCrash(t *testing.T) {
	m := after(t, fresh(t, 2, 10), 1, store(0, 1), release(9, 2), act(api.Flush, 0), store(1, 3), store(0, 4))
	m = after(t, m, 2, act(api.Look, 9), act(api.Sync, 0), act(api.Flush, 9), act(api.Sync, 0), act(api.Flush, 0))
	m = after(t, m, 1, swap(1, 3, 5))
	for _, choice := range []int{math.MinInt, -3, -2, -1, 0, 1, 2, 3, 4, 5, 63, math.MaxInt} {
		c := m.Crash(choice)
		words := m.Lines().Crash(choice)
		wanted, _ := machine.New(2, words...)
		if !slices.Equal(c.Words(), words) || !slices.Equal(c.Least(), words) {
			t.Errorf("Crash(%d) leaves %v, wanted %v", choice, c.Words(), words)
		}
		if !sameMemory(c.Memory(), wanted.Memory()) || !sameLines(c.Lines(), wanted.Lines(), 10) {
			t.Errorf("Crash(%d) leaves more than the words", choice)
		}
		if c.Crashes() != 1 || c.Steps(1) != 6 || c.Steps(2) != 5 {
			t.Errorf("Crash(%d): %d crashes, %d and %d steps", choice, c.Crashes(), c.Steps(1), c.Steps(2))
		}
		if threads, places := c.Size(); threads != 2 || places != 10 {
			t.Errorf("Crash(%d): %d threads, %d locations", choice, threads, places)
		}
	}
	expectVals(t, "none", m.Crash(-1).Words(), 0, 0, 0, 0, 0, 0, 0, 0, 0, 2)
	expectVals(t, "all", m.Crash(-2).Words(), 4, 5, 0, 0, 0, 0, 0, 0, 0, 2)
}

// P6.4: a flush before a crash is gone: a Sync after it keeps nothing.
func TestCrashDropsRequests(t *testing.T) {
	m := after(t, fresh(t, 1, 8), 1, store(0, 1), store(0, 2), act(api.Flush, 0)).Crash(-2)
	m = after(t, m, 1, store(0, 3), act(api.Sync, 0))
	if kept, length := m.Lines().Kept(0); kept != 0 || length != 1 {
		t.Errorf("%d of %d stores kept", kept, length)
	}
	expectVals(t, "second crash", m.Crash(-1).Words(), 2, 0, 0, 0, 0, 0, 0, 0)
}

// P6.4: the counters go on after crashes.
func TestCountersAfterCrashes(t *testing.T) {
	m := after(t, fresh(t, 2, 1), 1, store(0, 1), act(api.Rest, 0))
	for i := range 5 {
		m = m.Crash(i - 2)
		if m.Crashes() != i+1 || m.Steps(1) != 2+i || m.Steps(2) != i {
			t.Errorf("crash %d: %d crashes, %d and %d steps", i+1, m.Crashes(), m.Steps(1), m.Steps(2))
		}
		m = after(t, after(t, m, 1, store(0, 2)), 2, act(api.Load, 0))
		if m.Crashes() != i+1 {
			t.Errorf("an action leaves %d crashes", m.Crashes())
		}
	}
}

// P6.4: the zero Machine, and what else it answers.
func TestZeroMachine(t *testing.T) {
	var zero machine.Machine
	for _, choice := range []int{math.MinInt, -2, -1, 0, 1, math.MaxInt} {
		c := zero.Crash(choice)
		if threads, places := c.Size(); threads != 0 || places != 0 || c.Crashes() != 0 || !same(c, zero) {
			t.Errorf("Crash(%d) changes the zero Machine", choice)
		}
	}
	if len(zero.Words()) != 0 || len(zero.Least()) != 0 || zero.Steps(1) != 0 || zero.Crashes() != 0 {
		t.Error("the zero Machine has something")
	}
	if w, ok := zero.Word(0); ok || w != (api.Word{}) {
		t.Errorf("Word(0) = %v, %v", w, ok)
	}
	if !sameMemory(zero.Memory(), memory.Memory{}) || !sameLines(zero.Lines(), line.Lines{}, 0) {
		t.Error("the zero Machine has a memory or lines")
	}
}

// P6.5: what was stored, flushed and fenced survives every crash, unless a later store on the same line replaces it.
func TestFencedWordSurvives(t *testing.T) {
	for _, write := range []api.Act{store(3, 5), release(3, 5), swap(3, 0, 5)} {
		m := after(t, fresh(t, 2, 16), 1, write, act(api.Flush, 7))
		m = after(t, m, 2, store(4, 1), store(3, 6), store(9, 2), act(api.Sync, 0))
		expectVals(t, "another thread's Sync", m.Least(), make([]int64, 16)...)
		m = after(t, m, 1, act(api.Sync, 0))
		found := map[int64]bool{}
		for choice := -3; choice < 1009; choice++ {
			w, _ := m.Crash(choice).Word(3)
			found[w.Val] = true
		}
		if len(found) != 2 || !found[5] || !found[6] {
			t.Errorf("%+v: the crashes leave %v", write, found)
		}
	}
}

// P6.5: after a crash each choice loads what was persisted.
func TestLoadsAfterCrash(t *testing.T) {
	m := after(t, fresh(t, 2, 2), 1, store(0, 1), store(0, 2), store(1, 3), store(0, 4))
	for choice := -2; choice < 8; choice++ {
		c := m.Crash(choice)
		words := m.Lines().Crash(choice)
		for at, w := range words {
			for _, op := range []int{api.Load, api.Acquire, api.Look} {
				for load := range 4 {
					if _, got := do(t, c, 2, act(op, api.Loc(at)), load); got != (api.Got{Word: w, OK: true}) {
						t.Errorf("Crash(%d): op %d reads %+v at %d, wanted %v", choice, op, got, at, w)
					}
				}
			}
		}
	}
}

// The example of the chapter.
func TestExample(t *testing.T) {
	m, _ := machine.New(1, val(1), val(2))
	m = after(t, m, 1, store(0, 5))
	for choice := range 2 {
		if _, got := do(t, m, 1, act(api.Load, 0), choice); got.Word != val(5) {
			t.Errorf("choice %d loads %v", choice, got.Word)
		}
	}
	expectVals(t, "not flushed", m.Crash(-1).Words(), 1, 2)
	m = after(t, m, 1, act(api.Flush, 0))
	expectVals(t, "not fenced", m.Crash(-1).Words(), 1, 2)
	m = after(t, m, 1, act(api.Sync, 0))
	expectVals(t, "fenced", m.Crash(-1).Words(), 5, 2)
}
