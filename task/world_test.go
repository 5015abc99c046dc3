package task_test

import (
	"fmt"
	"math"
	"slices"
	"strings"
	"testing"

	"simulcast/api"
	"simulcast/machine"
	"simulcast/task"
)

func step(thread, choice int) api.Pick {
	return api.Pick{Kind: api.PickStep, Thread: thread, Choice: choice}
}
func stop(thread int) api.Pick  { return api.Pick{Kind: api.PickStop, Thread: thread} }
func crash(choice int) api.Pick { return api.Pick{Kind: api.PickCrash, Choice: choice} }

func steps(threads ...int) []api.Pick {
	var l []api.Pick
	for _, t := range threads {
		l = append(l, step(t, 0))
	}
	return l
}

func acts(l ...api.Act) task.Code { return list{acts: l} }

// fresh returns a machine whose locations contain 0.
func fresh(t *testing.T, threads, places int) machine.Machine {
	t.Helper()
	m, e := machine.New(threads, make([]api.Word, places)...)
	if e != api.OK {
		t.Fatal("New:", e)
	}
	return m
}

func world(t *testing.T, m machine.Machine, l ...task.Code) task.World {
	t.Helper()
	w, e := task.Make(m, l...)
	if e != api.OK {
		t.Fatal("Make:", e)
	}
	return w
}

// shown tells all that a world has.
func shown(w task.World) string {
	var b strings.Builder
	fmt.Fprintf(&b, "%+v\n", w.M)
	for _, x := range w.Tasks {
		a, ok := x.Act()
		fmt.Fprintf(&b, "%+v %v %v %v %d %+v\n", x.Code(), a, ok, x.Done(), x.Steps(), x.Gots())
	}
	fmt.Fprint(&b, w.Stopped)
	return b.String()
}

// do applies a pick that must have an effect.
func do(t *testing.T, w task.World, p api.Pick) task.World {
	t.Helper()
	n, ok := w.Step(p)
	if !ok {
		t.Fatalf("%+v has no effect", p)
	}
	return n
}

func expectNoEffect(t *testing.T, what string, w task.World, p api.Pick) {
	t.Helper()
	before := shown(w)
	n, ok := w.Step(p)
	if ok || shown(n) != before || shown(w) != before {
		t.Errorf("%s: %+v has an effect (%v)", what, p, ok)
	}
}

func expectVals(t *testing.T, what string, w task.World, wanted ...int64) {
	t.Helper()
	var vals []int64
	for _, x := range w.M.Words() {
		vals = append(vals, x.Val)
	}
	if !slices.Equal(vals, wanted) {
		t.Errorf("%s: the machine has %v, wanted %v", what, vals, wanted)
	}
}

// P8.2: a world has its machine and the started codes, none of them stopped.
func TestMake(t *testing.T) {
	m, _, _ := fresh(t, 3, 2).Do(2, store(1, 6), 0)
	for n := range 4 {
		codes := slices.Repeat([]task.Code{acts(store(0, 5), act(api.Look, 0))}, n)
		w, e := task.Make(m, codes...)
		if e != api.OK || len(w.Tasks) != n || len(w.Stopped) != n || slices.Contains(w.Stopped, true) {
			t.Fatalf("%d codes: %d tasks, Stopped %v, error %d", n, len(w.Tasks), w.Stopped, e)
		}
		for i := range codes {
			codes[i] = nil
			expectPending(t, "made", w.Tasks[i], store(0, 5))
		}
		if fmt.Sprintf("%+v", w.M) != fmt.Sprintf("%+v", m) {
			t.Error("another machine")
		}
		if w.Done() != (n == 0) {
			t.Errorf("%d codes: Done %v", n, w.Done())
		}
	}
}

// P8.2: more codes than the machine has threads.
func TestMakeErrors(t *testing.T) {
	for _, x := range []struct {
		m     machine.Machine
		codes int
	}{{machine.Machine{}, 1}, {machine.Machine{}, 3}, {fresh(t, 1, 1), 2}, {fresh(t, 8, 1), 9}, {fresh(t, 2, 1), 100}} {
		for _, c := range []task.Code{acts(store(0, 1)), nil} {
			w, e := task.Make(x.m, slices.Repeat([]task.Code{c}, x.codes)...)
			if e != api.ErrMany || shown(w) != shown(task.World{}) {
				t.Errorf("%d codes: error %d, wanted ErrMany and the zero world", x.codes, e)
			}
		}
	}
	if w, e := task.Make(fresh(t, 8, 1), slices.Repeat([]task.Code{acts(store(0, 1))}, 8)...); e != api.OK || len(w.Tasks) != 8 {
		t.Errorf("8 codes: %d tasks, error %d", len(w.Tasks), e)
	}
	if w, e := task.Make(machine.Machine{}); e != api.OK || shown(w) != shown(task.World{}) {
		t.Errorf("the zero machine without codes: error %d", e)
	}
}

// P8.2: a nil code is a thread that has finished.
func TestMakeWithNilCode(t *testing.T) {
	w := world(t, fresh(t, 3, 1), nil, acts(store(0, 1)), nil)
	expectFinished(t, "nil code", w.Tasks[0])
	expectFinished(t, "nil code", w.Tasks[2])
	for _, p := range []api.Pick{step(1, 0), stop(1), step(3, 0), stop(3)} {
		expectNoEffect(t, "nil code", w, p)
	}
	if n := do(t, w, step(2, 0)); w.Done() || !n.Done() {
		t.Errorf("Done %v, then %v", w.Done(), n.Done())
	}
}

// P8.3: the example.
func TestExample(t *testing.T) {
	w := world(t, fresh(t, 2, 1), acts(store(0, 5), act(api.Look, 0)), acts(swap(0, 0, 9)))
	w = w.Run(steps(1, 2, 1)...)
	expectFinished(t, "thread 1", w.Tasks[0], api.Got{OK: true}, got(5))
	expectFinished(t, "thread 2", w.Tasks[1], api.Got{Word: val(5)})
	if !w.Done() {
		t.Error("not done")
	}
}

// P8.3: a step performs the pending operation of its thread with its choice, and nothing else.
func TestStep(t *testing.T) {
	codes := []task.Code{acts(store(0, 1), store(0, 2), store(0, 3)), acts(act(api.Load, 0), act(api.Flush, 0))}
	w := world(t, fresh(t, 2, 2), codes...).Run(steps(1, 1, 1)...)
	expectFinished(t, "thread 1", w.Tasks[0], api.Got{OK: true}, api.Got{OK: true}, api.Got{OK: true})
	for choice, v := range []int64{3, 2, 1, 0, 3, 2} {
		n := do(t, w, step(2, choice))
		expectPending(t, "thread 2", n.Tasks[1], act(api.Flush, 0), got(v))
		if n.M.Steps(1) != 3 || n.M.Steps(2) != 1 || n.M.Crashes() != 0 {
			t.Errorf("choice %d: %d and %d steps", choice, n.M.Steps(1), n.M.Steps(2))
		}
	}
	expectPending(t, "the earlier world", w.Tasks[1], act(api.Load, 0))
	expectVals(t, "stores", w, 3, 0)
}

// P8.3: an operation that the machine rejects leaves the machine unchanged and yields the zero Got.
func TestRejectedOperation(t *testing.T) {
	for _, bad := range []api.Act{{Op: -1}, {Op: 9}, {Op: math.MaxInt}, act(api.Load, 2), act(api.Store, -1), act(api.Release, 4096),
		act(api.Swap, math.MinInt), act(api.Look, math.MaxInt), act(api.Flush, 2), {Op: api.Acquire, At: 5}} {
		w := world(t, fresh(t, 2, 2), acts(store(0, 4), bad, store(1, 5)), acts(store(0, 9)))
		w = do(t, w, step(1, 0))
		n := do(t, w, step(1, 3))
		if fmt.Sprintf("%+v", n.M) != fmt.Sprintf("%+v", w.M) {
			t.Errorf("%+v changes the machine", bad)
		}
		expectPending(t, "rejected", n.Tasks[0], store(1, 5), api.Got{OK: true}, api.Got{})
		n = do(t, n, step(1, 0))
		expectFinished(t, "after the rejected one", n.Tasks[0], api.Got{OK: true}, api.Got{}, api.Got{OK: true})
		expectVals(t, "after the rejected one", n, 4, 5)
		expectPending(t, "the other thread", n.Tasks[1], store(0, 9))
	}
}

// P8.3: a stopped thread stays stopped; the others go on.
func TestStop(t *testing.T) {
	w := world(t, fresh(t, 3, 2), acts(store(0, 4), store(0, 5)), acts(store(1, 6)), acts(store(1, 7)))
	w = do(t, w, step(1, 0))
	n := do(t, w, api.Pick{Kind: api.PickStop, Thread: 1, Choice: 77})
	if !slices.Equal(n.Stopped, []bool{true, false, false}) || slices.Contains(w.Stopped, true) {
		t.Errorf("Stopped %v, before %v", n.Stopped, w.Stopped)
	}
	if fmt.Sprintf("%+v", n.M) != fmt.Sprintf("%+v", w.M) {
		t.Error("a stop changes the machine")
	}
	expectPending(t, "stopped", n.Tasks[0], store(0, 5), api.Got{OK: true})
	expectNoEffect(t, "stopped", n, step(1, 0))
	expectNoEffect(t, "stopped", n, stop(1))
	n = do(t, n, step(2, 0))
	expectNoEffect(t, "finished", n, step(2, 0))
	expectNoEffect(t, "finished", n, stop(2))
	if n.Done() {
		t.Error("done before thread 3")
	}
	if x := do(t, n, stop(3)); !x.Done() || !slices.Equal(x.Stopped, []bool{true, false, true}) {
		t.Errorf("after all stops: Done %v, Stopped %v", x.Done(), x.Stopped)
	}
	expectVals(t, "stopped", n, 4, 6)
	expectVals(t, "not stopped", do(t, w, step(1, 0)), 5, 0)
}

// P8.3: threads and kinds that do not exist.
func TestNoSuchThreadOrKind(t *testing.T) {
	w := world(t, fresh(t, 4, 1), acts(store(0, 1)), acts(store(0, 2)))
	w = do(t, w, step(1, 0))
	for _, thread := range []int{math.MinInt, -1, 0, 3, 4, 5, 8, 9, math.MaxInt} {
		expectNoEffect(t, "no thread", w, step(thread, 0))
		expectNoEffect(t, "no thread", w, stop(thread))
		if n, ok := w.Alone(thread, 9); ok || shown(n) != shown(w) {
			t.Errorf("Alone(%d) has an effect (%v)", thread, ok)
		}
	}
	for _, kind := range []int{math.MinInt, -1, 3, 4, math.MaxInt} {
		for thread := range 4 {
			expectNoEffect(t, "no kind", w, api.Pick{Kind: kind, Thread: thread})
		}
	}
}

// P8.3: a crash leaves the machine after Crash, without tasks; its Thread does not matter.
func TestCrash(t *testing.T) {
	w := world(t, fresh(t, 2, 9), acts(store(0, 4), act(api.Flush, 0), act(api.Sync, 0), store(0, 5), store(0, 6), store(8, 7), store(8, 8)))
	w = w.Run(steps(1, 1, 1, 1, 1, 1)...).Run(stop(1))
	for _, choice := range []int{math.MinInt, -2, -1, 0, 1, 2, 3, 100, math.MaxInt} {
		for _, thread := range []int{-1, 0, 1, 9} {
			n := do(t, w, api.Pick{Kind: api.PickCrash, Thread: thread, Choice: choice})
			if shown(n) != shown(task.World{M: w.M.Crash(choice)}) || len(n.Tasks) != 0 || len(n.Stopped) != 0 {
				t.Errorf("crash %d: %d tasks, Stopped %v", choice, len(n.Tasks), n.Stopped)
			}
			if n.M.Crashes() != 1 || n.M.Steps(1) != 6 || !n.Done() {
				t.Errorf("crash %d: %d crashes, %d steps, Done %v", choice, n.M.Crashes(), n.M.Steps(1), n.Done())
			}
			expectNoEffect(t, "after a crash", n, step(1, 0))
			expectNoEffect(t, "after a crash", n, stop(1))
			if x := do(t, n, crash(-1)); x.M.Crashes() != 2 {
				t.Errorf("%d crashes, wanted 2", x.M.Crashes())
			}
		}
	}
	expectVals(t, "nothing survives", do(t, w, crash(-1)), 4, 0, 0, 0, 0, 0, 0, 0, 0)
	expectVals(t, "all survives", do(t, w, crash(-2)), 6, 0, 0, 0, 0, 0, 0, 0, 7)
	if len(w.Tasks) != 1 || w.M.Crashes() != 0 || !w.Stopped[0] {
		t.Error("the world before the crash has changed")
	}
	expectVals(t, "a world without tasks", do(t, world(t, fresh(t, 1, 2)), crash(0)), 0, 0)
}

// P8.3: Run is Step by Step, and passes over picks without an effect.
func TestRun(t *testing.T) {
	w := world(t, fresh(t, 3, 2), acts(store(0, 1), act(api.Look, 1)), acts(store(1, 2), act(api.Load, 0), store(0, 3)), nil)
	picks := []api.Pick{step(2, 0), step(9, 0), step(1, 0), {Kind: 5, Thread: 1}, step(3, 0), step(2, 1), stop(2), step(2, 0), step(1, 4), step(1, 0), stop(1)}
	x := w
	for i, p := range picks {
		if shown(w.Run(picks[:i]...)) != shown(x) {
			t.Fatalf("Run of %d picks differs from as many Steps", i)
		}
		x, _ = x.Step(p)
	}
	x = w.Run(picks...)
	expectFinished(t, "thread 1", x.Tasks[0], api.Got{OK: true}, got(2))
	expectPending(t, "thread 2", x.Tasks[1], store(0, 3), api.Got{OK: true}, got(0))
	if !slices.Equal(x.Stopped, []bool{false, true, false}) || !x.Done() {
		t.Errorf("Stopped %v, Done %v", x.Stopped, x.Done())
	}
	if n := w.Run(append(picks, crash(-2), step(1, 0))...); len(n.Tasks) != 0 || n.M.Crashes() != 1 || n.M.Steps(1) != 2 {
		t.Error("a crash at the end of Run")
	}
	if shown(w.Run()) != shown(w) {
		t.Error("Run of nothing changes the world")
	}
}

// P8.4: a thread alone, to its end or for so many steps; most of 0 and below.
func TestAlone(t *testing.T) {
	w := world(t, fresh(t, 2, 2), acts(store(0, 1), store(0, 2), store(0, 3)), acts(act(api.Load, 0), store(1, 9)))
	for most, want := range map[int]int64{math.MinInt: 0, -1: 0, 0: 0, 1: 1, 2: 2, 3: 3, 4: 3, 100: 3, math.MaxInt: 3} {
		n, ok := w.Alone(1, most)
		if ok != (want == 3) || n.M.Steps(1) != int(want) || n.M.Steps(2) != 0 {
			t.Errorf("Alone(1, %d): %v after %d steps", most, ok, n.M.Steps(1))
		}
		expectVals(t, "alone", n, want, 0)
		if n.Tasks[0].Done() != ok {
			t.Errorf("Alone(1, %d): Done %v", most, n.Tasks[0].Done())
		}
		again, ok := n.Alone(1, 3-int(want))
		if !ok || again.M.Steps(1) != 3 {
			t.Errorf("Alone(1, %d) behind %d steps: %v", 3-want, want, ok)
		}
	}
	expectVals(t, "the world before", w, 0, 0)
	n, _ := w.Alone(1, 3)
	for _, most := range []int{math.MinInt, -1, 0, 1, math.MaxInt} {
		if x, ok := n.Alone(1, most); !ok || shown(x) != shown(n) {
			t.Errorf("Alone(1, %d) of a finished thread: %v", most, ok)
		}
	}
	x, ok := n.Alone(2, 2)
	if !ok || !x.Done() {
		t.Error("thread 2 has not finished alone")
	}
	expectFinished(t, "choice 0 reads the newest word", x.Tasks[1], got(3), api.Got{OK: true})
}

// P8.4: a thread that is stopped or does not exist, and one that never finishes.
func TestAloneWithoutEnd(t *testing.T) {
	var ever odd
	ever = func(api.Got) (task.Code, api.Act, bool) { return ever, act(api.Rest, 0), false }
	w := world(t, fresh(t, 3, 1), ever, acts(store(0, 1)), nil)
	n, ok := w.Alone(1, 3000)
	if ok || n.M.Steps(1) != 3000 || n.Tasks[0].Steps() != 3000 {
		t.Errorf("3000 steps without an end: %v, %d", ok, n.M.Steps(1))
	}
	n = do(t, w, stop(2))
	for _, most := range []int{-1, 0, 1, 9} {
		if x, ok := n.Alone(2, most); ok || shown(x) != shown(n) {
			t.Errorf("Alone(2, %d) of a stopped thread: %v", most, ok)
		}
		if x, ok := n.Alone(4, most); ok || shown(x) != shown(n) {
			t.Errorf("Alone(4, %d): %v", most, ok)
		}
		if x, ok := n.Alone(3, most); !ok || shown(x) != shown(n) {
			t.Errorf("Alone(3, %d) of a thread without code: %v", most, ok)
		}
	}
}

// P8.4: Done holds if every task has finished or is stopped.
func TestDone(t *testing.T) {
	w := world(t, fresh(t, 2, 1), acts(store(0, 1)), acts(store(0, 2)))
	for _, x := range []struct {
		picks []api.Pick
		want  bool
	}{
		{nil, false}, {steps(1), false}, {steps(2), false}, {steps(1, 2), true}, {[]api.Pick{stop(1)}, false},
		{[]api.Pick{stop(1), step(2, 0)}, true}, {[]api.Pick{step(1, 0), stop(2)}, true}, {[]api.Pick{stop(2), stop(1)}, true},
		{[]api.Pick{crash(0)}, true},
	} {
		if got := w.Run(x.picks...).Done(); got != x.want {
			t.Errorf("Done after %v: %v", x.picks, got)
		}
	}
}

// P8.3, P8.4: a world without a machine rejects every step, also one that was given tasks by hand.
func TestZeroWorld(t *testing.T) {
	given := task.World{Tasks: []task.Task{task.Start(acts(store(0, 1))), {}}, Stopped: []bool{false}}
	for what, w := range map[string]task.World{"zero": {}, "given tasks": given} {
		for kind := -1; kind < 4; kind++ {
			for thread := -1; thread < 4; thread++ {
				expectNoEffect(t, what, w, api.Pick{Kind: kind, Thread: thread})
			}
		}
		if n := w.Run(step(1, 0), stop(1), crash(-1)); shown(n) != shown(w) {
			t.Errorf("%s: Run has an effect", what)
		}
		if n, ok := w.Alone(1, math.MaxInt); ok || shown(n) != shown(w) {
			t.Errorf("%s: Alone has an effect (%v)", what, ok)
		}
	}
	if !(task.World{}).Done() || given.Done() {
		t.Error("Done: only the world without tasks is done")
	}
	if _, ok := given.Alone(2, 0); !ok {
		t.Error("thread 2 of the world that was given tasks has finished")
	}
}

// P1: worlds with lists that Make does not make.
func TestWorldsMadeByHand(t *testing.T) {
	tasks := []task.Task{task.Start(acts(store(0, 1))), task.Start(acts(store(0, 2))), task.Start(acts(store(0, 3), act(api.Look, 0)))}
	for _, stopped := range [][]bool{nil, {false}, {false, false, false, true, true}} {
		w := task.World{M: fresh(t, 2, 1), Tasks: tasks, Stopped: stopped}
		n := do(t, w, stop(2))
		if len(n.Stopped) < 2 || !n.Stopped[1] || n.Stopped[0] || len(n.Stopped) > max(2, len(stopped)) {
			t.Errorf("Stopped %v, before %v", n.Stopped, stopped)
		}
		expectNoEffect(t, "stopped", n, step(2, 0))
		expectNoEffect(t, "no task", w, step(4, 0))
		n = do(t, n, step(1, 0))
		expectVals(t, "thread 1", n, 1)
		n, ok := n.Alone(3, 5)
		if !ok || !n.Done() {
			t.Error("thread 3 has not finished")
		}
		expectFinished(t, "a thread that the machine does not have", n.Tasks[2], api.Got{}, api.Got{})
		expectVals(t, "thread 3", n, 1)
	}
	w := task.World{M: fresh(t, 1, 1), Tasks: []task.Task{{}}, Stopped: []bool{true}}
	if n, ok := w.Alone(1, 5); ok || shown(n) != shown(w) {
		t.Errorf("Alone of a thread that has finished and is stopped: %v", ok)
	}
}

// P1: codes that panic or continue as nil end their thread, and no other.
func TestWorldWithBadCodes(t *testing.T) {
	late := odd(func(api.Got) (task.Code, api.Act, bool) { return odd(panics), store(0, 1), false })
	gone := odd(func(api.Got) (task.Code, api.Act, bool) { return nil, store(1, 2), false })
	var none *pointed
	w := world(t, fresh(t, 5, 3), odd(panics), late, gone, none, acts(store(2, 3)))
	expectNoEffect(t, "panics at the start", w, step(1, 0))
	expectNoEffect(t, "a nil pointer", w, step(4, 0))
	w = w.Run(steps(2, 3, 5)...)
	expectVals(t, "bad codes", w, 1, 2, 3)
	if !w.Done() {
		t.Error("not done")
	}
}

// The lists of a world are its own: a write into those of one is not seen in another, nor is one into the arguments.
func TestWorldMemory(t *testing.T) {
	codes := make([]task.Code, 0, 4)
	codes = append(codes, acts(store(0, 1)), acts(store(0, 2)))
	w := world(t, fresh(t, 2, 1), codes...)
	before := shown(w)
	picks := append(make([]api.Pick, 0, 4), step(1, 0))
	results := func() []task.World {
		a, _ := w.Step(step(1, 0))
		b, _ := w.Step(stop(2))
		c, _ := w.Step(step(9, 0))
		d, _ := w.Alone(1, 1)
		e, _ := w.Alone(9, 1)
		f, _ := w.Alone(1, 0)
		return []task.World{a, b, c, d, e, f, w.Run(), w.Run(picks...)}
	}
	first, second := results(), results()
	for i, x := range first {
		wanted := shown(second[i])
		for k := range x.Tasks {
			x.Tasks[k], x.Stopped[k] = task.Start(acts(store(0, 77))), true
		}
		_, _ = append(x.Tasks, task.Task{}), append(x.Stopped, true)
		if shown(w) != before || shown(second[i]) != wanted {
			t.Errorf("result %d shares memory", i)
		}
	}
	if picks[:2][1] != (api.Pick{}) || codes[:3][2] != nil {
		t.Error("the spare capacity of an argument has changed")
	}
}
