package task_test

import (
	"math"
	"slices"
	"testing"

	"simulcast/api"
	"simulcast/task"
)

func val(v int64) api.Word { return api.Word{Val: v} }

func got(v int64) api.Got { return api.Got{Word: val(v), OK: true} }

func store(at api.Loc, v int64) api.Act { return api.Act{Op: api.Store, At: at, New: val(v)} }
func swap(at api.Loc, old, new int64) api.Act {
	return api.Act{Op: api.Swap, At: at, Old: val(old), New: val(new)}
}
func act(op int, at api.Loc) api.Act { return api.Act{Op: op, At: at} }

// list performs its acts in order, whatever it gets. at counts the calls of Next, and first is what the first one got.
type list struct {
	acts  []api.Act
	at    int
	first api.Got
}

func (c list) Next(g api.Got) (task.Code, api.Act, bool) {
	if c.at == 0 {
		c.first = g
	}
	c.at++
	if c.at > len(c.acts) {
		return c, act(api.Sync, 99), true // finished: the operation is ignored
	}
	return c, c.acts[c.at-1], false
}

// sum stores the sum of what it has got, until it gets a word of value 0 or less.
type sum struct{ total int64 }

func (c sum) Next(g api.Got) (task.Code, api.Act, bool) {
	if c.total > 0 && g.Word.Val <= 0 {
		return c, api.Act{}, true
	}
	c.total += max(g.Word.Val, 1)
	return c, store(0, c.total), false
}

// odd has the function itself for its Next.
type odd func(g api.Got) (task.Code, api.Act, bool)

func (c odd) Next(g api.Got) (task.Code, api.Act, bool) { return c(g) }

// pointed can't be called through a nil pointer.
type pointed struct{ act api.Act }

func (c *pointed) Next(api.Got) (task.Code, api.Act, bool) { return c, c.act, false }

func panics(api.Got) (task.Code, api.Act, bool) { panic("no more") }

func expectPending(t *testing.T, what string, x task.Task, a api.Act, gots ...api.Got) {
	t.Helper()
	if now, ok := x.Act(); now != a || !ok || x.Done() {
		t.Errorf("%s: Act %+v, %v, Done %v, wanted %+v", what, now, ok, x.Done(), a)
	}
	expectGots(t, what, x, gots...)
}

func expectFinished(t *testing.T, what string, x task.Task, gots ...api.Got) {
	t.Helper()
	if now, ok := x.Act(); now != (api.Act{}) || ok || !x.Done() {
		t.Errorf("%s: Act %+v, %v, Done %v, wanted a finished task", what, now, ok, x.Done())
	}
	expectGots(t, what, x, gots...)
}

func expectGots(t *testing.T, what string, x task.Task, gots ...api.Got) {
	t.Helper()
	if x.Steps() != len(gots) || !slices.Equal(x.Gots(), gots) {
		t.Errorf("%s: %d steps, Gots %v, wanted %v", what, x.Steps(), x.Gots(), gots)
	}
}

// P8.1: a task from its start to its end, with its code and the results at every step.
func TestTask(t *testing.T) {
	acts := []api.Act{store(1, 5), act(api.Rest, 0), act(api.Look, -7)}
	gots := []api.Got{got(3), {}, {Word: api.Word{Val: math.MinInt64, Ver: 7, Ref: 9}}}
	x := task.Start(list{acts: acts, first: got(99)})
	for i, a := range acts {
		expectPending(t, "running", x, a, gots[:i]...)
		if c, ok := x.Code().(list); !ok || c.at != i+1 || c.first != (api.Got{}) {
			t.Errorf("step %d: code %+v, wanted one that Next was called on %d times, first with the zero Got", i, x.Code(), i+1)
		}
		x = x.Give(gots[i])
	}
	expectFinished(t, "at the end", x, gots...)
	if c, ok := x.Code().(list); !ok || c.at != 4 {
		t.Errorf("at the end: code %+v", x.Code())
	}
	for range 3 {
		x = x.Give(got(1))
		expectFinished(t, "given more", x, gots...)
		if c, ok := x.Code().(list); !ok || c.at != 4 {
			t.Errorf("given more: code %+v", x.Code())
		}
	}
}

// P8.1: each call of Next gets the result of the operation before it.
func TestResultsReachTheCode(t *testing.T) {
	x := task.Start(sum{})
	expectPending(t, "started", x, store(0, 1))
	x = x.Give(got(4))
	expectPending(t, "given 4", x, store(0, 5), got(4))
	x = x.Give(got(2))
	expectPending(t, "given 2", x, store(0, 7), got(4), got(2))
	x = x.Give(got(0))
	expectFinished(t, "given 0", x, got(4), got(2), got(0))
	if x.Code() != (sum{7}) {
		t.Errorf("code %+v", x.Code())
	}
}

// P8.1: a code that finishes at once, and a pending operation that is the zero one.
func TestShortTasks(t *testing.T) {
	x := task.Start(list{})
	expectFinished(t, "no operation", x)
	if c, ok := x.Code().(list); !ok || c.at != 1 {
		t.Errorf("no operation: code %+v", x.Code())
	}
	x = task.Start(list{acts: []api.Act{{}}})
	expectPending(t, "the zero operation", x, api.Act{})
	expectFinished(t, "the zero operation", x.Give(api.Got{}), api.Got{})
}

// P8.1: the zero task has finished and has no code; a nil code has it as its task.
func TestZeroTask(t *testing.T) {
	var zero task.Task
	for what, x := range map[string]task.Task{"zero": zero, "given": zero.Give(got(5)), "nil": task.Start(nil), "nil, given": task.Start(nil).Give(got(5))} {
		expectFinished(t, what, x)
		if x.Code() != nil {
			t.Errorf("%s: code %v", what, x.Code())
		}
	}
}

// Earlier tasks stay as they are, and given the same again continue in the same way; branches don't see each other.
func TestBranches(t *testing.T) {
	root := task.Start(sum{})
	var steps []task.Task
	for i := range 20 {
		steps = append(steps, root)
		root = root.Give(got(int64(i + 1)))
	}
	for i, x := range steps {
		a, b := x.Give(got(100)), x.Give(got(0))
		again := x.Give(got(100))
		var before []api.Got
		for k := range i {
			before = append(before, got(int64(k+1)))
		}
		total := int64(1 + i*(i+1)/2)
		expectPending(t, "earlier", x, store(0, total), before...)
		expectPending(t, "first branch", a, store(0, total+100), append(slices.Clone(before), got(100))...)
		expectPending(t, "first branch again", again, store(0, total+100), append(slices.Clone(before), got(100))...)
		expectFinished(t, "second branch", b, append(slices.Clone(before), got(0))...)
		expectPending(t, "further", a.Give(got(7)), store(0, total+107), append(slices.Clone(before), got(100), got(7))...)
	}
}

// The lists that Gots returns are apart from the task and from each other.
func TestGotsMemory(t *testing.T) {
	x := task.Start(sum{}).Give(got(1)).Give(got(2))
	a, b := x.Gots(), x.Gots()
	a[0] = got(50)
	_ = append(a[:1], got(60))
	if !slices.Equal(b, []api.Got{got(1), got(2)}) {
		t.Errorf("the other list is %v", b)
	}
	expectPending(t, "after a write", x, store(0, 4), got(1), got(2))
	expectPending(t, "given after a write", x.Give(got(3)), store(0, 7), got(1), got(2), got(3))
}

// P8.1: very many results.
func TestLongTask(t *testing.T) {
	const many = 20000
	x := task.Start(sum{})
	for i := range many {
		x = x.Give(got(int64(i + 1)))
	}
	gots := x.Gots()
	if x.Steps() != many || len(gots) != many {
		t.Fatalf("%d steps, %d results", x.Steps(), len(gots))
	}
	for i, g := range gots {
		if g != got(int64(i+1)) {
			t.Fatalf("result %d is %v", i, g)
		}
	}
}

// P1: a code that panics, at its start or later, has finished; no call panics.
func TestCodesThatPanic(t *testing.T) {
	bad := odd(panics)
	x := task.Start(bad)
	expectFinished(t, "at the start", x)
	expectFinished(t, "at the start, given", x.Give(got(1)))
	if x.Code() == nil {
		t.Error("at the start: no code")
	}
	x = task.Start(odd(func(api.Got) (task.Code, api.Act, bool) { return bad, store(0, 1), false }))
	expectPending(t, "later", x, store(0, 1))
	expectFinished(t, "later, given", x.Give(got(4)), got(4))
	expectFinished(t, "later, given twice", x.Give(got(4)).Give(got(5)), got(4))
	if x.Give(got(4)).Code() == nil {
		t.Error("later: no code")
	}
	var none *pointed
	expectFinished(t, "a nil pointer", task.Start(none))
	expectFinished(t, "a nil function", task.Start(odd(nil)))
	expectFinished(t, "panic(nil)", task.Start(odd(func(api.Got) (task.Code, api.Act, bool) { panic(nil) })))
}

// P1: a code that continues as nil has its operation performed, and has finished then.
func TestNilContinuation(t *testing.T) {
	x := task.Start(odd(func(api.Got) (task.Code, api.Act, bool) { return nil, store(0, 1), false }))
	expectPending(t, "nil", x, store(0, 1))
	x = x.Give(got(4))
	expectFinished(t, "nil, given", x, got(4))
	expectFinished(t, "nil, given twice", x.Give(got(5)), got(4))
	x = task.Start(odd(func(api.Got) (task.Code, api.Act, bool) { return nil, store(0, 1), true }))
	expectFinished(t, "finished as nil", x)
	if x.Code() != nil {
		t.Errorf("finished as nil: code %v", x.Code())
	}
}
