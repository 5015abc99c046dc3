package era_test

import (
	"fmt"
	"math"
	"math/rand"
	"slices"
	"testing"

	"simulcast/api"
	"simulcast/era"
	"simulcast/layout"
	"simulcast/machine"
	"simulcast/task"
)

// watch follows one run of workers.
type watch struct {
	layout  layout.Layout
	world   task.World
	first   int64   // the era at the beginning
	swaps   int     // how many Swaps have succeeded
	entered []int64 // by thread: the era in which its last Enter became done, 0 if it has left since
}

// newWatch returns a run of workers on a machine with these words, one worker per list of orders.
func newWatch(t *testing.T, l layout.Layout, w []api.Word, orders ...[]int) watch {
	t.Helper()
	m, e := machine.New(len(orders), w...)
	if e != api.OK {
		t.Fatal("New:", e)
	}
	var codes []task.Code
	for i, o := range orders {
		codes = append(codes, worker{layout: l, thread: i + 1, orders: o})
	}
	x := watch{layout: l, first: w[eraAt].Val, entered: make([]int64, len(orders))}
	x.world, _ = task.Make(m, codes...)
	return x
}

func (x watch) era() int64 {
	w, _ := x.world.M.Word(eraAt)
	return w.Val
}

// announced returns the announced eras; a machine with the words of the eras alone is filled up.
func (x watch) announced() []int64 {
	w := x.world.M.Words()
	for len(w) < x.layout.Size() {
		w = append(w, api.Word{})
	}
	return era.Announced(x.layout, w)
}

// step lets a thread make one step, in place, and checks what holds at every step.
func (x *watch) step(t *testing.T, thread, choice int) {
	t.Helper()
	i := thread - 1
	before, act, words, now := workerOf(x.world.Tasks[i]), x.pending(t, thread), x.world.M.Words(), x.era()
	next, ok := x.world.Step(api.Pick{Thread: thread, Choice: choice})
	if !ok {
		t.Fatalf("thread %d makes no step", thread)
	}
	x.world = next
	if changed := act.Op == api.Release || act.Op == api.Swap && words[act.At] == act.Old; changed {
		words[act.At] = act.New
	}
	if !slices.Equal(x.world.M.Words(), words) {
		t.Fatalf("other words have changed by %+v", act)
	}
	if x.era() != now {
		x.swaps++
	}
	if x.era() != x.first+int64(x.swaps) {
		t.Fatalf("the era was %d, is %d by the Swap of number %d", now, x.era(), x.swaps)
	}
	if before.orders[0] == leaving {
		x.entered[i] = 0
	}
	if after := workerOf(x.world.Tasks[i]); after.ended > before.ended {
		x.end(t, i, before.orders[0], after.last, now)
	}
	x.expectLifetimes(t)
}

// pending returns the act that a thread waits for, and checks that it is one of its order.
func (x watch) pending(t *testing.T, thread int) api.Act {
	t.Helper()
	act, _ := x.world.Tasks[thread-1].Act()
	order := workerOf(x.world.Tasks[thread-1]).orders[0]
	allowed := false
	switch act.Op {
	case api.Look:
		allowed = order != leaving && act.At == eraAt
	case api.Release:
		allowed = order != advancing && act.At == announceAt(thread)
	case api.Swap:
		allowed = order == advancing && act.At == eraAt
	}
	if !allowed || act.New.Ver != 0 || act.New.Ref != 0 {
		t.Fatalf("order %d of thread %d: %+v", order, thread, act)
	}
	return act
}

// end checks the result of an order that has just been finished; before is the era before its last act.
func (x *watch) end(t *testing.T, i, order int, c task.Code, before int64) {
	t.Helper()
	wanted := int64(0)
	switch order {
	case entering:
		wanted = x.era()
		x.entered[i] = wanted
	case advancing:
		wanted = before + 1
		if x.era() != wanted {
			t.Fatalf("an Advance has finished: the era was %d, is %d", before, x.era())
		}
	}
	expectEra(t, fmt.Sprintf("order %d of thread %d", order, i+1), c, wanted)
	if got := x.announced()[i]; order != advancing && got != wanted {
		t.Fatalf("order %d of thread %d is done: announced %d, wanted %d", order, i+1, got, wanted)
	}
}

// expectLifetimes checks the lifetimes of P13.3: a block that was reachable when a reader entered is not safe until it
// leaves; a block is delayed only by an announced era in its lifetime.
func (x watch) expectLifetimes(t *testing.T) {
	t.Helper()
	announced := x.announced()
	for i, entered := range x.entered {
		if entered == 0 {
			continue
		}
		if x.era() < entered {
			t.Fatalf("thread %d entered in %d, now it is %d", i+1, entered, x.era())
		}
		for birth := entered - 3; birth <= entered; birth++ {
			if era.Safe(birth, x.era(), announced) {
				t.Fatalf("thread %d entered in %d: a block from %d to %d is safe with %v", i+1, entered, birth, x.era(), announced)
			}
		}
	}
	for birth := x.first - 1; birth <= x.era(); birth++ {
		for retired := birth; retired <= x.era(); retired++ {
			if got := era.Safe(birth, retired, announced); got != plainSafe(birth, retired, announced) {
				t.Fatalf("Safe(%d, %d, %v): %v", birth, retired, announced, got)
			}
		}
	}
}

// expectAlone checks that each thread would finish alone from here: what it has begun within four steps (an Enter that
// is about to announce an old era), and each order behind it within three.
func (x watch) expectAlone(t *testing.T) {
	t.Helper()
	for i := range x.world.Tasks {
		w := workerOf(x.world.Tasks[i])
		if _, ok := x.world.Alone(i+1, 3*len(w.orders)+1); !ok && !x.world.Stopped[i] {
			t.Fatalf("%v of thread %d are not done alone", w.orders, i+1)
		}
	}
}

// every calls end with each run that a schedule can lead to.
func (x watch) every(t *testing.T, end func(x watch)) {
	t.Helper()
	x.expectAlone(t)
	if x.world.Done() {
		end(x)
		return
	}
	for i, task := range x.world.Tasks {
		if !task.Done() {
			next := x
			next.entered = slices.Clone(x.entered)
			next.step(t, i+1, 1)
			next.every(t, end)
		}
	}
}

// small returns the layout's memory up to the announced eras, which makes many schedules cheap.
func small(l layout.Layout, era int64) []api.Word {
	w := l.First()[:8*(l.Threads+1)]
	w[eraAt] = api.Word{Val: era, Ver: 3, Ref: 5}
	for t := 1; t <= l.Threads; t++ {
		w[announceAt(t)] = api.Word{Ver: 8, Ref: 9}
	}
	return w
}

// P13.3: every schedule of two or three threads. The threads disturb each other in all ways that there are.
func TestEverySchedule(t *testing.T) {
	in, out, up := entering, leaving, advancing
	for _, x := range []struct {
		orders [][]int
		least  int // of schedules
	}{
		{[][]int{{up}, {up}, {up}}, 90},
		{[][]int{{up, up}, {up, up}}, 70},
		{[][]int{{in}, {up, up, up}}, 84},
		{[][]int{{in, out}, {up}, {up}}, 400},
		{[][]int{{in}, {in}, {up}}, 560},
		{[][]int{{in, out, in}, {up, up}}, 300},
		{[][]int{{up, in}, {up, in, out}}, 400},
		{[][]int{{in, up, out}, {in, up, out}}, 900},
		{[][]int{{out}, {in}, {up}}, 60},
	} {
		for _, first := range []int64{1, 100} {
			l := layout.Layout{Threads: len(x.orders), Cells: 1}
			advances, schedules := 0, 0
			for _, o := range x.orders {
				for _, order := range o {
					if order == up {
						advances++
					}
				}
			}
			newWatch(t, l, small(l, first), x.orders...).every(t, func(end watch) {
				schedules++
				if end.era() != first+int64(advances) {
					t.Fatalf("%v: the era is %d after %d advances from %d", x.orders, end.era(), advances, first)
				}
			})
			if schedules < x.least {
				t.Errorf("%v: only %d schedules", x.orders, schedules)
			}
		}
	}
}

// P13.1, P13.3: Advances beyond the greatest era, under every schedule: none is lost, and each has an era of its own.
func TestEveryScheduleWrapsAround(t *testing.T) {
	l := layout.Layout{Threads: 3, Cells: 1}
	m, _ := machine.New(3, small(l, math.MaxInt64-1)...)
	schedules := 0
	var every func(x task.World)
	every = func(x task.World) {
		if x.Done() {
			schedules++
			var eras []int64
			for _, task := range x.Tasks {
				n, _ := era.Era(task.Code())
				eras = append(eras, n)
			}
			slices.Sort(eras)
			if w, _ := x.M.Word(eraAt); w != (api.Word{Val: math.MinInt64 + 1}) || !slices.Equal(eras, []int64{math.MinInt64, math.MinInt64 + 1, math.MaxInt64}) {
				t.Fatalf("the era is %+v, swapped in were %v", w, eras)
			}
		}
		for i, task := range x.Tasks {
			if !task.Done() {
				every(x.Run(api.Pick{Thread: i + 1}))
			}
		}
	}
	x, _ := task.Make(m, advance(t, l), advance(t, l), advance(t, l))
	every(x)
	if schedules < 90 {
		t.Errorf("only %d schedules", schedules)
	}
}

// anyOrders returns random orders.
func anyOrders(r *rand.Rand) []int {
	all := make([]int, 1+r.Intn(6))
	for i := range all {
		all[i] = r.Intn(3)
	}
	return all
}

// P13.3: up to eight threads with random orders under random schedules, some of them stopped in the middle, on whole
// images with random words.
func TestRandomSchedules(t *testing.T) {
	for seed := range int64(120) {
		r := rand.New(rand.NewSource(seed))
		l := layout.Layout{Threads: 1 + r.Intn(8), Cells: 1, Blocks: r.Intn(2)}
		w := image(r, l.Size())
		w[eraAt].Val = 1 + int64(r.Intn(1000))
		var orders [][]int
		for thread := 1; thread <= l.Threads; thread++ {
			w[announceAt(thread)].Val = 0
			orders = append(orders, anyOrders(r))
		}
		x := newWatch(t, l, w, orders...)
		for !x.world.Done() {
			i := r.Intn(l.Threads)
			if x.world.Tasks[i].Done() || x.world.Stopped[i] {
				continue
			}
			if r.Intn(40) == 0 {
				x.world = x.world.Run(api.Pick{Kind: api.PickStop, Thread: i + 1})
				continue
			}
			x.step(t, i+1, r.Intn(5))
			if r.Intn(4) == 0 {
				x.expectAlone(t)
			}
		}
	}
}

// P13.3: a reader that is stopped at any point delays no other thread, and only blocks whose lifetime contains its
// announced era.
func TestStopped(t *testing.T) {
	l := layout.Layout{Threads: 2, Cells: 1}
	for steps := range 4 {
		x := newWatch(t, l, l.First(), []int{entering, leaving}, []int{advancing, advancing, entering, leaving, advancing})
		for range steps {
			x.step(t, 1, 0)
		}
		x.world = x.world.Run(api.Pick{Kind: api.PickStop, Thread: 1})
		for !x.world.Done() {
			x.step(t, 2, 0)
		}
		if x.era() != 4 {
			t.Errorf("stopped after %d steps: era %d", steps, x.era())
		}
		delays := steps >= 2
		announced := x.announced()
		for birth := int64(1); birth <= 4; birth++ {
			for retired := birth; retired <= 4; retired++ {
				if safe := era.Safe(birth, retired, announced); safe == (delays && birth == 1) {
					t.Errorf("stopped after %d steps: a block from %d to %d: safe %v", steps, birth, retired, safe)
				}
			}
		}
	}
}

// P13.1: an Enter that is disturbed before each of its last Looks never ends, and announces the era that it read.
func TestDisturbedAgainAndAgain(t *testing.T) {
	l := layout.Layout{Threads: 2, Cells: 1}
	m, _ := machine.New(2, l.First()...)
	x, _ := task.Make(m, enter(t, l, 1))
	x = x.Run(api.Pick{Thread: 1})
	for i := range int64(100) {
		x = x.Run(api.Pick{Thread: 1})
		if got := era.Announced(l, x.M.Words()); got[0] != 1+i {
			t.Fatalf("announced %v in round %d", got, i)
		}
		a := api.Act{Op: api.Swap, At: eraAt, Old: api.Word{Val: 1 + i}, New: api.Word{Val: 2 + i}}
		x.M, _, _ = x.M.Do(2, a, 0)
		x = x.Run(api.Pick{Thread: 1})
		expectNotDone(t, "disturbed", x.Tasks[0].Code())
		if end, ok := x.Alone(1, 2); !ok || era.Announced(l, end.M.Words())[0] != 2+i {
			t.Fatalf("not done alone after %d rounds", i)
		}
	}
}

// Example 1.
func TestExample(t *testing.T) {
	l := layout.Layout{Threads: 2, Cells: 8}
	m, _ := machine.New(2, l.First()...)
	x, _ := task.Make(m, enter(t, l, 1), advance(t, l))
	x = x.Run(api.Pick{Thread: 1}, api.Pick{Thread: 2}, api.Pick{Thread: 2})
	expectEra(t, "thread 2", x.Tasks[1].Code(), 2)
	for _, wanted := range []int64{1, 1, 2} {
		x = x.Run(api.Pick{Thread: 1})
		expectNotDone(t, "thread 1", x.Tasks[0].Code())
		if got := era.Announced(l, x.M.Words()); !slices.Equal(got, []int64{wanted, 0}) {
			t.Errorf("announced %v, wanted %d", got, wanted)
		}
	}
	x = x.Run(api.Pick{Thread: 1})
	expectEra(t, "thread 1", x.Tasks[0].Code(), 2)
	if !era.Safe(1, 1, []int64{0, 2}) || era.Safe(1, 2, []int64{0, 2}) {
		t.Error("Safe with 0, 2")
	}
}
