package hazard_test

import (
	"maps"
	"math/rand"
	"slices"
	"testing"

	"simulcast/api"
	"simulcast/hazard"
	"simulcast/layout"
	"simulcast/task"
)

// watch follows one run of workers.
type watch struct {
	layout  layout.Layout
	world   task.World
	holds   []int64        // by thread: what its last Protect has returned, 0 from the first act of another order that may change the hazard
	scans   []scanWatch    // by thread
	removed map[int64]bool // values that cell 0 has no more
	gone    map[int64]bool // values that were removed before a Scan which did not find them
	missed  int            // how many values Scans have not found
	found   int            // how many removed values Scans have found
}

// scanWatch is what is known of the Scan of a thread that is under way.
type scanWatch struct {
	begun   bool
	removed map[int64]bool // the values that were removed before its first act
	stable  []int64        // by thread: the hazard at its first act, 0 if it has been written since
}

// newWatch returns a run of workers on a machine with these words, one worker per list of orders.
func newWatch(t *testing.T, l layout.Layout, w []api.Word, orders ...[]int) watch {
	t.Helper()
	n := len(orders)
	x := watch{layout: l, holds: make([]int64, n), scans: make([]scanWatch, n), removed: map[int64]bool{}, gone: map[int64]bool{}}
	var codes []task.Code
	for i, o := range orders {
		codes = append(codes, worker{layout: l, thread: i + 1, orders: o})
	}
	x.world = world(t, n, w, codes...)
	return x
}

func (x watch) copied() watch {
	x.holds, x.scans = slices.Clone(x.holds), slices.Clone(x.scans)
	for i := range x.scans {
		x.scans[i].stable = slices.Clone(x.scans[i].stable)
	}
	x.removed, x.gone = maps.Clone(x.removed), maps.Clone(x.gone)
	return x
}

func (x watch) value(at api.Loc) int64 {
	w, _ := x.world.M.Word(at)
	return w.Val
}

// step lets a thread make one step, in place, and checks what holds at every step.
func (x *watch) step(t *testing.T, thread, choice int) {
	t.Helper()
	i, cell := thread-1, x.layout.Cell(0)
	before, words := workerOf(x.world.Tasks[i]), x.world.M.Words()
	order := before.orders[0]
	act := x.pending(t, thread, order)
	x.begin(i, order, act)
	next, ok := x.world.Step(api.Pick{Thread: thread, Choice: choice})
	if !ok {
		t.Fatalf("thread %d makes no step", thread)
	}
	x.world = next
	if now := x.value(cell); order == replacing && now != words[cell].Val {
		x.removed[words[cell].Val] = true
	}
	allowed := hazardAt(thread)
	if order == replacing {
		allowed = cell
	}
	for at, w := range words {
		if now, _ := x.world.M.Word(api.Loc(at)); now != w && api.Loc(at) != allowed {
			t.Fatalf("location %d was %+v, is %+v by %+v", at, w, now, act)
		}
	}
	after := workerOf(x.world.Tasks[i])
	if after.ended == before.ended {
		return
	}
	switch order {
	case protecting:
		x.endProtect(t, i, act, after.last)
	case clearing:
		if v := x.value(hazardAt(thread)); v != 0 {
			t.Fatalf("thread %d has cleared its hazard, which is %d", thread, v)
		}
	case scanning:
		x.endScan(t, i, after.last)
	}
}

// pending returns the act that a thread waits for, and checks that its order may issue it.
func (x watch) pending(t *testing.T, thread, order int) api.Act {
	t.Helper()
	act, _ := x.world.Tasks[thread-1].Act()
	allowed := true
	switch order {
	case protecting:
		allowed = mayProtect(thread, x.layout.Cell(0), act)
	case clearing:
		allowed = mayClear(thread, act)
	case scanning:
		allowed = mayScan(x.layout.Threads, act)
	}
	if !allowed {
		t.Fatalf("order %d of thread %d: %+v", order, thread, act)
	}
	return act
}

// begin notes what an act of that order means, ahead of it.
func (x *watch) begin(i, order int, act api.Act) {
	if order == protecting || order == clearing {
		x.holds[i] = 0
	}
	if act.At == hazardAt(i+1) && act.Op != api.Look {
		for k := range x.scans {
			if x.scans[k].begun {
				x.scans[k].stable[i] = 0
			}
		}
	}
	if s := &x.scans[i]; order == scanning && !s.begun {
		*s = scanWatch{begun: true, removed: maps.Clone(x.removed)}
		for k := range x.layout.Threads {
			s.stable = append(s.stable, x.value(hazardAt(k+1)))
		}
	}
}

// endProtect checks a Protect that has just finished.
func (x *watch) endProtect(t *testing.T, i int, act api.Act, c task.Code) {
	t.Helper()
	now, _ := x.world.M.Word(x.layout.Cell(0))
	w, ok := hazard.Word(c)
	if act.Op != api.Look || act.At != x.layout.Cell(0) || !ok || w != now || x.value(hazardAt(i+1)) != w.Val {
		t.Fatalf("thread %d has protected %+v, %v by %+v; the cell is %+v, the hazard %d", i+1, w, ok, act, now, x.value(hazardAt(i+1)))
	}
	if x.gone[w.Val] {
		t.Fatalf("thread %d has protected %d behind a Scan that did not find it", i+1, w.Val)
	}
	x.holds[i] = w.Val
}

// endScan checks a Scan that has just finished: it has found each hazard that was there all the time, and no thread has
// protected and not cleared a value that was removed before the Scan, unless the Scan has found it.
func (x *watch) endScan(t *testing.T, i int, c task.Code) {
	t.Helper()
	held, ok := hazard.Held(c)
	if !ok || slices.Contains(held, 0) || len(held) > x.layout.Threads {
		t.Fatalf("a finished Scan: Held %v, %v", held, ok)
	}
	s := x.scans[i]
	x.scans[i] = scanWatch{}
	for k, h := range s.stable {
		if h != 0 && !slices.Contains(held, h) {
			t.Fatalf("Held %v, and the hazard of thread %d was %d all the time", held, k+1, h)
		}
	}
	for v := range s.removed {
		if slices.Contains(held, v) {
			x.found++
			continue
		}
		x.missed++
		x.gone[v] = true
		if slices.Contains(x.holds, v) {
			t.Fatalf("Held %v, removed %v, and the threads have protected %v", held, s.removed, x.holds)
		}
	}
}

// most returns within how many steps the orders of a worker are to end alone.
func (x watch) most(orders []int) int {
	steps := 0
	for _, o := range orders {
		steps += []int{protecting: 6, clearing: 4, scanning: 2 * x.layout.Threads, replacing: 1}[o]
	}
	return steps
}

// expectAlone checks that each thread would finish alone from here within the steps of P14.2 and P14.3.
func (x watch) expectAlone(t *testing.T) {
	t.Helper()
	for i := range x.world.Tasks {
		orders := workerOf(x.world.Tasks[i]).orders
		if len(orders) > 1 {
			continue // only the last order can be held against its own number of steps
		}
		if _, ok := x.world.Alone(i+1, x.most(orders)); !ok && !x.world.Stopped[i] {
			t.Fatalf("%v of thread %d are not done alone", orders, i+1)
		}
	}
}

// every calls end with each run that a schedule can lead to.
func (x watch) every(t *testing.T, end func(x watch)) {
	t.Helper()
	x.expectAlone(t)
	if x.world.Done() {
		end(x)
		return
	}
	for i, task := range x.world.Tasks {
		if !task.Done() {
			next := x.copied()
			next.step(t, i+1, 1)
			next.every(t, end)
		}
	}
}

// small returns the layout's memory up to cell 0, which contains 7: a small machine makes many schedules cheap.
func small(l layout.Layout) []api.Word {
	w := l.First()[:l.Cell(0)+1]
	w[l.Cell(0)] = api.Word{Val: 7, Ver: 2, Ref: 3}
	return w
}

// P14.1 to P14.4: every schedule of two or three threads.
func TestEverySchedule(t *testing.T) {
	p, c, s, r := protecting, clearing, scanning, replacing
	for _, x := range []struct {
		orders        [][]int
		least         int // of schedules
		found, missed bool
	}{
		{[][]int{{p}, {r, s}}, 20, true, true},
		{[][]int{{p, c}, {r, s}}, 35, true, true},
		{[][]int{{p}, {r, r, s}}, 40, true, true},
		{[][]int{{p, c, p}, {r, s}}, 120, true, true},
		{[][]int{{p, p}, {r, s, r}}, 200, true, true},
		{[][]int{{p, r}, {p, r, s}}, 200, true, true},
		{[][]int{{p}, {r}, {s}}, 140, true, true},
		{[][]int{{p}, {p}, {r, s}}, 1000, true, true},
		{[][]int{{s}, {c}, {s}}, 100, false, false},
	} {
		l := layout.Layout{Threads: len(x.orders), Cells: 1}
		schedules, found, missed := 0, 0, 0
		newWatch(t, l, small(l), x.orders...).every(t, func(end watch) {
			schedules++
			found, missed = found+end.found, missed+end.missed
		})
		if schedules < x.least || (found > 0) != x.found || (missed > 0) != x.missed {
			t.Errorf("%v: %d schedules, removed values: found %d, not found %d", x.orders, schedules, found, missed)
		}
	}
}

// anyOrders returns random orders.
func anyOrders(r *rand.Rand) []int {
	all := make([]int, 1+r.Intn(8))
	for i := range all {
		all[i] = []int{protecting, protecting, protecting, clearing, scanning, replacing}[r.Intn(6)]
	}
	return all
}

// P14.1 to P14.4: up to eight threads with random orders under random schedules, some of them stopped in the middle, on
// whole images with random words.
func TestRandomSchedules(t *testing.T) {
	found, missed := 0, 0
	for seed := range int64(150) {
		r := rand.New(rand.NewSource(seed))
		l := layout.Layout{Threads: 1 + r.Intn(8), Cells: 1, Blocks: r.Intn(2)}
		w := image(r, l.Size())
		var orders [][]int
		for range l.Threads {
			orders = append(orders, anyOrders(r))
		}
		x := newWatch(t, l, w, orders...)
		for !x.world.Done() {
			i := r.Intn(l.Threads)
			if x.world.Tasks[i].Done() || x.world.Stopped[i] {
				continue
			}
			if r.Intn(60) == 0 {
				x.world = x.world.Run(api.Pick{Kind: api.PickStop, Thread: i + 1})
				continue
			}
			x.step(t, i+1, r.Intn(5))
			if r.Intn(4) == 0 {
				x.expectAlone(t)
			}
		}
		found, missed = found+x.found, missed+x.missed
	}
	if found < 20 || missed < 20 {
		t.Errorf("removed values: found %d, not found %d", found, missed)
	}
}

// P14.3: a Protect that is disturbed before each of its reads goes on, and from each state it ends alone.
func TestDisturbedAgainAndAgain(t *testing.T) {
	l := layout.Layout{Threads: 2, Cells: 2}
	at := l.Cell(1)
	x := world(t, 2, l.First(), protect(t, l, 1, at))
	for i := range 200 {
		w, _ := x.M.Word(at)
		switch i % 3 {
		case 0:
			w.Ver++
		case 1:
			w.Ref++
		case 2:
			w.Val++
		}
		x.M, _, _ = x.M.Do(2, api.Act{Op: api.Store, At: at, New: w}, 0)
		alone, ok := x.Alone(1, 6)
		if found, known := hazard.Word(alone.Tasks[0].Code()); !ok || !known || found != w {
			t.Fatalf("alone after %d rounds: finished %v, found %+v, %v, wanted %+v", i, ok, found, known, w)
		}
		expectHazard(t, alone.M.Words(), 1, w.Val)
		x = x.Run(api.Pick{Thread: 1})
		if x.Done() {
			t.Fatalf("finished after %d rounds", i)
		}
	}
}

// P14.2: a Clear that others disturb ends within four steps all the same, and the hazard is 0 then.
func TestDisturbedClear(t *testing.T) {
	l := layout.Layout{Threads: 2, Cells: 2}
	x := world(t, 2, l.First(), clearCode(t, l, 1))
	for i := range int64(5) {
		if i == 4 {
			t.Fatal("not finished within four steps")
		}
		x.M, _, _ = x.M.Do(2, api.Act{Op: api.Store, At: hazardAt(1), New: api.Word{Val: 5 + i, Ver: uint32(i)}}, 0)
		x = x.Run(api.Pick{Thread: 1})
		if x.Done() {
			break
		}
	}
	expectHazard(t, x.M.Words(), 1, 0)
}

// P14.4: a Scan under way while the other hazards change: what is published before its first act and stays is found,
// whatever else happens between its acts.
func TestScanOfChangingHazards(t *testing.T) {
	for threads := 1; threads <= 8; threads++ {
		l := layout.Layout{Threads: threads, Cells: 1}
		for stays := 1; stays <= threads; stays++ {
			w := l.First()
			w[hazardAt(stays)].Val = 7
			x := world(t, threads, w, scan(t, l))
			for n := int64(10); !x.Done(); n++ {
				for other := 1; other <= threads; other++ {
					if other != stays {
						x.M, _, _ = x.M.Do(other, api.Act{Op: api.Store, At: hazardAt(other), New: api.Word{Val: n % 3 * n}}, 0)
					}
				}
				x = x.Run(api.Pick{Thread: 1})
			}
			if held, ok := hazard.Held(x.Tasks[0].Code()); !ok || !slices.Contains(held, 7) {
				t.Errorf("%d threads, the hazard of %d stays: Held %v, %v", threads, stays, held, ok)
			}
		}
	}
}
