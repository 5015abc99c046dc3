package arena_test

import (
	"maps"
	"math/rand"
	"slices"
	"testing"

	"simulcast/api"
	"simulcast/arena"
	"simulcast/layout"
	"simulcast/machine"
	"simulcast/task"
)

// watch follows one run of workers.
type watch struct {
	layout layout.Layout
	world  task.World
	owned  map[int]bool           // the blocks that are allocated, by the successful swaps
	read   []map[api.Loc]api.Word // by thread: what its operation under way has read of each bitmap word last
	begun  []bool                 // by thread: whether its operation has made a step
	counts map[api.Errno]int      // of finished operations
}

// newWatch returns a run of workers on a machine with these words, one worker per list of orders.
func newWatch(t *testing.T, l layout.Layout, w []api.Word, orders ...[]order) watch {
	t.Helper()
	m, e := machine.New(len(orders), w...)
	if e != api.OK {
		t.Fatal("New:", e)
	}
	var codes []task.Code
	x := watch{layout: l, owned: map[int]bool{}, counts: map[api.Errno]int{}}
	for _, o := range orders {
		codes = append(codes, worker{layout: l, orders: o})
		x.read, x.begun = append(x.read, map[api.Loc]api.Word{}), append(x.begun, false)
	}
	x.world, _ = task.Make(m, codes...)
	for i := range l.Blocks {
		if at, bit := l.Bits(i); w[at].Val&bit != 0 {
			x.owned[i] = true
		}
	}
	return x
}

func (x watch) copied() watch {
	x.owned, x.counts = maps.Clone(x.owned), maps.Clone(x.counts)
	x.begun, x.read = slices.Clone(x.begun), slices.Clone(x.read)
	for i := range x.read {
		x.read[i] = maps.Clone(x.read[i])
	}
	return x
}

// step lets a thread make one step, in place, and checks what holds at every step.
func (x *watch) step(t *testing.T, thread int) {
	t.Helper()
	i := thread - 1
	before := workerOf(x.world.Tasks[i])
	act, _ := x.world.Tasks[i].Act()
	current := before.orders[0]
	expectAct(t, x.layout, act, current.kind == taking)
	word, _ := x.world.M.Word(act.At)
	next, ok := x.world.Step(api.Pick{Thread: thread, Choice: 2})
	if !ok {
		t.Fatalf("thread %d makes no step", thread)
	}
	x.world = next
	x.begun[i] = true
	x.read[i][act.At] = word
	changed := act.Op == api.Swap && word == act.Old
	if changed {
		x.change(t, act)
	}
	x.expectUsed(t)
	after := workerOf(x.world.Tasks[i])
	if len(after.outcomes) == len(before.outcomes) {
		if changed {
			t.Fatalf("%+v goes on after a successful swap", current)
		}
		return
	}
	x.expectOutcome(t, i, after.outcomes[len(after.outcomes)-1], act, changed)
	x.begun[i] = false
	clear(x.read[i])
}

// change notes a successful swap: a block must be free to be taken, and taken to be given.
func (x *watch) change(t *testing.T, act api.Act) {
	t.Helper()
	for i := range x.layout.Blocks {
		at, bit := x.layout.Bits(i)
		if at != act.At || act.Old.Val^act.New.Val != bit {
			continue
		}
		isTaken := act.New.Val&bit != 0
		if x.owned[i] == isTaken {
			t.Fatalf("block %d was taken or given twice by %+v", i, act)
		}
		if isTaken {
			x.owned[i] = true
		} else {
			delete(x.owned, i)
		}
	}
}

// expectUsed checks the bitmap against the blocks that are allocated.
func (x *watch) expectUsed(t *testing.T) {
	t.Helper()
	for i := range x.layout.Blocks {
		at, bit := x.layout.Bits(i)
		if w, _ := x.world.M.Word(at); (w.Val&bit != 0) != x.owned[i] {
			t.Fatalf("block %d: owned %v, its word is %+v", i, x.owned[i], w)
		}
	}
}

// expectOutcome checks the result of an operation that has just finished against its last act and what it had read.
func (x *watch) expectOutcome(t *testing.T, i int, o outcome, act api.Act, changed bool) {
	t.Helper()
	x.counts[o.err]++
	at, bit := x.layout.Bits(o.block)
	switch {
	case o.err == api.OK:
		if !changed || at != act.At || act.Old.Val^act.New.Val != bit || o.order.kind == giving && o.block != o.order.n {
			t.Fatalf("%+v by the act %+v, changed %v", o, act, changed)
		}
	case o.order.kind == taking && o.err == api.ErrFull && o.block == 0 && !changed:
		for b := range x.layout.Blocks {
			at, bit := x.layout.Bits(b)
			if w, ok := x.read[i][at]; !ok || w.Val&bit == 0 {
				t.Fatalf("%+v: block %d: read %v, %+v", o, b, ok, w)
			}
		}
	case o.order.kind == giving && o.err == api.ErrState && o.block == o.order.n && !changed:
		if w, ok := x.read[i][at]; !ok || w.Val&bit != 0 {
			t.Fatalf("%+v: read %v, %+v", o, ok, w)
		}
	default:
		t.Fatalf("%+v, changed %v", o, changed)
	}
}

// expectAlone checks that each thread would finish alone from here within the steps of P12.4.
func (x *watch) expectAlone(t *testing.T) {
	t.Helper()
	each := words(x.layout) + 3
	for i, begun := range x.begun {
		w := workerOf(x.world.Tasks[i])
		most := each * len(w.orders)
		if begun {
			most += each
		}
		if n, ok := x.world.Alone(i+1, most); !ok {
			t.Fatalf("%+v has not finished alone: %v", w.orders, n.Tasks[i].Gots())
		}
	}
}

// every calls end with each run that a schedule can lead to.
func (x watch) every(t *testing.T, end func(x watch)) {
	t.Helper()
	x.expectAlone(t)
	if x.world.Done() {
		end(x)
		return
	}
	for i, task := range x.world.Tasks {
		if !task.Done() {
			next := x.copied()
			next.step(t, i+1)
			next.every(t, end)
		}
	}
}

// small returns the layout's memory up to its bitmaps, with these blocks free and all others used: a small machine
// makes many schedules cheap.
func small(l layout.Layout, free ...int) []api.Word {
	at, _ := l.Bits(0)
	w := l.First()[:at+2]
	for i := range l.Blocks {
		if at, bit := l.Bits(i); !slices.Contains(free, i) {
			w[at].Val |= bit
		}
	}
	w[at].Ver, w[at].Ref, w[at+1].Ver = 7, 5, 9
	return w
}

// every runs the workers under every schedule, and returns the sets of results that occurred, by their counts.
func every(t *testing.T, l layout.Layout, w []api.Word, orders ...[]order) map[[3]int]int {
	t.Helper()
	seen := map[[3]int]int{}
	newWatch(t, l, w, orders...).every(t, func(x watch) {
		seen[[3]int{x.counts[api.OK], x.counts[api.ErrFull], x.counts[api.ErrState]}]++
		for i, before := range w {
			after, _ := x.world.M.Word(api.Loc(i))
			if isBitmap(l, api.Loc(i)) {
				after.Val = before.Val
			}
			if after != before {
				t.Fatalf("location %d was %+v, is %+v", i, before, after)
			}
		}
	})
	return seen
}

func only(t *testing.T, what string, seen map[[3]int]int, wanted ...[3]int) {
	t.Helper()
	runs := 0
	for counts, n := range seen {
		runs += n
		if !slices.Contains(wanted, counts) {
			t.Errorf("%s: %v (OK, ErrFull, ErrState) in %d runs", what, counts, n)
		}
	}
	for _, counts := range wanted {
		if seen[counts] == 0 {
			t.Errorf("%s: never %v", what, counts)
		}
	}
	if runs < 20 {
		t.Errorf("%s: only %d runs", what, runs)
	}
}

// P12.4: Takes of two or three threads under every schedule: as many succeed as blocks are free.
func TestEveryScheduleOfTakes(t *testing.T) {
	one := func(from int) []order { return []order{{taking, from}} }
	l := layout.Layout{Threads: 3, Cells: 1, Blocks: 2}
	only(t, "two of one word", every(t, l, small(l, 0, 1), one(0), one(0), one(1)), [3]int{2, 1, 0})
	only(t, "one of one word", every(t, l, small(l, 0), one(0), one(1), one(1)), [3]int{1, 2, 0})
	l.Blocks = 34
	only(t, "the last block", every(t, l, small(l, 33), one(0), one(33), one(5)), [3]int{1, 2, 0})
	only(t, "one of each word", every(t, l, small(l, 3, 33), one(4), one(33), one(2)), [3]int{2, 1, 0})
	only(t, "three of two words", every(t, l, small(l, 0, 31, 32), one(0), one(31), one(32)), [3]int{3, 0, 0})
	only(t, "none", every(t, l, small(l), one(0), one(31), one(33)), [3]int{0, 3, 0})
}

// P12.4: Gives under every schedule: of those of one block exactly one succeeds.
func TestEveryScheduleOfGives(t *testing.T) {
	one := func(block int) []order { return []order{{giving, block}} }
	l := layout.Layout{Threads: 3, Cells: 1, Blocks: 34}
	only(t, "one block", every(t, l, small(l), one(5), one(5), one(5)), [3]int{1, 0, 2})
	only(t, "three blocks of one word", every(t, l, small(l), one(0), one(5), one(31)), [3]int{3, 0, 0})
	only(t, "blocks of two words", every(t, l, small(l), one(33), one(5), one(33)), [3]int{2, 0, 1})
	only(t, "a free block", every(t, l, small(l, 5), one(5), one(6), one(33)), [3]int{2, 0, 1})
}

// P12.4: Takes and Gives mixed, under every schedule.
func TestEveryScheduleMixed(t *testing.T) {
	l := layout.Layout{Threads: 3, Cells: 1, Blocks: 34}
	both := []order{{taking, 33}, {returning, 0}}
	only(t, "one gives, two take", every(t, l, small(l), []order{{giving, 2}}, []order{{taking, 3}}, []order{{taking, 33}}), [3]int{2, 1, 0}, [3]int{1, 2, 0})
	only(t, "taken and returned", every(t, l, small(l, 1, 33), both, both), [3]int{4, 0, 0})
	only(t, "one block for two", every(t, l, small(l, 5), []order{{taking, 6}, {returning, 0}}, []order{{taking, 5}}), [3]int{3, 0, 0}, [3]int{2, 1, 0})
	l.Blocks = 1
	only(t, "taken by another", every(t, l, small(l, 0), []order{{taking, 0}}, []order{{giving, 0}}, []order{{taking, 0}}),
		[3]int{3, 0, 0}, [3]int{2, 1, 0}, [3]int{1, 1, 1})
}

// anyOrders returns random orders.
func anyOrders(r *rand.Rand, l layout.Layout) []order {
	var all []order
	for range 1 + r.Intn(6) {
		switch r.Intn(5) {
		case 0:
			all = append(all, order{giving, r.Intn(l.Blocks)})
		case 1, 2:
			all = append(all, order{returning, 0})
		default:
			all = append(all, order{taking, r.Intn(l.Blocks)})
		}
	}
	return all
}

// P12.4: up to eight threads with random orders under random schedules, on whole images with random words.
func TestRandomSchedules(t *testing.T) {
	counts := map[api.Errno]int{}
	for seed := range int64(150) {
		r := rand.New(rand.NewSource(seed))
		l := layout.Layout{Threads: 1 + r.Intn(8), Cells: 1, Blocks: numbers[r.Intn(len(numbers))]}
		var used []int
		for i := range l.Blocks {
			if r.Intn(l.Blocks) > 2 {
				used = append(used, i)
			}
		}
		first := marked(r, l, used)
		var orders [][]order
		for range l.Threads {
			orders = append(orders, anyOrders(r, l))
		}
		x := newWatch(t, l, first, orders...)
		for !x.world.Done() {
			if i := r.Intn(l.Threads); !x.world.Tasks[i].Done() {
				x.step(t, i+1)
				if r.Intn(5) == 0 {
					x.expectAlone(t)
				}
			}
		}
		expectEnd(t, x, first)
		for e, n := range x.counts {
			counts[e] += n
		}
	}
	if counts[api.OK] < 100 || counts[api.ErrFull] < 10 || counts[api.ErrState] < 10 {
		t.Errorf("only %v", counts)
	}
}

// expectEnd checks the memory behind a run: the used blocks are those that were taken and not given, nothing else has
// changed, and Used agrees.
func expectEnd(t *testing.T, x watch, first []api.Word) {
	t.Helper()
	owned := slices.Sorted(maps.Keys(x.owned))
	after := x.world.M.Words()
	if used := arena.Used(x.layout, after); !slices.Equal(used, owned) {
		t.Fatalf("used %v, owned %v", used, owned)
	}
	wanted := slices.Clone(first)
	for i := range x.layout.Blocks {
		at, bit := x.layout.Bits(i)
		wanted[at].Val &^= bit
		if x.owned[i] {
			wanted[at].Val |= bit
		}
	}
	if !slices.Equal(after, wanted) {
		t.Fatal("other words have changed")
	}
}

// P12.4: threads that are stopped in the middle, at every step, do not hinder the others.
func TestStopped(t *testing.T) {
	l := layout.Layout{Threads: 4, Cells: 1, Blocks: 34}
	w := marked(rand.New(rand.NewSource(1)), l, []int{0, 1, 2, 3, 4, 5, 6, 7, 8, 9, 10, 12, 13, 14, 20, 31, 32})
	for stopAt1 := range 4 {
		for stopAt2 := range 4 {
			x := newWatch(t, l, w, []order{{taking, 2}}, []order{{giving, 4}}, []order{{taking, 33}, {returning, 0}, {taking, 0}}, []order{{giving, 7}, {taking, 7}})
			for range stopAt1 {
				if !x.world.Tasks[0].Done() {
					x.step(t, 1)
				}
			}
			for range stopAt2 {
				if !x.world.Tasks[1].Done() {
					x.step(t, 2)
				}
			}
			x.world = x.world.Run(api.Pick{Kind: api.PickStop, Thread: 1}, api.Pick{Kind: api.PickStop, Thread: 2})
			for turn := 0; !x.world.Done(); turn++ {
				if turn > 99 {
					t.Fatal("the others do not finish")
				}
				if i := 2 + turn%2; !x.world.Tasks[i].Done() {
					x.step(t, i+1)
				}
			}
			expectEnd(t, x, w)
		}
	}
}

// P12.4: a code that is disturbed before each of its swaps goes on, and from each state it ends alone.
func TestDisturbedAgainAndAgain(t *testing.T) {
	l := layout.Layout{Threads: 2, Cells: 1, Blocks: 34}
	for _, start := range []task.Code{take(t, l, 20), take(t, l, 33), give(t, l, 0), give(t, l, 33)} {
		m, _ := machine.New(2, small(l, 5, 6, 7)...)
		x, _ := task.Make(m, start)
		for i := range 200 {
			a, _ := x.Tasks[0].Act()
			// Each round changes another field of the word; the blocks of the word stay used or free.
			w, _ := x.M.Word(a.At)
			switch i % 3 {
			case 0:
				w.Ver++
			case 1:
				w.Ref++
			case 2:
				w.Val ^= 1 << 40
			}
			x.M, _, _ = x.M.Do(2, api.Act{Op: api.Store, At: a.At, New: w}, 0)
			alone, ok := x.Alone(1, 2*(words(l)+3))
			if block, e, done := arena.Block(alone.Tasks[0].Code()); !ok || !done || e != api.OK || block != 5 && block != 0 && block != 33 {
				t.Fatalf("after %d rounds: finished %v, Block %d, %d, %v", i, ok, block, e, done)
			}
			x = x.Run(api.Pick{Thread: 1})
			if x.Done() {
				t.Fatalf("finished by %+v after %d rounds", a, i)
			}
			expectUnfinished(t, "disturbed", x.Tasks[0].Code())
		}
	}
}
