package block_test

import (
	"maps"
	"math/rand"
	"slices"
	"strings"
	"testing"

	"simulcast/api"
	"simulcast/arena"
	"simulcast/block"
	"simulcast/desc"
	"simulcast/layout"
	"simulcast/model"
	"simulcast/task"
)

// watch follows one run of workers.
type watch struct {
	layout layout.Layout
	world  task.World
	model  model.Model         // of the logical words; other locations have zero words
	begun  map[*attempt]*facts // those whose first act has been made
	order  []*attempt          // those that have taken effect, in this order
	held   []int               // by thread: the owner number of the block that its swap has taken and not yet freed, or 0
	keys   []uint64            // by thread: what it has got so far
}

// facts are what is known of an attempt that has begun. They are not changed, but replaced.
type facts struct {
	missed bool // at some instant since it began, a word was not what it expects
	full   bool // at some instant since it began, no block was free, or it has taken one that has no number left
	effect bool // it has taken effect
	ended  bool
}

// newWatch returns a run of workers on a machine with these words, with one worker per list of orders.
func newWatch(t *testing.T, l layout.Layout, words []api.Word, durable bool, orders ...[]order) *watch {
	t.Helper()
	var codes []task.Code
	for i, o := range orders {
		w := worker{layout: l, durable: durable, thread: i + 1, orders: o}
		if at := l.Slot(i + 1); at >= 0 { // a thread that uses no slot needs none
			w.seq = int(words[at].Ver)
		}
		codes = append(codes, w)
	}
	x := &watch{layout: l, world: world(t, words, codes...), begun: map[*attempt]*facts{}, held: make([]int, len(orders)), keys: make([]uint64, len(orders))}
	x.model = logical(t, l, words)
	return x
}

func (x *watch) copied() *watch {
	y := *x
	y.begun, y.order, y.held, y.keys = maps.Clone(x.begun), slices.Clone(x.order), slices.Clone(x.held), slices.Clone(x.keys)
	return &y
}

// logical returns the model of the logical words of a memory.
func logical(t *testing.T, l layout.Layout, words []api.Word) model.Model {
	t.Helper()
	list := make([]api.Word, l.Slot(1))
	for _, at := range places(l) {
		if list[at] = words[at]; words[at].Ref == 0 {
			continue // package desc has tests of this, and most words are plain
		}
		w, e := desc.Logical(l, words, at)
		if e != api.OK {
			t.Fatal("Logical:", e)
		}
		list[at] = w
	}
	return model.New(list...)
}

func sameModel(a, b model.Model) bool { return slices.Equal(a.Words(), b.Words()) }

// note keeps what is known of an attempt, with a change.
func (x *watch) note(a *attempt, change func(f *facts)) {
	f := facts{}
	if x.begun[a] != nil {
		f = *x.begun[a]
	}
	change(&f)
	x.begun[a] = &f
}

// look lets all attempts that run see the words and the blocks as they are now.
func (x *watch) look() {
	full := !slices.Contains(x.freed(), true)
	for _, w := range x.workers() {
		if w.now == nil || x.begun[w.now] == nil {
			continue
		}
		missed := !x.model.Holds(w.now.entries...)
		x.note(w.now, func(f *facts) { f.missed, f.full = f.missed || missed, f.full || full })
	}
}

// freed tells of each block whether no swap has it.
func (x *watch) freed() []bool {
	list := slices.Repeat([]bool{true}, x.layout.Blocks)
	for _, who := range x.held {
		if who > 0 {
			list[who-9] = false
		}
	}
	return list
}

func (x *watch) workers() []worker {
	var all []worker
	for _, k := range x.world.Tasks {
		all = append(all, k.Code().(worker))
	}
	return all
}

// step lets a thread make one step, in place, and checks what holds at every step.
func (x *watch) step(t *testing.T, thread, choice int) {
	t.Helper()
	i := thread - 1
	act, _ := x.world.Tasks[i].Act()
	was, _ := x.world.M.Word(act.At)
	before := x.workers()
	if a := before[i].now; a != nil && x.begun[a] == nil {
		x.note(a, func(*facts) {})
		x.look()
	}
	world, ok := x.world.Step(api.Pick{Thread: thread, Choice: choice})
	if !ok {
		t.Fatalf("thread %d makes no step", thread)
	}
	x.world = world
	after := x.workers()[i]
	x.holds(t, i, before[i], after)
	if act.Op == api.Store || act.Op == api.Release || act.Op == api.Swap && was == act.Old {
		x.changed(t, before, thread, act)
		x.look()
	}
	gots := world.Tasks[i].Gots()
	x.keys[i] = mix(mix(x.keys[i], word64(gots[len(gots)-1].Word)), uint64(len(gots)))
	for _, r := range after.results[len(before[i].results):] {
		x.ended(t, r)
	}
}

// holds goes on with which block a thread's swap has, and checks what Who tells of it behind the thread's step.
func (x *watch) holds(t *testing.T, i int, before, after worker) {
	t.Helper()
	who := 0
	if after.now != nil && after.now == before.now {
		who = block.Who(after.code)
	}
	switch {
	case who > 0 && x.held[i] == 0 && !slices.Contains(x.held, who):
		x.held[i] = who
		if w, _ := x.world.M.Word(x.layout.Block(who - 9)); w.Ver >= api.MaxSeq {
			x.note(after.now, func(f *facts) { f.full = true })
		}
	case who > 0 && who != x.held[i]:
		t.Fatalf("thread %d holds %d, and the threads had %v", i+1, who, x.held)
	case before.now != nil && after.now != before.now:
		x.held[i] = 0
	}
}

// changed checks an act that has changed a word: no logical word changes but where a swap that runs takes effect, and the
// used blocks are those that swaps have.
func (x *watch) changed(t *testing.T, before []worker, thread int, act api.Act) {
	t.Helper()
	wanted := x.model
	if a := x.effective(t, before, thread, act); a != nil {
		f := x.begun[a]
		next, ok, e := x.model.Swap(a.entries...)
		if f == nil || f.effect || f.ended || !ok || e != api.OK {
			t.Fatalf("%+v lets %+v take effect, of which is known %+v; the words are %v", act, a, f, x.model.Words())
		}
		x.note(a, func(f *facts) { f.effect = true })
		x.order = append(x.order, a)
		wanted = next
	}
	words := x.world.M.Words()
	x.model = logical(t, x.layout, words)
	if !sameModel(x.model, wanted) {
		t.Fatalf("%+v changes the logical words to %v, wanted %v", act, x.model.Words(), wanted.Words())
	}
	free := slices.Repeat([]bool{true}, x.layout.Blocks)
	for _, number := range arena.Used(x.layout, words) {
		free[number] = false
	}
	if !slices.Equal(free, x.freed()) {
		t.Fatalf("behind %+v the free blocks are %v, and the threads have %v", act, free, x.held)
	}
}

// effective returns the attempt that takes effect by this act of a thread: one with a descriptor does when its status
// becomes Done, and Simple when it replaces a word that nobody holds.
func (x *watch) effective(t *testing.T, before []worker, thread int, act api.Act) *attempt {
	t.Helper()
	if act.Op != api.Swap {
		return nil
	}
	decided := act.Old.Val == open && act.New.Val == done && act.New.Ver == act.Old.Ver
	for i, w := range before {
		a := w.now
		switch {
		case a == nil:
		case a.kind == inBlock && x.held[i] > 0 && act.At == x.layout.Block(x.held[i]-9) && decided:
			want(t, "Who of a swap that takes effect", block.Who(w.code), x.held[i])
			return a
		case a.kind == inSlot && act.At == x.layout.Slot(a.thread) && act.New == (api.Word{Val: done, Ver: uint32(a.seq)}):
			return a
		case a.kind == simple && a.thread == thread && act.Old.Ref == 0 && act.New.Ref == 0 && act.At == a.entries[0].At:
			return a
		}
	}
	return nil
}

// ended checks the answer of a swap that has just finished.
func (x *watch) ended(t *testing.T, r result) {
	t.Helper()
	f := x.begun[r.of]
	switch {
	case f == nil || f.ended:
		t.Fatalf("%+v has finished: %+v", r.of, f)
	case r.done != f.effect:
		t.Fatalf("%+v answers %v, of which is known %+v", r.of, r.done, f)
	case r.err == api.ErrFull && (r.done || r.of.kind != inBlock || !f.full), r.err != api.OK && r.err != api.ErrFull:
		t.Fatalf("%+v ends with %d, of which is known %+v", r.of, r.err, f)
	case !r.done && r.err == api.OK && !f.missed:
		t.Fatalf("%+v has failed, and has had all its words", r.of)
	}
	x.note(r.of, func(f *facts) { f.ended = true })
}

// expectFree checks that nobody holds any location or any block.
func (x *watch) expectFree(t *testing.T) {
	t.Helper()
	for _, at := range places(x.layout) {
		if w, _ := x.world.M.Word(at); w.Ref != 0 {
			t.Fatalf("all have finished, and location %d is %+v", at, w)
		}
	}
	if used := arena.Used(x.layout, x.world.M.Words()); len(used) > 0 {
		t.Fatalf("all have finished, and blocks %v are used", used)
	}
}

// expectAlone checks that each thread would finish alone from here, within so many steps for each swap that is left.
func (x *watch) expectAlone(t *testing.T, steps int) {
	t.Helper()
	for i, w := range x.workers() {
		if x.world.Stopped[i] {
			continue
		}
		left := 1
		for _, o := range w.orders {
			left += o.tries
		}
		alone, ok := x.world.Alone(i+1, steps*left)
		if !ok {
			t.Fatalf("thread %d has not finished alone after %d steps", i+1, alone.Tasks[i].Steps()-x.world.Tasks[i].Steps())
		}
	}
}

func mix(h, n uint64) uint64 {
	h = (h ^ n) * 0x9e3779b97f4a7c15
	return h ^ h>>29
}

func word64(w api.Word) uint64 {
	return mix(mix(mix(1, uint64(w.Val)), uint64(w.Ver)), uint64(w.Ref))
}

// key returns a number of what the threads have got so far, of the memory, and of what the attempts that run have met.
// All that follows depends on nothing else, as long as no Load may be stale.
func (x *watch) key() uint64 {
	h := uint64(1)
	for i, k := range x.keys {
		h = mix(h, k)
		if a := x.workers()[i].now; a != nil && x.begun[a] != nil {
			f := x.begun[a]
			h = mix(h, map[[2]bool]uint64{{true, false}: 7, {false, true}: 8, {true, true}: 9}[[2]bool{f.missed, f.full}])
		}
	}
	for _, w := range x.world.M.Words() {
		if w != (api.Word{}) {
			h = mix(h, word64(w))
		} else {
			h++
		}
	}
	return h
}

// every goes through all that schedules can lead to, each state once, and calls end with each end.
func (x *watch) every(t *testing.T, seen map[uint64]bool, steps int, end func(x *watch)) {
	t.Helper()
	k := x.key()
	if seen[k] {
		return
	}
	seen[k] = true
	if k%32 == 0 { // a part of the states, since these runs take most of the time
		x.expectAlone(t, steps)
	}
	if x.world.Done() {
		x.expectFree(t)
		end(x)
		return
	}
	for i, k := range x.world.Tasks {
		if !k.Done() {
			next := x.copied()
			next.step(t, i+1, 0)
			next.every(t, seen, steps, end)
		}
	}
}

func add(at api.Loc, more int64) change { return change{at, more, true} }

func read(at api.Loc) change { return change{at, 0, false} }

func once(list ...change) order { return order{list, inBlock, 1} }

func slotted(list ...change) order { return order{list, inSlot, 1} }

func alonely(c change) order { return order{[]change{c}, simple, 1} }

// P23.2, P23.3: every schedule of two or three threads whose swaps meet, with blocks enough and without.
func TestEverySchedule(t *testing.T) {
	type threads = [][]order
	a, b, c := api.Loc(0), api.Loc(1), api.Loc(2) // cells
	for what, x := range map[string]struct {
		slots, blocks int
		threads       threads
		outcomes      string // which swaps of the threads are done, one thread after another; f where no block was free
	}{
		"a word each":             {1, 2, threads{{once(add(a, 1))}, {once(add(a, 2))}}, "++ +- -+"},
		"a word each, one block":  {1, 1, threads{{once(add(a, 1))}, {once(add(a, 2))}}, "++ +- +f -+ f+"},
		"one reads":               {1, 2, threads{{once(read(a))}, {once(add(a, 2))}}, "++ -+"},
		"both read":               {1, 2, threads{{once(read(a))}, {once(read(a))}}, "++"},
		"two words each":          {1, 2, threads{{once(add(a, 1), add(b, -1))}, {once(add(b, 2), add(c, -2))}}, "++ +- -+"},
		"crosswise":               {1, 2, threads{{once(add(a, 1), read(b))}, {once(read(a), add(b, 2))}}, "++ +- -+"},
		"and one in a slot":       {2, 1, threads{{once(add(a, 1))}, {slotted(add(a, 2))}}, "++ +- -+"},
		"and Simple":              {1, 1, threads{{once(add(a, 1), add(b, -1))}, {alonely(add(b, 2))}}, "++ +- -+"},
		"again":                   {1, 1, threads{{once(add(a, 1)), {nil, again, 1}}, {alonely(add(a, 2))}}, "+-+ +-- --+"},
		"Simple and two others":   {1, 1, threads{{alonely(add(a, 1))}, {alonely(add(a, 2))}, {once(add(a, 4))}}, "+++ ++- +-+ +-- -++ -+- --+"},
		"one block for two swaps": {1, 1, threads{{once(add(a, 1)), once(add(b, 1))}, {once(add(a, 2))}}, "+++ ++- ++f +f+ +f- -++ f++ ff+"},
	} {
		t.Run(what, func(t *testing.T) {
			t.Parallel()
			l := layout.Layout{Threads: x.slots, Cells: 3, Blocks: x.blocks}
			m := scene(l)
			m[l.Cell(0)].Val, m[l.Cell(1)].Val, m[l.Cell(2)] = 5, 7, api.Word{Val: 9, Ver: 3}
			outcomes, seen := map[string]int{}, map[uint64]bool{}
			newWatch(t, l, m, false, inCells(l, x.threads)...).every(t, seen, 200, func(end *watch) {
				s := ""
				for _, w := range end.workers() {
					for _, r := range w.results {
						s += mark(r)
					}
				}
				outcomes[s]++
			})
			if got := strings.Join(slices.Sorted(maps.Keys(outcomes)), " "); got != x.outcomes {
				t.Errorf("the outcomes are %s, wanted %s", got, x.outcomes)
			}
			if len(seen) < 300 {
				t.Errorf("only %d states", len(seen))
			}
		})
	}
}

// inCells returns orders whose locations are the cells of the layout with these numbers.
func inCells(l layout.Layout, threads [][]order) [][]order {
	var all [][]order
	for _, list := range threads {
		var orders []order
		for _, o := range list {
			o.changes = slices.Clone(o.changes)
			for i, c := range o.changes {
				o.changes[i].at = l.Cell(int(c.at))
			}
			orders = append(orders, o)
		}
		all = append(all, orders)
	}
	return all
}

func mark(r result) string {
	switch {
	case r.err != api.OK:
		return "f"
	case r.done:
		return "+"
	}
	return "-"
}

// anyChanges returns random changes of some of the locations, which add nothing to their sum.
func anyChanges(r *rand.Rand, at []api.Loc) []change {
	var list []change
	sum := int64(0)
	for _, a := range at {
		if r.Intn(len(at)) > 2 {
			continue
		}
		c := change{a, int64(r.Intn(9) - 4), r.Intn(4) > 0}
		if !c.write {
			c.more = 0
		}
		sum += c.more
		list = append(list, c)
	}
	for i, c := range list {
		if c.write {
			list[i].more -= sum
			return list
		}
	}
	return append(list[:0], change{at[0], 0, true})
}

// anyOrders returns random orders of a thread: in blocks alone, or mixed with others.
func anyOrders(r *rand.Rand, at []api.Loc, mixed bool) []order {
	var orders []order
	for range 1 + r.Intn(6) {
		o := order{anyChanges(r, at), inBlock, 1 + r.Intn(3)}
		switch n := r.Intn(8); {
		case n == 0:
			o.kind = again
		case n < 3 && mixed:
			o.kind = inSlot
		case n == 3 && mixed:
			o.kind, o.changes = simple, []change{add(at[r.Intn(len(at))], 0)}
		}
		orders = append(orders, o)
	}
	return orders
}

// anyWatch returns a run of up to so many threads with random orders, which keep the sum of the words.
func anyWatch(t *testing.T, r *rand.Rand, threads int, durable, mixed bool) *watch {
	t.Helper()
	l := layout.Layout{Threads: 1 + r.Intn(threads), Cells: 1 + r.Intn(5)}
	l.Blocks = 1 + r.Intn(l.Threads+1)
	m := scene(l)
	at := []api.Loc{l.Record(l.Threads) + 1}
	for i := range l.Cells {
		at = append(at, l.Cell(i))
		m[l.Cell(i)] = api.Word{Val: int64(r.Intn(100)), Ver: uint32(r.Intn(3))}
	}
	for i := range l.Blocks {
		if r.Intn(8) == 0 {
			m[l.Block(i)].Ver = api.MaxSeq - 1 - uint32(r.Intn(3)) // few numbers are left
		}
	}
	var orders [][]order
	for range l.Threads {
		orders = append(orders, anyOrders(r, at, mixed))
	}
	return newWatch(t, l, m, durable, orders...)
}

// anyStep lets a thread make some steps, or stops it, if it has not finished.
func (x *watch) anyStep(t *testing.T, r *rand.Rand, stops bool) {
	t.Helper()
	i := r.Intn(x.layout.Threads)
	if x.world.Tasks[i].Done() || x.world.Stopped[i] {
		return
	}
	if stops && r.Intn(150) == 0 {
		x.world = x.world.Run(api.Pick{Kind: api.PickStop, Thread: i + 1})
		return
	}
	for n := 1 + r.Intn(4)*r.Intn(8); n > 0 && !x.world.Tasks[i].Done(); n-- {
		x.step(t, i+1, r.Intn(6))
	}
}

// P23.2, P23.3: up to eight threads with random swaps, in blocks alone and mixed with others, under random schedules with
// stale Loads; in most runs some threads stop in the middle.
func TestRandomSchedules(t *testing.T) {
	marks, effects, kept := map[string]int{}, 0, 0
	for seed := range int64(80) {
		r := rand.New(rand.NewSource(seed))
		stops := seed%3 > 0
		x := anyWatch(t, r, 8, seed%4 == 1, seed%2 == 0)
		sum, first := sumOf(x.model), x.model
		for !x.world.Done() {
			x.anyStep(t, r, stops)
			if r.Intn(60) == 0 {
				x.expectAlone(t, 600)
			}
			if sumOf(x.model) != sum {
				t.Fatalf("seed %d: the sum of the words is %d, wanted %d", seed, sumOf(x.model), sum)
			}
		}
		if !stops {
			x.expectFree(t)
		}
		x.expectOrder(t, first)
		kept += x.expectKept(t)
		for _, w := range x.workers() {
			for _, k := range w.results {
				marks[mark(k)]++
			}
		}
		effects += len(x.order)
	}
	if marks["+"] < 200 || marks["-"] < 200 || marks["f"] < 100 || effects <= marks["+"] || kept < 10 {
		t.Errorf("the answers are %v, %d swaps took effect, %d blocks are left behind", marks, effects, kept)
	}
}

func sumOf(m model.Model) int64 {
	sum := int64(0)
	for _, w := range m.Words() {
		sum += w.Val
	}
	return sum
}

// expectOrder checks that the swaps that have taken effect, one after another, lead from the first model to the logical
// words of now, and that they are all those which are done.
func (x *watch) expectOrder(t *testing.T, first model.Model) {
	t.Helper()
	m := first
	for _, a := range x.order {
		next, ok, e := m.Swap(a.entries...)
		if !ok || e != api.OK {
			t.Fatalf("%+v: Swap of the model %v, %d", a, ok, e)
		}
		m = next
	}
	if !sameModel(m, logical(t, x.layout, x.world.M.Words())) {
		t.Fatalf("the words are not those of the model: %v", m.Words())
	}
	for _, w := range x.workers() {
		for _, r := range w.results {
			want(t, "a swap is in the order", slices.Contains(x.order, r.of), r.done)
		}
	}
}

// expectKept checks that of the threads, which have all finished or stopped, only those that stopped in the middle of a
// swap have a block, and one each. It returns how many these are.
func (x *watch) expectKept(t *testing.T) int {
	t.Helper()
	var kept []int
	for i, who := range x.held {
		if who > 0 {
			kept = append(kept, who-9)
			want(t, "a thread with a block was stopped", x.world.Stopped[i], true)
		}
	}
	slices.Sort(kept)
	if used := arena.Used(x.layout, x.world.M.Words()); !slices.Equal(used, kept) {
		t.Fatalf("blocks %v are used, and the threads have %v", used, x.held)
	}
	return len(kept)
}

// P23.3: a thread stops behind each number of its acts, another one does the same, and a third one goes on.
func TestStopped(t *testing.T) {
	for _, blocks := range []int{2, 3} {
		l := layout.Layout{Threads: 1, Cells: 3, Blocks: blocks}
		a, b, c := l.Cell(0), l.Cell(1), l.Cell(2)
		for i := 0; i < 48; i += 2 {
			for j := range 48 {
				x := newWatch(t, l, scene(l), false, []order{once(add(a, 1), add(c, 2))}, []order{once(read(a), add(b, 2))}, []order{{[]change{add(a, 1), add(b, 1), add(c, 1)}, inBlock, 3}, {[]change{add(a, 1)}, inBlock, 3}})
				for thread, n := range []int{i, j} {
					x.steps(t, thread+1, n)
					x.world = x.world.Run(api.Pick{Kind: api.PickStop, Thread: thread + 1})
				}
				kept := x.expectKept(t)
				x.steps(t, 3, 400)
				if !x.world.Done() {
					t.Fatalf("two threads stop behind %d and %d acts, and the third has not finished", i, j)
				}
				want(t, "blocks that are used at the end", x.expectKept(t), kept)
				// A try fails where it meets one of the others, and completes it, or where no block is left.
				wanted := 2
				if kept == blocks {
					wanted = 0
				}
				succeeded := 0
				for _, r := range x.workers()[2].results {
					want(t, "no block is free", r.err, map[bool]api.Errno{true: api.ErrFull}[kept == blocks])
					if r.done {
						succeeded++
					}
				}
				want(t, "swaps that are done", succeeded, wanted)
			}
		}
	}
}

// steps lets a thread make so many steps, or fewer if it has finished by then.
func (x *watch) steps(t *testing.T, thread, n int) {
	t.Helper()
	for ; n > 0 && !x.world.Tasks[thread-1].Done(); n-- {
		x.step(t, thread, 3)
	}
}
