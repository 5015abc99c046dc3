package swap_test

import (
	"maps"
	"math/rand"
	"slices"
	"strings"
	"testing"

	"simulcast/api"
	"simulcast/desc"
	"simulcast/layout"
	"simulcast/model"
	"simulcast/task"
)

// watch follows one run of workers.
type watch struct {
	layout layout.Layout
	world  task.World
	model  model.Model         // of the logical words; other locations have zero words
	begun  map[*attempt]*facts // those whose first act has been made
	left   []*attempt          // those that the memory had at first, undecided
	order  []*attempt          // those that have taken effect, in this order
	keys   []uint64            // by thread: what it has got so far
}

// facts are what is known of an attempt that has begun. They are not changed, but replaced.
type facts struct {
	missed   bool // at some instant since it began, a word was not what it expects
	rejected bool // its number was not above that of the status word when it began
	effect   bool // it has taken effect
	ended    bool
}

// newWatch returns a run of workers on a machine with these words, with one worker per list of orders. The machine may
// lack what is behind the words.
func newWatch(t *testing.T, l layout.Layout, words []api.Word, durable bool, orders ...[]order) *watch {
	t.Helper()
	var codes []task.Code
	for i, o := range orders {
		codes = append(codes, worker{layout: l, durable: durable, thread: i + 1, orders: o, seq: int(words[l.Slot(i+1)].Ver)})
	}
	x := &watch{layout: l, world: world(t, words, codes...), begun: map[*attempt]*facts{}, keys: make([]uint64, len(orders))}
	words = padded(l, words)
	x.model = logical(t, l, words)
	for who := range l.Threads {
		if d, e := desc.Read(l, words, who+1); e == api.OK && d.Status == open {
			a := &attempt{who + 1, d.Seq, d.Entries}
			x.left, x.begun[a] = append(x.left, a), &facts{}
		}
	}
	return x
}

// padded returns the words of a machine that may lack what is behind them.
func padded(l layout.Layout, words []api.Word) []api.Word {
	return append(slices.Clone(words), make([]api.Word, max(0, l.Size()-len(words)))...)
}

func (x *watch) copied() *watch {
	y := *x
	y.begun, y.order, y.keys = maps.Clone(x.begun), slices.Clone(x.order), slices.Clone(x.keys)
	return &y
}

// logical returns the model of the logical words of a memory.
func logical(t *testing.T, l layout.Layout, words []api.Word) model.Model {
	t.Helper()
	words = padded(l, words)
	list := make([]api.Word, l.Slot(1))
	for _, at := range places(l) {
		if list[at] = words[at]; words[at].Ref == 0 {
			continue // package desc has tests of this, and most words are plain
		}
		w, e := desc.Logical(l, words, at)
		if e != api.OK {
			t.Fatal("Logical:", e)
		}
		list[at] = w
	}
	return model.New(list...)
}

func sameModel(a, b model.Model) bool { return slices.Equal(a.Words(), b.Words()) }

// note keeps what is known of an attempt, with a change.
func (x *watch) note(a *attempt, change func(f *facts)) {
	f := facts{}
	if x.begun[a] != nil {
		f = *x.begun[a]
	}
	change(&f)
	x.begun[a] = &f
}

// look lets all attempts that run see the words as they are now.
func (x *watch) look() {
	for _, w := range x.workers() {
		if w.now != nil && x.begun[w.now] != nil && !x.model.Holds(w.now.entries...) {
			x.note(w.now, func(f *facts) { f.missed = true })
		}
	}
}

func (x *watch) workers() []worker {
	var all []worker
	for _, k := range x.world.Tasks {
		all = append(all, k.Code().(worker))
	}
	return all
}

// step lets a thread make one step, in place, and checks what holds at every step.
func (x *watch) step(t *testing.T, thread, choice int) {
	t.Helper()
	i := thread - 1
	act, _ := x.world.Tasks[i].Act()
	was, _ := x.world.M.Word(act.At)
	before := x.workers()
	if a := before[i].now; a != nil && x.begun[a] == nil {
		x.note(a, func(f *facts) { f.rejected = a.seq > 0 && int(was.Ver) >= a.seq })
		x.look()
	}
	world, ok := x.world.Step(api.Pick{Thread: thread, Choice: choice})
	if !ok {
		t.Fatalf("thread %d makes no step", thread)
	}
	x.world = world
	if act.Op == api.Store || act.Op == api.Release || act.Op == api.Swap && was == act.Old {
		x.changed(t, before, thread, act)
		x.look()
	}
	gots := world.Tasks[i].Gots()
	x.keys[i] = mix(mix(x.keys[i], word64(gots[len(gots)-1].Word)), uint64(len(gots)))
	after := x.workers()[i]
	for _, r := range after.results[len(before[i].results):] {
		x.ended(t, r)
	}
}

// changed checks an act that has changed a word: no logical word changes but where a swap that runs takes effect.
func (x *watch) changed(t *testing.T, before []worker, thread int, act api.Act) {
	t.Helper()
	wanted := x.model
	if a := effective(x.layout, x.left, before, thread, act); a != nil {
		f := x.begun[a]
		next, ok, e := x.model.Swap(a.entries...)
		if f == nil || f.effect || f.ended || !ok || e != api.OK {
			t.Fatalf("%+v lets %+v take effect, of which is known %+v; the words are %v", act, a, f, x.model.Words())
		}
		x.note(a, func(f *facts) { f.effect = true })
		x.order = append(x.order, a)
		wanted = next
	}
	x.model = logical(t, x.layout, x.world.M.Words())
	if !sameModel(x.model, wanted) {
		t.Fatalf("%+v changes the logical words to %v, wanted %v", act, x.model.Words(), wanted.Words())
	}
}

// effective returns the attempt that takes effect by this act of a thread, among those that were left behind and those of
// the workers: one with a descriptor does when its status becomes Done, and Simple when it replaces a word that nobody
// holds.
func effective(l layout.Layout, left []*attempt, before []worker, thread int, act api.Act) *attempt {
	if act.Op != api.Swap {
		return nil
	}
	for _, w := range before {
		if w.now != nil {
			left = append(slices.Clip(left), w.now)
		}
	}
	for _, a := range left {
		switch {
		case a.seq > 0 && act.At == l.Slot(a.thread) && act.New == (api.Word{Val: done, Ver: uint32(a.seq)}):
			return a
		case a.seq == 0 && a.thread == thread && act.Old.Ref == 0 && act.New.Ref == 0 && act.At == a.entries[0].At:
			return a
		}
	}
	return nil
}

// ended checks the answer of a swap that has just finished.
func (x *watch) ended(t *testing.T, r result) {
	t.Helper()
	f := x.begun[r.of]
	switch {
	case f == nil || f.ended:
		t.Fatalf("%+v has finished: %+v", r.of, f)
	case r.answer != f.effect:
		t.Fatalf("%+v answers %v, of which is known %+v", r.of, r.answer, f)
	case !r.answer && !f.missed && !f.rejected:
		t.Fatalf("%+v has failed, and has had all its words", r.of)
	}
	x.note(r.of, func(f *facts) { f.ended = true })
}

// expectFree checks that nobody holds any location.
func (x *watch) expectFree(t *testing.T) {
	t.Helper()
	for _, at := range places(x.layout) {
		if w, _ := x.world.M.Word(at); w.Ref != 0 {
			t.Fatalf("all have finished, and location %d is %+v", at, w)
		}
	}
}

// expectAlone checks that each thread would finish alone from here, within so many steps for each swap that is left.
func (x *watch) expectAlone(t *testing.T, steps int) {
	t.Helper()
	for i, w := range x.workers() {
		if x.world.Stopped[i] {
			continue
		}
		left := 1
		for _, o := range w.orders {
			left += o.tries
		}
		alone, ok := x.world.Alone(i+1, steps*left)
		if !ok {
			t.Fatalf("thread %d has not finished alone after %d steps", i+1, alone.Tasks[i].Steps()-x.world.Tasks[i].Steps())
		}
	}
}

func mix(h, n uint64) uint64 {
	h = (h ^ n) * 0x9e3779b97f4a7c15
	return h ^ h>>29
}

func word64(w api.Word) uint64 {
	return mix(mix(mix(1, uint64(w.Val)), uint64(w.Ver)), uint64(w.Ref))
}

// key returns a number of what the threads have got so far, of the memory, and of what the attempts that run have met.
// All that follows depends on nothing else, as long as no Load may be stale.
func (x *watch) key() uint64 {
	h := uint64(1)
	for i, k := range x.keys {
		h = mix(h, k)
		if a := x.workers()[i].now; a != nil && x.begun[a] != nil && x.begun[a].missed {
			h = mix(h, 7)
		}
	}
	for _, w := range x.world.M.Words() {
		h = mix(h, word64(w))
	}
	return h
}

// every goes through all that schedules can lead to, each state once, and calls end with each end.
func (x *watch) every(t *testing.T, seen map[uint64]bool, steps int, end func(x *watch)) {
	t.Helper()
	k := x.key()
	if seen[k] {
		return
	}
	seen[k] = true
	if k%16 == 0 { // a part of the states, since these runs take most of the time
		x.expectAlone(t, steps)
	}
	if x.world.Done() {
		x.expectFree(t)
		end(x)
		return
	}
	for i, k := range x.world.Tasks {
		if !k.Done() {
			next := x.copied()
			next.step(t, i+1, 0)
			next.every(t, seen, steps, end)
		}
	}
}

func add(at api.Loc, more int64) change { return change{at, more, true} }

func read(at api.Loc) change { return change{at, 0, false} }

func once(list ...change) order { return order{list, general, 1} }

func alonely(c change) order { return order{[]change{c}, simple, 1} }

// P21.2, P21.3: every schedule of two or three threads whose swaps meet.
func TestEverySchedule(t *testing.T) {
	l := layout.Layout{Threads: 3, Cells: 3}
	a, b, c := l.Cell(0), l.Cell(1), l.Cell(2)
	type threads = [][]order
	for what, x := range map[string]struct {
		threads  threads
		outcomes string // which swaps of the threads succeed, one thread after another
	}{
		"a word each":             {threads{{once(add(a, 1))}, {once(add(a, 2))}}, "++ +- -+"},
		"a word each, and Simple": {threads{{once(add(a, 1))}, {alonely(add(a, 2))}}, "++ +- -+"},
		"Simple":                  {threads{{alonely(add(a, 1)), alonely(add(a, 2))}, {alonely(add(a, 4))}, {alonely(add(a, 8))}}, "++++ +++- ++-+ ++-- +-++ +-+- +--+ -+++ -++- -+-+ --++"},
		"one reads":               {threads{{once(read(a))}, {once(add(a, 2))}}, "++ -+"},
		"both read":               {threads{{once(read(a))}, {once(read(a))}}, "++"},
		"two words, and Simple":   {threads{{once(add(a, 1), add(b, -1))}, {alonely(add(b, 2))}}, "++ +- -+"},
		"two words, reading one":  {threads{{once(add(a, 1), read(b))}, {alonely(add(b, 2)), alonely(add(a, 2))}}, "+++ ++- -++"},
		"two words each":          {threads{{once(add(a, 1), add(b, -1))}, {once(add(b, 2), add(c, -2))}}, "++ +- -+"},
		"crosswise":               {threads{{once(add(a, 1), read(b))}, {once(read(a), add(b, 2))}}, "++ +- -+"},
		"Simple and two others":   {threads{{alonely(add(a, 1))}, {alonely(add(a, 2))}, {once(add(a, 4))}}, "+++ ++- +-+ +-- -++ -+- --+"},
		"again":                   {threads{{once(add(a, 1)), {nil, again, 1}}, {alonely(add(a, 2))}}, "+-+ +-- --+"},
		"reused":                  {threads{{once(add(a, 1)), {[]change{add(a, 4)}, reused, 1}}, {alonely(add(a, 2))}}, "+-+ +-- --+"},
	} {
		m := scene(l)
		m[a].Val, m[b].Val, m[c] = 5, 7, api.Word{Val: 9, Ver: 3}
		m = m[:l.Slot(len(x.threads))+16]
		outcomes, seen := map[string]int{}, map[uint64]bool{}
		newWatch(t, l, m, false, x.threads...).every(t, seen, 200, func(end *watch) {
			s := ""
			for _, w := range end.workers() {
				for _, r := range w.results {
					s += map[bool]string{true: "+", false: "-"}[r.answer]
				}
			}
			outcomes[s]++
		})
		if got := strings.Join(slices.Sorted(maps.Keys(outcomes)), " "); got != x.outcomes {
			t.Errorf("%s: the outcomes are %s, wanted %s", what, got, x.outcomes)
		}
		if len(seen) < 500 {
			t.Errorf("%s: only %d states", what, len(seen))
		}
	}
}

// anyChanges returns random changes of some of the locations, which add nothing to their sum.
func anyChanges(r *rand.Rand, at []api.Loc) []change {
	var list []change
	sum := int64(0)
	for _, a := range at {
		if r.Intn(len(at)) > 2 {
			continue
		}
		c := change{a, int64(r.Intn(9) - 4), r.Intn(4) > 0}
		if !c.write {
			c.more = 0
		}
		sum += c.more
		list = append(list, c)
	}
	for i, c := range list {
		if c.write {
			list[i].more -= sum
			return list
		}
	}
	return append(list[:0], change{at[0], 0, true})
}

// anyOrders returns random orders of a thread. Transfers keep the sum of the words.
func anyOrders(r *rand.Rand, at []api.Loc, transfers bool) []order {
	var orders []order
	for range 1 + r.Intn(6) {
		o := order{anyChanges(r, at), general, 1 + r.Intn(3)}
		switch n := r.Intn(8); {
		case n == 0:
			o.kind = reused
		case n == 1:
			o.kind = again
		case n < 4 && !transfers:
			o.kind, o.changes = simple, []change{add(at[r.Intn(len(at))], int64(r.Intn(9)))}
		}
		orders = append(orders, o)
	}
	return orders
}

// anyWatch returns a run of up to so many threads with random orders.
func anyWatch(t *testing.T, r *rand.Rand, threads int, durable, transfers bool) *watch {
	t.Helper()
	l := layout.Layout{Threads: 1 + r.Intn(threads), Cells: 1 + r.Intn(5), Blocks: r.Intn(2)}
	m := scene(l)
	at := []api.Loc{l.Record(l.Threads) + 1}
	for i := range l.Cells {
		at = append(at, l.Cell(i))
		m[l.Cell(i)] = api.Word{Val: int64(r.Intn(100)), Ver: uint32(r.Intn(3))}
	}
	var orders [][]order
	for range l.Threads {
		orders = append(orders, anyOrders(r, at, transfers))
	}
	return newWatch(t, l, m, durable, orders...)
}

// anyStep lets a thread make some steps, or stops it, if it has not finished.
func (x *watch) anyStep(t *testing.T, r *rand.Rand, stops bool) {
	t.Helper()
	i := r.Intn(x.layout.Threads)
	if x.world.Tasks[i].Done() || x.world.Stopped[i] {
		return
	}
	if stops && r.Intn(150) == 0 {
		x.world = x.world.Run(api.Pick{Kind: api.PickStop, Thread: i + 1})
		return
	}
	for n := 1 + r.Intn(4)*r.Intn(8); n > 0 && !x.world.Tasks[i].Done(); n-- {
		x.step(t, i+1, r.Intn(6))
	}
}

// P21.2, P21.3, P21.5: up to eight threads with random swaps under random schedules with stale Loads; in most runs some
// threads stop in the middle. Transfers keep the sum.
func TestRandomSchedules(t *testing.T) {
	answers, effects := map[bool]int{}, 0
	for seed := range int64(100) {
		r := rand.New(rand.NewSource(seed))
		transfers, stops := seed%2 == 0, seed%3 > 0
		x := anyWatch(t, r, 8, seed%4 == 1, transfers)
		sum, first := sumOf(x.model), x.model
		for !x.world.Done() {
			x.anyStep(t, r, stops)
			if r.Intn(60) == 0 {
				x.expectAlone(t, 600)
			}
			if transfers && sumOf(x.model) != sum {
				t.Fatalf("seed %d: the sum of the words is %d, wanted %d", seed, sumOf(x.model), sum)
			}
		}
		if !stops {
			x.expectFree(t)
		}
		x.expectOrder(t, first)
		for _, w := range x.workers() {
			for _, k := range w.results {
				answers[k.answer]++
			}
		}
		effects += len(x.order)
	}
	if answers[true] < 200 || answers[false] < 200 || effects <= answers[true] {
		t.Errorf("the answers are %v, %d swaps took effect", answers, effects)
	}
}

func sumOf(m model.Model) int64 {
	sum := int64(0)
	for _, w := range m.Words() {
		sum += w.Val
	}
	return sum
}

// expectOrder checks that the swaps that have taken effect, one after another, lead from the first model to the logical
// words of now, and that they are all those which have succeeded, and at most one more for each thread.
func (x *watch) expectOrder(t *testing.T, first model.Model) {
	t.Helper()
	m := first
	for _, a := range x.order {
		next, ok, e := m.Swap(a.entries...)
		if !ok || e != api.OK {
			t.Fatalf("%+v: Swap of the model %v, %d", a, ok, e)
		}
		m = next
	}
	if !sameModel(m, logical(t, x.layout, x.world.M.Words())) {
		t.Fatalf("the words are not those of the model: %v", m.Words())
	}
	for _, w := range x.workers() {
		for _, r := range w.results {
			want(t, "a swap is in the order", slices.Contains(x.order, r.of), r.answer)
		}
	}
}

// P21.3: a thread stops behind each number of its acts, another one does the same, and a third one goes on.
func TestStopped(t *testing.T) {
	l := layout.Layout{Threads: 3, Cells: 3}
	a, b, c := l.Cell(0), l.Cell(1), l.Cell(2)
	for i := 0; i < 45; i += 2 {
		for j := range 45 {
			x := newWatch(t, l, scene(l), false, []order{once(add(a, 1), add(c, 2))}, []order{once(read(a), add(b, 2))}, []order{{[]change{add(a, 1), add(b, 1), add(c, 1)}, general, 3}, {[]change{add(a, 1)}, simple, 3}})
			for thread, n := range []int{i, j} {
				x.steps(t, thread+1, n)
				x.world = x.world.Run(api.Pick{Kind: api.PickStop, Thread: thread + 1})
			}
			x.steps(t, 3, 400)
			if !x.world.Done() {
				t.Fatalf("two threads stop behind %d and %d acts, and the third has not finished", i, j)
			}
			// A try fails where it meets one of the others, and completes it.
			succeeded := 0
			for _, r := range x.workers()[2].results {
				if r.answer {
					succeeded++
				}
			}
			want(t, "both swaps succeed, with few tries", succeeded, 2)
		}
	}
}

// steps lets a thread make so many steps, or fewer if it has finished by then.
func (x *watch) steps(t *testing.T, thread, n int) {
	t.Helper()
	for ; n > 0 && !x.world.Tasks[thread-1].Done(); n-- {
		x.step(t, thread, 3)
	}
}

// P21.3: alone, a swap has a bounded number of acts, whatever the other threads have left behind: its own ones, and those
// of one help for each open swap, each with an entry in the way that has been left behind.
func TestAloneBound(t *testing.T) {
	l := layout.Layout{Threads: 8, Cells: 32}
	for left := range 8 {
		for n := 1; n <= 32; n += 5 {
			entries := make([]api.Entry, l.Cells)
			for i := range entries {
				entries[i] = written(l.Cell(i), int64(i), 0, 50)
			}
			m := scene(l, entries...)
			entries = entries[:n]
			for k := range left {
				o := op(k+2, 1, open, written(l.Cell(k), int64(k), 0, 60), written(l.Cell(k+1), int64(k+1), 0, 60))
				m.put(t, l, o, 1)
			}
			bound := 40 + 14*n + left*60
			x := m.run(t, "alone", l, false, newSwap(t, l, 1, 1, false, entries...), swapping(1, 1, entries...))
			if len(x.acts) > bound {
				t.Errorf("%d entries, %d open swaps: %d acts, wanted at most %d", n, left, len(x.acts), bound)
			}
			// Of the open swaps every second one is done, the last one among them.
			want(t, "the swap succeeds", x.answer, left == 0 || n == 1 && left%2 == 0)
		}
	}
}
