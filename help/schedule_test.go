package help_test

import (
	"maps"
	"math/rand"
	"slices"
	"testing"

	"simulcast/api"
	"simulcast/desc"
	"simulcast/layout"
	"simulcast/machine"
	"simulcast/task"
)

// watch follows one run of workers, and knows each operation by its reference.
type watch struct {
	layout   layout.Layout
	world    task.World
	entries  map[uint32][]api.Entry // of the operations that have been opened
	decision map[uint32]int         // of those that have been decided
	missed   map[uint32]bool        // those that have not had all words that they expect, at some instant since they are open
	logical  []api.Word             // of the locations that swaps may change
	keys     []uint64               // by thread: what it has got so far
	reported map[uint32]bool        // those of which a help has ended with Done
	stales   int                    // how many helps have ended with Stale
}

// newWatch returns a run of workers on a machine with these words, in which these operations lie, with one worker per
// list of orders. The machine may lack what is behind the words.
func newWatch(t *testing.T, l layout.Layout, w []api.Word, ops []op, durable bool, orders ...[]order) *watch {
	t.Helper()
	m, e := machine.New(max(1, len(orders)), w...)
	if e != api.OK {
		t.Fatal("New:", e)
	}
	var codes []task.Code
	for _, o := range orders {
		codes = append(codes, worker{layout: l, durable: durable, orders: o})
	}
	x := &watch{layout: l, keys: make([]uint64, len(orders))}
	x.entries, x.decision, x.missed, x.reported = map[uint32][]api.Entry{}, map[uint32]int{}, map[uint32]bool{}, map[uint32]bool{}
	x.world, _ = task.Make(m, codes...)
	x.logical = x.logicals(t, x.world.M.Words())
	for _, o := range ops {
		x.entries[o.ref()] = o.entries
		if o.status != open {
			x.decision[o.ref()] = o.status
		}
	}
	x.note()
	return x
}

func (x *watch) copied() *watch {
	y := *x
	y.entries, y.decision, y.missed = maps.Clone(x.entries), maps.Clone(x.decision), maps.Clone(x.missed)
	y.reported, y.logical, y.keys = maps.Clone(x.reported), slices.Clone(x.logical), slices.Clone(x.keys)
	return &y
}

// logicals returns the logical words of all locations that swaps may change.
func (x *watch) logicals(t *testing.T, words []api.Word) []api.Word {
	t.Helper()
	words = append(words, make([]api.Word, max(0, x.layout.Size()-len(words)))...)
	var all []api.Word
	for _, at := range places(x.layout) {
		w, e := desc.Logical(x.layout, words, at)
		if e != api.OK {
			t.Fatal("Logical:", e)
		}
		all = append(all, w)
	}
	return all
}

func (x *watch) logicalAt(at api.Loc) api.Word {
	i, _ := slices.BinarySearch(places(x.layout), at)
	return x.logical[i]
}

// has reports whether the logical words are those that the operation expects.
func (x *watch) has(ref uint32) bool {
	for _, e := range x.entries[ref] {
		if x.logicalAt(e.At) != e.Old {
			return false
		}
	}
	return true
}

// note keeps which of the open operations miss what they expect.
func (x *watch) note() {
	for r := range x.entries {
		if _, decided := x.decision[r]; !decided && !x.has(r) {
			x.missed[r] = true
		}
	}
}

// refAt returns the reference of the operation whose status word is at the location, if the word is one.
func (x *watch) refAt(at api.Loc, w api.Word) uint32 {
	for who := 1; who <= 72; who++ {
		if owned(x.layout, ref(who, 1)) {
			if first, _ := placeOf(x.layout, who); first == at {
				return ref(who, int(w.Ver))
			}
		}
	}
	return 0
}

// step lets a thread make one step, in place, and checks what holds at every step.
func (x *watch) step(t *testing.T, thread, choice int) {
	t.Helper()
	i := thread - 1
	act, _ := x.world.Tasks[i].Act()
	was, _ := x.world.M.Word(act.At)
	before := x.workers()[i]
	world, ok := x.world.Step(api.Pick{Thread: thread, Choice: choice})
	if !ok {
		t.Fatalf("thread %d makes no step", thread)
	}
	x.world = world
	if changed := act.Op == api.Store || act.Op == api.Release || act.Op == api.Swap && was == act.Old; changed {
		x.changed(t, act)
	}
	gots := world.Tasks[i].Gots()
	x.keys[i] = mix(mix(x.keys[i], word64(gots[len(gots)-1].Word)), uint64(len(gots)))
	after := x.workers()[i]
	for _, r := range after.results[len(before.results):] {
		x.ended(t, r)
	}
}

func (x *watch) workers() []worker {
	var all []worker
	for _, k := range x.world.Tasks {
		all = append(all, k.Code().(worker))
	}
	return all
}

// changed checks an act that has changed a word: no logical word changes but at the decision of an operation, and then
// those of its written entries do.
func (x *watch) changed(t *testing.T, act api.Act) {
	t.Helper()
	before, r := x.logical, x.refAt(act.At, act.New)
	had := x.has(r)
	x.logical = x.logicals(t, x.world.M.Words())
	wanted := slices.Clone(before)
	switch {
	case r != 0 && act.Op == api.Swap:
		status, decided := x.decision[r]
		if decided || act.Old != (api.Word{Val: open, Ver: act.New.Ver}) || len(x.entries[r]) == 0 {
			t.Fatalf("%+v decides %x, which has been decided: %v, %d", act, r, decided, status)
		}
		x.decision[r] = int(act.New.Val)
		if act.New.Val == done {
			if !had {
				t.Fatalf("%x is done, and expects %+v; the logical words are %+v", r, x.entries[r], before)
			}
			x.apply(wanted, r)
		} else if act.New.Val != failed || !x.missed[r] {
			t.Fatalf("%x is decided by %+v, and expects %+v; it has always had them: %v", r, act, x.entries[r], !x.missed[r])
		}
	case r != 0 && act.New.Val == open:
		d, e := desc.Read(x.layout, x.world.M.Words(), int(r>>24))
		if e != api.OK {
			t.Fatalf("%x is opened: Read %d", r, e)
		}
		x.entries[r] = d.Entries
	}
	if !slices.Equal(x.logical, wanted) {
		t.Fatalf("%+v changes the logical words from %+v to %+v, wanted %+v", act, before, x.logical, wanted)
	}
	x.note()
}

// apply does what an operation writes, on a list of logical words.
func (x *watch) apply(words []api.Word, ref uint32) {
	for _, e := range x.entries[ref] {
		if i, _ := slices.BinarySearch(places(x.layout), e.At); e.Write {
			words[i] = after(e)
		}
	}
}

// ended checks the result of a help that has just ended.
func (x *watch) ended(t *testing.T, r result) {
	t.Helper()
	first, _ := placeOf(x.layout, int(r.ref>>24))
	status, _ := x.world.M.Word(first)
	if r.status == stale {
		x.stales++
		if status.Ver == r.ref&0xffffff && status.Val != filling {
			t.Fatalf("a help of %x ends with Stale, and its status word is %+v", r.ref, status)
		}
		return
	}
	if decision, ok := x.decision[r.ref]; !ok || decision != r.status {
		t.Fatalf("a help of %x ends with %d; the decision was %d, %v", r.ref, r.status, decision, ok)
	}
	x.reported[r.ref] = x.reported[r.ref] || r.status == done
	for _, e := range x.entries[r.ref] {
		if w, _ := x.world.M.Word(e.At); w.Ref == r.ref && e.Write && r.status == done {
			t.Fatalf("a help of %x has ended, and %d is %+v", r.ref, e.At, w)
		}
	}
}

// expectFree checks that nobody holds any location.
func (x *watch) expectFree(t *testing.T) {
	t.Helper()
	for _, at := range places(x.layout) {
		if w, _ := x.world.M.Word(at); w.Ref != 0 {
			t.Fatalf("all have ended, and location %d is %+v", at, w)
		}
	}
}

// expectAlone checks that each thread would come to its end alone from here, within so many steps per order, and so does
// a thread that comes to know of each location that is held then.
func (x *watch) expectAlone(t *testing.T, steps int) {
	t.Helper()
	for i, w := range x.workers() {
		if x.world.Stopped[i] {
			continue
		}
		alone, ok := x.world.Alone(i+1, steps*(1+len(w.orders)))
		if !ok {
			t.Fatalf("thread %d is not done alone after %d steps", i+1, alone.Tasks[i].Steps()-x.world.Tasks[i].Steps())
		}
	}
}

func mix(h, n uint64) uint64 {
	h = (h ^ n) * 0x9e3779b97f4a7c15
	return h ^ h>>29
}

func word64(w api.Word) uint64 {
	return mix(mix(mix(1, uint64(w.Val)), uint64(w.Ver)), uint64(w.Ref))
}

// key returns a number of what the threads have got so far, and of the memory. All that follows depends on nothing else,
// as long as no Load may be stale.
func (x *watch) key() uint64 {
	h := uint64(1)
	for _, k := range x.keys {
		h = mix(h, k)
	}
	for _, w := range x.world.M.Words() {
		h = mix(h, word64(w))
	}
	return h
}

// every goes through all that schedules can lead to, each state once, and calls end with each end.
func (x *watch) every(t *testing.T, seen map[uint64]bool, steps int, end func(x *watch)) {
	t.Helper()
	k := x.key()
	if seen[k] {
		return
	}
	seen[k] = true
	if k%4 == 0 { // a part of the states, since these runs take most of the time
		x.expectAlone(t, steps)
	}
	if x.world.Done() {
		x.expectFree(t)
		end(x)
		return
	}
	for i, k := range x.world.Tasks {
		if !k.Done() {
			next := x.copied()
			next.step(t, i+1, 0)
			next.every(t, seen, steps, end)
		}
	}
}

// P20.2, P20.3: every schedule of two or three threads that help the same operation, or several that meet.
func TestEverySchedule(t *testing.T) {
	l := layout.Layout{Threads: 2, Cells: 3}
	a, b, c := cellAt(l, 0), cellAt(l, 1), cellAt(l, 2)
	one := func(e ...api.Entry) op { return op{1, 1, open, e} }
	two := func(e ...api.Entry) op { return op{2, 4, open, e} }
	h, k := helping(ref(1, 1)), helping(ref(2, 4))
	ab := one(written(a, 5, 1, 6), written(b, 7, 2, 8))
	type thread = []order
	for what, x := range map[string]struct {
		ops      []op
		cells    []api.Word // others than what the first operation expects
		threads  []thread
		statuses [][2]int // that may come out
	}{
		"a word":              {[]op{one(written(a, 5, 1, 6))}, nil, []thread{{h}, {h}, {h}}, [][2]int{{done}}},
		"a word, reading":     {[]op{one(unwritten(a, 5, 1))}, nil, []thread{{h}, {h}, {h}}, [][2]int{{done}}},
		"a word, fails":       {[]op{one(written(a, 5, 1, 6))}, []api.Word{{Val: 5, Ver: 2}}, []thread{{h}, {h}, {h}}, [][2]int{{failed}}},
		"two words":           {[]op{ab}, nil, []thread{{h}, {h}}, [][2]int{{done}}},
		"two words, seen":     {[]op{ab}, nil, []thread{{h, seeing(a)}, {seeing(b), h}}, [][2]int{{done}}},
		"two words, one read": {[]op{one(unwritten(a, 5, 1), written(b, 7, 2, 8))}, nil, []thread{{h}, {h}}, [][2]int{{done}}},
		"the first fails":     {[]op{ab}, []api.Word{{}, {Val: 7, Ver: 2}}, []thread{{h}, {h}}, [][2]int{{failed}}},
		"the second fails":    {[]op{ab}, []api.Word{{Val: 5, Ver: 1}, {}}, []thread{{h}, {h, seeing(a)}}, [][2]int{{failed}}},
		"both write a word":   {[]op{one(written(a, 5, 1, 6)), two(written(a, 5, 1, 9))}, nil, []thread{{h}, {k}, {h}}, [][2]int{{done, failed}, {failed, done}}},
		"both write both":     {[]op{ab, two(written(a, 5, 1, 16), written(b, 7, 2, 18))}, nil, []thread{{h}, {k}}, [][2]int{{done, failed}, {failed, done}}},
		"one reads":           {[]op{one(unwritten(a, 5, 1), written(b, 7, 2, 8)), two(written(a, 5, 1, 16))}, nil, []thread{{h}, {k}}, [][2]int{{done, done}, {failed, done}}},
		"both read":           {[]op{one(unwritten(a, 5, 1)), two(unwritten(a, 5, 1))}, nil, []thread{{h, seeing(a)}, {k}}, [][2]int{{done, done}}},
		"one word in common":  {[]op{ab, two(written(b, 7, 2, 18), written(c, 0, 0, 3))}, nil, []thread{{h}, {k}}, [][2]int{{done, failed}, {failed, done}}},
		"crosswise":           {[]op{one(unwritten(a, 5, 1), written(b, 7, 2, 8)), two(written(a, 5, 1, 6), unwritten(b, 7, 2))}, nil, []thread{{h}, {k}}, [][2]int{{done, failed}, {failed, done}}},
		"one behind another":  {[]op{one(written(a, 5, 1, 6)), two(written(a, 6, 2, 7), written(c, 0, 0, 1))}, nil, []thread{{h}, {k}}, [][2]int{{done, done}, {done, failed}}},
		"a failure in common": {[]op{ab, two(written(a, 5, 1, 16), written(b, 8, 2, 18))}, nil, []thread{{h}, {k}}, [][2]int{{done, failed}}},
	} {
		m := scene(l, x.ops...)
		for i, w := range x.cells {
			m[cellAt(l, i)] = w
		}
		m = m[:placeFor(l, len(x.ops))]
		outcomes, seen := map[[2]int]int{}, map[uint64]bool{}
		newWatch(t, l, m, x.ops, false, x.threads...).every(t, seen, 80, func(end *watch) {
			outcomes[[2]int{end.decision[ref(1, 1)], end.decision[ref(2, 4)]}]++
		})
		if len(outcomes) != len(x.statuses) {
			t.Errorf("%s: the statuses are %v, wanted %v", what, outcomes, x.statuses)
		}
		for _, s := range x.statuses {
			if outcomes[s] == 0 {
				t.Errorf("%s: never %v", what, s)
			}
		}
		if len(seen) < 300 {
			t.Errorf("%s: only %d states", what, len(seen))
		}
	}
}

// placeFor returns the end of what so many operations of two entries need: a small machine makes many schedules cheap.
func placeFor(l layout.Layout, ops int) api.Loc {
	first, _ := placeOf(l, ops)
	return first + 8
}

// anyChanges returns random changes of some of the locations, which add nothing to their sum.
func anyChanges(r *rand.Rand, at []api.Loc) []change {
	var list []change
	sum := int64(0)
	for _, a := range at {
		if r.Intn(len(at)) > 2 {
			continue
		}
		n := int64(r.Intn(9) - 4)
		sum += n
		list = append(list, change{a, n, r.Intn(4) > 0})
	}
	if len(list) == 0 {
		return []change{{at[0], 0, true}}
	}
	for i := range list {
		if !list[i].write {
			sum -= list[i].more
		}
	}
	for i := range list {
		if list[i].write {
			list[i].more -= sum
			break
		}
	}
	return list
}

// anyOrders returns random orders of a thread: operations of its slot and of its block, if there is one, and others.
func anyOrders(r *rand.Rand, l layout.Layout, thread int, at []api.Loc) []order {
	var orders []order
	seqs := map[int]int{}
	for range 1 + r.Intn(6) {
		switch r.Intn(6) {
		case 0:
			orders = append(orders, seeing(at[r.Intn(len(at))]))
		case 1:
			orders = append(orders, helping(ref(1+r.Intn(l.Threads), 1+r.Intn(3))))
		default:
			who := thread
			if thread <= l.Blocks && r.Intn(2) == 0 {
				who = 8 + thread
			}
			seqs[who]++
			orders = append(orders, changing(who, seqs[who], anyChanges(r, at)...))
		}
	}
	return orders
}

// anyWatch returns a run of up to so many threads with random orders.
func anyWatch(t *testing.T, r *rand.Rand, threads int, durable bool) *watch {
	l := layout.Layout{Threads: 1 + r.Intn(threads), Cells: 1 + r.Intn(5), Blocks: r.Intn(4)}
	m := image(l.First())
	at := []api.Loc{recordAt(l, l.Threads, 1)}
	for i := range l.Cells {
		at = append(at, cellAt(l, i))
		m[cellAt(l, i)] = api.Word{Val: int64(r.Intn(100)), Ver: uint32(r.Intn(3))}
	}
	var orders [][]order
	for thread := range l.Threads {
		orders = append(orders, anyOrders(r, l, thread+1, at))
	}
	return newWatch(t, l, m, nil, durable, orders...)
}

// P20.2, P20.3: up to eight threads with random operations of slots and blocks, used again and again, under random
// schedules with stale Loads; in most runs some threads stop in the middle.
func TestRandomSchedules(t *testing.T) {
	decisions, stales := map[int]int{}, 0
	for seed := range int64(120) {
		r := rand.New(rand.NewSource(seed))
		x := anyWatch(t, r, 8, seed%4 == 0)
		sum := sumOf(x.logical)
		stops := seed%3 > 0
		for !x.world.Done() {
			i := r.Intn(x.layout.Threads)
			if x.world.Tasks[i].Done() || x.world.Stopped[i] {
				continue
			}
			if stops && r.Intn(150) == 0 {
				x.world = x.world.Run(api.Pick{Kind: api.PickStop, Thread: i + 1})
				continue
			}
			for n := 1 + r.Intn(4)*r.Intn(8); n > 0 && !x.world.Tasks[i].Done(); n-- {
				x.step(t, i+1, r.Intn(6))
			}
			if r.Intn(20) == 0 {
				x.expectAlone(t, 600)
			}
		}
		if !stops {
			x.expectFree(t)
		}
		want(t, "the sum of the words", sumOf(x.logical), sum)
		for _, status := range x.decision {
			decisions[status]++
		}
		stales += x.stales
	}
	if decisions[done] < 200 || decisions[failed] < 100 || stales < 50 {
		t.Errorf("%d operations are done, %d failed, %d helps ended with Stale", decisions[done], decisions[failed], stales)
	}
}

func sumOf(words []api.Word) int64 {
	sum := int64(0)
	for _, w := range words {
		sum += w.Val
	}
	return sum
}

// P20.2: a helper that has made some acts of an operation, and makes the others when the owner has gone on by so many.
func TestLateHelper(t *testing.T) {
	l := layout.Layout{Threads: 2, Cells: 3}
	a, b, c := cellAt(l, 0), cellAt(l, 1), cellAt(l, 2)
	for _, last := range []api.Entry{written(c, 0, 0, 1), written(c, 9, 0, 1)} { // it succeeds, and it fails
		first := op{1, 1, open, []api.Entry{written(a, 0, 0, 1), unwritten(b, 0, 0), last}}
		m := scene(l, first)
		m[c] = api.Word{}
		owner := []order{helping(first.ref()), changing(1, 2, change{a, 5, true}, change{b, -5, true}), changing(1, 3, change{b, 5, true}, change{c, 5, false})}
		helper := []order{helping(first.ref()), seeing(a), seeing(b), seeing(c)}
		for late := range 32 {
			x := newWatch(t, l, m, []op{first}, false, owner, helper)
			x.steps(t, 2, late)
			for range 25 {
				y := x.copied()
				y.steps(t, 2, 300)
				y.steps(t, 1, 300)
				want(t, "all are done", y.world.Done(), true)
				y.expectFree(t)
				x.steps(t, 1, 5)
			}
		}
	}
}

// steps lets a thread make so many steps, or fewer if it has finished by then.
func (x *watch) steps(t *testing.T, thread, n int) {
	t.Helper()
	for ; n > 0 && !x.world.Tasks[thread-1].Done(); n-- {
		x.step(t, thread, 3)
	}
}
