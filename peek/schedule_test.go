package peek_test

import (
	"fmt"
	"maps"
	"math/rand"
	"slices"
	"strings"
	"testing"

	"simulcast/api"
	"simulcast/desc"
	"simulcast/layout"
	"simulcast/peek"
	"simulcast/task"
	"simulcast/word"
)

// watch follows one run of workers.
type watch struct {
	layout layout.Layout
	world  task.World
	views  [][][]api.Word // by thread: the logical words of its addresses, at each instant of the reading that runs
	begun  []*sight       // by thread: the reading that runs, once its first act has been made
	keys   []uint64       // by thread: what it has got so far
	safe   []api.Word     // by location: the latest word that a durable reading has read, or the zero word
}

// newWatch returns a run of workers on a machine with these words, with one worker per list of orders. The machine may
// lack what is behind the words.
func newWatch(t *testing.T, l layout.Layout, words []api.Word, orders ...[]order) *watch {
	t.Helper()
	var codes []task.Code
	for i, o := range orders {
		codes = append(codes, worker{layout: l, thread: i + 1, orders: o})
	}
	n := len(orders)
	return &watch{layout: l, world: world(t, words, codes...), views: make([][][]api.Word, n), begun: make([]*sight, n), keys: make([]uint64, n), safe: make([]api.Word, l.Size())}
}

func (x *watch) copied() *watch {
	y := *x
	y.views, y.begun, y.keys, y.safe = slices.Clone(x.views), slices.Clone(x.begun), slices.Clone(x.keys), slices.Clone(x.safe)
	return &y
}

// logical returns the logical word of a location in a memory that may lack what is behind it.
func logical(t *testing.T, l layout.Layout, words []api.Word, at api.Loc) api.Word {
	t.Helper()
	if words[at].Ref == 0 {
		return words[at] // package desc has tests of this, and most words are plain
	}
	words = append(slices.Clone(words), make([]api.Word, max(0, l.Size()-len(words)))...)
	w, e := desc.Logical(l, words, at)
	if e != api.OK {
		t.Fatal("Logical:", e)
	}
	return w
}

// look lets all readings that run see the words as they are now.
func (x *watch) look(t *testing.T) {
	t.Helper()
	words := x.world.M.Words()
	for i, s := range x.begun {
		if s == nil {
			continue
		}
		var now []api.Word
		for _, at := range s.order.at {
			now = append(now, logical(t, x.layout, words, at))
		}
		if n := len(x.views[i]); n == 0 || !slices.Equal(now, x.views[i][n-1]) {
			x.views[i] = append(slices.Clip(x.views[i]), now)
		}
	}
}

func (x *watch) worker(i int) worker { return x.world.Tasks[i].Code().(worker) }

// step lets a thread make one step, in place, and checks a reading that ends by it.
func (x *watch) step(t *testing.T, thread, choice int) {
	t.Helper()
	i := thread - 1
	act, _ := x.world.Tasks[i].Act()
	was, _ := x.world.M.Word(act.At)
	before := x.worker(i)
	if x.begun[i] != before.now {
		x.begun[i], x.views[i] = before.now, nil
		x.look(t)
	}
	world, ok := x.world.Step(api.Pick{Thread: thread, Choice: choice})
	if !ok {
		t.Fatalf("thread %d makes no step", thread)
	}
	x.world = world
	if act.Op == api.Store || act.Op == api.Release || act.Op == api.Swap && was == act.Old {
		x.look(t)
	}
	gots := world.Tasks[i].Gots()
	x.keys[i] = mix(mix(x.keys[i], word64(gots[len(gots)-1].Word)), uint64(len(gots)))
	for _, s := range x.worker(i).results[len(before.results):] {
		x.ended(t, i, s)
		x.begun[i], x.views[i] = nil, nil
	}
}

// ended checks what a reading has read.
func (x *watch) ended(t *testing.T, i int, s sight) {
	t.Helper()
	for k, at := range s.order.at {
		if s.order.durable && s.words[k].Ver >= x.safe[at].Ver {
			x.safe[at] = s.words[k]
		}
	}
	views := x.views[i]
	if s.order.together {
		if !slices.ContainsFunc(views, func(v []api.Word) bool { return slices.Equal(v, s.words) }) {
			t.Fatalf("%v were never the words of %v together: %v", s.words, s.order.at, views)
		}
		return
	}
	for k := range s.order.at {
		if !slices.ContainsFunc(views, func(v []api.Word) bool { return v[k] == s.words[k] }) {
			t.Fatalf("%v was never the word of %d: %v", s.words[k], s.order.at[k], views)
		}
	}
}

// expectAlone checks that each reading that runs would be done alone from here, within three more rounds, and with no
// more helps than words are held, beside the one that may run.
func (x *watch) expectAlone(t *testing.T) {
	t.Helper()
	held := 1
	for _, at := range places(x.layout) {
		if w, _ := x.world.M.Word(at); w.Ref != 0 {
			held++
		}
	}
	for i := range x.world.Tasks {
		if x.begun[i] == nil || x.world.Stopped[i] {
			continue
		}
		y := x.world
		before, helps := len(x.worker(i).results), 0
		for n := 0; len(y.Tasks[i].Code().(worker).results) == before; n++ {
			if act, _ := y.Tasks[i].Act(); act.Op == api.Load && x.counts(act.At) {
				helps++
			}
			if y, _ = y.Step(api.Pick{Thread: i + 1}); n > 3000 {
				t.Fatalf("thread %d is not done alone after %d steps", i+1, n)
			}
		}
		more := y.Tasks[i].Code().(worker).results[before].rounds - peek.Rounds(x.worker(i).inner)
		if more > 3 || helps > held {
			t.Fatalf("thread %d makes %d rounds alone, and %d helps; %d words are held", i+1, more, helps, held-1)
		}
	}
}

// counts reports whether a location is that of the count of a descriptor.
func (x *watch) counts(at api.Loc) bool {
	for who := 1; who <= 8+x.layout.Blocks; who++ {
		if owned(x.layout, ref(who, 1)) && placeOf(x.layout, who)+1 == at {
			return true
		}
	}
	return false
}

func mix(h, n uint64) uint64 {
	h = (h ^ n) * 0x9e3779b97f4a7c15
	return h ^ h>>29
}

func word64(w api.Word) uint64 {
	return mix(mix(mix(1, uint64(w.Val)), uint64(w.Ver)), uint64(w.Ref))
}

// key returns a number of what the threads have got so far, of the memory, and of what the readings that run could have
// read. All that follows depends on nothing else, as long as no Load may be stale.
func (x *watch) key() uint64 {
	h := uint64(1)
	for i, k := range x.keys {
		h = mix(h, k)
		for _, v := range x.views[i] {
			for _, w := range v {
				h = mix(h, word64(w))
			}
		}
	}
	for _, w := range x.world.M.Words() {
		h = mix(h, word64(w))
	}
	return h
}

// every goes through all that schedules can lead to, each state once, and calls end with each end.
func (x *watch) every(t *testing.T, seen map[uint64]bool, end func(x *watch)) {
	t.Helper()
	k := x.key()
	if seen[k] {
		return
	}
	seen[k] = true
	if k%8 == 0 { // a part of the states, since these runs take most of the time
		x.expectAlone(t)
	}
	if x.world.Done() {
		end(x)
		return
	}
	for i, k := range x.world.Tasks {
		if !k.Done() {
			next := x.copied()
			next.step(t, i+1, 0)
			next.every(t, seen, end)
		}
	}
}

func add(at api.Loc, more int64) change { return change{at, more, true} }

func swapped(list ...change) order { return order{changes: list} }

func simply(c change) order { return order{changes: []change{c}, simple: true} }

func peeked(at ...api.Loc) order { return order{at: at} }

func together(at ...api.Loc) order { return order{at: at, together: true} }

// P22.2: every schedule of a reading and of one or two swaps.
func TestEverySchedule(t *testing.T) {
	l := layout.Layout{Threads: 3, Cells: 3}
	a, b := l.Cell(0), l.Cell(1)
	type threads = [][]order
	for what, x := range map[string]struct {
		threads  threads
		outcomes string // what is read
	}{
		"a word, and Simple":                   {threads{{peeked(a)}, {simply(add(a, 1)), simply(add(a, 1))}}, "5; 6.1; 7.2"},
		"two words, and Simple":                {threads{{peeked(a, b)}, {simply(add(a, 1)), simply(add(b, 1))}}, "5 7; 5 8.1; 6.1 7; 6.1 8.1"},
		"two words together, and Simple":       {threads{{together(a, b)}, {simply(add(a, 1)), simply(add(b, 1))}}, "5 7; 6.1 7; 6.1 8.1"},
		"two words together, and two threads":  {threads{{together(b, a)}, {simply(add(a, 1))}, {simply(add(b, 1))}}, "7 5; 7 6.1; 8.1 5; 8.1 6.1"},
		"two words, and a swap":                {threads{{peeked(a, b)}, {swapped(add(a, 1), add(b, -1))}}, "5 6.1; 5 7; 6.1 6.1"},
		"two words together, and a swap":       {threads{{together(a, b)}, {swapped(add(a, 1), add(b, -1))}}, "5 7; 6.1 6.1"},
		"two words together, and two swaps":    {threads{{together(a, b)}, {swapped(add(a, 1), add(b, -1)), simply(add(a, 2))}}, "5 7; 6.1 6.1; 8.2 6.1"},
		"one reads, the other one Simple":      {threads{{together(a, b)}, {swapped(change{a, 0, false}, add(b, -1)), simply(add(a, 1))}}, "5 6.1; 5 7; 6.1 6.1"},
		"two readers":                          {threads{{together(a, b)}, {peeked(b)}, {simply(add(b, 1))}}, "5 7/7; 5 7/8.1; 5 8.1/7; 5 8.1/8.1"},
		"a swap, and read by its own thread":   {threads{{together(a, b)}, {swapped(add(a, 1)), peeked(a)}}, "5 7/6.1; 6.1 7/6.1"},
		"a durable reading, and a durable one": {threads{{{at: []api.Loc{a, b}, together: true, durable: true}}, {{changes: []change{add(a, 1)}, durable: true}}}, "5 7; 6.1 7"},
	} {
		m := scene(l)
		m[a].Val, m[b].Val = 5, 7
		m = m[:l.Slot(len(x.threads))+16]
		outcomes, seen := map[string]int{}, map[uint64]bool{}
		newWatch(t, l, m, x.threads...).every(t, seen, func(end *watch) {
			var all []string
			for i := range end.world.Tasks {
				for _, s := range end.worker(i).results {
					all = append(all, texts(s.words))
				}
			}
			outcomes[strings.Join(all, "/")]++
		})
		if got := strings.Join(slices.Sorted(maps.Keys(outcomes)), "; "); got != x.outcomes {
			t.Errorf("%s: %s, wanted %s", what, got, x.outcomes)
		}
	}
}

func texts(words []api.Word) string {
	var all []string
	for _, w := range words {
		all = append(all, word.Text(w))
	}
	return strings.Join(all, " ")
}

// anyOrders returns random orders of a thread.
func anyOrders(r *rand.Rand, l layout.Layout, durable bool) []order {
	var orders []order
	for range 1 + r.Intn(7) {
		at := anyPlaces(r, l)
		o := order{durable: durable}
		switch r.Intn(5) {
		case 0:
			o.at = at
		case 1, 2:
			o.at, o.together = at, true
		case 3:
			o.changes, o.simple = []change{add(at[0], int64(r.Intn(9)))}, true
		case 4:
			slices.Sort(at)
			for _, a := range at {
				o.changes = append(o.changes, change{a, int64(r.Intn(9) - 4), r.Intn(4) > 0})
			}
		}
		orders = append(orders, o)
	}
	return orders
}

// anyWatch returns a run of up to so many threads with random orders.
func anyWatch(t *testing.T, r *rand.Rand, threads int, durable bool) *watch {
	t.Helper()
	l := layout.Layout{Threads: 1 + r.Intn(threads), Cells: 1 + r.Intn(5), Blocks: r.Intn(2)}
	m := scene(l)
	for i := range l.Cells {
		m[l.Cell(i)] = api.Word{Val: int64(r.Intn(100)), Ver: uint32(r.Intn(3))}
	}
	var orders [][]order
	for range l.Threads {
		orders = append(orders, anyOrders(r, l, durable))
	}
	return newWatch(t, l, m, orders...)
}

// anyStep lets a thread make some steps, or stops it, if it has not finished.
func (x *watch) anyStep(t *testing.T, r *rand.Rand, stops bool) {
	t.Helper()
	i := r.Intn(x.layout.Threads)
	if x.world.Tasks[i].Done() || x.world.Stopped[i] {
		return
	}
	if stops && r.Intn(150) == 0 {
		x.world = x.world.Run(api.Pick{Kind: api.PickStop, Thread: i + 1})
		return
	}
	for n := 1 + r.Intn(4)*r.Intn(8); n > 0 && !x.world.Tasks[i].Done(); n-- {
		x.step(t, i+1, r.Intn(6))
	}
}

// P22.2: up to eight threads that read and swap under random schedules with stale Loads; in most runs some threads stop
// in the middle.
func TestRandomSchedules(t *testing.T) {
	changed := map[bool]int{}
	for seed := range int64(300) {
		r := rand.New(rand.NewSource(seed))
		x := anyWatch(t, r, 8, seed%4 == 1)
		for !x.world.Done() {
			x.anyStep(t, r, seed%3 > 0)
			if r.Intn(20) == 0 {
				x.expectAlone(t)
			}
			for _, views := range x.views {
				changed[len(views) > 1]++
			}
		}
	}
	if changed[true] < 1000 {
		t.Errorf("words change while they are read: %v", changed)
	}
}

// P22.2: a code that runs alone makes at most three more rounds, and one help for each held word, wherever it is when all
// other threads stop.
func TestAlone(t *testing.T) {
	l := layout.Layout{Threads: 3, Cells: 6}
	var at []api.Loc
	for i := range l.Cells {
		at = append(at, l.Cell(i))
	}
	one := []order{swapped(add(at[0], 1), add(at[2], 1), add(at[4], 1))}
	two := []order{swapped(add(at[1], 1), add(at[3], 1), add(at[4], 1)), simply(add(at[5], 1))}
	for i := 0; i < 45; i += 4 {
		for k := 0; k < 45; k += 2 {
			for n := range 12 {
				x := newWatch(t, l, scene(l), []order{together(at...)}, one, two)
				x.steps(t, 1, n)
				x.steps(t, 2, i)
				x.steps(t, 1, 2)
				x.steps(t, 3, k)
				x.expectAlone(t)
				x.steps(t, 1, 2000)
				want(t, fmt.Sprintf("done behind %d and %d acts of the others", i, k), x.world.Tasks[0].Done(), true)
			}
		}
	}
}

// steps lets a thread make so many steps, or fewer if it has finished by then.
func (x *watch) steps(t *testing.T, thread, n int) {
	t.Helper()
	for ; n > 0 && !x.world.Tasks[thread-1].Done(); n-- {
		x.step(t, thread, 3)
	}
}
