package hazard_test

import (
	"fmt"
	"math"
	"math/rand"
	"slices"
	"testing"

	"simulcast/api"
	"simulcast/hazard"
	"simulcast/layout"
	"simulcast/machine"
	"simulcast/task"
)

// image returns a memory image with random words everywhere.
func image(r *rand.Rand, size int) []api.Word {
	w := make([]api.Word, size)
	for i := range w {
		w[i] = api.Word{Val: int64(r.Uint64()), Ver: r.Uint32(), Ref: r.Uint32()}
	}
	return w
}

func world(t *testing.T, threads int, w []api.Word, codes ...task.Code) task.World {
	t.Helper()
	m, e := machine.New(threads, w...)
	if e != api.OK {
		t.Fatal("New:", e)
	}
	x, e := task.Make(m, codes...)
	if e != api.OK {
		t.Fatal("Make:", e)
	}
	return x
}

// run lets a code run alone on a memory image for at most some steps, and returns the finished code, the memory behind
// it, and its acts.
func run(t *testing.T, w []api.Word, c task.Code, most int) (task.Code, []api.Word, []api.Act) {
	t.Helper()
	x := world(t, 1, w, c)
	var acts []api.Act
	for !x.Done() {
		a, _ := x.Tasks[0].Act()
		acts = append(acts, a)
		expectNoWord(t, "running", x.Tasks[0].Code())
		expectNothingHeld(t, "running", x.Tasks[0].Code())
		x = x.Run(api.Pick{Thread: 1})
		if len(acts) > most {
			t.Fatalf("not finished alone after %d steps", most)
		}
	}
	return x.Tasks[0].Code(), x.M.Words(), acts
}

// mayProtect reports whether a Protect may issue the act: a Look of its location, or a write to the thread's hazard.
func mayProtect(thread int, at api.Loc, a api.Act) bool {
	return a.Op == api.Look && a.At == at || machine.Changes(a) && a.At == hazardAt(thread)
}

// mayClear reports whether a Clear may issue the act: a Look of the thread's hazard, or its reset.
func mayClear(thread int, a api.Act) bool {
	return a.At == hazardAt(thread) && (a.Op == api.Look || machine.Changes(a) && a.New.Val == 0)
}

// mayScan reports whether a Scan may issue the act: a Look of the hazard of one of the threads.
func mayScan(threads int, a api.Act) bool {
	for thread := 1; thread <= threads; thread++ {
		if a.Op == api.Look && a.At == hazardAt(thread) {
			return true
		}
	}
	return false
}

// P14.1, P14.3: a Protect alone, of every kind of location, on images with random words: only the hazard changes.
func TestProtectAlone(t *testing.T) {
	r := rand.New(rand.NewSource(1))
	for _, l := range layouts {
		places := []api.Loc{0, 1, l.Cell(0), l.Slot(1), l.Record(1), l.Announce(l.Threads), api.Loc(l.Size() - 1)}
		for thread := 1; thread <= l.Threads; thread++ {
			for _, at := range append(places, hazardAt(1+thread%l.Threads)) {
				if at == hazardAt(thread) {
					continue // nothing is promised
				}
				w := image(r, l.Size())
				c, after, acts := run(t, w, protect(t, l, thread, at), 6)
				if found, ok := hazard.Word(c); found != w[at] || !ok {
					t.Errorf("%+v: Protect of %d found %+v, %v, wanted %+v", l, at, found, ok, w[at])
				}
				for _, a := range acts {
					if !mayProtect(thread, at, a) {
						t.Errorf("%+v: Protect of %d by thread %d: %+v", l, at, thread, a)
					}
				}
				if last := acts[len(acts)-1]; last.Op != api.Look || last.At != at {
					t.Errorf("the last act is %+v", last)
				}
				expectHazard(t, after, thread, w[at].Val)
				expectRest(t, w, after, thread)
			}
		}
	}
}

func expectHazard(t *testing.T, w []api.Word, thread int, v int64) {
	t.Helper()
	if got := w[hazardAt(thread)].Val; got != v {
		t.Errorf("the hazard of thread %d is %d, wanted %d", thread, got, v)
	}
}

// expectRest checks that no word but the hazard of that thread has changed (0: none at all).
func expectRest(t *testing.T, before, after []api.Word, thread int) {
	t.Helper()
	wanted := slices.Clone(before)
	if thread > 0 {
		wanted[hazardAt(thread)] = after[hazardAt(thread)]
	}
	if !slices.Equal(after, wanted) {
		t.Error("other words have changed")
	}
}

// P14.2: a Clear alone, whatever the hazard is.
func TestClearAlone(t *testing.T) {
	r := rand.New(rand.NewSource(2))
	for _, l := range layouts {
		for thread := 1; thread <= l.Threads; thread++ {
			for _, old := range []int64{0, 1, -1, 7, math.MaxInt64, math.MinInt64} {
				w := image(r, l.Size())
				w[hazardAt(thread)].Val = old
				c, after, acts := run(t, w, clearCode(t, l, thread), 4)
				for _, a := range acts {
					if !mayClear(thread, a) {
						t.Errorf("Clear of thread %d: %+v", thread, a)
					}
				}
				if len(acts) == 0 {
					t.Error("Clear has no acts")
				}
				expectHazard(t, after, thread, 0)
				expectRest(t, w, after, thread)
				expectNoWord(t, "a finished Clear", c)
				expectNothingHeld(t, "a finished Clear", c)
			}
		}
	}
}

// setHazards returns an image of random words with these hazards, and those of them that a Scan is to find.
func setHazards(r *rand.Rand, l layout.Layout, hazards []int64) ([]api.Word, []int64) {
	w := image(r, l.Size())
	var held []int64
	for i, h := range hazards {
		w[hazardAt(i+1)].Val = h
		if h != 0 {
			held = append(held, h)
		}
	}
	return w, held
}

// expectHeld checks what a finished Scan has found, and that each call of Held returns a list of its own.
func expectHeld(t *testing.T, what string, c task.Code, wanted []int64) {
	t.Helper()
	for range 2 {
		held, ok := hazard.Held(c)
		if !slices.Equal(held, wanted) || !ok {
			t.Errorf("%s: Held %v, %v, wanted %v", what, held, ok, wanted)
		}
		for i := range held {
			held[i] = 99
		}
		_ = append(held[:0], 98, 97)
	}
}

// P14.2, P14.3: a Scan alone: the order of the threads, omitted zeros (also those with a Ver and a Ref), equal hazards.
func TestScanAlone(t *testing.T) {
	r := rand.New(rand.NewSource(3))
	for _, l := range layouts {
		for range 60 {
			hazards := make([]int64, l.Threads)
			for i := range hazards {
				hazards[i] = []int64{0, 0, 7, 3, -5, math.MaxInt64, math.MinInt64, int64(r.Uint64())}[r.Intn(8)]
			}
			w, wanted := setHazards(r, l, hazards)
			c, after, acts := run(t, w, scan(t, l), 2*l.Threads)
			expectHeld(t, fmt.Sprintf("hazards %v", hazards), c, wanted)
			expectRest(t, w, after, 0)
			looks := map[api.Loc]bool{}
			for _, a := range acts {
				looks[a.At] = true
				if !mayScan(l.Threads, a) {
					t.Errorf("Scan of %d threads: %+v", l.Threads, a)
				}
			}
			if len(looks) != l.Threads {
				t.Errorf("Scan of %d threads looks at %v", l.Threads, looks)
			}
		}
	}
}

// P14.2: fixed hazards of all eight threads.
func TestHeldOrder(t *testing.T) {
	l := layout.Layout{Threads: 8, Cells: 1}
	r := rand.New(rand.NewSource(4))
	for _, x := range []struct{ hazards, held []int64 }{
		{[]int64{8, 7, 6, 5, 4, 3, 2, 1}, []int64{8, 7, 6, 5, 4, 3, 2, 1}},
		{[]int64{0, 0, 0, 0, 0, 0, 0, 0}, nil},
		{[]int64{0, 5, 0, 0, 3, 0, 0, 0}, []int64{5, 3}},
		{[]int64{9, 0, 0, 0, 0, 0, 0, 2}, []int64{9, 2}},
		{[]int64{4, 4, 0, 4, 0, 0, -4, 4}, []int64{4, 4, 4, -4, 4}},
	} {
		w, _ := setHazards(r, l, x.hazards)
		c, _, _ := run(t, w, scan(t, l), 16)
		expectHeld(t, fmt.Sprintf("hazards %v", x.hazards), c, x.held)
	}
}

// P14.1: the location changes between the two reads of a Protect, once and several times, in any field of its word; the
// hazard at the instant of the last Look.
func TestProtectOfAChangingLocation(t *testing.T) {
	l := layout.Layout{Threads: 2, Cells: 2}
	at := l.Cell(1)
	lists := [][]api.Word{
		{{Val: 7}},
		{{Val: 7}, {Val: 8}},
		{{Val: 7}, {Val: 8}, {Val: 7}},
		{{Val: 7}, {Val: 0}, {Val: 9}, {Val: 9, Ver: 1}, {Val: 9, Ver: 1, Ref: 5}, {Val: 7}},
		{{Val: 7, Ver: 1}, {Val: 7, Ver: 2}},
		{{Val: 7, Ref: 1}, {Val: 7, Ref: 2}},
		{{Val: 0}, {Val: 3}, {Val: 0, Ver: 9}},
	}
	for _, words := range lists {
		w := l.First()
		w[at], w[hazardAt(1)] = words[0], api.Word{Val: 55, Ver: 6, Ref: 7}
		x := world(t, 2, w, protect(t, l, 1, at))
		for _, next := range words[1:] {
			// Up to the next read: the word that has been read is replaced then.
			x = x.Run(api.Pick{Thread: 1})
			for a, going := x.Tasks[0].Act(); a.Op != api.Look; a, going = x.Tasks[0].Act() {
				if !going {
					t.Fatalf("%v: has finished too early", words)
				}
				x = x.Run(api.Pick{Thread: 1})
			}
			x.M, _, _ = x.M.Do(2, api.Act{Op: api.Store, At: at, New: next}, 0)
			expectNoWord(t, "disturbed", x.Tasks[0].Code())
		}
		x, ok := x.Alone(1, 6)
		last := words[len(words)-1]
		if found, known := hazard.Word(x.Tasks[0].Code()); !ok || !known || found != last {
			t.Errorf("%v: finished %v, found %+v, %v", words, ok, found, known)
		}
		expectHazard(t, x.M.Words(), 1, last.Val)
	}
}

// P14.1: results of every kind, also ones that no machine returns: the acts stay those of a Protect, a finished one had
// written the Val of the word that its last Look has found, and that word was unchanged.
func TestRandomResultsOfProtect(t *testing.T) {
	r := rand.New(rand.NewSource(5))
	finished := 0
	for range 4000 {
		l := layouts[r.Intn(len(layouts))]
		thread, at := 1+r.Intn(l.Threads), l.Cell(r.Intn(l.Cells))
		c := protect(t, l, thread, at)
		var read []api.Word
		var act api.Act
		var g api.Got
		var hazardNow int64
		ended := false
		for range 12 {
			expectNoWord(t, "unfinished", c)
			before := act
			c, act, ended = c.Next(g)
			if ended {
				if before.Op != api.Look || before.At != at || len(read) < 2 {
					t.Fatalf("the last act is %+v, read %v", before, read)
				}
				break
			}
			if !mayProtect(thread, at, act) {
				t.Fatalf("act %+v", act)
			}
			g = api.Got{Word: api.Word{Val: int64(r.Intn(2)), Ver: uint32(r.Intn(2)), Ref: uint32(r.Intn(2))}, OK: r.Intn(4) > 0}
			switch {
			case act.Op == api.Look:
				read = append(read, g.Word)
			case act.Op == api.Swap && !g.OK:
			default:
				hazardNow = act.New.Val
			}
		}
		if !ended {
			continue
		}
		finished++
		found, ok := hazard.Word(c)
		if last := read[len(read)-1]; !ok || found != last || hazardNow != last.Val || read[len(read)-2] != last {
			t.Fatalf("Word %+v, %v; read %v, the hazard is %d", found, ok, read, hazardNow)
		}
	}
	if finished < 300 {
		t.Errorf("only %d have finished", finished)
	}
}

// P14.2: results of every kind: a Clear ends within four steps and its last write is a 0; a Scan's results are those of
// its Looks.
func TestRandomResultsOfOthers(t *testing.T) {
	r := rand.New(rand.NewSource(6))
	for range 2000 {
		l := layouts[r.Intn(len(layouts))]
		thread := 1 + r.Intn(l.Threads)
		any := func() api.Got {
			return api.Got{Word: api.Word{Val: int64(r.Intn(3)) - 1, Ver: uint32(r.Intn(2)), Ref: uint32(r.Intn(2))}, OK: r.Intn(2) == 0}
		}
		x := task.Start(clearCode(t, l, thread))
		for !x.Done() {
			if act, _ := x.Act(); !mayClear(thread, act) || x.Steps() == 4 {
				t.Fatalf("Clear of thread %d: act %d is %+v", thread, x.Steps(), act)
			}
			x = x.Give(any())
		}
		x = task.Start(scan(t, l))
		found := make([]int64, l.Threads)
		for !x.Done() {
			act, _ := x.Act()
			if !mayScan(l.Threads, act) || x.Steps() == 2*l.Threads {
				t.Fatalf("Scan: act %d is %+v", x.Steps(), act)
			}
			expectNothingHeld(t, "unfinished", x.Code())
			g := any()
			found[(act.At-hazardAt(1))/8] = g.Word.Val
			x = x.Give(g)
		}
		expectHeld(t, "Scan", x.Code(), slices.DeleteFunc(found, func(h int64) bool { return h == 0 }))
	}
}

// result is what Word and Held return for a code.
func result(c task.Code) string {
	w, ok := hazard.Word(c)
	held, ok2 := hazard.Held(c)
	return fmt.Sprintf("%+v %v %v %v", w, ok, held, ok2)
}

// 'Values': each state of a code continues in the same way however often it is resumed, and whatever it got elsewhere.
func TestCodesAreValues(t *testing.T) {
	l := layout.Layout{Threads: 3, Cells: 8}
	some := []api.Got{{}, {Word: api.Word{Val: 1}, OK: true}, {Word: api.Word{Val: 2, Ver: 3}, OK: true}, {Word: api.Word{Val: 1}}}
	var walk func(what string, c task.Code, depth int)
	walk = func(what string, c task.Code, depth int) {
		before := result(c)
		for _, g := range some {
			next, act, finished := c.Next(g)
			first := result(next)
			for _, elsewhere := range some {
				x, _, _ := c.Next(elsewhere)
				x, _, _ = x.Next(g)
				x.Next(elsewhere)
			}
			again, act2, finished2 := c.Next(g)
			if act != act2 || finished != finished2 || first != result(next) || first != result(again) {
				t.Fatalf("%s: %+v, %v, %s; again %+v, %v, %s", what, act, finished, first, act2, finished2, result(again))
			}
			switch {
			case depth > 0 && finished:
				expectEnded(t, what, next)
			case depth > 0:
				walk(what, next, depth-1)
			}
		}
		if result(c) != before {
			t.Fatalf("%s: %s before, %s after", what, before, result(c))
		}
	}
	walk("Protect", protect(t, l, 2, l.Cell(3)), 5)
	walk("Clear", clearCode(t, l, 2), 5)
	walk("Scan", scan(t, l), 5)
}

// expectEnded checks that a finished code stays finished, with the same result.
func expectEnded(t *testing.T, what string, c task.Code) {
	t.Helper()
	before := result(c)
	for _, g := range []api.Got{{}, {Word: api.Word{Val: 5}, OK: true}, {OK: true}} {
		next, _, finished := c.Next(g)
		if !finished || result(next) != before {
			t.Fatalf("%s, behind its end: finished %v, %s, before %s", what, finished, result(next), before)
		}
		c = next
	}
}

// A machine without the words of the layout: the codes end, and nothing changes.
func TestNoSuchLocation(t *testing.T) {
	l := layout.Layout{Threads: 2, Cells: 1}
	w := []api.Word{{Val: 3}}
	for what, c := range map[string]task.Code{"Protect": protect(t, l, 1, l.Cell(0)), "Clear": clearCode(t, l, 1), "Scan": scan(t, l)} {
		if _, after, _ := run(t, w, c, 6); !slices.Equal(after, w) {
			t.Errorf("%s has changed the memory", what)
		}
	}
}

// Example 1.
func TestExample(t *testing.T) {
	l := layout.Layout{Threads: 2, Cells: 2}
	w := l.First()
	w[l.Cell(0)].Val = 7
	c, w, _ := run(t, w, protect(t, l, 1, l.Cell(0)), 6)
	if found, ok := hazard.Word(c); found != (api.Word{Val: 7}) || !ok {
		t.Errorf("Word %+v, %v", found, ok)
	}
	expectHazard(t, w, 1, 7)
	c, w, _ = run(t, w, scan(t, l), 4)
	expectHeld(t, "a Scan behind the Protect", c, []int64{7})
	_, w, _ = run(t, w, clearCode(t, l, 1), 4)
	c, _, _ = run(t, w, scan(t, l), 4)
	expectHeld(t, "a Scan behind the Clear", c, nil)
}
