package task_test

import (
	"fmt"
	"math/rand"
	"slices"
	"testing"

	"simulcast/api"
	"simulcast/machine"
	"simulcast/task"
)

const (
	threads = 3
	places  = 4
)

// adder is a code whose acts depend on what it gets: it looks at a place and adds to its word by a swap, which it tries
// anew until it succeeds; so many times over.
type adder struct {
	at    api.Loc
	left  int
	tries bool // the last act was a swap
	seen  api.Word
}

func (c adder) Next(g api.Got) (task.Code, api.Act, bool) {
	if c.tries && g.OK {
		c.left--
	}
	if c.left <= 0 {
		return c, api.Act{}, true
	}
	if c.tries || c.seen == (api.Word{Ver: 1}) {
		c.tries, c.seen = false, api.Word{}
		return c, act(api.Look, c.at), false
	}
	c.tries, c.seen = true, g.Word
	more := g.Word
	more.Val++
	return c, api.Act{Op: api.Swap, At: c.at, Old: g.Word, New: more}, false
}

func newAdder(at api.Loc, times int) task.Code {
	return adder{at: at, left: times, seen: api.Word{Ver: 1}}
}

func anyCode(r *rand.Rand) task.Code {
	if r.Intn(2) == 0 {
		return newAdder(api.Loc(r.Intn(places)), r.Intn(4))
	}
	var l []api.Act
	for range r.Intn(12) {
		l = append(l, api.Act{Op: r.Intn(11) - 1, At: api.Loc(r.Intn(places+2) - 1), Old: val(r.Int63n(2)), New: val(r.Int63n(3))})
	}
	return acts(l...)
}

func anyPick(r *rand.Rand) api.Pick {
	kind := api.PickStep
	switch r.Intn(40) {
	case 0:
		kind = api.PickStop
	case 1:
		kind = r.Intn(6) - 1
	}
	return api.Pick{Kind: kind, Thread: r.Intn(threads+2) - r.Intn(2), Choice: r.Intn(6) - 1}
}

// plain is a world once more, changed in place: each thread is its code, called directly, and the list of its results.
type plain struct {
	m       machine.Machine
	threads []*plainThread
}

type plainThread struct {
	code              task.Code
	act               api.Act
	finished, stopped bool
	gots              []api.Got
}

func (x *plainThread) next(g api.Got) { x.code, x.act, x.finished = x.code.Next(g) }

func newPlain(m machine.Machine, codes []task.Code) *plain {
	p := &plain{m: m}
	for _, c := range codes {
		x := &plainThread{code: c}
		x.next(api.Got{})
		p.threads = append(p.threads, x)
	}
	return p
}

func (p *plain) step(k api.Pick) bool {
	if k.Kind == 2 {
		p.m, p.threads = p.m.Crash(k.Choice), nil
		return true
	}
	for i, x := range p.threads {
		if i+1 != k.Thread || x.finished || x.stopped {
			continue
		}
		switch k.Kind {
		case 0:
			m, g, e := p.m.Do(k.Thread, x.act, k.Choice)
			if e == api.OK {
				p.m = m
			} else {
				g = api.Got{}
			}
			x.gots = append(x.gots, g)
			x.next(g)
			return true
		case 1:
			x.stopped = true
			return true
		}
	}
	return false
}

func compare(t *testing.T, w task.World, p *plain, seed int64) {
	t.Helper()
	if fmt.Sprintf("%+v", w.M) != fmt.Sprintf("%+v", p.m) || len(w.Tasks) != len(p.threads) || len(w.Stopped) != len(p.threads) {
		t.Fatalf("seed %d: another machine, or %d tasks, wanted %d", seed, len(w.Tasks), len(p.threads))
	}
	done := true
	for i, x := range p.threads {
		y := w.Tasks[i]
		wanted := x.act
		if x.finished {
			wanted = api.Act{}
		}
		a, pending := y.Act()
		if a != wanted || pending == x.finished || y.Done() != x.finished || w.Stopped[i] != x.stopped {
			t.Fatalf("seed %d: thread %d has %+v, %v, stopped %v, wanted %+v", seed, i+1, a, pending, w.Stopped[i], wanted)
		}
		if y.Steps() != len(x.gots) || !slices.Equal(y.Gots(), x.gots) || fmt.Sprintf("%+v", y.Code()) != fmt.Sprintf("%+v", x.code) {
			t.Fatalf("seed %d: thread %d has got %v, wanted %v", seed, i+1, y.Gots(), x.gots)
		}
		done = done && (x.finished || x.stopped)
	}
	if w.Done() != done {
		t.Fatalf("seed %d: Done %v, wanted %v", seed, w.Done(), done)
	}
}

// P8.3, P8.5: random runs against the plain world; no world on the way changes afterwards, and the whole run once more
// ends in the same world.
func TestRandomRuns(t *testing.T) {
	for seed := range int64(200) {
		r := rand.New(rand.NewSource(seed))
		var codes []task.Code
		for range 1 + r.Intn(threads) {
			codes = append(codes, anyCode(r))
		}
		m := fresh(t, threads, places)
		first := world(t, m, codes...)
		w, p := first, newPlain(m, codes)
		var elder []task.World
		var texts []string
		var picks []api.Pick
		for range 60 {
			k := anyPick(r)
			elder, texts, picks = append(elder, w), append(texts, shown(w)), append(picks, k)
			n, ok := w.Step(k)
			if wanted := p.step(k); ok != wanted {
				t.Fatalf("seed %d: %+v has an effect: %v, wanted %v", seed, k, ok, wanted)
			}
			w = n
			compare(t, w, p, seed)
		}
		for i, x := range elder {
			if shown(x) != texts[i] {
				t.Fatalf("seed %d: the world before pick %d has changed", seed, i)
			}
		}
		if shown(first.Run(picks...)) != shown(w) {
			t.Fatalf("seed %d: Run ends in another world", seed)
		}
	}
}

// P8.5: what a thread does is what its program says, in order and each once, however the threads take turns.
func TestProgramOrder(t *testing.T) {
	var programs [threads][]api.Act
	var codes []task.Code
	for i := range programs {
		for k := range 10 {
			programs[i] = append(programs[i], store(api.Loc(i), int64(10*k+i)))
		}
		codes = append(codes, acts(programs[i]...))
	}
	for seed := range int64(50) {
		r := rand.New(rand.NewSource(seed))
		w := world(t, fresh(t, threads, places), codes...)
		for !w.Done() {
			w, _ = w.Step(step(1+r.Intn(threads), r.Intn(3)))
		}
		for i, program := range programs {
			h, _ := w.M.Memory().History(api.Loc(i))
			if h.Len() != len(program)+1 || w.M.Steps(i+1) != len(program) {
				t.Fatalf("seed %d: thread %d stored %d times in %d steps", seed, i+1, h.Len()-1, w.M.Steps(i+1))
			}
			for k, a := range program {
				if message, _ := h.At(k + 1); message.Word != a.New || message.Thread != i+1 {
					t.Fatalf("seed %d: store %d of thread %d is %+v", seed, k, i+1, message)
				}
			}
		}
	}
}

// P8.5: threads at different places don't affect each other, and those at one place only through its words.
func TestThreadsApart(t *testing.T) {
	for seed := range int64(50) {
		r := rand.New(rand.NewSource(seed))
		alone := world(t, fresh(t, threads, places), newAdder(1, 3))
		alone, ok := alone.Alone(1, 100)
		if !ok {
			t.Fatal("not finished alone")
		}
		w := world(t, fresh(t, threads, places), newAdder(1, 3), newAdder(2, 4), newAdder(2, 5))
		for !w.Done() {
			w, _ = w.Step(step(1+r.Intn(threads), 0))
		}
		if !slices.Equal(w.Tasks[0].Gots(), alone.Tasks[0].Gots()) {
			t.Fatalf("seed %d: thread 1 got %v, alone %v", seed, w.Tasks[0].Gots(), alone.Tasks[0].Gots())
		}
		expectVals(t, "all added", w, 0, 3, 9, 0)
	}
}
